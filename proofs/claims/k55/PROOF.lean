import PyProof.Rows.All
import PyProof.Rows.IntMath
import PyProof.FitsBits
import PyProof.StrBlockI
import PyProof.StrBlock2
import PyProof.Draws
import PyProof.EnumMake
import PyProof.Rows.StrNews
import KE.KIntText
import PyProof.PureStr
import PyProof.MeetsStr2
import PyProof.Rows.StrItems
import PyProof.StrLawsChain
import PyProof.StrLawsTight
import PyProof.StrLawsIn
import PyProof.StrWalks
import PyProof.FactsAll.str_7
import PyProof.FactsAll.list_1
import PyProof.FitsReplace
import PyProof.FactsAll.str_5
import PyProof.FString
import PyProof.StrLawsJoin
import PyProof.MeetsStr
import KE.KDictSum
import PyProof.Rows.RuleC_int
import PyProof.FactsAll.tuple_1
import KE.KEqDict
import PyProof.Rows.TupTab
import PyProof.AttrMissSeq
import KE.KDictOf
import KE.KPairComp
import PyProof.DictWalks
import PyProof.DictValues
import PyProof.DictItems
import PyProof.Rows.SetFrom
import KE.KRevIter
import PyProof.InstStoreFacts
import PyProof.ExcInit
import PyProof.IsiBase
import PyProof.ExcAttrAll.ValueError
import OpenK.KDescr
import KE.KIsAll
import PyProof.Rows.CatchOwn
import PyProof.RulesTry
import PyProof.RulesAs
import PyProof.RulesDel
import OpenK.KOwn
import PyProof.ExcBaseAll.ValueError
import PyProof.StationsW
import Wide.All
import OpenK.AllK
import Wide.FinOn
import Lean
import PyProof.EqAt
import PyProof.EqKinds
import PyProof.NeKinds
import PyProof.TupleCall
import PySem.Challenge.RW_wakeorder_k55_too_many_plans
open Option renaming some->a_,none->f_,isSome_iff_exists->Ft,map_some->G2,isSome_map->Jp,getD_none->L8
open PySem renaming wpAny_bind->b_,Value->g_,wpAny_pure->h_,Addr->i_,starEach->j_,Shared->k_,sizeLine->o_,wpAny->w_,model->B_,Str->C_,eval->Dh,Heap->Du,wpAny_call_entry->DC,wpAny_newObj_type->DN,compareOp->DQ,cLine->DV,wpAny_mono->DX,mainGlobals->DY,Program->D0,wpAny_callSpecial?_slot->Ef,backTo->Eg,Stmt->Ei,boot_len->Ej,Expr->Em,wpAny_field->Eo,wpAny_truthy_bool->Ep,World->Ew,sysModules->Ex,wpAny_holding->Ez,mem_of_lookup->EA,DictEntry->EG,sizeLine_eq->EK,cellsFrom->EL,Around->ES,swapsWith->EV,bootBuiltins->E6,wpAny_setField->E7,wpAny_seqItems->E8,rawInt->Fd,assignEach->Fe,FuncData->Fh,attributeBase->Fi,wpAny_rule->Fp,binaryOp->Fq,wpAny_typeNameOfWhole_valiter->FX,wpAny_typeNameOfWhole_keyiter->FY,codeAny_mono->F7,NameKind->F_,wpAny_attempt->Ga,wpAny_dictEntries->Gf,holding->Gg,foldedSetIterable->Gh,keywordEach->Gv,Paired->Gw,wpAny_isInstance->Gy,wpAny_dictEpoch->GD,codeAny_builtin->GF,wpAny_tupleItemsOf->GK,wpAny_pyIter_tuple->GL,wpAny_Call_Name_kw->GN,wpAny_pyIter_enum->GX,ZipApart->GY,pyNext->G9,eqBool->G_,wpAny_onRaise->Hd,codeAny->He,behindInMarks->Hf,sliceBounds->Hj,call->Hk,wpAny_passesOwn->Hv,wpAny_execs_nil->Hw,assign->Hx,tupleKind_room_in1->HN,reduceHash->HP,backToKw->HQ,wpAny_pyIter_list->Ij,Keyword->Ik,ExcAttrBase->Il,wpAny_newList->Ir,IsPair->Iu,Obj->IB,wpAny_forIn_list->IG,Pos->IM,standAt->IV,letOwnedTupleGo->IZ,wpAny_notOrdered_dict->Jf,wpAny_isOneOf_valiter->Jg,isSubtype_tuple_tuple->Jh,wpAny_fieldsOf->Jr,setField->Js,pyHash->Jt,bindArgs->Ju,storedH->JC,setFlight->JD,getMethod->JE,BindsTo->JJ,plainId_quiet->JX,wpAny_load->J7,wpAny_typeOf->Kg,concat_meets->Kh,callerA->Ki,Scope->Kk,Model->Kl,HeapKind->Km,Fin->Ku,wpAny_execs_cons->KG,noFill_tuple_add->KH,IsPart->KN,Env->KR,numAt->KU,wpAny_specialOf->K1,pushCells_keeps->K2,Within->K3,wpAny_richCompare_same_room->K9,intKind->K_,Sem->Lb,wpAny_newTuple->Le,wpAny_letOwnedTupleGo_enum->Lf,newFunctionEnv->Lg,isSubtype_stop->Lh,isInstance->Li,firstArgMember->Lj,wpAny_standAt->LA,wpAny_handled->LB,wpAny_comprehension_free->LC,swapsWithSole->LD,swappedStores->LF,seq_tuple_add->LG,rangeSize_one->LH,nums_intItems->LI,noteFrame->LS,lastMarks->LU,eqIsQuiet->LV,bindL->LW,bindC->LX,atKey->LY,wpAny_pyNext_list_item->Me,wpAny_Assign_Subscript->Mf,seqIndex_neg->Mg,isTrue->Mh,getItem->Mi,Result->Mp,wpAny_pyNext_list_end->Mz,wpAny_isOneOf_keyiter->MA,wpAny_throw->MK,wpAny_pyIter_keyiter->ML,wpAny_of_eq->MM,wpAny_letGo->MN,unbindBehindTheSuite->MO,seqIndex_of->MP,richCompare->MQ,numAt_eq->MR,intItems_at->MS,getAttr?->MT,callWith->MU,GenState->MX,call_enumerate_list->M5,wpAny_setItem_heap->Ng,wpAny_setField_rec->Nh,wpAny_dictSet_heap->Ni,wpAny_call->Nj,wpAny_Name->Nk,pyIter->Nl,newExc->Nm,intKind_is->Nn,getattributeRaised->Np,checkCount->Nq,call_meets->Nr,builtinsNs->Nt,wpAny_pyIter_slot->Nz,wpAny_loadPart_at->NA,wpAny_assign_Name->NB,unaryOp->NC,slot_list_getitem->ND,setItem->NF,newList->NG,leaving->NH,hashInt->NI,collect->NJ,call_sum_walkAnyS->NK,ItemsOf->NQ,wpAny_pyIter_zip->NU,wpAny_Dict_empty->NV,small_one->NW,getAttrBy->NX,checkBuiltinCall->NY
open Bool renaming false->c_,true->e_,and_eq_true->A_,false_eq_true->CY,false_ne_true->Dt,not_true->G1,eq_iff_iff->G8,true_and->HM,or_eq_true->IA,false_and->KA,and_false->KC,not_false->Nd,and_true->Ny
open PySem.Heap renaming get?_push_of_some->d_,get?_push_size->s_,lt_size->t_,get?_update_other->Dd,size_push->D8,ExtBut->EC,get?_update_self->EX,size_update->FE,SameBut->FP,get?_none_of_le->IP,IsTuple->Lc
open Nat renaming le_refl->m_,le_of_ble_eq_true->p_,lt_of_lt_of_le->CZ,ne_of_lt->De,le_trans->DJ,zero_le->DU,lt_irrefl->Ee,ne_of_gt->E4,add_sub_cancel_left->FJ,lt_succ_self->Gq,le_of_lt->Gr,min_eq_left->GA,lt_succ_of_lt->GP,le_of_eq->GQ,pow_le_pow_right->G5,le_succ->G6,sub_self->Hm,add_assoc->HV,sub_zero->Iw,lt_trans->Iy,mul_le_mul->IY,succ_ne_self->J9,mul_add->Kb,zero_add->Lq,lt_or_ge->Lr,mul_le_mul_left->L9,not_lt->Mw,lt_trichotomy->ME,min_eq_right->M3,mul_succ->N8,le_total->N9
open List renaming length_map->q_,mem_cons->r_,map_cons->u_,getElem?_set_ne->v_,getElem?_eq_some_iff->y_,length_cons->CG,getD_eq_getElem?_getD->CH,size_toArray->CJ,getElem?_set_self->CK,length_append->CM,lookup_cons->CN,mem_singleton->CO,mem_cons_of_mem->CS,range->CU,mem_cons_self->CW,mem_append_right->Dc,replicate->Di,getElem?_eq_getElem->Dk,length_set->Dn,append_assoc->Dp,not_mem_nil->Dq,lookup->Dr,map_map->Dv,foldl_cons->Dy,getElem?_map->Dz,append_nil->DB,getElem?_append_left->DD,mem_range->DH,set_cons_zero->DL,mem_append->DM,mem_map->DO,mem_of_getElem?->DR,getElem?_append_right->DZ,take_append_drop->D1,singleton_append->D2,drop_eq_getElem_cons->D3,getElem_mem->D7,set_cons_succ->D9,pairwise_cons->D_,pairwise_append->Eh,drop_zero->Ek,mem_append_left->Et,mem_filter->EE,find?_cons->EF,getElem?_cons_succ->EI,map_nil->EM,drop_of_length_le->EN,length_replicate->EZ,take_of_length_le->Fb,getElem_map->Ff,nil_append->Fs,nodup_append->Fu,mem_of_mem_take->Fv,eq_of_mem_replicate->FC,length_take->FF,range_succ_eq_map->FQ,mem_filterMap->FR,nodup_cons->FV,take_sublist->F8,length_range->F9,take_length->Gi,mem_reverse->Gj,length_drop->Gk,all_eq_true->Gn,mem_or_eq_of_mem_set->Gs,map_congr_left->Gu,length_eq_zero_iff->GC,drop_drop->GI,getElem?_eq_none->GV,sum_cons->G0,mem_of_mem_drop->G3,reverse_append->Ha,getElem_of_mem->Hb,take_zero->Ht,forIn_nil->Hu,pairwise_iff_getElem->HC,range'->HF,getElem_take->HG,flatMap_cons->HI,getElem?_replicate->HY,getElem?_cons_zero->HZ,filter_cons_of_pos->H9,ext_getElem->H_,drop_length->Ia,any_eq_true->Ib,forIn_cons->Iz,length_singleton->ID,getElem?_toArray->IE,range_eq_range'->IT,length_eraseIdx->IU,getElem?_range->Jd,filterMap_cons->Je,zip_cons_cons->Jq,eraseIdx_append_of_length_le->Jy,take_succ_eq_append_getElem->JK,reverse_perm->JM,pairwise_map->JN,getElem_drop->JO,drop_sublist->JP,range'_succ->JZ,nil_sublist->J0,length->Ka,of_mem_zip->Kc,map_append->Kd,length_nil->Ke,take_take->Kx,setIfInBounds_toArray->Ky,nodup_nil->Kz,extract_eq_drop_take->KS,map_drop->KZ,getElem?_take_of_lt->K0,filter_cons_of_neg->K8,set_append_right->Lu,reverse_reverse->Ly,map_replicate->L_,getElem?_drop->Ma,mapM_toArray->Mx,reverse_nil->MF,mem_flatMap->MG,map_snd_zip->MH,filter_cons->MJ,map_const'->M4,take_succ->M8,take_left->M9,drop_take->M_,drop_left->Na,map_take->Nw,all_map->NS,zipIdx->N_
open PySem.Value renaming ref->x_,none->Dw,type->EB,int->IL,builtin->I9,bool->Jk,str->Mo,isInt->NM,float->NO,bytes->NP
open PyProof.Rows renaming wpS_bind->z_,wpS_pure->CI,pendingOf->Df,callWith_type1->D5,seqObj->Ea,SortSt->Eb,wpS_forRange->Er,wpS_mono->ET,Keyed->E_,boot_tuple->Fo,boot_list->FA,slot_tuple_getitem->FL,envOfC->Ge,kindOf->GB,wpS_modify->GO,listUpdate_at->Hg,failedOf->HU,wpS_get->Io,seqEpoch_at->Ip,AllBare->Iq,subscriptTail_builtinR->IX,wpS->Ja,get?_update_seq->Jb,boot_isinstance->Jc,wpS_lift->Jx,arrOf->JY,SortKind->Kq,boot_sorted->KY,entry_list_sort->K7,IntsAre->Ld,slot_list_sort->Ll,boot_range->Lm,boot_all->Ln,args_list_sort->Lo,IsTup->Lp,plain_sorted->Mr,listItems_at->Ms,entry_sorted->Mt,args_sorted1->Mu,kind_sorted->MY,general'->MZ,boot_max->M0,Call_->M1,lt_int->M7,wpAny_notIn_heap->N7
open Decidable renaming decide->CL
open PySem.NameKind renaming free->CV,cell->EW
open Option.some renaming inj->Dl,injEq->FN
open PySem.W renaming findIn->Dm,kitOne->Ed,emptyDict->EJ,mroIn->E5,instObj->Fj,cellsFrom_some->FG,keepIn->Gd,excIn->GS,InstAt->GU,methodCall_KW->Ic,plainGet_of->IH,methodObj->Ji,looks_findIn->Jj,OpenLaw->Jv,specialIn->JF,kia_one->JG,fnOf->JT,callWith_K->J8,plainGet->Kj,typeIn->KI,hasDictIn->KJ,codeIn->KL,handedIn->LJ,WalkO->LL,readsIn->LZ,plainOver->L1,kia_tup->L3,findCls->L4,notCls->Mj,makesIn->Ml,kas_ask->Mm,clsIn->Mn,looks_mroIn->MV,kitAny->Nu,takesIn->NL,Frag->N0
open PySem.Builtin.Tuple renaming tupleHashOf->Ds,tupleExact->G4,tupleItemsOf->Jl
open Array renaming length_toList->DF,getElem?_eq_none->FO,getElem?_toList->FW,toList_inj->GW,getElem?_eq_some_iff->Ho,toList->JB,toList_zip->JW,perm_iff_toList_perm->Kt,forIn_toList->LQ,append_assoc->LR,toList_map->My,extract->Nf
open False renaming elim->DK
open PySem.Obj renaming mapSeq->D4,data_mapFields->EH,isFreed_of_fields->E2,mapFields->FZ,cls_mapFields->HJ
open Ne renaming symm->D6
open Except renaming ok->Ec,error->E3,bind->Nx
open Int renaming le_refl->Eu,toNat_natCast->Fz,mul_one->HK,emod_lt_of_pos->JA,le_trans->JV,emod_nonneg->Ks,one_pow->LP,natCast_pow->Nb,natCast_mul->Nc,mul_assoc->NT,pow_succ->Ob,mul_comm->Oc,le_of_lt->Od
open PySem.F renaming slot_dict_valueiterator_next->Ey,slot_dict_keyiterator_next->ED,slot_tuple_iterator_next->Fm,slot_zip_next->GG,slot_tuple_lt->Hq,args_tuple_add_2->Hy,plainAttrs_list->HD,entry_tuple_add->HE,slot_tuple_add->HR,slot_tuple_hash->HW,plain_list_iadd->HX,slot_list_getattribute->Ig,slot_list_append->Ih,args_dict_valueiterator_next_1->Iv,entry_dict_valueiterator_next->IC,args_dict_keyiterator_next_1->II,entry_dict_keyiterator_next->IQ,args_tuple_iterator_next_1->IW,entry_tuple_iterator_next->I_,slot_dict_values_iter->JI,type_list_append->Kn,slot_dict_values->Ko,plainAttrs_dict->Kv,args_zip_next_1->Kw,slot_tuple_eq->KO,slot_dict_iter->KP,entry_zip_next->KQ,slot_dict_get->KW,args_object_init_2->K6,slot_list_extend->Lk,args_tuple_lt_2->Lw,entry_tuple_lt->LO,typeOf_object_class->L5,plain_proto_collect->L6,entry_proto_collect->L7,entry_list_iadd->M6
open PySem.Builtin.Dict_items renaming ownsTuple->EO,newIterator->MC,dictOf->MD
open Pure renaming pure->ER
open Except.ok renaming inj->EU
open Prod renaming fst->EY,ext->Lx
open List.Pairwise renaming nil->E1,imp_of_mem->Jz,sublist->J5,cons->Kr,imp->Oa
open PySem.Builtin.Dict renaming showsAll->E9,updateFrom->JU
open LawfulBEq renaming eq_of_beq->Fc
open PySem.Heap.SameBut renaming update->Fl
open PySem.Around renaming under_plainId->Fn
open List.Perm renaming refl->Fy,trans->Lz
open PySem.Builtin.SmallTypes renaming nextOf->FH,ownedTupleIsFree->MB
open PySem.Str renaming ofString->FT,empty->MW
open PySem.Builtin.Slice renaming slicePlaces->FU,sliceAdjust->GZ,sliceApplied->Jm,slicePartIndex->N5,sliceFields->N6
open PySem.Builtin.Range renaming rangeSize->Gb,small->HS
open List.cons renaming injEq->Gm
open True renaming intro->Gz
open PySem.Builtin.List renaming listTooLong->G7
open PyProof.Rows.SortSt renaming mk'->Hh
open PySem.Calls renaming spliced_cons->Hl,call_function_entry->Hz,callWith_builtin->Ii,evalArgs_plain->IJ,spliced_nil->Jw,Name_function_global->Kp
open PySem.AutoSeq1 renaming wpAny_loadPart'->Hr
open PySem.Shared renaming TypeIs->HA,heap->La
open PySem.Paired renaming length->HB
open ForInStep renaming yield->HL
open PySem.SeqAt renaming EqAt->Ie,ne_of_list_tuple->K4,RcNeAt->K5,RcAt->LN
open PySem.EntryCells renaming newEntry->Im
open Prod.mk renaming injEq->IS
open Sum renaming inr->JR,inl->JS
open Min renaming min->J_
open Function renaming comp->Kf,comp_def->Lv
open PySem.W.Looks renaming here->LM
open ForIn renaming forIn->Mb
open StateT renaming run_pure->Mc
open PyProof.Rows.IsTup renaming new->Mv
open PySem.Challenge renaming pw_wakeorder_k55_too_many_plans->Nv
open PySem.Heap.IsSliceOf renaming new->NR
open PySem.Walks renaming list->NZ
open PySem.EqMixed renaming ne_str_int->N1,ne_str_bool->N2,ne_int_str->N3,ne_bool_str->N4
abbrev l_:=@if_neg
abbrev n_:=@if_pos
abbrev CQ:=@absurd
abbrev Dj:=@decide_eq_true_eq
abbrev Dx:=@decide_eq_false
abbrev El:=@decide_eq_true
abbrev En:=@if_false
abbrev Fw:=@beq_eq_false_iff_ne
abbrev FD:=@DecidableEq
abbrev FK:=@if_true
abbrev Gx:=@congrArg
abbrev GJ:=@beq_iff_eq
abbrev Hi:=@ForInStep
abbrev IF:=@decide_false
abbrev Jn:=@of_decide_eq_true
abbrev Jo:=@bne_self_eq_false
abbrev JQ:=@decide_eq_false_iff_not
abbrev KD:=@or_false
abbrev Md:=@StateT
set_option Elab.async false
set_option linter.all false
set_option maxRecDepth 100000
set_option maxHeartbeats 4000000
open PySem.W (lookIn plainGet hasDictIn isFn plainOver takerIn makesIn keepIn specialIn takesIn callWith_K fnOf codeIn nsIn mg_of kitOne kia_one kitAny)
abbrev Fg:=N0
abbrev Pn:=List (i_×IB)
abbrev Vp:=g_->k_->Prop
abbrev Mq:=C_->Option g_
set_option compiler.extract_closed false
noncomputable section
theorem Jq0(_:True:=by rfl):True:=trivial
local macro_rules|`(~~~$t)=>`(autoParam $t Jq0._auto_1)
theorem Jq1(_:True:=by decide):True:=trivial
local macro_rules|`($t⁻¹)=>`(autoParam $t Jq1._auto_1)
theorem Jq2_(_:True:=by k_is):True:=trivial
def Jq2:Lean.Syntax:=Jq2_._auto_1
theorem Jq3_(_:True:=by first|exact .inl rfl|exact .inr rfl|assumption):True:=trivial
def Jq3:Lean.Syntax:=Jq3_._auto_1
theorem Jq4_(_:True:=by first|exact Or.inl rfl|exact Or.inr (Or.inl rfl)|exact Or.inr (Or.inr rfl)):True:=trivial
def Jq4:Lean.Syntax:=Jq4_._auto_1
theorem Jq5_(_:True:=by intro _;rfl):True:=trivial
def Jq5:Lean.Syntax:=Jq5_._auto_1
theorem Jq6_(_:True:=by first|exact Or.inl rfl|exact Or.inr rfl):True:=trivial
def Jq6:Lean.Syntax:=Jq6_._auto_1
theorem Jq7_(_:True:=by first|k_is|kernel_rfl):True:=trivial
def Jq7:Lean.Syntax:=Jq7_._auto_1
theorem Jq8_(_:True:=by with_unfolding_all rfl):True:=trivial
def Jq8:Lean.Syntax:=Jq8_._auto_1
theorem Jq9_(_:True:=by exact⟨rfl,rfl,rfl,by decide +kernel,rfl,by decide +kernel,by decide +kernel⟩):True:=trivial
def Jq9:Lean.Syntax:=Jq9_._auto_1
theorem Jq10_(_:True:=by first|exact B9 _|with_unfolding_all rfl):True:=trivial
def Jq10:Lean.Syntax:=Jq10_._auto_1
theorem Jq11_(_:True:=by exact λ_ _=>rfl):True:=trivial
def Jq11:Lean.Syntax:=Jq11_._auto_1
theorem Jq12_(_:True:=by intro _ _ _ _ _ _ us hl;repeat' (first|(simp at hl;done)|rfl|(cases us<;>try rename_i us))):True:=trivial
def Jq12:Lean.Syntax:=Jq12_._auto_1
theorem dkK{p:Prop}(h:p:=by decide +kernel):p:=h
theorem ac{p:Prop}(h:p:=by lia):p:=h
theorem ad{p:Prop}(h:p:=by simp):p:=h
theorem ag{p:Prop}(h:p:=by decide):p:=h
abbrev PySem.Shared.z(s:PySem.Shared):=s.heap.objs.size
set_option bootstrap.genMatcherCode false
set_option genSizeOf false
set_option genInjectivity false
namespace Lake
open PySem PySem.Spec PyProof.Rows
abbrev aM:=List g_
abbrev aC:=List Nat
abbrev am:=List Int
variable{κ:Type}{a b dx C:i_}{P prog:D0}{w:Ew}{h h':Du}{x name m qual:C_}{e c tg:Em}{B2:Pn}{g':Array MX}{ch fp:List i_}{N ps:List C_}{i j k n:Nat}{A:ES}{E:Vp}{u:g_}{Q:Unit->k_->Prop}{s':k_}{pos pos' p:IM}{K:Fg}{es:List Em}{g:Int->Int->Int}{body:List Ei}{op op':CmpOp}{us:List g_}{mA mg:Mq}{pl:Lb Bool}{kw:List (C_×g_)}{outer:List KR}{fd:Fh}{scope:Kk}
noncomputable abbrev Key:=Sum Int C_
noncomputable def keyIs:Key->g_->Bool
 |.inl k,v=>NM k v|.inr x,v=>Value.isStrOf x v
noncomputable def keyH(w:Ew):Key->Int
 |.inl k=>NI k|.inr x=>hashStr w x
theorem bV:∀{k:Key} {v:g_},keyIs k v=e_->(∃i t,k=JS i/\v=IL i t)\/(∃x t,k=JR x/\v=Mo x t)
 |.inl i,v,h=>by obtain⟨t,e⟩:=Value.isInt_shape (k:=i) (v:=v) h;exact .inl ⟨i,t,rfl,e⟩
 |.inr x,v,h=>by obtain⟨t,e⟩:=Value.isStrOf_shape (x:=x) (v:=v) h;exact .inr ⟨x,t,rfl,e⟩
def key_ll(a b:Int):CL ((JS a:Key)=JS b)=(a==b):=by
 by_cases e:a=b
 .subst e;simp
 .have h:¬(JS a:Key)=JS b:=λq=>e (Sum.inl.inj q);rw[Dx h];exact(Fw.mpr e).symm
def key_rr(a b:C_):CL ((JR a:Key)=JR b)=CL (a=b):=by
 by_cases e:a=b
 .subst e;simp
 .have h:¬(JR a:Key)=JR b:=λq=>e (Sum.inr.inj q);rw[Dx h,Dx e]
def key_lr(a:Int)(b:C_):CL ((JS a:Key)=JR b)=c_:=Dx (λq=>nomatch q)
def key_rl(a:C_)(b:Int):CL ((JR a:Key)=JS b)=c_:=Dx (λq=>nomatch q)
def vo(prog:D0)(w:Ew):PySem.KeyKind prog w Key where
 is:=keyIs
 hash:=keyH w
 inj:=λv a b S I=>by
  rcases bV S with⟨i,t,rfl,rfl⟩|⟨x,t,rfl,rfl⟩
  .rcases bV I with⟨j,u,rfl,e⟩|⟨y,u,rfl,e⟩
   .injection e with e1 _;rw[e1]
   .exact nomatch e
  .rcases bV I with⟨j,u,rfl,e⟩|⟨y,u,rfl,e⟩
   .exact nomatch e
   .injection e with e1 _;rw[e1]
 byValue:=λk v h=>by rcases bV h with⟨i,t,rfl,rfl⟩|⟨x,t,rfl,rfl⟩<;>rfl
 pyHash:=λhv h=>by
  rcases bV hv with⟨i,t,rfl,rfl⟩|⟨x,t,rfl,rfl⟩
  .exact wpAny_pyHash_int h
  .exact wpAny_pyHash_str h
 eqBool:=λJ hv h=>by
  rcases bV J with⟨i,t,rfl,rfl⟩|⟨x,t,rfl,rfl⟩
  .rcases bV hv with⟨j,u,rfl,rfl⟩|⟨y,u,rfl,rfl⟩
   .rw[key_ll]at h;exact wpAny_eqBool_int h
   .rw[key_lr]at h;exact SeqAt.EqAt.int_str i t y u _ _ _ _ h
  .rcases bV hv with⟨j,u,rfl,rfl⟩|⟨y,u,rfl,rfl⟩
   .rw[key_rl]at h;exact SeqAt.EqAt.str_int x t j u _ _ _ _ h
   .rw[key_rr]at h;exact wpAny_eqBool_str h
 «strs»:=λk x t v h=>by
  rcases bV h with⟨i,u,rfl,e⟩|⟨y,u,rfl,e⟩
  .exact nomatch e
  .injection e with e1 _
   subst e1;cases v<;>rfl
set_option genInjectivity true in
set_option bootstrap.genMatcherCode true in
inductive V where
 |non|bl (b:Bool)|int (i:Int)|str (x:C_)|byt (b:Array UInt8)|flt (b:UInt64)|ref (a:i_)|ty (n:String)
 deriving DecidableEq
abbrev aB:=List V
variable{v y:V}{vs:List V}
def C':V->g_->Prop
 |.non,u=>u=Dw|.bl b,u=>u=Jk b|.int i,u=>∃t,u=IL i t
 |.str x,u=>∃t,u=Mo x t
 |.byt b,u=>∃t,u=NP b t
 |.flt b,u=>∃t,u=NO b t
 |.ref a,u=>u=x_ a|.ty n,u=>u=EB n
abbrev D':aB->aM->Prop:=Gw C'
theorem D'.length{xs:aB}{us:aM}(r:D' xs us):xs.length=us.length:=HB r
theorem D'.get:∀{xs:aB} {us:aM} {i:Nat} {x:V},D' xs us->xs[i]?=a_ x->∃u,us[i]?=a_ u/\C' x u
 |_,_,_,_,.nil,e=>by simp at e|_,_,0,_,.cons r _,e=>by simp at e;subst e;exact⟨_,rfl,r⟩|_,_,i+1,x,.cons _ t,e=>by obtain⟨u,h1,h2⟩:=D'.get (i:=i) (x:=x) t (by simpa using e);exact⟨u,by simpa using h1,h2⟩
theorem D'.set{x:V}{u:g_}(r:C' x u):∀{xs:aB} {us:aM} (i:Nat),D' xs us->D' (xs.set i x) (us.set i u)
 |_,_,_,.nil=>.nil|_,_,0,.cons _ t=>.cons r t|_,_,i+1,.cons q t=>.cons q (D'.set r i t)
theorem D'.append:∀{xs ys:aB} {us I:aM},D' xs us->D' ys I->D' (xs++ys) (us++I)
 |_,_,_,_,.nil,s=>s|_,_,_,_,.cons r t,s=>.cons r (D'.append t s)
theorem D'.take:∀{xs:aB} {us:aM} (n:Nat),D' xs us->D' (xs.take n) (us.take n)
 |_,_,0,_=>.nil|_,_,_+1,.nil=>.nil|_,_,n+1,.cons r t=>.cons r (D'.take n t)
theorem D'.drop:∀{xs:aB} {us:aM} (n:Nat),D' xs us->D' (xs.drop n) (us.drop n)
 |_,_,0,r=>r|_,_,_+1,.nil=>.nil|_,_,n+1,.cons _ t=>D'.drop n t
def vU:Option V->Option g_->Prop
 |some v,a_ u=>C' v u|none,f_=>True|_,_=>False
def KV:List (κ×V)->List (κ×g_)->Prop:=Gw λ(p:κ×V) (q:κ×g_)=>p.1=q.1/\C' p.2 q.2
noncomputable def kV:Key->V
 |.inl i=>.int i|.inr x=>.str x
set_option genInjectivity true in
inductive HO where
  |lst (xs:List V)
  |tup (xs:List V)
  |dK (B':List (Key×V))|dT (B':List (List Key×V))
  |set (S:Int->Bool) (n:Nat)
  |ins (C dx:i_) (fs:List (C_×V))
  |own (x:i_)
  |xd (fs:List (C_×V))
  |met (f x:i_)
  |rng (lo hi:Int)
  |frz (o:IB) (u:HO)
  |tbl (ps:Array g_)
  |ext (φ:Du->Prop)
noncomputable abbrev Hp:=i_->Option HO
variable{H H':Hp}
def upd(H:Hp)(a:i_)(o:HO):Hp:=λb=>if b=a then a_ o else H b
def aq{o:HO}:upd H a o a=a_ o:=by unfold upd;rw[n_ rfl]
def aw{o:HO}(h:b≠a):upd H a o b=H b:=by unfold upd;rw[l_ h]
def aA{o:HO}(h:H a=a_ o)(h':H b=f_):a≠b:=by intro e;subst e;rw[h]at h';cases h'
section
variable(P:D0)(w:Ew)
def dW(H:Hp)(h:Du)(a:i_):HO->Prop
 |.lst xs=>xs.length<=o_/\∃(its:aM) (n:Nat),D' xs its/\h.get? a=a_ {cls:=.type "list",data:=.seq its.toArray n}
 |.tup xs=>xs.length<=o_/\∃its:aM,D' xs its/\Lp h a its.toArray
 |.dK I=>I.length<=o_/\(a==Ex)=c_/\∃vs,KV I vs/\h.DictOf (vo P w) a vs
 |.dT I=>I.length<=o_/\(a==Ex)=c_/\∃xs:List (List Key×i_×g_),
   Gw (λ(p:List Key×V) (q:List Key×i_×g_)=>p.1=q.1/\H q.2.1=a_ (.tup (p.1.map kV))/\C' p.2 q.2.2) I xs /\
   ∃o es ep,h.get? a=a_ o/\o.ExactDict/\o.data=.dict es ep/\es.toList=xs.map (entryOfKey (tupleKind (vo P w)))/\(xs.map (·.1)).Nodup
 |.set S n=>h.SetOf (K_ P w) a S n|.ins C dx fs=>H dx=a_ (.own a)/\fs.length<=1000/\dx≠a/\h.get? a=a_ (Fj C dx) /\
   ∃mA,h.Ns1 dx mA/\(∀f,vU (fs.lookup f) (mA f))/\K3 mA (fs.map (·.1))
 |.own _=>∃o,h.get? a=a_ o
 |.xd fs=>∃mA,h.Ns1 a mA/\∀f,vU (fs.lookup f) (mA f)
 |.rng lo hi=>∃t u v,h.get? a=a_ {cls:=.type "range",data:=.fields #[.int lo t,.int hi u,.int 1 v]}
 |.frz o u=>h.get? a=a_ o/\dW H h a u|.tbl ps=>h.get? a=a_ {cls:=.none,data:=.fields ps}|.met f x=>h.get? a=a_ (Ji (.ref f) (.ref x))|.ext J=>J h/\(∃o,h.get? a=a_ o)/\∀h1 h2:Du,J h1->(∀o,h1.get? a=a_ o->h2.get? a=a_ o)->J h2
def HOk(H:Hp)(h:Du):Prop:=∀a o,H a=a_ o->dW P w H h a o
end
section
variable{o:HO}
theorem dW.lt(x:dW P w H h a o):a<h.objs.size:=by
 cases o with
 |lst xs=>obtain⟨_,_,_,_,e⟩:=x;exact t_ e
 |tup xs=>obtain⟨_,_,_,p⟩:=x;exact p.lt
 |dK I=>obtain⟨_,_,_,_,o,_,_,e,_⟩:=x;exact t_ e
 |dT I=>obtain⟨_,_,_,_,o,_,_,e,_⟩:=x;exact t_ e
 |set S n=>obtain⟨o,_,_,_,e,_⟩:=x;exact t_ e
 |ins C dx fs=>obtain⟨_,_,_,e,_⟩:=x;exact t_ e
 |own y=>obtain⟨_,e⟩:=x;exact t_ e
 |xd fs=>obtain⟨_,⟨_,_,_,e,_⟩,_⟩:=x;exact t_ e
 |rng lo hi=>obtain⟨_,_,_,e⟩:=x;exact t_ e
 |frz U u=>obtain⟨e,_⟩:=x;exact t_ e
 |tbl ps=>exact t_ (show h.get? a=a_ _ from x)|met f y=>exact t_ (show h.get? a=a_ _ from x)|ext J=>obtain⟨_,⟨_,e⟩,_⟩:=x;exact t_ e
theorem Paired.mapP{α β:Type}{F G:α->β->Prop}:∀{J:List α} {I:List β},Gw F J I->(∀a b,F a b->G a b)->Gw G J I
 |_,_,.nil,_=>.nil|_,_,.cons r t,f=>.cons (f _ _ r) (Paired.mapP t f)
def dW.wu(x:dW P w H h a o)(k:∀b u,(b=a\/H b=a_ (.own a))->h.get? b=a_ u->h'.get? b=a_ u)(i:∀b,H b=a_ (.own a)->H' b=a_ (.own a))(g:∀b xs,H b=a_ (.tup xs)->H' b=a_ (.tup xs)):dW P w H' h' a o:=by
 induction o with
 |lst xs=>obtain⟨z,its,n,r,e⟩:=x;exact⟨z,its,n,r,k _ _ (.inl rfl) e⟩
 |tup xs=>obtain⟨z,its,r,I,e,c⟩:=x;exact⟨z,its,r,I,k _ _ (.inl rfl) e,c⟩
 |dK J=>obtain⟨z,y,vs,r,I,es,ep,e,c⟩:=x;exact⟨z,y,vs,r,I,es,ep,k _ _ (.inl rfl) e,c⟩
 |dT J=>obtain⟨z,y,xs,r,I,es,ep,e,c⟩:=x;exact⟨z,y,xs,Paired.mapP r λp q z=>⟨z.1,g _ _ z.2.1,z.2.2⟩,I,es,ep,k _ _ (.inl rfl) e,c⟩
 |set S n=>obtain⟨I,es,ep,t,e,c⟩:=x;exact⟨I,es,ep,t,k _ _ (.inl rfl) e,c⟩
 |ins C dx fs=>obtain⟨d,z,U,e,mA,⟨od,es,ep,e2,c⟩,r⟩:=x;exact⟨i _ d,z,U,k _ _ (.inl rfl) e,mA,⟨od,es,ep,k _ _ (.inr d) e2,c⟩,r⟩
 |own y=>obtain⟨I,e⟩:=x;exact⟨I,k _ _ (.inl rfl) e⟩
 |xd fs=>obtain⟨mA,⟨od,es,ep,e,c⟩,r⟩:=x;exact⟨mA,⟨od,es,ep,k _ _ (.inl rfl) e,c⟩,r⟩
 |rng lo hi=>obtain⟨t,u,v,e⟩:=x;exact⟨t,u,v,k _ _ (.inl rfl) e⟩
 |frz I u Y=>obtain⟨e,q⟩:=x;exact⟨k _ _ (.inl rfl) e,Y q⟩
 |tbl ps=>have e:h.get? a=a_ {cls:=.none,data:=.fields ps}:=x;show h'.get? a=a_ {cls:=.none,data:=.fields ps};exact k a _ (.inl rfl) e|met f y=>have e:h.get? a=a_ (Ji (.ref f) (.ref y)):=x;show h'.get? a=a_ (Ji (.ref f) (.ref y));exact k a _ (.inl rfl) e|ext j=>obtain⟨p,⟨o,e⟩,st⟩:=x;exact⟨st _ _ p λo q=>k _ _ (.inl rfl) q,⟨o,k _ _ (.inl rfl) e⟩,st⟩
theorem HOk.lt(x:HOk P w H h)(e:H a=a_ o):a<h.objs.size:=(x a o e).lt
def HOk.fresh(x:HOk P w H h)(e:h.objs.size<=a):H a=f_:=by
 cases q:H a with
 |none=>rfl|some u=>exact CQ (CZ (x.lt q) e) (Ee _)
def HOk.kept(x:HOk P w H h)(k:∀b u,h.get? b=a_ u->h'.get? b=a_ u):HOk P w H h':=λa o e=>(x a o e).wu (λb u _ q=>k b u q) (λ_ q=>q) λ_ _ q=>q
def HOk.laid(x:HOk P w H h)(k:∀b u,h.get? b=a_ u->h'.get? b=a_ u)(U:h.objs.size<=a)(I:dW P w (upd H a o) h' a o):HOk P w (upd H a o) h':=λb u e=>by
 have J:=x.fresh U;by_cases S:b=a
 .subst S;rw[aq]at e;cases e;exact I
 .rw[aw S]at e;exact(x b u e).wu (λc v _ q=>k c v q) (λc q=>by rw[aw (aA q J)];exact q) λc xs q=>by rw[aw (aA q J)];exact q
end
def Rd(H:Hp)(a:i_)(u:HO):Prop:=H a=a_ u\/∃o,H a=a_ (.frz o u)
def Rd.ok{u:HO}(r:Rd H a u)(x:HOk P w H h):dW P w H h a u:=by
 rcases r with r|⟨o,r⟩
 .exact x a u r
 .obtain⟨_,q⟩:=x a _ r;exact q
def Mut:Option HO->Prop
 |some (.lst _)=>True|some (.dK _)=>True|some (.dT _)=>True|some (.set _ _)=>True|some (.ins _ _ _)=>True|some (.ext _)=>True|_=>False
section
variable{x e:i_}{o':HO}
def HOk.write(j:HOk P w H h)(U:Mut (H x))(i:e=x\/H e=a_ (.own x))(k:∀b u,b≠e->h.get? b=a_ u->h'.get? b=a_ u)(f:∃u,h'.get? e=a_ u)(d:dW P w (upd H x o') h' x o'):HOk P w (upd H x o') h':=λb u q=>by
 have J:∀c y,H c=a_ (.own y)->c≠x:=λc y r z=>by subst z;rw[r]at U;exact U
 have S:∀c xs,H c=a_ (.tup xs)->c≠x:=λc xs r z=>by subst z;rw[r]at U;exact U
 by_cases a:b=x
 .subst a;rw[aq]at q;cases q;exact d
 .rw[aw a]at q;by_cases I:b=e
  .have g:H b=a_ (.own x):=by
    rcases i with z|z
    .exact CQ (I.trans z) a
    .rw[I];exact z
   rw[q]at g;cases g;obtain⟨v,hv⟩:=f;exact⟨v,by rw[I];exact hv⟩
  .refine(j b u q).wu (λc v Y r=>k c v ?_ r) (λc r=>by rw[aw (J c b r)];exact r) λc xs r=>by rw[aw (S c xs r)];exact r
   rcases Y with rfl|Y
   .exact I
   .rintro rfl;rcases i with z|z
    .exact J c b Y z
    .rw[Y]at z;cases z;exact a rfl
end
structure Un(fs ex:List i_)(H H':Hp)(h h':Du):Prop where
 keep:∀b o,h.get? b=a_ o->H b=f_->b∉fs->b∉ex->h'.get? b=a_ o
 slot:∀b o,h.get? b=a_ o->H b=f_->b∈fs->b∉ex->∃sl,h'.get? b=a_ {o with slots:=sl}
 free:∀b o,h.get? b=a_ o->H b=f_->b∉ex->H' b=f_
 there:∀b o,h.get? b=a_ o->b∉ex->∃o',h'.get? b=a_ o'
 tups:∀b xs,H b=a_ (.tup xs)->H' b=a_ (.tup xs)
 frzs:∀b o u,H b=a_ (.frz o u)->H' b=a_ (.frz o u)
 tbls:∀b ps,H b=a_ (.tbl ps)->∃more,H' b=a_ (.tbl (ps++more))
section
variable{fs ex:List i_}{H1 H2:Hp}{h1 h2:Du}{x e:i_}{o:HO}
def Un.any(u:Un fs ex H H1 h h1){I:IB}(q:h.get? b=a_ I)(n:H b=f_)(J:b∉ex):∃sl,h1.get? b=a_ {I with slots:=sl}:=by
 by_cases S:b∈fs
 .exact u.slot b I q n S J
 .exact⟨I.slots,u.keep b I q n S J⟩
def Un.trans(a:Un fs ex H H1 h h1)(b:Un fs ex H1 H2 h1 h2):Un fs ex H H2 h h2 where
 keep:=λc I q n S J=>b.keep c I (a.keep c I q n S J) (a.free c I q n J) S J
 slot:=λc I q n S J=>by obtain⟨sl,e1⟩:=a.slot c I q n S J;obtain⟨U,e2⟩:=b.slot c _ e1 (a.free c I q n J) S J;exact⟨U,e2⟩
 free:=λc I q n J=>by obtain⟨o',e1⟩:=a.there c I q J;exact b.free c o' e1 (a.free c I q n J) J
 there:=λc I q J=>by obtain⟨o',e1⟩:=a.there c I q J;exact b.there c o' e1 J
 tups:=λc xs q=>b.tups c xs (a.tups c xs q)
 frzs:=λc I xs q=>b.frzs c I xs (a.frzs c I xs q)
 tbls:=λc ps q=>by obtain⟨d,e1⟩:=a.tbls c ps q;obtain⟨Y,e2⟩:=b.tbls c _ e1;exact⟨d++Y,by rw[e2,LR]⟩
def Un.kept(k:∀b u,h.get? b=a_ u->h'.get? b=a_ u):Un fs ex H H h h':=
 ⟨λb I q _ _ _=>k b I q,λb I q _ _ _=>⟨I.slots,k b I q⟩,λ_ _ _ n _=>n,λb I q _=>⟨I,k b I q⟩,λ_ _ q=>q,λ_ _ _ q=>q,λ_ ps q=>⟨#[],by rw[q];simp⟩⟩
def Un.refl:Un fs ex H H h h:=Un.kept λ_ _ q=>q
def Un.laid(k:∀b u,h.get? b=a_ u->h'.get? b=a_ u)(J:h.objs.size<=a)(I:H a=f_):Un fs ex H (upd H a o) h h' where
 keep:=λb u q _ _ _=>k b u q
 slot:=λb u q _ _ _=>⟨u.slots,k b u q⟩
 free:=λb u q n _=>by rw[aw (De (CZ (t_ q) J))];exact n
 there:=λb u q _=>⟨u,k b u q⟩
 tups:=λb xs q=>by rw[aw (aA q I)];exact q
 frzs:=λb u xs q=>by rw[aw (aA q I)];exact q
 tbls:=λb ps q=>⟨#[],by rw[aw (aA q I),q];simp⟩
def Un.write(J:Mut (H x))(c:e=x\/H e=a_ (.own x))(k:∀b u,b≠e->h.get? b=a_ u->h'.get? b=a_ u)(U:∃u,h'.get? e=a_ u):Un fs ex H (upd H x o) h h':=by
 have Y:∀b,H b=f_->b≠x:=λb n z=>by subst z;rw[n]at J;exact J
 have a:∀b,H b=f_->b≠e:=λb n z=>by
  subst z;rcases c with r|r
  .exact Y b n r
  .rw[n]at r;cases r
 have S:∀b u,H b=a_ u->¬Mut (a_ u)->b≠x:=λb u q nm z=>by subst z;rw[q]at J;exact nm J
 refine⟨λb u q n _ _=>k b u (a b n) q,λb u q n _ _=>⟨u.slots,k b u (a b n) q⟩,λb u q n _=>by rw[aw (Y b n)];exact n,λb u q _=>?_,
  λb xs q=>by rw[aw (S b _ q λz=>z)];exact q,λb u xs q=>by rw[aw (S b _ q λz=>z)];exact q,λb ps q=>⟨#[],by rw[aw (S b _ q λz=>z),q];simp⟩⟩
 by_cases I:b=e
 .subst I;exact U
 .exact⟨u,k b u I q⟩
end
noncomputable def trk(h:Du)(H:Hp):List i_:=(CU h.objs.size).filter λa=>(H a).isSome
def hidT(h:Du)(H:Hp):Du:=PySem.W.hideAll h (trk h H)
def By(h:Du)(H:Hp):(hidT h H).objs.size=h.objs.size:=PySem.W.hideAll_size _ _
def hidT_get{o:IB}(e:h.get? b=a_ o)(n:H b=f_):(hidT h H).get? b=a_ o:=
 PySem.W.hideAll_get _ e λI=>by have q:(H b).isSome=e_:=(EE.mp I).2;rw[n]at q;simp at q
def of_hidT{o:IB}(e:(hidT h H).get? b=a_ o):h.get? b=a_ o/\H b=f_:=by
 have I:h.get? b=a_ o:=PySem.W.of_hideAll (trk h H) e;refine⟨I,?_⟩
 cases q:H b with
 |none=>rfl|some x=>have J:b∈trk h H:=EE.mpr ⟨DH.mpr (t_ I),by simp[q]⟩;have z:(hidT h H).get? b=f_:=PySem.W.hideAll_none (trk h H) J;rw[z]at e;cases e
structure Mod(K:Fg)(mg:Mq)(base:Du):Prop where
 kin:K.In base
 glob:base.Ns DY mg
 blt:∃mb,base.Ns Nt mb/\∀x:C_,x≠"__name__"->mb x=E6 x
 nolimit:base.NoLimit
structure Cx where
 prog:D0
 w:Ew
 K:Fg
 mg:Mq
 base:Du
 A:ES
 N:List C_
 s₀:k_
 H₀:Hp
 env:KR
 outer:List KR
 stack:List KR
 ex:List i_
 fn:C_->Bool
 calm:Bool
 pn:Pn
 xe:Vp
variable{X:Cx}
noncomputable def frs(l:List KR):List i_:=l.filterMap (·.frame)
abbrev Cx.fs(X:Cx):List i_:=frs X.outer
def Vis(sc:Kk)(x:C_):Prop:=sc.names.lookup x=a_ .local\/sc.names.lookup x=a_ .cell\/sc.names.lookup x=a_ .free
def Loc(sc:Kk)(x:C_):Prop:=sc.names.lookup x=a_ .local\/sc.names.lookup x=a_ .cell
def Look(env:KR)(h:Du)(m:Mq)(x:C_)(u:g_):Prop:=
 (env.kindOf x=a_ .local/\m x=a_ u)\/((env.kindOf x=a_ .cell\/env.kindOf x=a_ .free)/\∃c,env.cells.lookup x=a_ c/\h.IsCell c (a_ u))
structure Cx.Ok(X:Cx):Prop where
 mod:Mod X.K X.mg X.base
 kind:X.env.scope.kind=.function
 glob:X.env.globals=DY
 blt:X.env.builtins=Nt
 above:X.s₀.heap.objs.size<=X.env.locals
 inj:∀x y c,X.env.cells.lookup x=a_ c->X.env.cells.lookup y=a_ c->x=y
 has:∀x,(X.env.kindOf x=a_ .cell\/X.env.kindOf x=a_ .free)->∃c,X.env.cells.lookup x=a_ c
 cab:∀x c,X.fn x=e_->X.env.cells.lookup x=a_ c->X.s₀.heap.objs.size<=c
 hd:X.calm=e_->X.A.handled=f_
 frames:X.A.frames=a_ X.stack
 stk:X.stack=X.outer\/(X.stack=X.env::X.outer/\X.env.frame=a_ X.env.locals)
 exf:∀b∈X.ex,b≠X.env.locals/\∀x c,X.env.cells.lookup x=a_ c->c≠b
 bs:∀b o,X.base.get? b=a_ o->X.s₀.heap.get? b=a_ o/\X.H₀ b=f_
 bsz:X.base.objs.size<=X.s₀.heap.objs.size
 noex:∀b o,X.base.get? b=a_ o->b∉X.ex
 exfs:∀b∈X.ex,b∉X.fs
 tZ:X.s₀.heap.FunFrames X.base X.outer
 frf:∀b∈X.fs,X.H₀ b=f_
structure B6(X:Cx)(B2:Pn)(σ:List (Option V))(H:Hp)(s:k_):Prop where
 ok:X.Ok
 os:s.os=X.s₀.os
 bare:Iq s.gens
 base:Un X.fs X.ex X.H₀ H X.s₀.heap s.heap
 loc:∃m,s.heap.Ns X.env.locals m/\∀(i:Nat) (x:C_) (v:V),X.N[i]?=a_ x->σ[i]?=a_ (a_ v)->Vis X.env.scope x->∃u,C' v u/\Look X.env s.heap m x u
 cell:∀x c,X.env.cells.lookup x=a_ c->∃v,s.heap.IsCell c v
 free:H X.env.locals=f_
 freeC:∀x c,X.env.cells.lookup x=a_ c->H c=f_
 pin:∀p∈X.pn++B2,s.heap.get? p.1=a_ p.2/\H p.1=f_/\p.1≠X.env.locals/\p.1∉X.fs/\∀v,p.2.data≠.cell v
 hok:HOk X.prog X.w H s.heap
 len:σ.length=X.N.length
section
variable{σ:List (Option V)}{s:k_}
def Cx.Ok.nofr(I:X.Ok){o:IB}(e:X.base.get? b=a_ o):b∉X.fs:=λJ=>by have:=(I.tZ.mem J).1;rw[e]at this;cases this
theorem B6.bs(I:B6 X B2 σ H s):∀b o,X.base.get? b=a_ o->s.heap.get? b=a_ o/\H b=f_:=λb o e=>⟨I.base.keep b o (I.ok.bs b o e).1 (I.ok.bs b o e).2 (I.ok.nofr e) (I.ok.noex b o e),I.base.free b o (I.ok.bs b o e).1 (I.ok.bs b o e).2 (I.ok.noex b o e)⟩
def B6.bk(I:B6 X B2 σ H s):∀b o,X.base.get? b=a_ o->s.heap.get? b=a_ o:=λb o e=>(I.bs b o e).1
theorem B6.mod(I:B6 X B2 σ H s):Mod X.K X.mg X.base:=I.ok.mod
def B6.kIn(I:B6 X B2 σ H s):X.K.In s.heap:=I.ok.mod.kin.keeps I.bk
theorem B6.lt(I:B6 X B2 σ H s):X.env.locals<s.heap.objs.size:=let ⟨_,J,_⟩:=I.loc;J.lt
def B6.sz(I:B6 X B2 σ H s):X.s₀.heap.objs.size<=s.heap.objs.size:=DJ I.ok.above (Gr I.lt)
def B6.nofs(I:B6 X B2 σ H s)(h:s.heap.objs.size<=a):a∉X.fs:=λS=>by obtain⟨_,o,J,_⟩:=I.ok.tZ.mem S;exact CQ (CZ (t_ J) (DJ I.sz h)) (Ee _)
def B6.cne(I:B6 X B2 σ H s):∀x c,X.env.cells.lookup x=a_ c->c≠X.env.locals:=λx c e z=>by obtain⟨v,o,U,hd⟩:=I.cell x c e;obtain⟨m,⟨o',es,ep,J,S,_⟩,_⟩:=I.loc;rw[z,J]at U;cases U;rw[S]at hd;cases hd
theorem B6.tZ(I:B6 X B2 σ H s):s.heap.FunFrames X.base X.outer:=by
 have Y:∀(l:List KR),(∀b∈frs l,b∈X.fs)->X.s₀.heap.FunFrames X.base l->s.heap.FunFrames X.base l:=by
  intro l
  induction l with
  |nil=>intro _ _;trivial|cons env r c=>intro a h;obtain⟨i,⟨L,o,J,g,f,hd⟩,d⟩:=h;have U:L∈X.fs:=a L (by unfold frs;rw[Je,J];exact CW);obtain⟨sl,e⟩:=I.base.slot L o f (I.ok.frf L U) U λz=>I.ok.exfs L z U;exact⟨i,⟨L,_,J,g,e,hd⟩,c (λb S=>a b (by unfold frs;rw[Je,J];exact CS _ S)) d⟩
 exact Y X.outer (λ_ S=>S) I.ok.tZ
theorem B6.stack(I:B6 X B2 σ H s):s.heap.FunFrames X.base X.stack:=by
 rcases I.ok.stk with e|⟨e,S⟩
 .rw[e];exact I.tZ
 .rw[e];obtain⟨m,J,_⟩:=I.loc;refine .cons (by rw[I.ok.kind];decide) S J ?_ I.tZ;exact IP (DJ I.ok.bsz I.ok.above)
def B6.p8(I:B6 X B2 σ H s):∀b∈frs X.stack,b∈X.env.locals::X.fs:=λb J=>by
 rcases I.ok.stk with e|⟨e,S⟩
 .rw[e]at J;exact CS _ J
 .rw[e]at J;unfold frs at J;rw[Je,S]at J;exact J
def B6.Aw(I:B6 X B2 σ H s):∀b∈frs X.stack,H b=f_:=λb J=>by
 rcases r_.mp (I.p8 b J)with e|J
 .rw[e];exact I.free
 .obtain⟨_,o,S,_⟩:=I.ok.tZ.mem J;exact I.base.free b o S (I.ok.frf b J) λz=>I.ok.exfs b z J
def B6.step{t':Nat}{d':Drawn}(I:B6 X B2 σ H s)(a:∀b∈ch,(b∈X.ex\/X.s₀.heap.objs.size<=b)/\b≠X.env.locals/\(∀x c,X.env.cells.lookup x=a_ c->c≠b)/\∀p∈X.pn++B2,p.1≠b)(Y:∀b o,b≠X.env.locals->b∉X.fs->b∉ch->s.heap.get? b=a_ o->H b=f_->h'.get? b=a_ o)(h:∀b o,b≠X.env.locals->b∈X.fs->b∉ch->s.heap.get? b=a_ o->H b=f_->∃sl,h'.get? b=a_ {o with slots:=sl})(S:∀b o,b∉ch->s.heap.get? b=a_ o->H b=f_->H' b=f_)(j:∀b o,b∉ch->s.heap.get? b=a_ o->∃o',h'.get? b=a_ o')(y:∀b xs,H b=a_ (.tup xs)->H' b=a_ (.tup xs))(D:∀b o u,H b=a_ (.frz o u)->H' b=a_ (.frz o u))(A:∀b ps,H b=a_ (.tbl ps)->∃C,H' b=a_ (.tbl (ps++C)))(ns:∀m,s.heap.Ns X.env.locals m->h'.Ns X.env.locals m)(F:HOk X.prog X.w H' h')(T:Iq g'):
  B6 X B2 σ H' {s with heap:=h',gens:=g',drawn:=d',toks:=t'}:=by
 have B:∀b o,X.s₀.heap.get? b=a_ o->b≠X.env.locals:=λb o e=>De (CZ (t_ e) I.ok.above);have g:∀b o,X.s₀.heap.get? b=a_ o->b∉X.ex->b∉ch:=λb o e J t=>by
  rcases(a b t).1 with z|z
  .exact J z
  .exact CQ (CZ (t_ e) z) (Ee _)
 have f:∀x c,X.env.cells.lookup x=a_ c->∀v,s.heap.IsCell c v->h'.IsCell c v:=λx c e v ⟨o,w,hd⟩=>by
  have U:c∉ch:=λz=>(a c z).2.2.1 x c e rfl;by_cases N:c∈X.fs
  .obtain⟨sl,q⟩:=h c o (I.cne x c e) N U w (I.freeC x c e);exact⟨_,q,hd⟩
  .exact⟨o,Y c o (I.cne x c e) N U w (I.freeC x c e),hd⟩
 refine⟨I.ok,I.os,T,⟨λb o e n t J=>?_,λb o e n t J=>?_,λb o e n J=>?_,λb o e J=>?_,λb xs e=>y b xs (I.base.tups b xs e),λb o xs e=>D b o xs (I.base.frzs b o xs e),λb ps e=>?_⟩,?_,λx c e=>?_,?_,λx c e=>?_,λp L=>?_,F,I.len⟩
 .exact Y b o (B b o e) t (g b o e J) (I.base.keep b o e n t J) (I.base.free b o e n J)
 .obtain⟨sl,e1⟩:=I.base.slot b o e n t J;obtain⟨E,e2⟩:=h b _ (B b o e) t (g b o e J) e1 (I.base.free b o e n J);exact⟨E,e2⟩
 .obtain⟨o',e1⟩:=I.base.there b o e J;exact S b o' (g b o e J) e1 (I.base.free b o e n J)
 .obtain⟨o',e1⟩:=I.base.there b o e J;exact j b o' (g b o e J) e1
 .obtain⟨P,e1⟩:=I.base.tbls b ps e;obtain⟨O,e2⟩:=A b _ e1;exact⟨P++O,by rw[e2,LR]⟩
 .obtain⟨m,Q,R⟩:=I.loc;refine⟨m,ns m Q,λi x v e1 e2 e3=>?_⟩
  obtain⟨u,r,l⟩:=R i x v e1 e2 e3;refine⟨u,r,?_⟩
  rcases l with l|⟨k,c,e,z⟩
  .exact .inl l
  .exact .inr ⟨k,c,e,f x c e _ z⟩
 .obtain⟨v,z⟩:=I.cell x c e;exact⟨v,f x c e v z⟩
 .obtain⟨m,⟨o,_,_,w,_⟩,_⟩:=I.loc;exact S _ o (λz=>(a _ z).2.1 rfl) w I.free
 .obtain⟨v,o,w,hd⟩:=I.cell x c e;exact S c o (λz=>(a c z).2.2.1 x c e rfl) w (I.freeC x c e)
 .obtain⟨e,n,K,G,d⟩:=I.pin p L;have U:p.1∉ch:=λz=>(a p.1 z).2.2.2 p L rfl;exact⟨Y p.1 p.2 K G U e n,S p.1 p.2 U e n,K,G,d⟩
def B6.un{t':Nat}(I:B6 X B2 σ H s)(u:Un X.fs [] H H' s.heap h')(S:HOk X.prog X.w H' h'):B6 X B2 σ H' {s with heap:=h',toks:=t'}:=by
 obtain⟨m,⟨o,es,ep,a,r⟩,_⟩:=id I.loc;obtain⟨sl,d⟩:=u.any a I.free ad;exact I.step (g':=s.gens) (d':=s.drawn) (ch:=[]) (λ_ z=>nomatch z) (λb o _ U _ e n=>u.keep b o e n U ad) (λb o _ U _ e n=>u.slot b o e n U ad) (λb o _ e n=>u.free b o e n ad) (λb o _ e=>u.there b o e ad) u.tups u.frzs u.tbls (λf c=>by obtain⟨o',Y,ep',J,r'⟩:=c;rw[a]at J;cases J;exact⟨_,Y,ep',d,r'⟩) S I.bare
def B6.call{t':Nat}{d':Drawn}(I:B6 X B2 σ H s)(u:Un (frs X.stack) ch H H' s.heap h')(Y:HOk X.prog X.w H' h')(h:Iq g')(U:∀b∈ch,(b∈X.ex\/X.s₀.heap.objs.size<=b)/\b≠X.env.locals/\(∀x c,X.env.cells.lookup x=a_ c->c≠b)/\∀p∈X.pn++B2,p.1≠b):
  B6 X B2 σ H' {s with heap:=h',gens:=g',drawn:=d',toks:=t'}:=by
 obtain⟨m,⟨o,es,ep,f,r⟩,_⟩:=id I.loc;obtain⟨sl,a⟩:=u.any f I.free λz=>(U _ z).2.1 rfl;exact I.step (ch:=ch) U (λb o a i J e n=>u.keep b o e n (λz=>(r_.mp (I.p8 b z)).elim a i) J) (λb o _ _ J e n=>u.any e n J) (λb o J e n=>u.free b o e n J) (λb o J e=>u.there b o e J) u.tups u.frzs u.tbls (λj g=>by obtain⟨o',d,ep',S,r'⟩:=g;rw[f]at S;cases S;exact⟨_,d,ep',a,r'⟩) Y h
def B6.turned{t':Nat}{J:i_}(I:B6 X B2 σ H s)(k:∀b o,b≠J->s.heap.get? b=a_ o->h'.get? b=a_ o)(d:H J=f_)(Y:J≠X.env.locals)(h1:J∈X.ex\/X.s₀.heap.objs.size<=J)(h2:∀x c,X.env.cells.lookup x=a_ c->c≠J)(h:∀p∈X.pn++B2,p.1≠J):B6 X B2 σ H {s with heap:=h',toks:=t'}:=by
 have U:∀b u,H b=a_ u->b≠J:=λb u e z=>by rw[z,d]at e;cases e
 refine I.step (g':=s.gens) (d':=s.drawn) (ch:=[J]) (λb g=>?_) (λb o _ _ S e _=>k b o (λz=>S (by simp[z])) e) (λb o _ _ S e _=>⟨o.slots,k b o (λz=>S (by simp[z])) e⟩) (λ_ _ _ _ n=>n)
  (λb o S e=>⟨o,k b o (λz=>S (by simp[z])) e⟩) (λ_ _ e=>e) (λ_ _ _ e=>e) (λb ps e=>⟨#[],by rw[e];simp⟩) (λm f=>?_) (λb u e=>?_) I.bare
 .have e:b=J:=by simpa using g
  subst e;exact⟨h1,Y,h2,h⟩
 .obtain⟨o,es,ep,a,r⟩:=f;exact⟨o,es,ep,k _ o (D6 Y) a,r⟩
 .refine(I.hok b u e).wu (λc v S q=>k c v ?_ q) (λ_ q=>q) λ_ _ q=>q;rcases S with z|z
  .rw[z];exact U b u e
  .exact U c _ z
def B6.tok(I:B6 X B2 σ H s)(t:Nat):B6 X B2 σ H {s with toks:=t}:=I.un (h':=s.heap) (t':=t) Un.refl I.hok
theorem B6.kept{t':Nat}(I:B6 X B2 σ H s)(k:∀b u,s.heap.get? b=a_ u->h'.get? b=a_ u):B6 X B2 σ H {s with heap:=h',toks:=t'}:=I.un (Un.kept k) (I.hok.kept k)
theorem B6.laid{a:i_}{o:HO}{t':Nat}(I:B6 X B2 σ H s)(k:∀b u,s.heap.get? b=a_ u->h'.get? b=a_ u)(S:s.heap.objs.size<=a)(J:dW X.prog X.w (upd H a o) h' a o):
  B6 X B2 σ (upd H a o) {s with heap:=h',toks:=t'}:=I.un (Un.laid k S (I.hok.fresh S)) (I.hok.laid k S J)
theorem B6.write{x e:i_}{o:HO}{t':Nat}(I:B6 X B2 σ H s)(U:Mut (H x))(Y:e=x\/H e=a_ (.own x))(k:∀b u,b≠e->s.heap.get? b=a_ u->h'.get? b=a_ u)(J:∃u,h'.get? e=a_ u)(S:dW X.prog X.w (upd H x o) h' x o):B6 X B2 σ (upd H x o) {s with heap:=h',toks:=t'}:=I.un (Un.write U Y k J) (I.hok.write U Y k J S)
def B6.weak{σ':List (Option V)}(I:B6 X B2 σ H s)(U:σ'.length=σ.length)(w:∀(i:Nat) v,σ'[i]?=a_ (a_ v)->σ[i]?=a_ (a_ v)):B6 X B2 σ' H s:=
 ⟨I.ok,I.os,I.bare,I.base,let ⟨m,S,J⟩:=I.loc;⟨m,S,λi x v e1 e2 e3=>J i x v e1 (w i v e2) e3⟩,I.cell,I.free,I.freeC,I.pin,I.hok,U.trans I.len⟩
def B6.qO{pins':Pn}(I:B6 X B2 σ H s)(h:∀p∈pins',s.heap.get? p.1=a_ p.2/\H p.1=f_/\p.1≠X.env.locals/\p.1∉X.fs/\∀v,p.2.data≠.cell v):B6 X pins' σ H s:=
 ⟨I.ok,I.os,I.bare,I.base,I.loc,I.cell,I.free,I.freeC,λp J=>(DM.mp J).elim (λz=>I.pin p (Et _ z)) (h p),I.hok,I.len⟩
def qW(I:N.Nodup)(a:N[i]?=a_ x)(b:N[j]?=a_ x):i=j:=by obtain⟨h1,e1⟩:=y_.mp a;obtain⟨h2,e2⟩:=y_.mp b;exact(List.getElem_inj I).mp (e1.trans e2.symm)
def sG{M:Kl}(I:B6 X B2 σ H s)(hN:X.N.Nodup)(hi:X.N[i]?=a_ x)(Y:Loc X.env.scope x)(r:C' v u)(h:∀s',B6 X B2 (σ.set i (a_ v)) H s'->(∃a,FP a s.heap s'.heap/\(a=X.env.locals\/X.env.cells.lookup x=a_ a))->Q () s')(hf:autoParam (X.fn x=e_\/X.env.scope.names.lookup x=a_ .local) Jq3):w_ M A (storeName X.env x u) Q E s:=by
 obtain⟨m,hn,hl⟩:=id I.loc;have G:(X.env.scope.kind==.class||(X.env.scope.kind==.module&&X.env.locals != X.env.globals))=c_:=by rw[I.ok.kind];rfl
 have l:i<σ.length:=by rw[I.len];exact(y_.mp hi).1
 have C:=I.cne;have S:∀{a:i_} {h':Du},(∃o,s.heap.get? a=a_ o/\H a=f_)->FP a s.heap h'->HOk X.prog X.w H h':=λ{a h'} ha J b ob e=>by
  obtain⟨_,_,f⟩:=ha;refine(I.hok b ob e).wu (λc N U q=>(J.2 c ?_).trans q) (λ_ q=>q) λ_ _ q=>q;rintro rfl;rcases U with rfl|U
  .rw[f]at e;cases e
  .rw[f]at U;cases U
 rcases Y with g|g
 .refine wpAny_storeName_local g hn (λh' hn' J=>?_) G;obtain⟨oL,_,_,hoL,_⟩:=id hn;refine h _ ⟨I.ok,I.os,I.bare,⟨λb o e n B Y=>?_,λb o e n B Y=>?_,I.base.free,λb o e Y=>?_,I.base.tups,I.base.frzs,I.base.tbls⟩,⟨_,hn',λj y R e1 e2 e3=>?_⟩,λy c e=>?_,I.free,I.freeC,λp Z=>?_,S ⟨oL,hoL,I.free⟩ J,by simpa using I.len⟩ ⟨_,J,.inl rfl⟩
  .exact(J.2 b (De (CZ (t_ e) I.ok.above))).trans (I.base.keep b o e n B Y)
  .obtain⟨sl,e1⟩:=I.base.slot b o e n B Y;exact⟨sl,(J.2 b (De (CZ (t_ e) I.ok.above))).trans e1⟩
  .obtain⟨o',e1⟩:=I.base.there b o e Y;exact⟨o',(J.2 b (De (CZ (t_ e) I.ok.above))).trans e1⟩
  .by_cases t:j=i
   .subst t;rw[hi]at e1;cases e1;rw[CK l]at e2;cases e2;exact⟨u,r,.inl ⟨g,ad⟩⟩
   .rw[v_ (D6 t)]at e2;obtain⟨T,r',q⟩:=hl j y R e1 e2 e3;refine⟨T,r',?_⟩
    rcases q with⟨k,e⟩|⟨k,c,e,z⟩
    .refine .inl ⟨k,?_⟩;have:y≠x:=λe=>t (qW hN e1 (e▸hi));simp[this,e]
    .exact .inr ⟨k,c,e,z.sameBut J (C y c e)⟩
  .obtain⟨N,z⟩:=I.cell y c e;exact⟨N,z.sameBut J (C y c e)⟩
  .obtain⟨e,n,O,W,d⟩:=I.pin p Z;exact⟨(J.2 p.1 O).trans e,n,O,W,d⟩
 .have w:X.fn x=e_:=by
   rcases hf with z|z
   .exact z
   .rw[z]at g;cases g
  obtain⟨c,U⟩:=I.ok.has x (.inl g);obtain⟨N,z⟩:=I.cell x c U;refine wpAny_storeName_cell I.ok.kind g U z (λh' L J=>?_);obtain⟨oc,F,D⟩:=id z;refine h {s with heap:=h'} ⟨I.ok,I.os,I.bare,⟨λb o e n B Y=>?_,λb o e n B Y=>?_,I.base.free,λb o e Y=>?_,I.base.tups,I.base.frzs,I.base.tbls⟩,⟨m,hn.sameBut J (D6 (C x c U)),λj y R e1 e2 e3=>?_⟩,λy P e=>?_,I.free,I.freeC,λp Z=>?_,S ⟨oc,F,I.freeC x c U⟩ J,by simpa using I.len⟩ ⟨c,J,.inr U⟩
  .exact(J.2 b (De (CZ (t_ e) (I.ok.cab x c w U)))).trans (I.base.keep b o e n B Y)
  .obtain⟨sl,e1⟩:=I.base.slot b o e n B Y;exact⟨sl,(J.2 b (De (CZ (t_ e) (I.ok.cab x c w U)))).trans e1⟩
  .obtain⟨o',e1⟩:=I.base.there b o e Y;exact⟨o',(J.2 b (De (CZ (t_ e) (I.ok.cab x c w U)))).trans e1⟩
  .by_cases t:j=i
   .subst t;rw[hi]at e1;cases e1;rw[CK l]at e2;cases e2;exact⟨u,r,.inr ⟨.inl g,c,U,L⟩⟩
   .rw[v_ (D6 t)]at e2;obtain⟨T,r',q⟩:=hl j y R e1 e2 e3;refine⟨T,r',?_⟩
    rcases q with q|⟨k,P,e,z'⟩
    .exact .inl q
    .refine .inr ⟨k,P,e,z'.sameBut J ?_⟩;rintro rfl;exact t (qW hN e1 (I.ok.inj _ _ _ e U▸hi))
  .by_cases K:P=c
   .subst K;exact⟨_,L⟩
   .obtain⟨w2,z2⟩:=I.cell y P e;exact⟨w2,z2.sameBut J K⟩
  .obtain⟨e,n,O,W,d⟩:=I.pin p Z;refine⟨(J.2 p.1 ?_).trans e,n,O,W,d⟩
   intro q;rw[q,F]at e;have q':oc=p.2:=Dl e;exact d N (by rw[<- q'];exact D)
def m8{M:Kl}(I:B6 X B2 σ H s)(U:X.N.Nodup)(hi:X.N[i]?=a_ x)(J:Loc X.env.scope x)(r:C' v u)(h:∀s',B6 X B2 (σ.set i (a_ v)) H s'->Q () s')(S:autoParam (X.fn x=e_\/X.env.scope.names.lookup x=a_ .local) Jq3):w_ M A (storeName X.env x u) Q E s:=
 sG I U hi J r (λs' Y _=>h s' Y) S
def B6.call'(I:B6 X B2 σ H s)(U:s'.os=s.os)(u:Un (frs X.stack) ch H H' s.heap s'.heap)(J:HOk X.prog X.w H' s'.heap)(Y:Iq s'.gens)(S:∀b∈ch,(b∈X.ex\/X.s₀.heap.objs.size<=b)/\b≠X.env.locals/\(∀x c,X.env.cells.lookup x=a_ c->c≠b)/\∀p∈X.pn++B2,p.1≠b):B6 X B2 σ H' s':=by obtain⟨h',g',d',t',o'⟩:=s';have e:o'=s.os:=U;subst e;exact I.call (g':=g') (t':=t') (d':=d') u J Y S
end
abbrev XK:=g_->Option i_->Hp->Prop
noncomputable abbrev St:=List (Option V)
variable{σ:St}
abbrev VK:=V->Hp->Prop
abbrev TE:=St->Hp->VK->Prop
variable{ta tb te:TE}
abbrev TT:=St->Hp->(Bool->Hp->Prop)->Prop
abbrev TA:=St->Hp->(aB->Hp->Prop)->Prop
variable{t:TA}
structure Ends where
 nx:St->Hp->Prop
 rt:VK
 bk:St->Hp->Prop:=λ_ _=>False
 ct:St->Hp->Prop:=λ_ _=>False
abbrev TS:=Ends->St->Hp->Prop
def EP(X:Cx)(B2:Pn)(σ:St)(Q:VK)(u:g_)(s':k_):Prop:=∃v H',B6 X B2 σ H' s'/\C' v u/\Q v H'
def TP(X:Cx)(B2:Pn)(σ:St)(Q:Bool->Hp->Prop)(b:Bool)(s':k_):Prop:=∃H',B6 X B2 σ H' s'/\Q b H'
def AP(X:Cx)(B2:Pn)(σ:St)(Q:aB->Hp->Prop)(us:aM)(s':k_):Prop:=∃vs H',B6 X B2 σ H' s'/\D' vs us/\Q vs H'
def SP(X:Cx)(B2:Pn)(D:Ends)(f:Flow)(s':k_):Prop:=
 match f with
 |.next=>∃σ' H',B6 X B2 σ' H' s'/\D.nx σ' H'
 |.brk=>∃σ' H',B6 X B2 σ' H' s'/\D.bk σ' H'
 |.cont=>∃σ' H',B6 X B2 σ' H' s'/\D.ct σ' H'
 |.ret u=>∃v σ' H',B6 X B2 σ' H' s'/\C' v u/\D.rt v H'
def PE(X:Cx)(e:Em)(t:TE):Prop:=
 ∀(B2:Pn) (s:k_) (σ:St) (H:Hp) (Q:VK),B6 X B2 σ H s->t σ H Q->w_ (B_ X.prog X.w) X.A (Dh e X.env) (EP X B2 σ Q) X.xe s
def PT(X:Cx)(e:Em)(t:TT):Prop:=
 ∀(B2:Pn) (s:k_) (σ:St) (H:Hp) (Q:Bool->Hp->Prop),B6 X B2 σ H s->t σ H Q->w_ (B_ X.prog X.w) X.A (Mh e X.env (Dh e X.env)) (TP X B2 σ Q) X.xe s
def PW(X:Cx)(e:Em)(t:TT):Prop:=
 ∀(I:Lb g_) (B2:Pn) (s:k_) (σ:St) (H:Hp) (Q:Bool->Hp->Prop),B6 X B2 σ H s->t σ H Q->w_ (B_ X.prog X.w) X.A (Mh e X.env I) (TP X B2 σ Q) X.xe s
def PW.pt{t:TT}(h:PW X e t):PT X e t:=h _
def PA(X:Cx)(es:List Em)(t:TA):Prop:=
 ∀(pos:IM) (B2:Pn) (s:k_) (σ:St) (H:Hp) (Q:aB->Hp->Prop),B6 X B2 σ H s->t σ H Q->w_ (B_ X.prog X.w) X.A (spliced (Eg pos (j_ es X.env))) (AP X B2 σ Q) X.xe s
def PS(X:Cx)(st:Ei)(t:TS):Prop:=
 ∀(B2:Pn) (s:k_) (σ:St) (H:Hp) (D:Ends),B6 X B2 σ H s->t D σ H->w_ (B_ X.prog X.w) X.A (exec st X.env) (SP X B2 D) X.xe s
def PSs(X:Cx)(st:List Ei)(t:TS):Prop:=
 ∀(B2:Pn) (s:k_) (σ:St) (H:Hp) (D:Ends),B6 X B2 σ H s->t D σ H->w_ (B_ X.prog X.w) X.A (execs st X.env) (SP X B2 D) X.xe s
def E'{α:Type}{t:Lb α}{Q I:α->k_->Prop}{M:Kl}{s:k_}(h:w_ M A t Q E s)(J:∀a s,Q a s->I a s):w_ M A t I E s:=DX h J λ_ _ x=>x
section
noncomputable def wk(i:Nat):TE:=λσ H Q=>∃v,σ[i]?=a_ (a_ v)/\Q v H
noncomputable def tC(v:V):TE:=λ_ H Q=>Q v H
def pe_var(f:X.N[i]?=a_ x)(hv:Vis X.env.scope x)(hd:((x==("__debug__":C_))=c_)⁻¹)(U:((x==("__classdict__":C_))=c_)⁻¹):PE X (.Name x pos) (wk i):=by
 intro B2 s σ H Q I h;obtain⟨v,e,h⟩:=h;obtain⟨m,a,d⟩:=I.loc;obtain⟨u,r,l⟩:=d i x v f e hv;have fin:EP X B2 σ Q u s:=⟨v,H,I,r,h⟩
 rcases l with⟨S,b⟩|⟨S,c,Y,J⟩
 .exact Nk (wpAny_loadName_local I.ok.kind S a b fin) hd
 .rcases S with S|S
  .exact Nk (wpAny_loadName_cell I.ok.kind S Y J fin) hd
  .exact Nk (wpAny_loadName_free I.ok.kind S Y J fin U) hd
def pe_int{i j pos}:PE X (.Constant (.int i) j pos) (tC (.int i)):=λ_ _ _ H _ I h=>wpAny_Constant_int ⟨.int i,H,I.tok _,⟨_,rfl⟩,h⟩
def pe_bl{b j pos}:PE X (.Constant (.bool b) j pos) (tC (.bl b)):=λ_ _ _ H _ I h=>Constant_bool ⟨.bl b,H,I,rfl,h⟩
def pe_non{j pos}:PE X (.Constant .none j pos) (tC .non):=λ_ _ _ H _ I h=>Constant_none ⟨.non,H,I,rfl,h⟩
def pe_str{x j pos}:PE X (.Constant (.str x) j pos) (tC (.str x)):=λ_ _ _ H _ I h=>Calls.Constant_str ⟨.str x,H,I.tok _,⟨_,rfl⟩,h⟩
def Gl(X:Cx)(x:C_):Prop:=X.env.kindOf x=a_ .globalImplicit
def iE{s:k_}{Q:Vp}(I:B6 X B2 σ H s)(S:Gl X x)(J:X.mg x=a_ u)(h:Q u s)(hd:((x==("__debug__":C_))=c_)⁻¹):w_ (B_ X.prog X.w) X.A (Dh (.Name x pos) X.env) Q E s:=
 Kp I.ok.kind S (Calls.loadGlobal_global (by rw[I.ok.glob];exact I.mod.glob.keeps I.bk) J h) hd
def jk{s:k_}{Q:Vp}(I:B6 X B2 σ H s)(U:Gl X x)(S:X.mg x=f_)(hv:E6 x=a_ u)(h:Q u s)(J:(x≠"__name__")⁻¹)(hd:((x==("__debug__":C_))=c_)⁻¹):w_ (B_ X.prog X.w) X.A (Dh (.Name x pos) X.env) Q E s:=by obtain⟨Y,h1,h2⟩:=I.mod.blt;exact Kp I.ok.kind U (Calls.loadGlobal_builtin (by rw[I.ok.glob];exact I.mod.glob.keeps I.bk) S (by rw[I.ok.blt];exact h1.keeps I.bk) ((h2 x J).trans hv) h) hd
def AR(S:Gl X x)(J:X.mg x=a_ u)(r:C' v u)(hd:((x==("__debug__":C_))=c_)⁻¹):PE X (.Name x pos) (tC v):=
 λ_ _ _ H _ I h=>iE I S J ⟨v,H,I,r,h⟩ hd
def pe_bltn(U:Gl X x)(S:X.mg x=f_)(hv:E6 x=a_ u)(r:C' v u)(J:(x≠"__name__")⁻¹)(hd:((x==("__debug__":C_))=c_)⁻¹):PE X (.Name x pos) (tC v):=
 λ_ _ _ H _ I h=>jk I U S hv ⟨v,H,I,r,h⟩ J hd
variable{a b:Em}
variable{tA tB':TT}{rest:List Em}
noncomputable def tAnd(t u:TT):TT:=λσ H Q=>t σ H λc H1=>if c=e_ then u σ H1 Q else Q c_ H1
noncomputable def tOr(t u:TT):TT:=λσ H Q=>t σ H λc H1=>if c=e_ then Q e_ H1 else u σ H1 Q
noncomputable def tNot(t:TT):TT:=λσ H Q=>t σ H λc H1=>Q (!c) H1
def pw_and1(J:PT X a tA):PW X (.BoolOp .And [a] pos) tA:=by
 intro S B2 s σ H Q I h;refine isTrue_and (E' (J B2 s σ H Q I h) λc U e=>?_);cases c with
 |true=>exact isTrue_and_nil e|false=>exact e
def pw_or1(J:PT X a tA):PW X (.BoolOp .Or [a] pos) tA:=by
 intro S B2 s σ H Q I h;refine isTrue_or (E' (J B2 s σ H Q I h) λc U e=>?_);cases c with
 |false=>exact isTrue_or_nil e|true=>exact e
def pw_and(e:PT X a tA)(d:PW X (.BoolOp .And (b::rest) pos) tB'):PW X (.BoolOp .And (a::b::rest) pos) (tAnd tA tB'):=by
 intro S B2 s σ H Q I h;refine isTrue_and (E' (e B2 s σ H _ I h) λc U Y=>?_);obtain⟨H1,J,q1⟩:=Y;cases c with
 |true=>exact d S B2 U σ H1 Q J q1|false=>exact⟨H1,J,q1⟩
def pw_or(e:PT X a tA)(d:PW X (.BoolOp .Or (b::rest) pos) tB'):PW X (.BoolOp .Or (a::b::rest) pos) (tOr tA tB'):=by
 intro S B2 s σ H Q I h;refine isTrue_or (E' (e B2 s σ H _ I h) λc U Y=>?_);obtain⟨H1,J,q1⟩:=Y;cases c with
 |true=>exact⟨H1,J,q1⟩|false=>exact d S B2 U σ H1 Q J q1
def pt_not(J:PT X a tA):PT X (.UnaryOp .Not a pos) (tNot tA):=by intro B2 s σ H Q I h;exact isTrue_not (J B2 s σ H (λc H1=>Q (!c) H1) I h)
noncomputable def tAndV(ta tb:TE):TE:=λσ H Q=>ta σ H λx H1=>∃c,x=.bl c/\if c=e_ then tb σ H1 Q else Q (.bl c_) H1
noncomputable def tNotV(ta:TE):TE:=λσ H Q=>ta σ H λx H1=>∃c,x=.bl c/\Q (.bl (!c)) H1
def pe_one{op}{t:TE}(h:PE X a t):PE X (.BoolOp op [a] pos) t:=λB2 s σ H Q I hw=>BoolOp_one (h B2 s σ H Q I hw)
def pe_and(e:PE X a ta)(d:PE X (.BoolOp .And (b::rest) pos) tb):PE X (.BoolOp .And (a::b::rest) pos) (tAndV ta tb):=by
 intro B2 s σ H Q I h;refine BoolOp_and (E' (e B2 s σ H _ I h) λv S Y=>?_);obtain⟨x,H1,J,U,q1⟩:=Y;obtain⟨c,rfl,q1⟩:=q1;cases U;refine Ep ?_;cases c with
 |true=>exact d B2 S σ H1 Q J q1|false=>exact⟨.bl c_,H1,J,rfl,q1⟩
def pe_not(U:PE X a ta):PE X (.UnaryOp .Not a pos) (tNotV ta):=by intro B2 s σ H Q I h;refine UnaryOp_ (E' (U B2 s σ H _ I h) λv b S=>?_);obtain⟨x,H1,Y,J,q1⟩:=S;obtain⟨c,rfl,q1⟩:=q1;cases J;exact not_of (Ep ⟨.bl (!c),H1,Y,rfl,q1⟩)
noncomputable def tIf(t:TT)(ta tb:TE):TE:=λσ H Q=>t σ H λc H1=>if c=e_ then ta σ H1 Q else tb σ H1 Q
def pe_ifExp(Y:PT X c tA)(f:PE X a ta)(e:PE X b tb):PE X (.IfExp c a b pos) (tIf tA ta tb):=by
 intro B2 s σ H Q I h;refine wpAny_IfExp (E' (Y B2 s σ H _ I h) λd J U=>?_);obtain⟨H1,S,q1⟩:=U;cases d with
 |true=>exact f B2 J σ H1 Q S q1|false=>exact e B2 J σ H1 Q S q1
end
def SqL(K:Fg)(H:Hp)(a:i_)(xs:aB):Prop:=
 Rd H a (.lst xs) \/
  ∃(o:IB) (its:Array g_) (n:Nat),K.lookup a=a_ o/\o.cls=.type "list"/\o.dict=f_/\o.data=.seq its n/\its.size<=o_/\D' xs its.toList
def SqT(K:Fg)(H:Hp)(a:i_)(xs:aB):Prop:=
 Rd H a (.tup xs) \/
  ∃(o:IB) (its:Array g_) (n:Nat),K.lookup a=a_ o/\o.cls=.type "tuple"/\o.data=.seq its n/\its.size<=o_/\D' xs its.toList
def absV:g_->Option V
 |.none=>a_ .non|.bool b=>a_ (.bl b)|.int i _=>a_ (.int i)|.str x _=>a_ (.str x)|.bytes b _=>a_ (.byt b)|.float b _=>a_ (.flt b)|.ref a=>a_ (.ref a)|.type n=>a_ (.ty n)|_=>f_
def C'.abs{x:V}(r:C' x u):absV u=a_ x:=by
 cases x with
 |non=>cases r;rfl|bl _=>cases r;rfl|int _=>obtain⟨t,rfl⟩:=r;rfl
 |str _=>obtain⟨t,rfl⟩:=r;rfl
 |byt _=>obtain⟨t,rfl⟩:=r;rfl
 |flt _=>obtain⟨t,rfl⟩:=r;rfl
 |ref _=>cases r;rfl|ty _=>cases r;rfl
def C'.inj{x y:V}{u:g_}(r:C' x u)(q:C' y u):x=y:=Dl (r.abs.symm.trans q.abs)
theorem D'.inj:∀{xs ys:aB} {us:aM},D' xs us->D' ys us->xs=ys
 |_,_,_,.nil,.nil=>rfl|_,_,_,.cons r t,.cons r' t'=>by rw[r.inj r',D'.inj t t']
section
variable{s:k_}{xs ys:List V}
def SqL.of(h:H a=a_ (.lst xs)):SqL K H a xs:=.inl (.inl h)
def SqT.of(h:H a=a_ (.tup xs)):SqT K H a xs:=.inl (.inl h)
theorem B6.list(I:B6 X B2 σ H s)(h:SqL X.K H a xs):∃its:aM,D' xs its/\PlainL s.heap a its.toArray/\xs.length<=o_:=by
 rcases h with h|⟨o,its,n,S,U,hd,J,Y,r⟩
 .obtain⟨z,its,n,r,e⟩:=h.ok I.hok;exact⟨its,r,⟨_,n,e,rfl,rfl,rfl⟩,z⟩
 .refine⟨its.toList,r,⟨o,n,I.kIn a o S,U,hd,by simpa using J⟩,?_⟩
  have e:=r.length;simp only[DF]at e;lia
theorem B6.tuple(I:B6 X B2 σ H s)(h:SqT X.K H a xs):∃its:aM,D' xs its/\Lp s.heap a its.toArray/\xs.length<=o_:=by
 rcases h with h|⟨o,its,n,S,U,J,Y,r⟩
 .obtain⟨z,its,r,p⟩:=h.ok I.hok;exact⟨its,r,p,z⟩
 .refine⟨its.toList,r,⟨o,I.kIn a o S,U,n,by simpa using J⟩,?_⟩
  have e:=r.length;simp only[DF]at e;lia
def B6.xc(I:B6 X B2 σ H s)(h:SqL X.K H a xs)(h':SqL X.K H a ys):xs=ys:=by
 obtain⟨its,r,⟨o,n,e,_,_,d⟩,_⟩:=I.list h;obtain⟨its',r',⟨o',S,J,_,_,d'⟩,_⟩:=I.list h';rw[e]at J;cases J;rw[d]at d';injection d' with d1 _
 have:its=its':=by simpa using Gx JB d1
 subst this;exact r.inj r'
def B6.jO(I:B6 X B2 σ H s)(h:SqT X.K H a xs)(h':SqT X.K H a ys):xs=ys:=by
 obtain⟨its,r,⟨o,e,_,n,d⟩,_⟩:=I.tuple h;obtain⟨its',r',⟨o',J,_,S,d'⟩,_⟩:=I.tuple h';rw[e]at J;cases J;rw[d]at d';injection d' with d1 _
 have:its=its':=by simpa using Gx JB d1
 subst this;exact r.inj r'
end
noncomputable abbrev Cx.uK(X:Cx)(E:Vp):Cx:={X with xe:=E}
abbrev Cx.nox(X:Cx):Cx:=X.uK λ_ _=>False
theorem Cx.Ok.uK{X:Cx}(I:X.Ok)(E:Vp):(X.uK E).Ok:=
 ⟨I.mod,I.kind,I.glob,I.blt,I.above,I.inj,I.has,I.cab,I.hd,I.frames,I.stk,I.exf,I.bs,I.bsz,I.noex,I.exfs,I.tZ,I.frf⟩
def Cx.Ok.ip(I:(X.uK E).Ok):X.Ok:=
 ⟨I.mod,I.kind,I.glob,I.blt,I.above,I.inj,I.has,I.cab,I.hd,I.frames,I.stk,I.exf,I.bs,I.bsz,I.noex,I.exfs,I.tZ,I.frf⟩
section
variable{s:k_}
theorem B6.uK(I:B6 X B2 σ H s)(E:Vp):B6 (X.uK E) B2 σ H s:=⟨I.ok.uK E,I.os,I.bare,I.base,I.loc,I.cell,I.free,I.freeC,I.pin,I.hok,I.len⟩
theorem B6.ip(I:B6 (X.uK E) B2 σ H s):B6 X B2 σ H s:=⟨I.ok.ip,I.os,I.bare,I.base,I.loc,I.cell,I.free,I.freeC,I.pin,I.hok,I.len⟩
theorem SP.ip{D:Ends}{f:Flow}{s':k_}(h:SP (X.uK E) B2 D f s'):SP X B2 D f s':=by
 cases f with
 |next=>obtain⟨σ',H',I,q⟩:=h;exact⟨σ',H',I.ip,q⟩
 |brk=>obtain⟨σ',H',I,q⟩:=h;exact⟨σ',H',I.ip,q⟩
 |cont=>obtain⟨σ',H',I,q⟩:=h;exact⟨σ',H',I.ip,q⟩
 |ret u=>obtain⟨v,σ',H',I,r,q⟩:=h;exact⟨v,σ',H',I.ip,r,q⟩
theorem PT.nox{e:Em}{t:TT}(h:PT X.nox e t):PT X e t:=λB2 s σ H Q I hw=>DX (h B2 s σ H Q (I.uK _) hw) (λ_ _ ⟨H',J,q⟩=>⟨H',J.ip,q⟩) λ_ _ z=>DK z
theorem PSs.nox{st:List Ei}{t:TS}(h:PSs X.nox st t):PSs X st t:=λB2 s σ H D I hw=>DX (h B2 s σ H D (I.uK _) hw) (λ_ _ q=>q.ip) λ_ _ z=>DK z
end
section
variable{st:Ei}{rest:List Ei}{t u:TS}
def tNext:TS:=λD σ H=>D.nx σ H
def tSeq(t u:TS):TS:=λD σ H=>t {D with nx:=u D} σ H
def AJ:PSs X [] tNext:=λ_ _ σ H _ I h=>Hw ⟨σ,H,I,h⟩
def iV(h1:PS X st t)(h2:PSs X rest u):PSs X (st::rest) (tSeq t u):=by
 intro B2 s σ H D I h;refine KG (E' (h1 B2 s σ H {D with nx:=u D} I h) λf J q=>?_);cases f with
 |next=>obtain⟨σ',H',S,q⟩:=q;exact h2 B2 J σ' H' D S q
 |ret v=>exact q|brk=>exact q|cont=>exact q
def qN(h1:PS X st t):PSs X [st] t:=by
 intro B2 s σ H D I h;refine KG (E' (h1 B2 s σ H D I h) λf J q=>?_);cases f with
 |next=>exact Hw q|ret v=>exact q|brk=>exact q|cont=>exact q
def B6.quiet{s:k_}(I:B6 X B2 σ H s):interactive X.env=c_:=by simp[interactive,I.ok.kind]
def yA(te:TE):TS:=λD σ H=>te σ H λ_ H1=>D.nx σ H1
def mT(U:PE X e te)(J: ~~~(EV e f_ pos.line X.env=ER c_)):PS X (.Expr e pos) (yA te):=by intro B2 s σ H D I h;refine wpAny_Expr_any (E' (U B2 s σ H _ I h) λv a S=>?_) I.quiet J;obtain⟨x,H1,Y,b,q1⟩:=S;exact⟨σ,H1,Y,q1⟩
noncomputable def tRet(te:TE):TS:=λD σ H=>te σ H D.rt
def ps_ret(U:PE X e te):PS X (.Return (a_ e) pos) (tRet te):=by intro B2 s σ H D I h;refine wpAny_Return_some (E' (U B2 s σ H _ I h) λv a S=>?_);obtain⟨x,H1,Y,J,q1⟩:=S;exact⟨x,σ,H1,Y,J,q1⟩
noncomputable def tIfS(c:TT)(t u:TS):TS:=λD σ H=>c σ H λb H1=>if b=e_ then t D σ H1 else u D σ H1
def ps_if{a b:List Ei}{tc:TT}(Y:PT X c tc)(f:PSs X a t)(e:PSs X b u):PS X (.If c a b pos) (tIfS tc t u):=by
 intro B2 s σ H D I h;refine wpAny_If (E' (Y B2 s σ H _ I h) λd J U=>?_);obtain⟨H1,S,q1⟩:=U;cases d with
 |true=>exact f B2 J σ H1 D S q1|false=>exact e B2 J σ H1 D S q1
noncomputable def tNever:TS:=λ_ _ _=>False
def AK{sts:List Ei}:PSs X sts tNever:=λ_ _ _ _ _ _ h=>h.elim
end
abbrev TG:=V->St->Hp->(St->Hp->Prop)->Prop
abbrev TGs:=aB->St->Hp->(St->Hp->Prop)->Prop
def PG(X:Cx)(I:Em)(t:TG):Prop:=
 ∀(B2:Pn) (s:k_) (σ:St) (H:Hp) (v:V) (u:g_) (Q:St->Hp->Prop),B6 X B2 σ H s->C' v u->t v σ H Q ->
  w_ (B_ X.prog X.w) X.A (Hx I X.env u) (λ_ s'=>∃σ' H',B6 X B2 σ' H' s'/\Q σ' H') X.xe s
def PGs(X:Cx)(ts:List Em)(t:TGs):Prop:=
 ∀(B2:Pn) (s:k_) (σ:St) (H:Hp) (vs:aB) (us:aM) (Q:St->Hp->Prop),B6 X B2 σ H s->D' vs us->t vs σ H Q ->
  w_ (B_ X.prog X.w) X.A (assignInOrder ((Fe ts X.env).map (·.2)) us) (λ_ s'=>∃σ' H',B6 X B2 σ' H' s'/\Q σ' H') X.xe s
abbrev TSet:=V->V->V->Hp->(Hp->Prop)->Prop
def PSet(X:Cx)(t:TSet):Prop:=
 ∀(B2:Pn) (s:k_) (σ:St) (H:Hp) (o i v:V) (I J u:g_) (Q:Hp->Prop),B6 X B2 σ H s->C' o I->C' i J->C' v u->t o i v H Q ->
  w_ (B_ X.prog X.w) X.A (NF I J u) (λ_ s'=>∃H',B6 X B2 σ H' s'/\Q H') X.xe s
noncomputable def rC(i:Nat):TG:=λv σ H Q=>Q (σ.set i (a_ v)) H
def vg(U:X.N.Nodup)(hi:X.N[i]?=a_ x)(J:Loc X.env.scope x)(S:autoParam (X.fn x=e_\/X.env.scope.names.lookup x=a_ .local) Jq3):PG X (.Name x pos) (rC i):=by intro B2 s σ H v u Q I r h;exact NB (m8 I U hi J r (λs' Y=>⟨_,H,Y,h⟩) S)
noncomputable def gNil:TGs:=λvs σ H Q=>vs=[]/\Q σ H
noncomputable def gCons(t:TG)(u:TGs):TGs:=λvs σ H Q=>∃v r,vs=v::r/\t v σ H λσ' H'=>u r σ' H' Q
def pgs_nil:PGs X [] gNil:=by intro B2 s σ H vs us Q I r h;obtain⟨e,h⟩:=h;subst e;cases r;exact assignInOrder_nil ⟨σ,H,I,h⟩
def wN{t:TG}{u:TGs}(h1:PG X e t)(h2:PGs X es u)(Y: ~~~((Fe (e::es) X.env).map (·.2)=Hx e X.env::(Fe es X.env).map (·.2))):PGs X (e::es) (gCons t u):=by
 intro B2 s σ H vs us Q I r h;obtain⟨v,c,e1,h⟩:=h;subst e1;cases r with
 |cons r U=>rw[Y];refine assignInOrder_cons (E' (h1 B2 s σ H _ _ _ I r h) λ_ S a=>?_);obtain⟨J,H1,b,q1⟩:=a;exact h2 B2 S J H1 _ _ Q b U q1
def gTup(K:Fg)(n:Nat)(t:TGs):TG:=λv σ H Q=>∃a xs,v=.ref a/\SqT K H a xs/\xs.length=n/\t xs σ H Q
def pg_tup{t:TGs}(g:X.calm=e_)(h:PGs X es t)(d: ~~~((Fe es X.env).length=n))(J: ~~~((Fe es X.env).findIdx? (·.1)=f_)):PG X (.Tuple es k pos) (gTup X.K n t):=by intro B2 s σ H v u Q I r hw;obtain⟨a,xs,e1,c,f,hw⟩:=hw;subst e1;cases r;obtain⟨its,S,Y,j⟩:=I.tuple c;refine assign_Tuple_tuple (I.ok.hd g) Y (by simp[d,<- f,S.length]) J λh' U=>?_;have i:B6 X B2 σ H {s with heap:=h'}:=I.kept (t':=s.toks) λb o e=>U b o (De (t_ e)) e;exact h B2 _ σ H xs _ Q i (by simpa using S) hw
def gSub(to I:TE)(t:TSet):TG:=λv σ H Q=>to σ H λo H1=>I σ H1 λi H2=>t o i v H2 λJ=>Q σ J
def pg_sub{o i:Em}{to Y:TE}{t:TSet}(f:PE X o to)(hi:PE X i Y)(e:PSet X t)(g:autoParam (∀v,Hx (.Subscript o i pos) X.env v=(do
   let J <- Gg [v] (Dh o X.env)
   let S <- Gg [v,J] (Dh i X.env)
   IV pos
   Gg [v,J,S] (NF J S v)
   release [v,J,S] [])) Jq5):PG X (.Subscript o i pos) (gSub to Y t):=by
 intro B2 s σ H v u Q I r h;rw[g];refine b_ (Ez (E' (f B2 s σ H _ I h) λJ b U=>?_));obtain⟨x,H1,l,c,q1⟩:=U;refine b_ (Ez (E' (hi B2 b σ H1 _ l q1) λS a U=>?_));obtain⟨y,H2,k,r2,q2⟩:=U;refine b_ (LA (b_ (Ez (E' (e B2 a σ H2 x y v J S u _ k c r2 r q2) λ_ n U=>?_))));obtain⟨m,j,d⟩:=U;exact wpAny_release ⟨σ,m,j,d⟩
def tAsg(te:TE)(g:TG):TS:=λD σ H=>te σ H λx H1=>g x σ H1 D.nx
def ps_asg{g:TG}(b:PE X e te)(a:PG X tg g)(U: ~~~(LD [tg] e pos.line X.env=ER c_))(hw: ~~~(LF [tg] e X.env=ER f_))(h1: ~~~((Fe [tg] X.env).map (·.2)=[Hx tg X.env])):PS X (.Assign [tg] e pos) (tAsg te g):=by intro B2 s σ H D I h;refine wpAny_Assign_stores (E' (b B2 s σ H _ I h) λv J Y=>?_) U hw;obtain⟨x,H1,c,S,q1⟩:=Y;rw[h1];exact E' (a B2 J σ H1 x v _ c S q1) λ_ d q=>q
def ps_set(c:X.N.Nodup)(hi:X.N[i]?=a_ x)(S:Loc X.env.scope x)(b:PE X e te)(U: ~~~(EV e (a_ (.Name x pos')) pos.line X.env=ER c_))(a:autoParam (X.fn x=e_\/X.env.scope.names.lookup x=a_ .local) Jq3):
  PS X (.Assign [.Name x pos'] e pos) (tAsg te (rC i)):=by
 intro B2 s σ H D I h;refine wpAny_Assign_Name (E' (b B2 s σ H _ I h) λv j Y=>?_) U;obtain⟨y,H1,f,J,q1⟩:=Y;exact m8 f c hi S J (λg d=>⟨_,H1,d,q1⟩) a
structure It where
 go:Nat->Hp->Prop
 yld:Nat->Hp->V->Hp->Prop
 stop:Nat->Hp->Prop
def A0(X:Cx)(B2:Pn)(H:Hp)(b:i_):Prop:=
 H b=f_/\b≠X.env.locals/\b∉X.fs/\(b∈X.ex\/X.s₀.heap.objs.size<=b)/\(∀x c,X.env.cells.lookup x=a_ c->c≠b)/\∀p∈X.pn++B2,p.1≠b
def B6.fpOk{s:k_}(I:B6 X B2 σ H s)(J:s.heap.objs.size<=b)(U:H' b=f_):A0 X B2 H' b:=by
 refine⟨U,E4 (CZ I.lt J),I.nofs J,.inr (DJ I.sz J),λx c e z=>?_,λp S z=>?_⟩
 .obtain⟨v,q⟩:=I.cell x c e;exact CQ (CZ q.lt (by rw[z];exact J)) (Ee _)
 .exact CQ (CZ (t_ (I.pin p S).1) (by rw[z];exact J)) (Ee _)
structure Turn(P:D0)(w:Ew)(K:Fg)(tg:Em)(J:It)(fp:List i_)(it:i_)(tn:Nat->Du->Prop):Prop where
 mem:it∈fp
 obj:∀i h,tn i h->∀b∈fp,∃o,h.get? b=a_ o/\∀v,o.data≠.cell v
 keep:∀i h h',tn i h->(∀b∈fp,∀o,h.get? b=a_ o->h'.get? b=a_ o)->tn i h'
 item:∀(X:Cx),X.prog=P->X.w=w->X.K=K->X.calm=e_->∀(i:Nat) (B2:Pn) (s:k_) (σ:St) (H:Hp) (E:Vp),B6 X B2 σ H s->(∀b∈fp,A0 X B2 H b)->tn i s.heap->J.go i H ->
  w_ (B_ P w) X.A (G9 (.ref it)) (λr s1=>∃u,r=a_ u /\
   w_ (B_ P w) X.A (IZ tg (.ref it) u) (λ_ s2=>∃x H',B6 X B2 σ H' s2/\C' x u/\J.yld i H x H'/\tn (i+1) s2.heap/\∀b∈fp,H' b=f_) E s1) E s
 done:∀(X:Cx),X.prog=P->X.w=w->X.K=K->X.calm=e_->∀(i:Nat) (B2:Pn) (s:k_) (σ:St) (H:Hp) (E:Vp),B6 X B2 σ H s->(∀b∈fp,A0 X B2 H b)->tn i s.heap->J.stop i H ->
  w_ (B_ P w) X.A (G9 (.ref it)) (λr s1=>r=f_/\B6 X B2 σ H s1) E s
 self:∀(A:ES) (i:Nat) (s:k_) (Q:Vp) (E:Vp),tn i s.heap->Q (.ref it) s->w_ (B_ P w) A (Nl (.ref it)) Q E s
abbrev TI:=St->Hp->(It->Hp->Prop)->Prop
def PIE(X:Cx)(B2:Pn)(σ:St)(tg:Em)(R:It->Hp->Prop)(I:g_)(U:k_):Prop:=
 ∃(Y:i_) (fp:List i_) (S:Nat->Du->Prop) (J:It) (H':Hp),I=.ref Y/\B6 X B2 σ H' U/\Turn X.prog X.w X.K tg J fp Y S/\S 0 U.heap/\(∀b∈fp,A0 X B2 H' b)/\R J H'
def PI(X:Cx)(tg iter:Em)(wi:TI):Prop:=
 ∀(B2:Pn) (s:k_) (σ:St) (H:Hp) (R:It->Hp->Prop),B6 X B2 σ H s->wi σ H R ->
  w_ (B_ X.prog X.w) X.A (Dh iter X.env) (λv I=>w_ (B_ X.prog X.w) X.A (Nl v) (PIE X B2 σ tg R) X.xe I) X.xe s
def go_of{M : Kl}{A : ES}{E : g_ -> k_ -> Prop}{s : k_}{tg : Em}{J : i_}{u : g_}{o : IB}{n : String}{vs : Array g_}{Q : Unit -> k_ -> Prop}(S : s.heap.get? J = a_ o)(Y : o.cls = .type n)(hd : o.data = .fields vs)(U : ["enumerate", "zip", "dict_itemiterator", "dict_reverseitemiterator", "odict_iterator", "itertools.zip_longest", "itertools.pairwise"].contains n = c_)(I : Q () s): w_ M A (IZ tg (.ref J) u) Q E s := by
  unfold IZ;cases tg <;> first
    | exact h_ I
    | (cases u <;> first
        | exact h_ I
        | (refine b_ (J7 S ?_)
           rw[Y,hd];show w_ M A (if (["enumerate", "zip", "dict_itemiterator", "dict_reverseitemiterator", "odict_iterator", "itertools.zip_longest", "itertools.pairwise"].contains n && vs[0]?== a_ (Fd _)) = e_ then _ else _) Q E s;rw[l_ (by intro h; rw[U,KA]at h; cases h)];exact h_ I))
def Itl(K:Fg)(a:i_):It:=
 ⟨λi H=>∃xs x,SqL K H a xs/\xs[i]?=a_ x,λi H x H'=>H'=H/\∀xs,SqL K H a xs->xs[i]?=a_ x,λi H=>∃xs,SqL K H a xs/\xs.length<=i⟩
def Itt(K:Fg)(a:i_):It:=
 ⟨λi H=>∃xs x,SqT K H a xs/\xs[i]?=a_ x,λi H x H'=>H'=H/\∀xs,SqT K H a xs->xs[i]?=a_ x,λi H=>∃xs,SqT K H a xs/\xs.length<=i⟩
noncomputable def Itr(lo:Int)(n:Nat):It:=⟨λi _=>i<n,λi H x H'=>H'=H/\x=.int (lo+i),λi _=>n<=i⟩
theorem sA(a J:i_):Turn P w K tg (Itl K a) [J] J (λi h=>h.IsListIter J a i) where
 mem:=by simp
 obj:=λi h st b S=>by
  have e:b=J:=by simpa using S
  subst e;obtain⟨o,e,c,d⟩:=st;exact⟨o,e,λv z=>by rw[d]at z;cases z⟩
 keep:=λi h h' st k=>st.at λo e=>k J ad o e
 item:=by intro X m hw n t i B2 s σ H E I f st l;subst m hw n;obtain⟨xs,x,Y,j⟩:=l;obtain⟨its,g,p,B⟩:=I.list Y;obtain⟨u,D,A⟩:=g.get j;obtain⟨r,q,F,f3,f4,f5⟩:=f J ad;refine Me st p.isList (x:=u) (by simpa using D) λh' U y=>?_;have G:B6 X B2 σ H {s with heap:=h'}:=I.turned (t':=s.toks) (λb o S e=>(y.2 b S).trans e) r q f3 f4 f5;obtain⟨o,e,c,d⟩:=id U;exact⟨u,rfl,go_of (s:={s with heap:=h'}) e c d ag ⟨x,H,G,A,⟨rfl,λys C=>by rw[I.xc C Y];exact j⟩,U,λb S=>(f b S).1⟩⟩
 done:=by intro X m hw n t i B2 s σ H E I f st l;subst m hw n;obtain⟨xs,Y,j⟩:=l;obtain⟨its,g,p,B⟩:=I.list Y;obtain⟨r,q,F,f3,f4,f5⟩:=f J ad;have L:=g.length;exact Mz (I.ok.hd t) st p.isList (by simp;lia) λh' eb=>⟨rfl,I.turned (t':=s.toks) (λb o S e=>eb b o S e) r q f3 f4 f5⟩
 self:=λ_ _ _ _ _ st h=>wpAny_pyIter_listiter st h
theorem yv(a J:i_):Turn P w K tg (Itt K a) [J] J (λi h=>h.IsTupleIter J a i) where
 mem:=by simp
 obj:=λi h st b S=>by
  have e:b=J:=by simpa using S
  subst e;obtain⟨o,e,c,d⟩:=st;exact⟨o,e,λv z=>by rw[d]at z;cases z⟩
 keep:=λi h h' st k=>st.at λo e=>k J ad o e
 item:=by intro X m hw n t i B2 s σ H E I f st l;subst m hw n;obtain⟨xs,x,Y,j⟩:=l;obtain⟨its,g,p,B⟩:=I.tuple Y;obtain⟨u,D,A⟩:=g.get j;obtain⟨r,q,F,f3,f4,f5⟩:=f J ad;refine wpAny_pyNext_tuple_item st (show s.heap.IsTuple a its.toArray from p) (x:=u) (by simpa using D) λh' U y=>?_;have G:B6 X B2 σ H {s with heap:=h'}:=I.turned (t':=s.toks) (λb o S e=>(y.2 b S).trans e) r q f3 f4 f5;obtain⟨o,e,c,d⟩:=id U;exact⟨u,rfl,go_of (s:={s with heap:=h'}) e c d ag ⟨x,H,G,A,⟨rfl,λys C=>by rw[I.jO C Y];exact j⟩,U,λb S=>(f b S).1⟩⟩
 done:=by intro X m hw n t i B2 s σ H E I f st l;subst m hw n;obtain⟨xs,Y,j⟩:=l;obtain⟨its,g,p,B⟩:=I.tuple Y;obtain⟨r,q,F,f3,f4,f5⟩:=f J ad;have L:=g.length;exact wpAny_pyNext_tuple_end (I.ok.hd t) st (show s.heap.IsTuple a its.toArray from p) (by simp;lia) λh' eb=>⟨rfl,I.turned (t':=s.toks) (λb o S e=>eb b o S e) r q f3 f4 f5⟩
 self:=λ_ _ _ _ _ st h=>wpAny_pyIter_tupleiter st h
theorem yw(J:i_)(lo:Int)(n:Nat):Turn P w K tg (Itr lo n) [J] J (λi h=>IsRangeIter h J (lo+(i:Nat)*1) ((n:Int)-(i:Nat)) 1) where
 mem:=by simp
 obj:=λi h st b S=>by
  have e:b=J:=by simpa using S
  subst e;exact⟨_,st,λv z=>by have l:Data.fields _=Data.cell v:=z;cases l⟩
 keep:=λi h h' st k=>k J ad _ st
 item:=by
  intro X d hw f c i B2 s σ H E I Y st a;subst d hw f;obtain⟨j,g,p,f3,f4,f5⟩:=Y J ad;have W:=Walks.range (prog:=X.prog) (w:=X.w) (I.ok.hd c) J lo 1 n;refine W.item i s _ _ a st λv h' tk hv U m=>?_;obtain⟨t,rfl⟩:=hv;have q:B6 X B2 σ H {s with heap:=h',toks:=tk}:=I.turned (λb o S e=>m b o (by simpa using S) e) j g f3 f4 f5;refine⟨_,rfl,go_of (s:={s with heap:=h',toks:=tk}) (n:="range_iterator") U rfl rfl ag ⟨.int (lo+i),H,q,⟨t,?_⟩,⟨rfl,rfl⟩,U,λb S=>(Y b S).1⟩⟩
  rw[HK]
 done:=by intro X d hw f c i B2 s σ H E I Y st a;subst d hw f;obtain⟨j,g,p,f3,f4,f5⟩:=Y J ad;exact wpAny_pyNext_range_end (I.ok.hd c) st (by have:n<=i:=a;lia) λh' eb=>⟨rfl,I.turned (t':=s.toks) (λb o S e=>eb b o S e) j g f3 f4 f5⟩
 self:=λ_ _ _ _ _ st h=>wpAny_pyIter_rangeiter st h
theorem wI{s:k_}{R:It->Hp->Prop}{lo hi:Int}{t u v:Tok}{tk:Nat}(I:B6 X B2 σ H s)(h1: -(2^62)<=lo)(h2:lo<2^62)(Y: -(2^62)<=hi)(U:hi<2^62)(q:R (Itr lo (hi-lo).toNat) H):w_ (B_ X.prog X.w) X.A (Nl (.ref s.heap.objs.size)) (PIE X B2 σ tg R) E {s with heap:=s.heap.push {cls:=.type "range",data:=.fields #[.int lo t,.int hi u,.int 1 v]},toks:=tk}:=by
 refine wpAny_pyIter_range (IsRange.new ..) (NW h1 h2 Y U) ?_;have J:B6 X B2 σ H {s with heap:=s.heap.push {cls:=.type "range",data:=.fields #[.int lo t,.int hi u,.int 1 v]},toks:=tk}:=I.kept λb o e=>d_ _ e;refine⟨(s.heap.push {cls:=.type "range",data:=.fields #[.int lo t,.int hi u,.int 1 v]}).objs.size,[(s.heap.push {cls:=.type "range",data:=.fields #[.int lo t,.int hi u,.int 1 v]}).objs.size],_,_,H,rfl,
  J.kept (t':=tk) λb o e=>d_ _ e,yw _ lo (hi-lo).toNat,?_,λb S=>?_,q⟩
 .have e1:lo+((0:Nat):Int)*1=lo:=by simp
  have e2:(((hi-lo).toNat:Nat):Int)-((0:Nat):Int)=Gb lo hi 1:=by rw[LH];split<;>lia
  show IsRangeIter _ _ (lo+((0:Nat):Int)*1) ((((hi-lo).toNat:Nat):Int)-((0:Nat):Int)) 1;rw[e1,e2];exact s_ _ rfl
 .have e:b=(s.heap.push {cls:=.type "range",data:=.fields #[.int lo t,.int hi u,.int 1 v]}).objs.size:=by simpa using S
  subst e;exact J.fpOk (m_ _) (J.hok.fresh (m_ _))
def iRng1(ta:TA):TI:=λσ H R=>ta σ H λvs H1=>∃j:Int,vs=[.int j]/\ -(2^62)<=j/\j<2^62/\R (Itr 0 j.toNat) H1
def iRng2(ta:TA):TI:=λσ H R=>ta σ H λvs H1=>∃i j:Int,vs=[.int i,.int j]/\(-(2^62)<=i/\i<2^62/\ -(2^62)<=j/\j<2^62)/\R (Itr i (j-i).toNat) H1
theorem AO{a:Em}{ta:TA}(c:Gl X "range")(b:X.mg "range"=f_)(d:PA X [a] ta)(U: ~~~(j_ [a] X.env=[(c_,Dh a X.env)])):PI X tg (.Call (.Name "range" p) [a] [] pos) (iRng1 ta):=by
 intro B2 s σ H R I h;refine M1 (jk I c b Lm (D5 (E' (d pos B2 s σ H _ I h) λus g Y=>?_) U rfl));obtain⟨vs,H1,f,S,q1⟩:=Y;obtain⟨j,e,q1,q2,q⟩:=q1;subst e;cases S with
 |cons r J=>cases J;obtain⟨t,rfl⟩:=r;exact call_range_1 (wI f ac ac q1 q2 (by simpa using q))
def AN{a b:Em}{ta:TA}(k:Gl X "range")(g:X.mg "range"=f_)(l:PA X [a,b] ta)(d: ~~~(j_ [a,b] X.env=[(c_,Dh a X.env),(c_,Dh b X.env)]))(J: ~~~(j_ [b] X.env=[(c_,Dh b X.env)])):
  PI X tg (.Call (.Name "range" p) [a,b] [] pos) (iRng2 ta):=by
 intro B2 s σ H R I h;refine M1 (jk I k g Lm (D5 (E' (l pos B2 s σ H _ I h) λus n f=>?_) (by rw[d,J]) (by rw[J];rfl)));obtain⟨vs,H1,m,U,q1⟩:=f;obtain⟨i,j,e,⟨q1,q2,c,Y⟩,q⟩:=q1;subst e;cases U with
 |cons r S=>
  cases S with
  |cons r' S=>cases S;obtain⟨t,rfl⟩:=r;obtain⟨t',rfl⟩:=r';exact call_range_2 (wI m q1 q2 c Y q)
def tFor(wi:TI)(g:TG)(tb:TS):TS:=λD σ H=>wi σ H λJ H1=>∃W:Nat->Nat->St->Hp->Prop,(∃m,W 0 m σ H1)/\∀i m σ H,W i m σ H ->
 (J.stop i H/\D.nx σ H)\/(J.go i H/\∃N:St->Hp->Prop,(∀σ' H',N σ' H'->∃S,S<m/\W (i+1) S σ' H')/\∀x H',J.yld i H x H'->g x σ H' λI H2=>tb {D with nx:=N,ct:=N,bk:=D.nx} I H2)
def tj(fp:List i_)(h:Du):Pn:=fp.filterMap λb=>(h.get? b).map λo=>(b,o)
def iX{o:IB}(I:b∈fp)(e:h.get? b=a_ o):(b,o)∈tj fp h:=FR.mpr ⟨b,I,by rw[e];rfl⟩
def B0{p:i_×IB}(I:p∈tj fp h):p.1∈fp/\h.get? p.1=a_ p.2:=by
 obtain⟨b,J,e⟩:=FR.mp I;cases q:h.get? b with
 |none=>rw[q]at e;cases e|some o=>rw[q]at e;have S:(b,o)=p:=Dl e;subst S;exact⟨J,q⟩
def B6.pinned{s:k_}(I:B6 X B2 σ H s)(a:∀b∈fp,A0 X B2 H b)(Y:∀b∈fp,∃o,s.heap.get? b=a_ o/\∀v,o.data≠.cell v):B6 X (B2++tj fp s.heap) σ H s:=
 I.qO λp U=>(DM.mp U).elim (λz=>I.pin p (Dc _ z)) λz=>by obtain⟨J,e⟩:=B0 z;obtain⟨g,f,c,_⟩:=a p.1 J;obtain⟨o,S,d⟩:=Y p.1 J;rw[e]at S;cases S;exact⟨e,g,f,c,d⟩
def B6.qv{pl:Pn}{s:k_}(I:B6 X (B2++pl) σ H s):B6 X B2 σ H s:=I.qO λp J=>I.pin p (Dc _ (Et _ J))
theorem ps_for{iter:Em}{wi:TI}{g:TG}{tb:TS}(U:PassesOwn (B_ X.prog X.w) X.A X.env X.xe)(R:X.calm=e_)(hi:PI X tg iter wi)(hg:PG X tg g)(c:PSs X body tb)(hs:autoParam (∀x,Gh iter X.env x=ER x) Jq5):PS X (.For tg iter body [] pos) (tFor wi g tb):=by
 intro B2 s σ H D I h;refine wpAny_For (E' (hi B2 s σ H _ I h) λv s1 h1=>E' h1 λitv s2 h2=>?_) hs;obtain⟨it,fp,O,J,H2,e,I2,T,E,Z,W,⟨m0,w0⟩,t⟩:=h2;subst e;have a:∀{H':Hp},(∀b∈fp,H' b=f_)->∀b∈fp,A0 X B2 H' b:=λhn b c=>⟨hn b c,(Z b c).2⟩
 refine codeAny_forLoop_any (λn s'=>∃i σ' H',B6 X B2 σ' H' s'/\O i s'.heap/\(∀b∈fp,H' b=f_)/\W i n σ' H') ?_ m0 ⟨0,σ,H2,I2,E,λb c=>(Z b c).1,w0⟩;rintro n Q ⟨i,Y,B,I3,y,A,w3⟩;rcases t i n Y B w3 with⟨w,qn⟩|⟨go,N,hN,step⟩
 .refine Hv U (E' (T.done X rfl rfl rfl R i B2 Q Y B X.xe I3 (a A) y w) λr s4 U=>?_);obtain⟨G,I4⟩:=U;subst G;exact Hw ⟨Y,B,I4,qn⟩
 .refine Hv U (E' (T.item X rfl rfl rfl R i B2 Q Y B X.xe I3 (a A) y go) λr s4 U=>?_);obtain⟨u,G,h4⟩:=U;subst G;refine Hv U (E' h4 λ_ P U=>?_);obtain⟨x,H5,I5,r5,y5,q,K⟩:=U;have L:=I5.pinned (a K) (T.obj _ _ q);refine Hv U (E' (hg _ P Y H5 x u _ L r5 (step x H5 y5)) λ_ s6 U=>?_);obtain⟨C,H6,I6,q6⟩:=U;refine Hv U (E' (c _ s6 C H6 _ I6 q6) λf F p=>?_);have j:∀{S:St} {l:Hp},B6 X (B2++tj fp P.heap) S l F->N S l->∃m,m<n/\∃i σ' H',B6 X B2 σ' H' F/\O i F.heap/\(∀b∈fp,H' b=f_)/\W i m σ' H':=λ{S l} k z=>by
   obtain⟨m',hm,w7⟩:=hN S l z;refine⟨m',hm,i+1,S,l,k.qv,T.keep _ _ _ q λb c o e=>(k.pin (b,o) (Dc _ (Dc _ (iX c e)))).1,λb c=>?_,w7⟩
   obtain⟨o,e,d⟩:=T.obj _ _ q b c;exact(k.pin (b,o) (Dc _ (Dc _ (iX c e)))).2.1
  cases f with
  |next=>obtain⟨S,l,k,z⟩:=p;exact j k z
  |cont=>obtain⟨S,l,k,z⟩:=p;exact j k z
  |brk=>obtain⟨S,l,k,p⟩:=p;exact⟨S,l,k.qv,p⟩
  |ret v=>obtain⟨x7,S,l,k,r7,p⟩:=p;exact⟨x7,S,l,k.qv,r7,p⟩
abbrev R2:=V->V->Hp->VK->Prop
variable{r r':R2}
def OpR(X:Cx)(f:g_->g_->Lb g_)(r:R2):Prop:=
 ∀(B2:Pn) (s:k_) (σ:St) (H:Hp) (x y:V) (v u:g_) (Q:VK),B6 X B2 σ H s->C' x v->C' y u->r x y H Q ->
  w_ (B_ X.prog X.w) X.A (f v u) (EP X B2 σ Q) X.xe s
def UnR(X:Cx)(f:g_->Lb g_)(r:V->Hp->VK->Prop):Prop:=
 ∀(B2:Pn) (s:k_) (σ:St) (H:Hp) (x:V) (v:g_) (Q:VK),B6 X B2 σ H s->C' x v->r x H Q ->
  w_ (B_ X.prog X.w) X.A (f v) (EP X B2 σ Q) X.xe s
def cH(X:Cx)(f:g_)(r:aB->Hp->VK->Prop):Prop:=
 ∀(B2:Pn) (s:k_) (σ:St) (H:Hp) (xs:aB) (us:aM) (Q:VK),B6 X B2 σ H s->D' xs us->r xs H Q ->
  w_ (B_ X.prog X.w) X.A (Hk f us) (EP X B2 σ Q) X.xe s
def TruR(X:Cx)(r:V->Hp->(Bool->Hp->Prop)->Prop):Prop:=
 ∀(B2:Pn) (s:k_) (σ:St) (H:Hp) (x:V) (v:g_) (Q:Bool->Hp->Prop),B6 X B2 σ H s->C' x v->r x H Q ->
  w_ (B_ X.prog X.w) X.A (truthy v) (TP X B2 σ Q) X.xe s
noncomputable def tOp(r:R2)(ta tb:TE):TE:=λσ H Q=>ta σ H λx H1=>tb σ H1 λy H2=>r x y H2 Q
noncomputable def tUn(r:V->Hp->VK->Prop)(ta:TE):TE:=λσ H Q=>ta σ H λx H1=>r x H1 Q
noncomputable def rI(C:Int->Int->Prop)(g:Int->Int->V):R2:=λx y H Q=>∃i j,x=.int i/\y=.int j/\C i j/\Q (g i j) H
noncomputable def rI0(g:Int->Int->V):R2:=λx y H Q=>∃i j,x=.int i/\y=.int j/\Q (g i j) H
def rU(g:Int->V):V->Hp->VK->Prop:=λx H Q=>∃i,x=.int i/\Q (g i) H
section
variable{a b:Em}
def binT(i:PE X a ta)(g:PE X b tb){s:k_}{R:V->V->Hp->Prop}(I:B6 X B2 σ H s)(h:ta σ H λx H1=>tb σ H1 λy H2=>R x y H2){Q:Vp}{f:g_->g_->Lb g_}(e:∀v u U x y H2,B6 X B2 σ H2 U->C' x v->C' y u->R x y H2->w_ (B_ X.prog X.w) X.A (f v u) Q X.xe U):
  w_ (B_ X.prog X.w) X.A (Dh a X.env) (λv S=>w_ (B_ X.prog X.w) X.A (Dh b X.env) (λu J=>w_ (B_ X.prog X.w) X.A (f v u) Q X.xe J) X.xe S) X.xe s:=by
 refine E' (i B2 s σ H _ I h) λv c Y=>?_;obtain⟨x,H1,k,d,q1⟩:=Y;refine E' (g B2 c σ H1 _ k q1) λu U Y=>?_;obtain⟨y,H2,j,r2,q2⟩:=Y;exact e v u U x y H2 j d r2 q2
def pe_op{op:Operator}(Y:OpR X (Fq op) r)(d:PE X a ta)(c:PE X b tb):PE X (.BinOp a op b pos) (tOp r ta tb):=by intro B2 s σ H Q I h;exact wpAny_BinOp (binT d c I h λv u J x y H2 e U S q=>Y B2 J σ H2 x y v u Q e U S q)
def pe_un{op:UnaryOp}{r:V->Hp->VK->Prop}(Y:UnR X (NC op) r)(b:PE X a ta):PE X (.UnaryOp op a pos) (tUn r ta):=by intro B2 s σ H Q I h;refine UnaryOp_ (E' (b B2 s σ H _ I h) λv J U=>?_);obtain⟨x,H1,c,S,q1⟩:=U;exact Y B2 J σ H1 x v Q c S q1
def opI{f:g_->g_->Lb g_}{C:Int->Int->Prop}(J:∀(i j:Int) (t u:Tok) (s:k_) (Q:Vp) (E:Vp),C i j->Q (.int (g i j) s.toks) {s with toks:=s.toks+1}->w_ (B_ X.prog X.w) X.A (f (.int i t) (.int j u)) Q E s):
  OpR X f (rI C λi j=>.int (g i j)):=by
 intro B2 s σ H x y v u Q I U S h;obtain⟨i,j,rfl,rfl,Y,q⟩:=h;obtain⟨t,rfl⟩:=U;obtain⟨t',rfl⟩:=S;exact J i j t t' s _ _ Y ⟨.int (g i j),H,I.tok _,⟨_,rfl⟩,q⟩
def opI0{f:g_->g_->Lb g_}(J:∀(i j:Int) (t u:Tok) (s:k_) (Q:Vp) (E:Vp),Q (.int (g i j) s.toks) {s with toks:=s.toks+1}->w_ (B_ X.prog X.w) X.A (f (.int i t) (.int j u)) Q E s):
  OpR X f (rI0 λi j=>.int (g i j)):=by
 intro B2 s σ H x y v u Q I U S h;obtain⟨i,j,rfl,rfl,q⟩:=h;obtain⟨t,rfl⟩:=U;obtain⟨t',rfl⟩:=S;exact J i j t t' s _ _ ⟨.int (g i j),H,I.tok _,⟨_,rfl⟩,q⟩
def opB0{f:g_->g_->Lb g_}{g:Int->Int->Bool}(J:∀(i j:Int) (t u:Tok) (s:k_) (Q:Vp) (E:Vp),Q (.bool (g i j)) s->w_ (B_ X.prog X.w) X.A (f (.int i t) (.int j u)) Q E s):
  OpR X f (rI0 λi j=>.bl (g i j)):=by
 intro B2 s σ H x y v u Q I U S h;obtain⟨i,j,rfl,rfl,q⟩:=h;obtain⟨t,rfl⟩:=U;obtain⟨t',rfl⟩:=S;exact J i j t t' s _ _ ⟨.bl (g i j),H,I,rfl,q⟩
def CMul(i j:Int):Prop:=(-(2^64)<i/\i<2^64)\/(-(2^64)<j/\j<2^64)
def CMul.ok{i j:Int}(h:CMul i j):IntMulOk i j:=by
 rcases h with⟨h1,h2⟩|⟨h1,h2⟩
 .exact .of_left (intBits_le_64 h1 h2)
 .exact .of_right (intBits_le_64 h1 h2)
def op_add:OpR X (Fq .Add) (rI0 λi j=>.int (i+j)):=opI0 λ_ _ _ _ _ _ _ q=>add_int q
def op_sub:OpR X (Fq .Sub) (rI0 λi j=>.int (i-j)):=opI0 λ_ _ _ _ _ _ _ q=>sub_int q
def op_mul:OpR X (Fq .Mult) (rI CMul λi j=>.int (i*j)):=opI λ_ _ _ _ _ _ _ I q=>mul_int q I.ok
theorem op_mod:OpR X (Fq .Mod) (rI (λ_ j=>0<j) λi j=>.int (i%j)):=opI λi j _ _ _ _ _ I q=>by have h1:(0:Int)<j:=I;exact mod_int' ac (by rw[Int.fmod_eq_emod_of_nonneg i ac];exact q)
def unI{f:g_->Lb g_}{g:Int->Int}(J:∀(i:Int) (t:Tok) (s:k_) (Q:Vp) (E:Vp),Q (.int (g i) s.toks) {s with toks:=s.toks+1}->w_ (B_ X.prog X.w) X.A (f (.int i t)) Q E s):
  UnR X f (rU λi=>.int (g i)):=by
 intro B2 s σ H x v Q I S h;obtain⟨i,rfl,q⟩:=h;obtain⟨t,rfl⟩:=S;exact J i t s _ _ ⟨.int (g i),H,I.tok _,⟨_,rfl⟩,q⟩
def un_neg:UnR X (NC .USub) (rU λi=>.int (-i)):=unI λ_ _ _ _ _ q=>neg_int q
end
noncomputable def scal:V->V->Bool
 |.non,.non=>e_|.non,.int _=>e_|.int _,.non=>e_|.non,.bl _=>e_|.bl _,.non=>e_|.non,.str _=>e_|.str _,.non=>e_|.int _,.int _=>e_|.bl _,.bl _=>e_|.str _,.str _=>e_|.byt _,.byt _=>e_|.int _,.str _=>e_|.str _,.int _=>e_|.bl _,.str _=>e_|.str _,.bl _=>e_|_,_=>c_
def rNe:R2:=λx y H Q=>scal x y=e_/\Q (.bl (!decide (x=y))) H
def dec_int{i j:Int}:CL (V.int i=V.int j)=(i==j):=by rw[G8];simp
def dec_bl{i j:Bool}:CL (V.bl i=V.bl j)=(i==j):=by rw[G8];simp
def dec_str{i j:C_}:CL (V.str i=V.str j)=(i==j):=by rw[G8];simp
def dec_byt{i j:Array UInt8}:CL (V.byt i=V.byt j)=(i.toList==j.toList):=by rw[G8];cases i;cases j;simp
section
variable{a b:Em}{tc:TE}
def cI{s:k_}{Q:VK}{k k':Bool}(I:B6 X B2 σ H s)(q:Q (.bl k) H)(e:k=k'):EP X B2 σ Q (.bool k') s:=by subst e;exact⟨.bl k,H,I,rfl,q⟩
def op_ne:OpR X (DQ .NotEq) rNe:=by
 intro B2 s σ H x y v u Q I U J h;obtain⟨S,q⟩:=h;cases x with
 |non=>
  cases U;cases y with
  |non=>cases J;exact PySem.EqNone.ne_none_none (cI I q ad)|bl j=>cases J;exact PySem.EqNone.ne_none_bool (cI I q ad)|int j=>obtain⟨t',rfl⟩:=J;exact PySem.EqNone.ne_none_int (cI I q ad)
  |str j=>obtain⟨t',rfl⟩:=J;exact PySem.EqNone.ne_none_str (cI I q ad)
  |_=>exact CQ (show c_=e_ from S) Dt
 |bl i=>
  cases U;cases y with
  |non=>cases J;exact PySem.EqNone.ne_bool_none (cI I q ad)|bl j=>cases J;exact ne_bool (cI I q (Gx not dec_bl))|str j=>obtain⟨t',rfl⟩:=J;exact N4 (cI I q ad)
  |_=>exact CQ (show c_=e_ from S) Dt
 |int i=>
  obtain⟨t,rfl⟩:=U;cases y with
  |non=>cases J;exact PySem.EqNone.ne_int_none (cI I q ad)|int j=>obtain⟨t',rfl⟩:=J;exact ne_int (cI I q (Gx not dec_int))
  |str j=>obtain⟨t',rfl⟩:=J;exact N3 (cI I q ad)
  |_=>exact CQ (show c_=e_ from S) Dt
 |str i=>
  obtain⟨t,rfl⟩:=U;cases y with
  |non=>cases J;exact PySem.EqNone.ne_str_none (cI I q ad)|bl j=>cases J;exact N2 (cI I q ad)|int j=>obtain⟨t',rfl⟩:=J;exact N1 (cI I q ad)
  |str j=>obtain⟨t',rfl⟩:=J;exact ne_str (cI I q (Gx not dec_str))
  |_=>exact CQ (show c_=e_ from S) Dt
 |byt i=>
  obtain⟨t,rfl⟩:=U;cases y with
  |byt j=>obtain⟨t',rfl⟩:=J;exact PySem.W.ne_bytes (cI I q (Gx not dec_byt))
  |_=>exact CQ (show c_=e_ from S) Dt
 |_=>cases y<;>exact CQ (show c_=e_ from S) Dt
def op_lt:OpR X (DQ .Lt) (rI0 λi j=>.bl (CL (i<j))):=opB0 λ_ _ _ _ _ _ _ q=>M7 q
def op_le:OpR X (DQ .LtE) (rI0 λi j=>.bl (CL (i<=j))):=opB0 λ_ _ _ _ _ _ _ q=>le_int q
def op_gt:OpR X (DQ .Gt) (rI0 λi j=>.bl (CL (j<i))):=opB0 λ_ _ _ _ _ _ _ q=>gt_int q
def op_notN:OpR X (DQ .IsNot) (λx y H Q=>y=.non/\Q (.bl (!decide (x=.non))) H):=by
 intro B2 s σ H x y v u Q I J S h;obtain⟨rfl,q⟩:=h;cases S;refine isnot_none_gen (cI I q ?_);cases x<;>first
  |(cases J;rfl)
  |(obtain⟨t,rfl⟩:=J;rfl)
def OpR.or{f:g_->g_->Lb g_}(h:OpR X f r)(h':OpR X f r'):OpR X f (λx y H Q=>r x y H Q\/r' x y H Q):=by
 intro B2 s σ H x y v u Q I S J q;rcases q with q|q
 .exact h B2 s σ H x y v u Q I S J q
 .exact h' B2 s σ H x y v u Q I S J q
def B9(b:Em)(h:(op≠.In)⁻¹)(h2:(op≠.NotIn)⁻¹):Hf op b=c_:=by
 have e1:(op==CmpOp.In)=c_:=by cases op<;>first|rfl|exact CQ rfl h
 have e2:(op==CmpOp.NotIn)=c_:=by cases op<;>first|rfl|exact CQ rfl h2
 cases b<;>simp[Hf,e1,e2]
def pe_cmpR(Y:OpR X (DQ op) r)(e:PE X a ta)(d:PE X b tb)(c:Hf op b=c_):PE X (.Compare a [op] [b] pos) (tOp r ta tb):=by intro B2 s σ H Q I h;exact wpAny_Compare1 (binT e d I h λv u J x y H2 f U S q=>Y B2 J σ H2 x y v u Q f U S q) c
noncomputable def tTest(t:TE):TT:=λσ H Q=>t σ H λx H'=>∃k,x=.bl k/\Q k H'
def AI(f:OpR X (DQ op) r)(j:PE X a ta)(i:PE X b tb)(g:Hf op b=c_):PT X (.Compare a [op] [b] pos) (tTest (tOp r ta tb)):=by
 intro B2 s σ H Q I h;refine wpAny_isTrue_Compare1 (E' (j B2 s σ H _ I h) λv S ⟨x,H1,n,Y,q1⟩=>E' (i B2 S σ H1 _ n q1) λu J ⟨y,H2,m,r2,q2⟩=>E' (f B2 J σ H2 x y v u _ m Y r2 q2) λc p ⟨z,o,l,U,k,e,d⟩=>?_) g
 subst e;cases U;exact Ep ⟨o,l,d⟩
noncomputable def As(r r':R2)(ta tb tc:TE):TE:=λσ H Q=>ta σ H λx H1=>tb σ H1 λy H2=>r x y H2 λz I=>∃k,z=.bl k /\
 (if k=e_ then tc σ I λJ S=>r' y J S Q else Q (.bl c_) I)
def pe_chain(t:OpR X (DQ op) r)(J:OpR X (DQ op') r')(C:PE X a ta)(B:PE X b tb)(A:PE X c tc)(w:autoParam (LU [op,op'] [b,c]=c_) Jq8):PE X (.Compare a [op,op'] [b,c] pos) (As r r' ta tb tc):=by
 intro B2 s σ H Q I h;refine Compare_chain (E' (C B2 s σ H _ I h) λv m ⟨x,H1,F,p,q1⟩=>chain_link (E' (B B2 m σ H1 _ F q1) λu l ⟨y,H2,E,r2,q2⟩=>E' (t B2 l σ H2 x y v u _ E p r2 q2) λd j ⟨z,Y,U,o,k,e,S⟩=>?_)) w
 subst e;cases o;refine Ep ?_;cases k with
 |false=>exact ite_ff ⟨.bl c_,Y,U,rfl,S⟩|true=>exact ite_tt (chain_last (E' (A B2 j σ Y _ U S) λg i ⟨f,G,D,n,q⟩=>J B2 i σ G y f u g Q D r2 n q))
def pt_chain(C:OpR X (DQ op) r)(S:OpR X (DQ op') r')(G:PE X a ta)(F:PE X b tb)(E:PE X c tc)(D:autoParam (LU [op,op'] [b,c]=c_) Jq8):PT X (.Compare a [op,op'] [b,c] pos) (tTest (As r r' ta tb tc)):=by
 intro B2 s σ H Q I h;refine isTrue_chain (E' (G B2 s σ H _ I h) λv n ⟨x,H1,P,t,q1⟩=>test_link (E' (F B2 n σ H1 _ P q1) λu m ⟨y,H2,O,r2,q2⟩=>E' (C B2 m σ H2 x y v u _ O t r2 q2) λd l ⟨z,f,Y,q,k,e,U⟩=>?_)) D
 subst e;cases q;refine Ep ?_;cases k with
 |false=>obtain⟨k',K,B⟩:=U;cases K;exact ite_ff ⟨f,Y,B⟩
 |true=>refine ite_tt (test_last (E' (E B2 l σ f _ Y U) λi j J=>?_));obtain⟨g,T,N,p,A⟩:=J;refine E' (S B2 j σ T y g u i _ N r2 p A) λd' Z J=>?_;obtain⟨W,R,L,o,k2,e2,w⟩:=J;subst e2;cases o;exact Ep ⟨R,L,w⟩
def TruV(K:Fg)(x:V)(H:Hp)(k:Bool):Prop:=
 match x with
 |.non=>k=c_|.bl b=>k=b|.int i=>k=(i != 0)|.str y=>y.length<=o_/\k=((y.length:Int) != 0)|.byt y=>y.size<=o_/\k=((y.size:Int) != 0)|.ref p=>(∃xs,SqL K H p xs/\k= !xs.isEmpty)\/(∃xs,SqT K H p xs/\k= !xs.isEmpty)\/∃I,H p=a_ (.dK I)/\k= !I.isEmpty
 |_=>False
def zu{I:List (κ×V)}{vs:List (κ×g_)}(r:KV I vs):(!vs.isEmpty)= !I.isEmpty:=by cases r<;>rfl
def pQ{xs:aB}{its:aM}(r:D' xs its):(!its.toArray.isEmpty)= !xs.isEmpty:=by cases r<;>simp
def pL:(o_:Nat)<2^63:=by rw[EK];decide
theorem tru_ok:TruR X (λx H Q=>∃k,TruV X.K x H k/\Q k H):=by
 intro B2 s σ H x v Q I Y h;obtain⟨k,e,q⟩:=h;have j:=pL;have g:o_=16777216:=EK;cases x with
 |non=>cases Y;have J:k=c_:=e;subst J;exact truthy_none ⟨H,I,q⟩|bl b=>cases Y;have J:k=b:=e;subst J;exact Ep ⟨H,I,q⟩|int i=>obtain⟨t,rfl⟩:=Y;have J:k=(i != 0):=e;subst J;exact PySem.P.truthy_int ⟨H,I,q⟩
 |str y=>obtain⟨t,rfl⟩:=Y;obtain⟨d,J⟩:y.length<=o_/\k=((y.length:Int) != 0):=e;subst J;exact PySem.P.truthy_str ac ⟨H,I.tok _,q⟩
 |byt y=>obtain⟨t,rfl⟩:=Y;obtain⟨d,J⟩:y.size<=o_/\k=((y.size:Int) != 0):=e;subst J;exact PySem.W.truthy_bytes ac ⟨H,I.tok _,q⟩
 |ref p=>
  cases Y;have J:(∃xs,SqL X.K H p xs/\k= !xs.isEmpty)\/(∃xs,SqT X.K H p xs/\k= !xs.isEmpty)\/∃S,H p=a_ (.dK S)/\k= !S.isEmpty:=e;rcases J with⟨xs,a,J⟩|⟨xs,a,J⟩|⟨S,a,J⟩
  .subst J;obtain⟨its,r,pl,c⟩:=I.list a;have U:=r.length;exact wpAny_truthy_list pl.isList (by simp only[CJ];lia) ⟨H,I.tok _,by rw[pQ r];exact q⟩
  .subst J;obtain⟨its,r,pl,c⟩:=I.tuple a;have U:=r.length;exact truthy_tuple pl (by simp only[CJ];lia) ⟨H,I.tok _,by rw[pQ r];exact q⟩
  .subst J;obtain⟨c,f,vs,r,m⟩:S.length<=o_/\(p==Ex)=c_/\∃vs,KV S vs/\s.heap.DictOf (vo X.prog X.w) p vs:=I.hok p _ a;have U:S.length=vs.length:=HB r;exact wpAny_truthy_dict f m ac ⟨H,I.tok _,by rw[zu r];exact q⟩
 |_=>exact(show False from e).elim
def pt_truth(c:PE X a ta)(b:∀J,Mh a X.env J=(do let v <- J;IV a.pos;Gg [v] (truthy v))):
  PT X a (λσ H Q=>ta σ H λx H'=>∃k,TruV X.K x H' k/\Q k H'):=by
 intro B2 s σ H Q I h;refine isTrue_plain (E' (c B2 s σ H _ I h) λv S Y=>?_) (b _);obtain⟨x,H1,d,U,q1⟩:=Y;exact tru_ok B2 S σ H1 x v Q d U q1
def yR:OpR X (Fq .Add) (λx y H Q=>∃i j,x=.str i/\y=.str j/\i.length+j.length<=o_/\Q (.str (i++j)) H):=by intro B2 s σ H x y v u Q I S J h;obtain⟨i,j,rfl,rfl,U,q⟩:=h;obtain⟨t,rfl⟩:=S;obtain⟨t',rfl⟩:=J;exact add_str (λt' tk=>⟨.str (i++j),H,I.tok _,⟨_,rfl⟩,q⟩) U
def vals1{x:V}(r:D' [x] us):∃u,us=[u]/\C' x u:=by
 cases r with
 |cons I r2=>cases r2;exact⟨_,rfl,I⟩
def vals2{x:V}(r:D' [x,y] us):∃u I,us=[u,I]/\C' x u/\C' y I:=by
 cases r with
 |cons U r2=>
  cases r2 with
  |cons S J=>cases J;exact⟨_,_,rfl,U,S⟩
def Cg(S:X.calm=e_):cH X (.builtin "max") (λxs H Q=>∃i j,xs=[.int i,.int j]/\Q (.int (if j>i then j else i)) H):=by
 intro B2 s σ H xs us Q I r h;obtain⟨i,j,rfl,q⟩:=h;obtain⟨u,U,rfl,⟨t,rfl⟩,⟨t',rfl⟩⟩:=vals2 r;refine max_two_ints (I.ok.hd S) λh' tk k=>⟨_,H,I.kept k,?_,q⟩
 by_cases J:j>i
 .rw[n_ J,n_ J];exact⟨_,rfl⟩
 .rw[l_ J,l_ J];exact⟨_,rfl⟩
def Ce(S:X.calm=e_):cH X (.builtin "min") (λxs H Q=>∃i j,xs=[.int i,.int j]/\Q (.int (if j<i then j else i)) H):=by
 intro B2 s σ H xs us Q I r h;obtain⟨i,j,rfl,q⟩:=h;obtain⟨u,U,rfl,⟨t,rfl⟩,⟨t',rfl⟩⟩:=vals2 r;refine min_two_ints (I.ok.hd S) λh' tk k=>⟨_,H,I.kept k,?_,q⟩
 by_cases J:j<i
 .rw[n_ J,n_ J];exact⟨_,rfl⟩
 .rw[l_ J,l_ J];exact⟨_,rfl⟩
def Ci:cH X (.type "int") (λxs H Q=>(∃i,xs=[.int i]/\Q (.int i) H)\/∃k,xs=[.bl k]/\Q (.int (if k then 1 else 0)) H):=by
 intro B2 s σ H xs us Q I r h;rcases h with⟨i,rfl,q⟩|⟨k,rfl,q⟩
 .obtain⟨u,rfl,t,rfl⟩:=vals1 r;exact call_int_int ⟨.int i,H,I,⟨_,rfl⟩,q⟩
 .obtain⟨u,rfl,J⟩:=vals1 r;cases J;exact call_int_bool ⟨.int (if k then 1 else 0),H,I.tok _,⟨_,rfl⟩,q⟩
end
structure ObjM(h:Du)(x dx C:i_)(mA:Mq):Prop where
 obj:h.get? x=a_ (Fj C dx)
 ns:h.Ns1 dx mA
 ne:dx≠x
def Bj(n:h.Ns1 dx mA):∃od,h.get? dx=a_ od/\∀name,lookIn name od=a_ (mA name):=by
 obtain⟨o,es,ep,S,hd,Y,_,U⟩:=n;refine⟨o,S,λname=>?_⟩
 have e:=U name;unfold nsFind findBy at e;rw[<- Array.find?_toList]at e;unfold lookIn;rw[hd];dsimp only;split
 .rename_i y q;rw[q]at e;exact Gx a_ e
 .rename_i q;rw[q]at e;have a:es.toList.any (·.refKey)=c_:=by
   rw[List.any_eq_false];intro y J;obtain⟨z,t,I⟩:=Y y (Array.mem_toList_iff.mp J);simp[DictEntry.refKey,I]
  have a':¬es.toList.any (·.refKey)=e_:=by rw[a];exact Dt
  rw[l_ a'];exact Gx a_ e
def ObjM.look{x:i_}(I:ObjM h x dx C mA):∃od,GU h x (Fj C dx) C (a_ od)/\∀name,lookIn name od=a_ (mA name):=
 let ⟨od,J,S⟩:=Bj I.ns
 ⟨od,⟨I.obj,rfl,rfl,J⟩,S⟩
section
variable{s:k_}{x f:i_}{v:g_}
def get_map{S:Bool}{Q:Vp}(X:K.In s.heap)(I:ObjM s.heap x dx C mA)(b:Kj K C name=e_)(a:KJ K C=e_)(c:Dm K (.ref C) name=a_ f_)(hv:mA name=a_ v)(U:LJ v=e_)(h:Q v {s with toks:=s.toks+1}):
  w_ (B_ prog w) A (getAttr (.ref x) name S) Q E s:=by
 obtain⟨od,J,Y⟩:=I.look;exact PySem.W.get_value X J (IH b).1 (PySem.W.findObj_own a c rfl (by rw[Y,hv])) U h
def get_meth{Q:g_×aM->k_->Prop}(X:K.In s.heap)(I:ObjM s.heap x dx C mA)(S:Kj K C name=e_)(a:Dm K (.ref C) name=a_ (a_ (.ref f)))(U:isFn K (.ref f)=e_)(hv:mA name=f_)(h:Q (.ref f,[.ref x]) s):
  w_ (B_ prog w) A (JE (.ref x) name pl) Q E s:=by
 obtain⟨od,J,Y⟩:=I.look;exact PySem.W.method_fn X J (IH S).1 (IH S).2 a (GJ.mp U) (by show(lookIn name od).map (·.isSome)=a_ c_;rw[Y,hv];rfl) h
theorem set_map{ns:List C_}(X:K.In s.heap)(I:ObjM s.heap x dx C mA)(i:Dm K (.ref C) "__setattr__"=a_ (a_ (.builtin "object.__setattr__")))(j:L1 K C=e_)(g:takerIn K C name=a_ f_)(k:KJ K C=e_)(hw:K3 mA ns)(hsz:ns.length<=o_)(h:∀h',ObjM h' x dx C (λy=>if y=name then a_ v else mA y)->FP dx s.heap h'->Q () {s with heap:=h',toks:=s.toks+2}):
  w_ (B_ prog w) A (setAttr (.ref x) name v) Q E s:=by
 obtain⟨od,J,p⟩:=I.look;refine PySem.W.set_plain X J i (PySem.W.osa_open (s:={s with toks:=s.toks+1}) (r:=f_) X J j g λb=>?_);obtain⟨cd,l,d⟩:=PySem.W.any_some k;have f:s.heap.get? x=a_ ⟨.ref C,a_ dx,.plain,#[]⟩:=I.obj;refine b_ (h_ (b_ (b_ (wpAny_loadPart f (b_ (LM (s:={s with toks:=s.toks+1}) (PySem.W.looks_clsIn X l) ?_))))));rw[d];refine h_ (a:=a_ dx) (b_ (h_ (b_ ?_)));refine wpAny_nsSet1 (s:={s with toks:=s.toks+1}) I.ns λh' U S=>?_;obtain⟨o,m,n,Y,c,e⟩:=U.count (PySem.Within.cons name v hw);refine b_ (wpAny_lookBehind Y (by rw[c];exact pastItsLine_dict (DJ e (by rw[CG];lia))) ?_);exact h_ (h _ ⟨(S.2 _ (D6 I.ne)).trans I.obj,U,I.ne⟩ S)
def make_map{R:Mp->k_->Prop}{vs:aM}(X:K.In s.heap)(J:Ml K C=e_)(hi:Dm K (.ref C) "__init__"=a_ (a_ (.ref f)))(S:KI K (.ref f)=a_ (.type "function"))(h:He (B_ prog w) (A.under (.builtin "type.__call__" ⟨.ref C::vs,kw⟩)) (.call (.ref f) ⟨.ref (s.heap.objs.size+1)::vs,kw⟩) (PySem.W.InitBack (s.heap.objs.size+1) R)
   {s with heap:=(s.heap.push EJ).push (Fj C s.heap.objs.size)}):
  He (B_ prog w) A (.call (.ref C) ⟨vs,kw⟩) R s:=by
 obtain⟨U,g,d,t,os⟩:=s;exact PySem.W.make_core (PySem.W.makes_of X J) (Jj X hi) (λI=>PySem.W.bind_fn X I S) (.inl rfl) h
end
def qM(f:C_)(v:V):List (C_×V)->List (C_×V)
 |[]=>[(f,v)]|(g,x)::r=>if g=f then(g,v)::r else(g,x)::qM f v r
theorem ng(f g:C_)(v:V):∀fs:List (C_×V),(qM f v fs).lookup g=if g=f then a_ v else fs.lookup g
 |[]=>by
  show Dr g [(f,v)]=_;by_cases h:g=f
  .have I:(g==f)=e_:=GJ.mpr h;simp only[Dr,I,n_ h]
  .have I:(g==f)=c_:=Fw.mpr h;simp only[Dr,I,l_ h]
 |(k,x)::r=>by
  have S:=ng f g v r;rw[show qM f v ((k,x)::r)=(if k=f then(k,v)::r else(k,x)::qM f v r)from rfl];by_cases J:k=f
  .rw[n_ J];by_cases h:g=k
   .have I:(g==k)=e_:=GJ.mpr h;simp only[Dr,I,n_ (h.trans J)]
   .have I:(g==k)=c_:=Fw.mpr h;simp only[Dr,I,l_ (λe:g=f=>h (e.trans J.symm))]
  .rw[l_ J];by_cases h:g=k
   .have I:(g==k)=e_:=GJ.mpr h;simp only[Dr,I,l_ (λe:g=f=>J (h.symm.trans e))]
   .have I:(g==k)=c_:=Fw.mpr h;simp only[Dr,I];exact S
theorem nj(f:C_)(v:V):∀fs:List (C_×V),f∈(qM f v fs).map (·.1)/\∀g,g∈fs.map (·.1)->g∈(qM f v fs).map (·.1)
 |[]=>⟨by simp[qM],λg h=>by simp at h⟩|(k,x)::r=>by
  obtain⟨S,J⟩:=nj f v r;rw[show qM f v ((k,x)::r)=(if k=f then(k,v)::r else(k,x)::qM f v r)from rfl];by_cases I:k=f
  .rw[n_ I];subst I;exact⟨ad,λg h=>by simpa using h⟩
  .rw[l_ I];refine⟨?_,λg h=>?_⟩
   .rw[u_];exact CS _ S
   .rw[u_]at h ⊢;rcases r_.mp h with e|e
    .exact r_.mpr (.inl e)
    .exact CS _ (J g e)
theorem ni(f:C_)(v:V):∀fs:List (C_×V),(qM f v fs).length<=fs.length+1
 |[]=>by simp[qM]|(k,x)::r=>by
  have J:=ni f v r;rw[show qM f v ((k,x)::r)=(if k=f then(k,v)::r else(k,x)::qM f v r)from rfl];by_cases I:k=f
  .rw[n_ I,CG,CG];lia
  .rw[l_ I,CG,CG];lia
def vU.some_of{o:Option g_}(r:vU (a_ v) o):∃u,o=a_ u/\C' v u:=by
 cases o with
 |none=>exact(show False from r).elim|some u=>exact⟨u,rfl,r⟩
def vU.none_of{o:Option g_}(r:vU f_ o):o=f_:=by
 cases o with
 |none=>rfl|some u=>exact(show False from r).elim
def Bz(r:C' v u):LJ u=e_:=by
 cases v with
 |non=>cases(show u=Dw from r);rfl|bl b=>cases(show u=Jk b from r);rfl|int i=>obtain⟨t,e⟩:=(show ∃t,u=IL i t from r);cases e;rfl
 |str x=>obtain⟨t,e⟩:=(show ∃t,u=Mo x t from r);cases e;rfl
 |byt b=>obtain⟨t,e⟩:=(show ∃t,u=NP b t from r);cases e;rfl
 |flt b=>obtain⟨t,e⟩:=(show ∃t,u=NO b t from r);cases e;rfl
 |ref a=>cases(show u=x_ a from r);rfl|ty n=>cases(show u=EB n from r);rfl
section
variable{fs:List (C_×V)}
def vv(I:HOk P w H h)(e:H a=a_ (.ins C dx fs)):∃mA,ObjM h a dx C mA/\(∀f,vU (fs.lookup f) (mA f))/\K3 mA (fs.map (·.1))/\fs.length<=1000/\H dx=a_ (.own a):=by
 obtain⟨d,z,S,J,mA,n,r,q⟩:=(show dW P w H h a (.ins C dx fs)from I a _ e)
 exact⟨mA,⟨J,n,S⟩,r,q,z,d⟩
end
structure Cls(K:Fg)(C:i_):Prop where
 pg:Kj K C MW=e_
 hd:KJ K C=e_
 po:L1 K C=e_
 sa:Dm K (.ref C) "__setattr__"=a_ (a_ (.builtin "object.__setattr__"))
def Cls.get(c:Cls K C)(f:C_):Kj K C f=e_:=c.pg
def gN(K:Fg)(C:i_)(f:C_):Prop:=Dm K (.ref C) f=a_ f_
def gN.taker{f:C_}(n:gN K C f):takerIn K C f=a_ f_:=by unfold takerIn;rw[show Dm K (.ref C) f=a_ f_ from n];rfl
structure Meth(K:Fg)(C:i_)(m:C_)(f:i_):Prop where
 at_:Dm K (.ref C) m=a_ (a_ (.ref f))
 fn:isFn K (.ref f)=e_
 kp:Gd K (.ref f)=e_
section
variable{s:k_}{fs:List (C_×V)}{f:C_}
def zw{b:Bool}{Q:Vp}(I:B6 X B2 σ H s)(e:H a=a_ (.ins C dx fs))(c:Cls X.K C)(n:gN X.K C f)(l:fs.lookup f=a_ v)(h:∀u s',B6 X B2 σ H s'->C' v u->Q u s'):w_ (B_ X.prog X.w) A (getAttr (.ref a) f b) Q E s:=by obtain⟨mA,O,r,_,_,_⟩:=vv I.hok e;obtain⟨u,S,J⟩:=vU.some_of (v:=v) (o:=mA f) (by rw[<- l];exact r f);exact get_map I.kIn O (c.get f) c.hd n S (Bz J) (h u _ (I.tok _) J)
def pR{g:i_}{Q:g_×aM->k_->Prop}(I:B6 X B2 σ H s)(e:H a=a_ (.ins C dx fs))(c:Cls X.K C)(k:Meth X.K C m g)(l:fs.lookup m=f_)(h:Q (.ref g,[.ref a]) s):w_ (B_ X.prog X.w) A (JE (.ref a) m pl) Q E s:=by obtain⟨mA,O,r,_,_,_⟩:=vv I.hok e;have J:mA m=f_:=vU.none_of (by rw[<- l];exact r m);exact get_meth I.kIn O (c.get m) k.at_ k.fn J h
theorem yC(I:B6 X B2 σ H s)(e:H a=a_ (.ins C dx fs))(c:Cls X.K C)(n:gN X.K C f)(k:fs.length<1000)(U:C' y u)(h:∀s',B6 X B2 σ (upd H a (.ins C dx (qM f y fs))) s'->Q () s'):w_ (B_ X.prog X.w) A (setAttr (.ref a) f u) Q E s:=by
 obtain⟨mA,O,r,wi,_,J⟩:=vv I.hok e;have Y:(fs.map (·.1)).length<=o_:=by rw[q_,EK];lia
 refine set_map I.kIn O c.sa c.po n.taker c.hd wi Y λh' O' S=>h _ ?_;have hd:∃o,h'.get? dx=a_ o:=let ⟨o,_,_,j,_⟩:=O'.ns;⟨o,j⟩;refine I.write (x:=a) (e:=dx) (by rw[e];exact Gz) (.inr J) (λb q i z=>(S.2 b i).trans z) hd ?_;refine⟨by rw[aw O.ne];exact J,?_,O.ne,O'.obj,_,O'.ns,λg=>?_,λg d=>?_⟩
 .have:=ni f y fs;lia
 .show vU ((qM f y fs).lookup g) (if g=f then a_ u else mA g);rw[ng];by_cases q:g=f
  .rw[n_ q,n_ q];exact U
  .rw[l_ q,l_ q];exact r g
 .by_cases q:g=f
  .rw[q];exact(nj f y fs).1
  .refine(nj f y fs).2 g (wi g λz=>d ?_);show(if g=f then a_ u else mA g)=f_;rw[l_ q];exact z
def B6.made(I:B6 X B2 σ H s):B6 X B2 σ (upd (upd H s.heap.objs.size (.own (s.heap.objs.size+1))) (s.heap.objs.size+1) (.ins C s.heap.objs.size []))
  {s with heap:=(s.heap.push EJ).push (Fj C s.heap.objs.size)}:=by
 have e1:(s.heap.push EJ).get? s.z=a_ EJ:=s_ s.heap rfl;have e2:((s.heap.push EJ).push (Fj C s.z)).get? (s.z+1)=a_ (Fj C s.z):=by
  have:=s_ (s.heap.push EJ) (o:=Fj C s.z) rfl
  rwa [D8]at this
 have e3:(s.heap.push EJ).Ns s.z (λ_=>f_):=⟨EJ,#[],_,e1,rfl,(λe U=>CQ U ad),λ_=>rfl⟩
 have Y:=I.laid (a:=s.z) (o:=.own (s.z+1)) (h':=s.heap.push EJ) (t':=s.toks) (λb u q=>d_ _ q) (m_ _) ⟨_,e1⟩;refine Y.laid (a:=s.z+1) (o:=.ins C s.z []) (t':=s.toks) (λb u q=>d_ _ q) (GQ (D8 _ _)) ?_;have J:s.z≠s.z+1:=De (Gq _);refine⟨by rw[aw J,aq],DU _,J,e2,λ_=>f_,(Heap.Ns1.of_empty e3).at λo q=>d_ _ q,λ_=>Gz,λy S=>CQ rfl S⟩
def attr_of{env:KR}{f:C_}{s:k_}{Q:Vp}(J:Fi e f env (Dh e env)=Dh e env)(h:w_ (B_ prog w) A (Dh e env) (λo I=>w_ (B_ prog w) A (getAttr o f e_) Q E I) E s):w_ (B_ prog w) A (Dh (.Attribute e f pos) env) Q E s:=
 Attribute_any_ h (by rw[arm_eval_Attribute,J])
end
def tFld(K:Fg)(ta:TE)(f:C_):TE:=λσ H Q=>ta σ H λx H1=>∃a C dx fs v,x=.ref a/\H1 a=a_ (.ins C dx fs)/\Cls K C/\gN K C f/\fs.lookup f=a_ v/\Q v H1
def sFld(K:Fg)(ta tv:TE)(f:C_):TS:=λD σ H=>tv σ H λy H1=>ta σ H1 λx H2=>∃a C dx fs,x=.ref a/\H2 a=a_ (.ins C dx fs)/\Cls K C/\gN K C f/\fs.length<1000 /\
 D.nx σ (upd H2 a (.ins C dx (qM f y fs)))
section
variable{o value:Em}{f:C_}{tv:TE}
def AS(Y:PE X e ta)(b:Fi e f X.env (Dh e X.env)=Dh e X.env):PE X (.Attribute e f pos) (tFld X.K ta f):=by intro B2 s σ H Q I h;refine attr_of b (E' (Y B2 s σ H _ I h) λu k U=>?_);obtain⟨x,H1,g,J,a,C,dx,fs,v,ex,ea,c,n,l,q⟩:=U;subst ex;obtain rfl:u=x_ a:=J;exact zw g ea c n l λi j d S=>⟨v,H1,d,S,q⟩
def ps_fld(e:PE X o ta)(hv:PE X value tv)(d:EV value (a_ (.Attribute o f pos')) pos.line X.env=ER c_):PS X (.Assign [.Attribute o f pos'] value pos) (sFld X.K ta tv f):=by intro B2 s σ H D I h;refine plainObj_wpAny_Assign_Attribute (E' (hv B2 s σ H _ I h) λu S J=>?_) d;obtain⟨y,H1,j,U,q⟩:=J;refine E' (e B2 S σ H1 _ j q) λb m J=>?_;obtain⟨x,H2,i,Y,a,C,dx,fs,ex,ea,c,n,l,q2⟩:=J;subst ex;obtain rfl:b=x_ a:=Y;exact yC i ea c n l U λk g=>⟨σ,_,g,q2⟩
end
inductive A4(K:Fg)(H:Hp):V->g_->Prop where
 |non:A4 K H .non (.type "NoneType")
 |bl (x:Bool):A4 K H (.bl x) (.type "bool")
 |int (i:Int):A4 K H (.int i) (.type "int")
 |str (x:C_):A4 K H (.str x) (.type "str")
 |flt (x:UInt64):A4 K H (.flt x) (.type "float")
 |lst {a:i_} {xs:List V} (e:H a=a_ (.lst xs)):A4 K H (.ref a) (.type "list")
 |frz {a:i_} {o:IB} {xs:List V} (e:H a=a_ (.frz o (.lst xs))):A4 K H (.ref a) (.type "list")
 |tup {a:i_} {xs:List V} (e:H a=a_ (.tup xs)):A4 K H (.ref a) (.type "tuple")
 |dK {a:i_} {B':List (Key×V)} (e:H a=a_ (.dK B')):A4 K H (.ref a) (.type "dict")
 |dT {a:i_} {B':List (List Key×V)} (e:H a=a_ (.dT B')):A4 K H (.ref a) (.type "dict")
 |ins {a C dx:i_} {fs:List (C_×V)} (e:H a=a_ (.ins C dx fs)) (cl:Cls K C) (ha:Dm K (.ref C) "__class__"=a_ (a_ (.builtin "object.__class__")))
   (hn:JF K (.builtin "object.__class__") "__get__"=a_ (a_ (.builtin "getset_descriptor.__get__"))) (htk:NL K (.builtin "object.__class__")=a_ e_)
   (hm:E5 K C (.type "object")=a_ e_):A4 K H (.ref a) (.ref C)
structure fS(k:Nat)(A:ES):Prop where
 hd:A.handled=f_
 dp:A.depth+3*k+5<recursionLimit
 un:A.units+16*k+200<DV
theorem fS.mono(r:fS k A)(h:j<=k):fS j A:=⟨r.hd,by have:=r.dp;lia,by have:=r.un;lia⟩
theorem fS.deeper{k:Nat}{A:ES}(r:fS (k+1) A)(env:KR):fS k (A.deeper env):=
 ⟨r.hd,by have:=r.dp;show A.depth+1+3*k+5<_;lia,by have:=r.un;show A.units+3+16*k+200<_;lia⟩
def yZ:(A.under (.builtin "type.__call__" ⟨.ref C::us,kw⟩)).depth=A.depth+1:=by first|rfl|simp[Around.under,Code.weight,Code.isCreation,Code.isGuard,Code.isCaller,Code.frames,Code.isFrame,guardIds]
def yY:(A.under (.builtin "type.__call__" ⟨.ref C::us,kw⟩)).units=A.units+1:=by first|rfl|simp[Around.under,Code.cUnits,Code.frames,Code.isFrame]
theorem fS.make(r:fS (k+1) A)(C:i_)(us:aM)(kw:List (C_×g_)):fS k (A.under (.builtin "type.__call__" ⟨.ref C::us,kw⟩)):=
 ⟨r.hd,by have:=r.dp;rw[yZ];lia,by have:=r.un;rw[yY];lia⟩
theorem fS.depth{k:Nat}{A:ES}(r:fS k A):A.depth<recursionLimit:=by have:=r.dp;lia
theorem fS.units{k:Nat}{A:ES}(r:fS k A):A.units+64<DV:=by have:=r.un;lia
noncomputable def wo:TA:=λ_ H Q=>Q [] H
def j9(ta:TE)(I:TA):TA:=λσ H Q=>ta σ H λx H1=>I σ H1 λxs H2=>Q (x::xs) H2
def cK:PA X [] wo:=λ_ _ _ _ H Q I h=>Jw ⟨[],H,I,.nil,h⟩
def aW(b:PE X e te)(a:PA X es t)(Y: ~~~(j_ (e::es) X.env=(c_,Dh e X.env)::j_ es X.env)):PA X (e::es) (j9 te t):=by intro pos B2 s σ H Q I h;rw[Y];show w_ _ _ (spliced ((c_,Dh e X.env)::Eg pos (j_ es X.env))) _ _ s;refine Hl (E' (b B2 s σ H _ I h) λu S J=>?_);obtain⟨x,H1,d,U,q1⟩:=J;refine E' (a pos B2 S σ H1 _ d q1) λus f J=>?_;obtain⟨xs,H2,c,r2,q2⟩:=J;exact⟨x::xs,H2,c,.cons U r2,q2⟩
def tTup(t:TA):TE:=λσ H Q=>t σ H λxs H1=>xs.length<=o_/\∀p,H1 p=f_->Q (.ref p) (upd H1 p (.tup xs))
def tLst(t:TA):TE:=λσ H Q=>t σ H λxs H1=>xs.length<=o_/\∀p,H1 p=f_->Q (.ref p) (upd H1 p (.lst xs))
def pe_tup{U}(h:PA X es t):PE X (.Tuple es U pos) (tTup t):=by
 intro B2 s σ H Q I Y;refine wpAny_Tuple_spliced (E' (h pos B2 s σ H _ I Y) λus J a=>?_);obtain⟨xs,H1,S,r,z,q⟩:=a;refine⟨by rw[<- r.length];exact z,?_⟩
 have c:H1 J.z=f_:=S.hok.fresh (m_ _);refine⟨.ref J.z,upd H1 J.z (.tup xs),S.laid (t':=J.toks) (λb u e=>d_ _ e) (m_ _) ?_,rfl,q _ c⟩
 exact⟨z,us,r,⟨_,s_ _ rfl,rfl,_,rfl⟩⟩
def pe_lst(h:PA X es t):PE X (.List es pos) (tLst t):=by
 intro B2 s σ H Q I U;refine wpAny_List_spliced (E' (h pos B2 s σ H _ I U) λus J Y=>?_);obtain⟨xs,H1,S,r,z,q⟩:=Y;refine⟨by rw[<- r.length];exact z,?_⟩
 have a:H1 J.z=f_:=S.hok.fresh (m_ _);refine⟨.ref J.z,upd H1 J.z (.lst xs),S.laid (t':=J.toks) (λb u e=>d_ _ e) (m_ _) ?_,rfl,q _ a⟩
 exact⟨z,us,0,r,s_ _ rfl⟩
abbrev Sp:=aB->Hp->VK->XK->Prop
variable{sp:Sp}
abbrev CXT:=List KR->Hp->k_->XK->Vp
variable{CX:CXT}
structure Env0(P:D0)(w:Ew)(K:Fg)(mg:Mq)(base:Du)(A:ES)(outer:List KR)(s:k_)(H:Hp):Prop where
 frames:A.frames=a_ outer
 mod:Mod K mg base
 bs:∀b o,base.get? b=a_ o->s.heap.get? b=a_ o/\H b=f_
 bsz:base.objs.size<=s.heap.objs.size
 tZ:s.heap.FunFrames base outer
 frf:∀b∈frs outer,H b=f_
 hok:HOk P w H s.heap
 bare:Iq s.gens
def CE(outer:List KR)(P:D0)(w:Ew)(H:Hp)(s:k_)(Q:VK)(u:g_)(s':k_):Prop:=
 ∃v H',s'.os=s.os/\Iq s'.gens/\Un (frs outer) [] H H' s.heap s'.heap/\HOk P w H' s'.heap/\C' v u/\Q v H'
def CR(CX:CXT)(outer:List KR)(P:D0)(w:Ew)(H:Hp)(s:k_)(Q:VK)(E:XK)(r:Mp)(s':k_):Prop:=
 match r with
 |.ok (.ret u)=>CE outer P w H s Q u s'|.ok _=>False|.error e=>CX outer H s E e s'
structure fU(P:D0)(w:Ew)(K:Fg)(mg:Mq)(base:Du)(CX:CXT)(k:Nat)(f:i_)(fd:Fh)(ps:List C_)(sp:Sp):Prop where
 len:∀vs H Q E,sp vs H Q E->vs.length=ps.length
 run:∀(A:ES) (outer:List KR) (s:k_) (H:Hp) (args:Args) (us:aM) (vs:aB) (Q:VK) (E:XK),fS k A->Env0 P w K mg base A outer s H->JJ s fd args (ps.zip us)->D' vs us->sp vs H Q E ->
  He (B_ P w) A (.call (.ref f) args) (CR CX outer P w H s Q E) s
def Env0.make{base:Du}{s:k_}(e:Env0 P w K mg base A outer s H)(C:i_)(us:aM)(kw:List (C_×g_)):
  Env0 P w K mg base (A.under (.builtin "type.__call__" ⟨.ref C::us,kw⟩)) outer s H:=⟨by first|exact e.frames|(simpa[Around.under,Code.envs,Code.isFrame,pushEnvs] using e.frames),e.mod,e.bs,e.bsz,e.tZ,e.frf,e.hok,e.bare⟩
section
variable{s:k_}
def B6.env0(I:B6 X B2 σ H s):Env0 X.prog X.w X.K X.mg X.base X.A X.stack s H:=
 ⟨I.ok.frames,I.ok.mod,I.bs,DJ I.ok.bsz I.sz,I.stack,I.Aw,I.hok,I.bare⟩
def B6.after{Q:VK}(I:B6 X B2 σ H s)(h:CE X.stack X.prog X.w H s Q u s'):EP X B2 σ Q u s':=by obtain⟨v,H',os,J,Y,U,r,q⟩:=h;obtain⟨a,g,d,t,S⟩:=s';obtain rfl:S=s.os:=os;exact⟨v,H',I.call (h':=a) (g':=g) (d':=d) (t':=t) (ch:=[]) Y U J (λb z=>CQ z ad),r,q⟩
end
noncomputable def tCall(sp:Sp)(dvs:aB)(E:XK)(t:TA):TE:=λσ H Q=>t σ H λvs H1=>sp (vs++dvs) H1 Q E
def tMeth(C:i_)(m:C_)(sp:Sp)(dvs:aB)(E:XK)(ta:TE)(t:TA):TE:=λσ H Q=>ta σ H λx H1=>∃a dx fs,x=.ref a/\H1 a=a_ (.ins C dx fs)/\fs.lookup m=f_ /\
 t σ H1 λvs H2=>sp (x::(vs++dvs)) H2 Q E
def tMake(C:i_)(sp:Sp)(dvs:aB)(E:XK)(t:TA):TE:=λσ H Q=>t σ H λvs H1=>∀x dx,H1 x=f_->H1 dx=f_->dx≠x ->
 sp (.ref x::(vs++dvs)) (upd (upd H1 dx (.own x)) x (.ins C dx [])) (λv H2=>v=.non/\Q (.ref x) H2) E
def Binds(K:Fg)(fd:Fh)(ps:List C_)(ds:aM):Prop:=
 ∀(s:k_) (us:aM),K.In s.heap->(us++ds).length=ps.length->JJ s fd ⟨us,[]⟩ (ps.zip (us++ds))
def Binds.all(h:∀us:aM,us.length=ps.length->Ju fd ⟨us,[]⟩=ER (ps.zip us)):Binds K fd ps []:=λs us _ I=>by rw[DB]at I ⊢;exact .of_eq (h us I)
def Passes(CX:CXT)(X:Cx)(E:XK):Prop:=∀(B2:Pn) (σ:St) (H:Hp) (s:k_) (e:g_) (s':k_),B6 X B2 σ H s->CX X.stack H s E e s'->X.xe e s'
section
variable{f:i_}{dvs:List V}{ds:List g_}{E:XK}{apos:IM}{o:Em}
theorem wz{s:k_}{Q:VK}(F:fU X.prog X.w X.K X.mg X.base CX k f fd ps sp)(U:fS k X.A)(a:Binds X.K fd ps ds)(hd:D' dvs ds)(S:Passes CX X E)(I:B6 X B2 σ H s)(r:D' vs us)(h:sp (vs++dvs) H Q E):w_ (B_ X.prog X.w) X.A (Hk (.ref f) us) (EP X B2 σ Q) X.xe s:=by
 have r2:D' (vs++dvs) (us++ds):=r.append hd;have Y:(us++ds).length=ps.length:=by rw[<- r2.length];exact F.len _ _ _ _ h
 refine Nj (F7 (F.run X.A X.stack s H ⟨us,[]⟩ (us++ds) (vs++dvs) Q E U I.env0 (a s us I.kIn Y) r2 h) λr s' J=>?_);cases r with
 |error e=>exact S B2 σ H s e s' I J|ok fl=>
  cases fl with
  |ret u=>exact I.after J|next=>exact DK J|brk=>exact DK J|cont=>exact DK J
def mW(F:fU X.prog X.w X.K X.mg X.base CX k f fd ps sp)(a:fS k X.A)(g:Gl X x)(c:X.mg x=a_ (.ref f))(d:Gd X.K (.ref f)=e_)(j:Binds X.K fd ps ds)(hd:D' dvs ds)(Y:Passes CX X E)(l:PA X (e::es) t)(S:((x==("__debug__":C_))=c_)⁻¹)(i: ~~~(j_ (e::es) X.env=(c_,Dh e X.env)::j_ es X.env))(J: ~~~((Eg pos (j_ es X.env)).any (·.1)=c_)):
  PE X (.Call (.Name x p) (e::es) [] pos) (tCall sp dvs E t):=by
 intro B2 s σ H Q I h;refine GN (iE I g c ?_ S);refine J8 (h₀:=X.base) I.ok.mod.kin d (E' (l pos B2 s σ H _ I h) λus m b=>?_) i J;obtain⟨vs,H1,U,r,q⟩:=b;refine⟨U.kIn,?_⟩
 exact wz F a j hd Y U r q
def pe_meth(w:PE X o ta)(c:Cls X.K C)(b:Meth X.K C m f)(F:fU X.prog X.w X.K X.mg X.base CX k f fd ps sp)(v:fS k X.A)(y:Binds X.K fd ps ds)(hd:D' dvs ds)(n:Passes CX X E)(z:PA X (e::es) t)(J: ~~~(j_ (e::es) X.env=(c_,Dh e X.env)::j_ es X.env))(S: ~~~((Eg pos (j_ es X.env)).any (·.1)=c_))(p: ~~~(Dh (.Call (.Attribute o m apos) (e::es) [] pos) X.env=(do
   let Y <- Dh o X.env
   IV apos.atName
   let (f,first) <- Gg [Y] (JE Y m pl)
   MU pos f first (Eg pos (j_ (e::es) X.env)) (HQ pos (Gv [] X.env))))):
  PE X (.Call (.Attribute o m apos) (e::es) [] pos) (tMeth C m sp dvs E ta t):=by
 intro B2 s σ H Q I h;refine Ic (pl:=pl) (E' (w B2 s σ H _ I h) λu i U=>?_) p;obtain⟨x,H1,g,j,a,dx,fs,ex,ea,l,q⟩:=U;subst ex;obtain rfl:u=x_ a:=j;refine pR g ea c b l ?_;refine J8 (first:=[.ref a]) (h₀:=X.base) I.ok.mod.kin b.kp (E' (z pos B2 i σ H1 _ g q) λus A U=>?_) J S;obtain⟨vs,H2,d,r,q2⟩:=U;refine⟨d.kIn,?_⟩
 exact wz (us:=.ref a::us) (vs:=.ref a::vs) F v y hd n d (.cons rfl r) q2
def pe_meth0(i:PE X o ta)(c:Cls X.K C)(U:Meth X.K C m f)(F:fU X.prog X.w X.K X.mg X.base CX k f fd ps sp)(e:fS k X.A)(j:Binds X.K fd ps ds)(hd:D' dvs ds)(b:Passes CX X E)(d: ~~~(Dh (.Call (.Attribute o m apos) [] [] pos) X.env=(do
   let S <- Dh o X.env
   IV apos.atName
   let (f,first) <- Gg [S] (JE S m pl)
   MU pos f first (Eg pos (j_ [] X.env)) (HQ pos (Gv [] X.env))))):
  PE X (.Call (.Attribute o m apos) [] [] pos) (tMeth C m sp dvs E ta wo):=by
 intro B2 s σ H Q I h;refine Ic (pl:=pl) (E' (i B2 s σ H _ I h) λu n g=>?_) d;obtain⟨x,H1,J,Y,a,dx,fs,ex,ea,l,q⟩:=g;subst ex;obtain rfl:u=x_ a:=Y;refine pR J ea c U l ?_;exact PySem.W.callWith_K0 (first:=[.ref a]) J.kIn U.kp (wz (us:=[.ref a]) (vs:=[.ref a]) F e j hd b J (.cons rfl .nil) q)
structure Mk(K:Fg)(C f:i_):Prop where
 makes:Ml K C=e_
 init:Dm K (.ref C) "__init__"=a_ (a_ (.ref f))
 fn:isFn K (.ref f)=e_
 kp:Gd K (.ref C)=e_
theorem run_make{s:k_}{Q:VK}(M:Mk X.K C f)(F:fU X.prog X.w X.K X.mg X.base CX k f fd ps sp)(c:fS (k+1) X.A)(g:Binds X.K fd ps ds)(hd:D' dvs ds)(b:Passes CX X E)(I:B6 X B2 σ H s)(r:D' vs us)(h:∀x dx,H x=f_->H dx=f_->dx≠x->sp (.ref x::(vs++dvs)) (upd (upd H dx (.own x)) x (.ins C dx [])) (λv H2=>v=.non/\Q (.ref x) H2) E):
  w_ (B_ X.prog X.w) X.A (Hk (.ref C) us) (EP X B2 σ Q) X.xe s:=by
 have U:=h (s.z+1) s.z (I.hok.fresh (G6 _)) (I.hok.fresh (m_ _)) (De (Gq _));have S:=B6.made (C:=C) I;have r2:D' (V.ref (s.z+1)::(vs++dvs)) (x_ (s.z+1)::(us++ds)):=.cons rfl (r.append hd);have d:(x_ (s.z+1)::us++ds).length=ps.length:=by have e:=r2.length;rw[F.len _ _ _ _ U]at e;exact e.symm
 refine Nj (make_map (f:=f) I.kIn M.makes M.init (GJ.mp M.fn) (F7 (F.run _ X.stack _ _ ⟨x_ (s.z+1)::us,[]⟩ (x_ (s.z+1)::(us++ds)) _ _ E (c.make C us [])
  (S.env0.make C us []) (g _ (x_ (s.z+1)::us) S.kIn d) r2 U) λr s' J=>?_))
 cases r with
 |error e=>exact b B2 σ _ _ e s' S J|ok fl=>
  cases fl with
  |ret u=>obtain⟨v,H',i,Y,ev,a⟩:=S.after J;subst ev;exact⟨Y,⟨V.ref (s.z+1),H',i,rfl,a⟩⟩
  |next=>exact DK J|brk=>exact DK J|cont=>exact DK J
def AQ(M:Mk X.K C f)(F:fU X.prog X.w X.K X.mg X.base CX k f fd ps sp)(a:fS (k+1) X.A)(d:Gl X x)(c:X.mg x=a_ (.ref C))(i:Binds X.K fd ps ds)(hd:D' dvs ds)(Y:Passes CX X E)(j:PA X (e::es) t)(S:((x==("__debug__":C_))=c_)⁻¹)(g: ~~~(j_ (e::es) X.env=(c_,Dh e X.env)::j_ es X.env))(J: ~~~((Eg pos (j_ es X.env)).any (·.1)=c_)):
  PE X (.Call (.Name x p) (e::es) [] pos) (tMake C sp dvs E t):=by
 intro B2 s σ H Q I h;refine GN (iE I d c ?_ S);refine J8 (h₀:=X.base) I.ok.mod.kin M.kp (E' (j pos B2 s σ H _ I h) λus l b=>?_) g J;obtain⟨vs,H1,U,r,q⟩:=b;refine⟨U.kIn,?_⟩
 exact run_make M F a i hd Y U r q
end
structure fO(N P:List C_)(sc:Kk):Prop where
 kind:sc.kind=.function
 co:sc.isCoroutine=c_
 gen:sc.isGenerator=c_
 nd:N.Nodup
 pre:N.take P.length=P
 par:∀x∈P,sc.names.lookup x=a_ .local\/sc.names.lookup x=a_ .cell
 nofree:∀y∈sc.names,y.2≠.free
theorem uA{J:C_->Option F_}{x:C_}:∀{I:List (C_×g_)} {m:Mq},(∀v,(x,v)∉I)->LW J I m x=m x
 |[],_,_=>rfl|(n,v)::r,m,h=>by
  unfold LW;rw[uA λw hw=>h w (CS _ hw)];split
  .have:x≠n:=by rintro rfl;exact h v CW
   simp[this]
  .rfl
theorem uC{J:C_->Option F_}{x:C_}:∀{I:List (C_×g_)} {m:Mq},(∀v,(x,v)∉I)->LX J I m x=m x
 |[],_,_=>rfl|(n,v)::r,m,h=>by
  unfold LX;rw[uC λw hw=>h w (CS _ hw)];split
  .rfl
  .have:x≠n:=by rintro rfl;exact h v CW
   simp[this]
theorem uB{I:C_->Option F_}{x:C_}{v:g_}:∀{P:List C_} {vs:aM} {i:Nat} {m:Mq},P.Nodup->P[i]?=a_ x->vs[i]?=a_ v->I x=a_ .local ->
  LW I (P.zip vs) m x=a_ v
 |[],_,_,_,_,h,_,_=>by simp at h|_::_,[],_,_,_,_,h,_=>by simp at h|p::P,w::vs,0,m,J,h1,h2,S=>by simp at h1 h2;subst h1;subst h2;show LW I ((p,w)::P.zip vs) m p=_;unfold LW;rw[uA λv hv=>(FV.mp J).1 (Kc hv).1,n_ S];simp|p::P,w::vs,i+1,m,J,h1,h2,S=>by show LW I ((p,w)::P.zip vs) m x=_;unfold LW;exact uB (i:=i) (FV.mp J).2 (by simpa using h1) (by simpa using h2) S
theorem uD{I:C_->Option F_}{x:C_}{v:g_}:∀{P:List C_} {vs:aM} {i:Nat} {m:Mq},P.Nodup->P[i]?=a_ x->vs[i]?=a_ v->I x≠a_ .local ->
  LX I (P.zip vs) m x=a_ v
 |[],_,_,_,_,h,_,_=>by simp at h|_::_,[],_,_,_,_,h,_=>by simp at h|p::P,w::vs,0,m,J,h1,h2,S=>by simp at h1 h2;subst h1;subst h2;show LX I ((p,w)::P.zip vs) m p=_;unfold LX;rw[uC λv hv=>(FV.mp J).1 (Kc hv).1,l_ S];simp|p::P,w::vs,i+1,m,J,h1,h2,S=>by show LX I ((p,w)::P.zip vs) m x=_;unfold LX;exact uD (i:=i) (FV.mp J).2 (by simpa using h1) (by simpa using h2) S
noncomputable def start(N:List C_)(vs:aB):St:=vs.map a_++Di (N.length-vs.length) f_
def vN(CX:CXT)(P:D0)(w:Ew)(K:Fg)(mg:Mq)(base:Du)(N:List C_)(qual:C_)(scope:Kk)(f:i_)(cd:g_)(A:ES)(outer:List KR)(s:k_)(H:Hp)(E:XK):Cx where
 prog:=P
 w:=w
 K:=K
 mg:=mg
 base:=base
 A:=A.deeper (Ge qual scope s.heap.objs.size f cd)
 N:=N
 s₀:=s
 H₀:=H
 env:=Ge qual scope s.heap.objs.size f cd
 outer:=outer
 stack:=Ge qual scope s.heap.objs.size f cd::outer
 ex:=[]
 calm:=e_
 fn:=λ_=>e_
 pn:=[]
 xe:=λe s'=>w_ (B_ P w) (A.deeper (Ge qual scope s.heap.objs.size f cd)) (NH (Ge qual scope s.heap.objs.size f cd) e) (λ_ I=>CX outer H s E e I) (λJ I=>CX outer H s E J I) s'
def xX{sc:Kk}(h:sc.names.lookup x=a_ .cell):∃c,(EL n sc.names []).lookup x=a_ c:=by have q:=FG sc.names n [] (.inl h);exact Ft.mp q
theorem Bx{base:Du}{f:i_}{cd:g_}{s g:k_}{E:XK}(S:fO N ps scope)(hd:A.handled=f_)(I:Env0 P w K mg base A outer s H)(B:vs.length=ps.length)(r:D' vs us)(x:InCallC s s.heap.objs.size (LW (Ge qual scope s.heap.objs.size f cd).kindOf (ps.zip us) λ_=>f_) (EL (s.heap.objs.size+1) scope.names []) (LX (Ge qual scope s.heap.objs.size f cd).kindOf (ps.zip us) λ_=>f_) g):
  B6 (vN CX P w K mg base N qual scope f cd A outer s H E) [] (start N vs) H g:=by
 have o:ps.length<=N.length:=by have:=Gx Ka S.pre;rw[FF]at this;lia
 obtain⟨h1,tk,rfl,l⟩:=x.done;have J:∀b:i_,b∉(vN CX P w K mg base N qual scope f cd A outer s H E).ex:=λb z=>CQ (show b∈([]:List i_)from z) ad;refine⟨⟨I.mod,S.kind,rfl,rfl,m_ _,λy z c h1 h2=>?_,λy U=>?_,λy c _ h=>?_,λ_=>hd,Around.frames_deeper I.frames,.inr ⟨rfl,rfl⟩,λb z=>CQ z (J b),I.bs,I.bsz,λb _ _=>J b,λb z=>CQ z (J b),I.tZ,I.frf⟩,
  rfl,I.bare,Un.kept l,⟨_,x.toInCall.ns,λi y v h1 h2 C=>?_⟩,λy c h=>⟨_,x.cell y c h⟩,I.hok.fresh (m_ _),λy c h=>?_,λp d=>CQ (show p∈([]:Pn)from d) ad,I.hok.kept l,?_⟩
 .exact name_of_addr x.apart (EA h1) (EA h2)
 .have U:scope.names.lookup y=a_ .cell\/scope.names.lookup y=a_ .free:=U;rcases U with U|U
  .exact xX U
  .exact CQ rfl (S.nofree _ (EA U))
 .exact Gr (x.above y c (EA h))
 .have hi:i<vs.length:=by
   unfold start at h2;by_cases hi:i<vs.length
   .exact hi
   .rw[DZ (by simpa using hi)]at h2;rw[HY]at h2;split at h2<;>cases h2
  have t:vs[i]?=a_ v:=by
   unfold start at h2;rw[DD (by simpa using hi),Dz]at h2;cases e:vs[i]? with
   |none=>rw[e]at h2;cases h2|some a=>rw[e]at h2;cases h2;rfl
  obtain⟨u,j,m⟩:=r.get t;have d:ps[i]?=a_ y:=by rw[<- S.pre,K0 ac];exact h1
  have Y:ps.Nodup:=by rw[<- S.pre];exact S.nd.sublist (F8 _ _)
  refine⟨u,m,?_⟩
  rcases S.par y (DR d)with k|k
  .exact .inl ⟨k,uB Y d j k⟩
  .obtain⟨c,e⟩:=xX (n:=s.z+1) k;refine .inr ⟨.inl k,c,e,?_⟩;have q:=x.cell y c e;rw[uD Y d j (by show scope.names.lookup y≠_;rw[k];decide)]at q;exact q
 .exact I.hok.fresh (Gr (x.above y c (EA h)))
 .unfold start;show _=N.length;rw[CM,q_,EZ];lia
def fn_of{base:Du}{f:i_}{U:Arguments}{z kV doc pm cdv ct oc:g_}{an od:Option i_}{osl:Array (Option g_)}(D:K.lookup f=a_ ⟨oc,od,.func (JT name qual U body scope z kV doc pm an cdv ct),osl⟩)(m:KL K cdv qual=e_)(S:fO N ps scope)(d:∀vs H Q E,sp vs H Q E->vs.length=ps.length)(a:∀(A:ES) (outer:List KR) (s:k_) (H:Hp) (vs:aB) (Q:VK) (E:XK),fS k (A.deeper (Ge qual scope s.heap.objs.size f cdv))->sp vs H Q E ->
   ∃t,PSs (vN CX P w K mg base N qual scope f cdv A outer s H E) body t/\t {nx:=λ_ H'=>Q .non H',rt:=Q} (start N vs) H):
  fU P w K mg base CX (k+1) f (JT name qual U body scope z kV doc pm an cdv ct) ps sp:=by
 refine⟨d,λA outer s H B us vs Q E l h T r g=>?_⟩
 have O:=d _ _ _ _ g;have C:K.In s.heap:=h.mod.kin.keeps λb o e=>(h.bs b o e).1;have j:s.heap.NoLimit:=h.mod.nolimit.keeps λb o e=>(h.bs b o e).1;have Y:∀y∈ps.zip us,scope.names.lookup y.1=a_ .local\/(scope.names.lookup y.1=a_ .cell/\((EL (s.z+1) scope.names []).lookup y.1).isSome=e_):=λ⟨n,v⟩ F=>by
  rcases S.par n (Kc F).1 with q|q
  .exact .inl q
  .exact .inr ⟨q,FG _ _ _ (.inl q)⟩
 refine codeAny_call_function l.depth (C _ _ D) rfl S.co S.gen rfl (PySem.W.codeRec_of C m) (T _ _ _ _ ?_);refine wpAny_newFunctionEnv_cells S.kind Y λenv R p x=>?_;subst R;refine⟨j.keeps x.toInCall.keep,codeAny_func ?_⟩
 obtain⟨t,G,L⟩:=a A outer s H vs Q E (l.deeper _) g;have I:B6 (vN CX P w K mg base N qual scope f cdv A outer s H E) [] (start N vs) H p:=Bx S l.hd h O r x;refine DX (G [] p (start N vs) H _ I L) (λfl s' c=>?_) λe s' c=>c;have fin:∀{σ':St} {H':Hp} {v:V} {u:g_},B6 (vN CX P w K mg base N qual scope f cdv A outer s H E) [] σ' H' s'->C' v u->Q v H'->CE outer P w H s Q u s':=
  λ{σ' H' v u} J i q=>⟨v,H',J.os,J.bare,J.base,J.hok,i,q⟩
 cases fl with
 |ret u=>obtain⟨v,σ',H',J,i,q⟩:=c;exact fin J i q
 |next=>obtain⟨σ',H',J,q⟩:=c;exact fin (v:=V.non) (u:=Dw) J rfl q
 |brk=>obtain⟨_,_,_,q⟩:=c;exact DK q
 |cont=>obtain⟨_,_,_,q⟩:=c;exact DK q
section
variable{id T:String}{r:List V->Hp->VK->Prop}
noncomputable def tCB(r:aB->Hp->VK->Prop)(t:TA):TE:=λσ H Q=>t σ H λvs H1=>r vs H1 Q
def fZ(g:cH X (.builtin id) r)(d:Gl X x)(c:X.mg x=f_)(hv:E6 x=a_ (.builtin id))(i:PA X (e::es) t)(b:(x≠"__name__")⁻¹)(S:((x==("__debug__":C_))=c_)⁻¹)(f: ~~~(j_ (e::es) X.env=(c_,Dh e X.env)::j_ es X.env))(J: ~~~((Eg pos (j_ es X.env)).any (·.1)=c_)):PE X (.Call (.Name x p) (e::es) [] pos) (tCB r t):=by intro B2 s σ H Q I h;refine GN (jk I d c hv ?_ b S);refine PyProof.Rows.callWith_builtin1 (E' (i pos B2 s σ H _ I h) λus U a=>?_) f J;obtain⟨vs,H1,j,Y,q1⟩:=a;exact g B2 U σ H1 vs us Q j Y q1
def mV(g:cH X (.type T) r)(d:Gl X x)(c:X.mg x=f_)(hv:E6 x=a_ (.type T))(i:PA X (e::es) t)(b:(x≠"__name__")⁻¹)(S:((x==("__debug__":C_))=c_)⁻¹)(f: ~~~(j_ (e::es) X.env=(c_,Dh e X.env)::j_ es X.env))(J: ~~~((Eg pos (j_ es X.env)).any (·.1)=c_)):PE X (.Call (.Name x p) (e::es) [] pos) (tCB r t):=by intro B2 s σ H Q I h;refine GN (jk I d c hv ?_ b S);refine D5 (E' (i pos B2 s σ H _ I h) λus U a=>?_) f J;obtain⟨vs,H1,j,Y,q1⟩:=a;exact g B2 U σ H1 vs us Q j Y q1
end
end Lake
namespace Lake.HT
open PySem PyProof.Rows
section
open PySem.SeqAt
open PySem.AutoSeq1 (wpAny_loadPart')
open PySem.MeetsSeq PySem.MeetsSeq2 PySem.MeetsSeq3
end
section
variable{prog:D0}{w:Ew}{A:ES}{E:Vp}{s:k_}
def cat_tup{t b:i_}{vs I:aM}{Q:Vp}(h:Lp s.heap t vs.toArray)(i:Lp s.heap b I.toArray)(hv:vs≠[])(h1:I=[]->Q (.ref t) s)(h2:I≠[]->Q (.ref s.heap.objs.size) {s with heap:=s.heap.push {cls:=.type "tuple",data:=.seq (vs++I).toArray}})(hsz:vs.length+I.length<=o_):w_ (B_ prog w) A (Fq .Add (.ref t) (.ref b)) Q E s:=by
 obtain⟨⟨cls,dd,data,sl⟩,c,f,n,hd⟩:=id h;obtain⟨⟨g,a,d,S⟩,J,Y,n2,U⟩:=id i;simp only at f hd Y U;subst f hd Y U;have e:vs.toArray++I.toArray=(vs++I).toArray:=by simp
 by_cases hw:I=[]
 .exact Kh ⟨_,c,rfl⟩ ⟨_,J,rfl⟩ KH LG HR HE (Hy _ _)
   (tuple_addW1 t b vs.toArray I.toArray n n2 dd a sl S (by simpa using hv) (by simp[hw])) ⟨c,J,h1 hw⟩
 .refine Kh ⟨_,c,rfl⟩ ⟨_,J,rfl⟩ KH LG HR HE (Hy _ _)
   (tuple_addW2 t b vs.toArray I.toArray n n2 dd a sl S (by simpa using hv) (by simpa using hw) (by rw[CJ,CJ];exact hsz)) ⟨c,J,?_⟩
  rw[e];exact h2 hw
noncomputable def sIx(n d:Nat):Option Int->Nat
 |none=>d|some v=>if v<0 then(v+(n:Int)).toNat else J_ v.toNat n
theorem sIx_le(n d:Nat)(hd:d<=n)(o:Option Int):sIx n d o<=n:=by
 cases o with
 |none=>exact hd|some v=>
  show(if v<0 then(v+(n:Int)).toNat else J_ v.toNat n)<=n;by_cases hv:v<0
  .rw[n_ hv];lia
  .rw[l_ hv];exact Nat.min_le_right _ _
theorem C8(v:Int)(n d:Nat):(if v<0 then max (v+(n:Int)) 0 else J_ v (n:Int))=((sIx n d (a_ v):Nat):Int):=by
 show(if v<0 then max (v+(n:Int)) 0 else J_ v (n:Int))=(((if v<0 then(v+(n:Int)).toNat else J_ v.toNat n):Nat):Int)
 by_cases hv:v<0
 .simp only[n_ hv];lia
 .simp only[l_ hv];lia
theorem zW(lo hi:Option Int)(n:Nat):GZ lo hi 1 (n:Int)=(((sIx n 0 lo:Nat):Int),((sIx n n hi:Nat):Int)):=by
 have h1:¬((1:Int)<0):=ac
 unfold GZ;simp only[h1,En];refine Lx ?_ ?_
 .cases lo with
  |none=>rfl|some v=>exact C8 v n 0
 .cases hi with
  |none=>rfl|some v=>exact C8 v n n
theorem yQ(i j:Nat):FU (i:Int) (j:Int) 1=j-i:=by
 unfold FU;have h1:(1:Int)>0:=ac
 simp only[h1,FK,Int.ediv_one];split<;>lia
def pj{v:g_}{o:Option Int}{Q:Option Int->k_->Prop}(p:KN v o)(h:Q o s):w_ (B_ prog w) A (N5 v) Q E s:=by
 cases p with
 |none=>exact slicePart_none h|int i t=>exact slicePart_int h
def lH{sl:i_}{U S:g_}{lo hi:Option Int}{n:Nat}{Q:Int×Int×Nat->k_->Prop}(a:s.heap.IsSliceOf sl U S .none)(pl:KN U lo)(Y:KN S hi)(h:Q (((sIx n 0 lo:Nat):Int),1,sIx n n hi-sIx n 0 lo) s):w_ (B_ prog w) A (Jm (.ref sl) (ER (n:Int))) Q E s:=by obtain⟨os,I,b,J⟩:=id a;unfold Jm N6;refine b_ (b_ (Eo I J (x:=U) rfl (b_ (Eo I J (x:=S) rfl (b_ (Eo I J (x:=.none) rfl (h_ ?_)))))));refine b_ (slicePart_none ?_);show w_ _ _ (if ((1:Int)==0)=e_ then _ else _) _ _ s;rw[l_ ag];refine b_ (pj pl (b_ (pj Y (b_ (h_ ?_)))));show w_ _ _ (match GZ lo hi 1 (n:Int)with|(lo,hi)=>ER (lo,(1:Int),FU lo hi 1)) _ _ s;rw[zW lo hi n];show w_ _ _ (ER (((sIx n 0 lo:Nat):Int),(1:Int),FU ((sIx n 0 lo:Nat):Int) ((sIx n n hi:Nat):Int) 1)) _ _ s;rw[yQ];exact h_ h
theorem pick_gen(xs:Array g_)(i k:Nat):((CU k).filterMap λ(m:Nat)=>xs[((i:Int)+(m:Int)*1).toNat]?).toArray=((xs.toList.drop i).take k).toArray:=by
 have e:(λ(m:Nat)=>xs[((i:Int)+(m:Int)*1).toNat]?)=λm=>xs[i+m]?:=by
  funext m
  have:((i:Int)+(m:Int)*1).toNat=i+m:=ac
  rw[this]
 rw[e];have:=pick_run xs i k;rw[List.filterMap_map]at this;have e2:((λx=>xs[x]?)∘λx=>i+x)=λm=>xs[i+m]?:=rfl;rw[e2]at this;rw[this]
theorem kY{t sl:i_}{items:Array g_}{b a:g_}{lo hi:Option Int}{Q:Vp}(I:Lp s.heap t items)(c:s.heap.IsSliceOf sl b a .none)(pl:KN b lo)(d:KN a hi)(hw:¬(sIx items.size 0 lo=0/\sIx items.size items.size hi=items.size))(h:Q (.ref s.heap.objs.size) {s with heap:=s.heap.push {cls:=.type "tuple",data:=.seq ((items.toList.drop (sIx items.size 0 lo)).take (sIx items.size items.size hi-sIx items.size 0 lo)).toArray}})(hsz:items.size<=o_):w_ (B_ prog w) A (Mi (.ref t) (.ref sl)) Q E s:=by
 have htake:sizeOk (.seq ((items.toList.drop (sIx items.size 0 lo)).take (sIx items.size items.size hi-sIx items.size 0 lo)).toArray):=by show((items.toList.drop (sIx items.size 0 lo)).take (sIx items.size items.size hi-sIx items.size 0 lo)).toArray.size<=o_;rw[CJ,FF,Gk,DF];lia
 have f:sIx items.size items.size hi<=items.size:=sIx_le _ _ (m_ _) hi;obtain⟨os,J,U,e⟩:=id c;have Y:s.TypeIs (.ref sl) "slice":=⟨os,J,U⟩
 unfold Mi
 try with_reducible refine Ez ?_
 first|refine b_ (h_ ?_)|skip
 refine b_ (wpAny_sequenceKey I.typeIs ag ?_);refine b_ (Ef (name:=FT "__getitem__") I.typeIs FL
  (DC FL I.typeIs entry_tuple_getitem ?_ (args_tuple_getitem _ _)))
 show w_ _ _ (Jl (.ref t) >>= _) _ _ s;refine b_ (tupleItemsOf_ I ?_);refine b_ (Kg Y ?_);rw[n_ ag];refine b_ (lH c pl d ?_);have S:¬((((sIx items.size 0 lo:Nat):Int)==0&&(1:Int)==1&&(sIx items.size items.size hi-sIx items.size 0 lo)==items.size)=e_):=by intro q;rw[A_,A_]at q;have q1:((sIx items.size 0 lo:Nat):Int)=0:=Fc q.1.1;have q2:sIx items.size items.size hi-sIx items.size 0 lo=items.size:=Fc q.2;exact hw ⟨ac,ac⟩
 show w_ _ _ (if (((sIx items.size 0 lo:Nat):Int)==0&&(1:Int)==1&&(sIx items.size items.size hi-sIx items.size 0 lo)==items.size)=e_ then _ else _) _ _ s;rw[l_ S,pick_gen]
 first
  |exact b_ (m:=G4 _) (DN (h_ ⟨_,rfl,h_ h⟩) htake)
  |exact wpAny_bind (m:=Builtin.Tuple.tupleExact _) (wpAny_newObj_type (wpAny_bind (wpAny_pure (wpAny_pure ⟨_,rfl,wpAny_pure h⟩))) htake)
  |exact wpAny_bind (wpAny_bind (m:=Builtin.Tuple.tupleExact _) (wpAny_newObj_type (wpAny_pure (wpAny_pure ⟨_,rfl,wpAny_pure h⟩)) htake))
  |exact wpAny_bind (wpAny_bind (m:=Builtin.Tuple.tupleExact _) (wpAny_newObj_type (wpAny_pure ⟨_,rfl,wpAny_pure h⟩) htake))
end
end Lake.HT
namespace Lake
open PySem PySem.Spec PyProof.Rows
variable{X:Cx}{e:Em}{pos:IM}{r:V->Option Int->Option Int->Hp->VK->Prop}{us its its':List g_}{α:Type}{n:Nat}{i:Int}{B2:Pn}{σ:St}{H:Hp}{ys:List V}{T:String}{x:V}
abbrev TO:=St->Hp->(Option Int->Hp->Prop)->Prop
def PO(X:Cx)(e:Option Em)(t:TO):Prop:=
 ∀(B2:Pn) (s:k_) (σ:St) (H:Hp) (Q:Option Int->Hp->Prop),B6 X B2 σ H s->t σ H Q ->
  w_ (B_ X.prog X.w) X.A (evalPart e X.env) (λu s'=>∃o H',B6 X B2 σ H' s'/\KN u o/\Q o H') X.xe s
noncomputable def tNoPart:TO:=λ_ H Q=>Q f_ H
noncomputable def tPart(t:TE):TO:=λσ H Q=>t σ H λx H1=>∃i,x=.int i/\Q (a_ i) H1
def intsAre_of{ns:am}:∀{us:aM},D' (ns.map V.int) us->Ld us ns:=by
 induction ns with
 |nil=>intro us r;rw[EM]at r;cases r;exact .nil|cons n ns J=>
  intro us r;rw[u_]at r;cases r with
  |cons I r2=>obtain⟨t,e⟩:=I;subst e;exact .cons n t (J r2)
section
variable{te:TE}{lo hi:Option Em}{tl th:TO}{p2:IM}
def po_none:PO X f_ tNoPart:=by intro B2 s σ H Q I h;rw[evalPart_none];exact h_ ⟨f_,H,I,.none,h⟩
def po_some(h:PE X e te):PO X (a_ e) (tPart te):=by intro B2 s σ H Q I hw;rw[evalPart_some];refine E' (h B2 s σ H _ I hw) λu Y S=>?_;obtain⟨x,H1,U,J,q1⟩:=S;obtain⟨i,rfl,q⟩:=q1;obtain⟨t,rfl⟩:=J;exact⟨a_ i,H1,U,.int i t,q⟩
def SlR(X:Cx)(r:V->Option Int->Option Int->Hp->VK->Prop):Prop:=
 ∀(B2:Pn) (s:k_) (σ:St) (H:Hp) (x:V) (v J I:g_) (lo hi:Option Int) (sl:i_) (Q:VK),B6 X B2 σ H s->C' x v->s.heap.IsSliceOf sl J I .none->KN J lo->KN I hi->r x lo hi H Q ->
  ∃T id,typeLookup (.type T) "__getitem__"=ER (a_ (.builtin id))/\s.TypeIs v T/\w_ (B_ X.prog X.w) X.A (Mi v (.ref sl)) (EP X B2 σ Q) X.xe s
def SlR.or{r':V->Option Int->Option Int->Hp->VK->Prop}(h:SlR X r)(h':SlR X r'):SlR X (λx lo hi H Q=>r x lo hi H Q\/r' x lo hi H Q):=by
 intro B2 s σ H x v S J lo hi sl Q I U a pl Y q;rcases q with q|q
 .exact h B2 s σ H x v S J lo hi sl Q I U a pl Y q
 .exact h' B2 s σ H x v S J lo hi sl Q I U a pl Y q
noncomputable def tSl(r:V->Option Int->Option Int->Hp->VK->Prop)(te:TE)(tl th:TO):TE:=λσ H Q=>te σ H λx H1=>tl σ H1 λl H2=>th σ H2 λu I=>r x l u I Q
def pe_slice(m:SlR X r)(p:PE X e te)(n:PO X lo tl)(j:PO X hi th):PE X (.Subscript e (.Slice lo hi f_ p2) pos) (tSl r te tl th):=by intro B2 s σ H Q I h;refine Subscript_ (E' (p B2 s σ H _ I h) λv d S=>?_);obtain⟨x,H1,A,f,q1⟩:=S;refine wpAny_Slice (E' (n B2 d σ H1 _ A q1) λY c S=>?_);obtain⟨l,H2,z,pl,q2⟩:=S;refine E' (j B2 c σ H2 _ z q2) λU J S=>?_;obtain⟨u,a,y,i,g⟩:=S;rw[evalPart_none];refine h_ ?_;have w:B6 X B2 σ a {J with heap:=J.heap.push {cls:=.type "slice",data:=.fields #[Y,U,.none]}}:=y.kept (t':=J.toks) λb B q=>d_ _ q;obtain⟨T,id,t,k,o⟩:=m B2 {J with heap:=J.heap.push {cls:=.type "slice",data:=.fields #[Y,U,.none]}} σ a x v Y U l u J.z Q w f (NR ..) pl i g;show w_ (B_ X.prog X.w) X.A (subscriptTail e (.Slice lo hi f_ p2) v (.ref J.z)) (EP X B2 σ Q) X.xe {J with heap:=J.heap.push {cls:=.type "slice",data:=.fields #[Y,U,.none]}};exact tail_any (ops:=[.ref J.z,v]) k t o (by with_unfolding_all rfl)
def cutV(xs:aB)(lo hi:Option Int):aB:=(xs.drop (HT.sIx xs.length 0 lo)).take (HT.sIx xs.length xs.length hi-HT.sIx xs.length 0 lo)
theorem nQ(xs:aB)(lo hi:Option Int):(cutV xs lo hi).length<=xs.length:=by unfold cutV;rw[FF,Gk];lia
def rSlT(K:Fg):V->Option Int->Option Int->Hp->VK->Prop:=λx lo hi H Q=>∃a xs,x=.ref a/\SqT K H a xs /\
 ¬(HT.sIx xs.length 0 lo=0/\HT.sIx xs.length xs.length hi=xs.length)/\∀p,H p=f_->Q (.ref p) (upd H p (.tup (cutV xs lo hi)))
def sl_tup:SlR X (rSlT X.K):=by
 intro B2 s σ H x v g f lo hi sl Q I Y e pl c h;obtain⟨a,xs,rfl,d,hw,q⟩:=h;cases Y;obtain⟨its,r,U,S⟩:=I.tuple d;have J:its.toArray.size=xs.length:=by rw[CJ];exact r.length.symm
 refine⟨"tuple",_,FL.lookup,U.typeIs,?_⟩
 refine HT.kY U e pl c (by rw[J];exact hw) ?_ (by rw[J];exact S);rw[J];refine⟨.ref s.z,_,I.laid (t':=s.toks) (o:=.tup (cutV xs lo hi)) (λb i q=>d_ _ q) (m_ _) ?_,rfl,q _ (I.hok.fresh (m_ _))⟩
 exact⟨DJ (nQ xs lo hi) S,_,(r.drop (HT.sIx xs.length 0 lo)).take (HT.sIx xs.length xs.length hi-HT.sIx xs.length 0 lo),Mv _ _⟩
def rCatT(K:Fg):R2:=λx y H Q=>∃a b xs ys,x=.ref a/\y=.ref b/\SqT K H a xs/\SqT K H b ys/\xs≠[]/\xs.length+ys.length<=o_ /\
 (ys=[]->Q (.ref a) H)/\(ys≠[]->∀p,H p=f_->Q (.ref p) (upd H p (.tup (xs++ys))))
def D'.vn{xs:aB}(r:D' xs us):us=[]↔xs=[]:=by
 cases r with
 |nil=>simp|cons _ _=>simp
def op_catT:OpR X (Fq .Add) (rCatT X.K):=by
 intro B2 s σ H x y v u Q I c Y h;obtain⟨a,b,xs,ys,rfl,rfl,f,e,d,U,q1,q2⟩:=h;cases c;cases Y;obtain⟨its,J,p1,_⟩:=I.tuple f;obtain⟨S,r2,p2,_⟩:=I.tuple e;refine HT.cat_tup p1 p2 (λz=>d (J.vn.mp z)) (λz=>⟨.ref a,H,I,rfl,q1 (r2.vn.mp z)⟩) (λz=>?_) (by rw[<- J.length,<- r2.length];exact U);refine⟨.ref s.z,_,I.laid (t':=s.toks) (o:=.tup (xs++ys)) (λb g q=>d_ _ q) (m_ _) ?_,rfl,q2 (λw=>z (r2.vn.mpr w)) _ (I.hok.fresh (m_ _))⟩
 exact⟨by rw[CM];exact U,_,J.append r2,Mv _ _⟩
end
noncomputable def ixN(n:Nat)(i:Int):Option Nat:=if 0<=i then(if i<n then a_ i.toNat else f_)else if -(n:Int)<=i then a_ (i+n).toNat else f_
def atI(xs:List α)(i:Int):Option α:=(ixN xs.length i).bind λj=>xs[j]?
theorem vq{j:Nat}(h:ixN n i=a_ j):seqIndex? i n=a_ j/\j<n/\ -(n:Int)<=i/\i<n:=by
 unfold ixN at h;by_cases h0:0<=i
 .rw[n_ h0]at h;by_cases h1:i<n
  .rw[n_ h1]at h;have e:i.toNat=j:=Dl h;exact⟨by rw[MP h0 h1,e],ac,ac,h1⟩
  .rw[l_ h1]at h;cases h
 .rw[l_ h0]at h;by_cases h1: -(n:Int)<=i
  .rw[n_ h1]at h;have e:(i+n).toNat=j:=Dl h;exact⟨by rw[Mg ac h1,e],ac,h1,ac⟩
  .rw[l_ h1]at h;cases h
def vS{xs:List α}{v:α}(h:atI xs i=a_ v):∃j,seqIndex? i xs.length=a_ j/\xs[j]?=a_ v/\j<xs.length/\ -(xs.length:Int)<=i/\i<xs.length:=by
 unfold atI at h;cases e:ixN xs.length i with
 |none=>rw[e]at h;cases h|some j=>rw[e]at h;obtain⟨h1,h2,J,I⟩:=vq e;exact⟨j,h1,h,h2,J,I⟩
def vV(b:Em):Prop:=∀o i,subscripted b c_ o i=operate [o,i] (Mi o i)
def IxR(X:Cx)(r:R2):Prop:=
 ∀(value I:Em) (B2:Pn) (s:k_) (σ:St) (H:Hp) (x y:V) (v u:g_) (Q:VK),B6 X B2 σ H s->C' x v->C' y u->r x y H Q ->
  subscripted I c_ v u=operate [v,u] (Mi v u)->w_ (B_ X.prog X.w) X.A (subscriptTail value I v u) (EP X B2 σ Q) X.xe s
def MtR(X:Cx)(id:String)(r:V->aB->Hp->VK->Prop):Prop:=
 ∀(B2:Pn) (s:k_) (σ:St) (H:Hp) (x:V) (xs:aB) (v:g_) (us:aM) (Q:VK),B6 X B2 σ H s->C' x v->D' xs us->r x xs H Q ->
  w_ (B_ X.prog X.w) X.A (Hk (.builtin id) (v::us)) (EP X B2 σ Q) X.xe s
section
variable{a b:Em}{ta tb:TE}
def IxR.or{r r':R2}(h:IxR X r)(h':IxR X r'):IxR X (λx y H Q=>r x y H Q\/r' x y H Q):=by
 intro value J B2 s σ H x y v u Q I U S q Y;rcases q with q|q
 .exact h value J B2 s σ H x y v u Q I U S q Y
 .exact h' value J B2 s σ H x y v u Q I U S q Y
def pe_ix{r:R2}(c:IxR X r)(e:PE X a ta)(d:PE X b tb)(Y:vV b):PE X (.Subscript a b pos) (tOp r ta tb):=by intro B2 s σ H Q I h;exact Subscript_ (binT e d I h λv u J x y H2 f U S q=>c a b B2 J σ H2 x y v u Q f U S q (Y _ _))
def rIxL(K:Fg):R2:=λx y H Q=>∃p xs i v,x=.ref p/\y=.int i/\SqL K H p xs/\atI xs i=a_ v/\Q v H
def rIxT(K:Fg):R2:=λx y H Q=>∃p xs i v,x=.ref p/\y=.int i/\SqT K H p xs/\atI xs i=a_ v/\Q v H
def rIxS:R2:=λx y H Q=>∃z i c,x=.str z/\y=.int i/\z.length<=o_/\atI z.cps.toList i=a_ c/\Q (.str ⟨#[c]⟩) H
theorem ix_list:IxR X (rIxL X.K):=by
 intro value J B2 s σ H x y v u Q I c b h Y;obtain⟨p,xs,i,z,rfl,rfl,d,f,q⟩:=h;cases c;obtain⟨t,rfl⟩:=b;obtain⟨its,r,pl,l⟩:=I.list d;obtain⟨j,h1,h2,n,k,g⟩:=vS f;obtain⟨w,a,S⟩:=r.get h2;have e:=r.length;have m:=pL;have fin:EP X B2 σ Q w s:=⟨z,H,I,S,q⟩
 by_cases h0:0<=i
 .have U:i.toNat=j:=by
   rw[MP h0 g]at h1;exact Dl h1
  exact item_listR pl.isList h0 ac (by rw[U];simpa using a) fin Y
 .have U:(i+(its.toArray.size:Int)).toNat=j:=by
   rw[Mg ac k]at h1;rw[CJ,<- e];exact Dl h1
  exact IX (x:=w) pl.isList.typeIs ND.lookup
   (wpAny_getItem_list_neg (Q:=λr s'=>r=w/\EP X B2 σ Q r s') pl.isList ac (by rw[CJ]<;>lia) ac (by rw[U];simpa using a) ⟨rfl,fin⟩) Y
theorem ix_tup:IxR X (rIxT X.K):=by
 intro value J B2 s σ H x y v u Q I Y U h a;obtain⟨p,xs,i,z,rfl,rfl,b,d,q⟩:=h;cases Y;obtain⟨t,rfl⟩:=U;obtain⟨its,r,pl,f⟩:=I.tuple b;obtain⟨j,h1,h2,m,l,k⟩:=vS d;obtain⟨w,e,S⟩:=r.get h2;have c:=r.length;have g:=pL;have fin:EP X B2 σ Q w s:=⟨z,H,I,S,q⟩
 exact IX (x:=w) pl.typeIs FL.lookup
  (getItem_tuple (j:=j) (Q:=λr s'=>r=w/\EP X B2 σ Q r s') pl ac ac (by rw[CJ,<- c];exact h1) (by simpa using e) ⟨rfl,fin⟩) a
theorem ix_str:IxR X rIxS:=by
 intro value J B2 s σ H x y v u Q I U S h Y;obtain⟨z,i,c,rfl,rfl,f,b,q⟩:=h;obtain⟨t,rfl⟩:=U;obtain⟨t',rfl⟩:=S;obtain⟨j,h1,h2,k,e,d⟩:=vS b;have a:z.cps.toList.length=z.length:=by simp[Str.length]
 rw[a]at h1 e d;have g:=pL;exact tail_any (typeIs_str s z t) slot_str_getitem.lookup (getItem_str (c:=c) (by have e1:CL (i< -(2^63:Int))=c_:=Dx ac;have e2:CL (i>=2^63)=c_:=Dx ac;rw[e1,e2,Bool.or_false]) (by rw[h1];simpa using h2) ⟨.str ⟨#[c]⟩,H,I.tok _,⟨_,rfl⟩,q⟩) Y
def rIx(K:Fg):R2:=λx y H Q=>rIxL K x y H Q\/rIxT K x y H Q\/rIxS x y H Q
def ix_seq:IxR X (rIx X.K):=ix_list.or (ix_tup.or ix_str)
def yX(its:aM)(n j:Nat)(u:g_):D4 (·.setIfInBounds j u) {cls:=.type "list",data:=.seq its.toArray n}={cls:=.type "list",data:=.seq (its.set j u).toArray n}:=by simp[D4]
theorem B6.lst{B2:Pn}{σ:St}{H:Hp}{s:k_}{p:i_}{xs:aB}(I:B6 X B2 σ H s)(h:H p=a_ (.lst xs)):
  ∃(its:aM) (n:Nat),D' xs its/\s.heap.get? p=a_ {cls:=.type "list",data:=.seq its.toArray n}/\xs.length<=o_:=by
 obtain⟨z,its,n,r,e⟩:=I.hok p _ h;exact⟨its,n,r,e,z⟩
def B6.lstUpd{s:k_}{p:i_}{xs:aB}{J:Nat}{f:IB->IB}(I:B6 X B2 σ H s)(h:H p=a_ (.lst xs))(Y:s.heap.get? p=a_ {cls:=.type "list",data:=.seq its.toArray n})(S:f {cls:=.type "list",data:=.seq its.toArray n}={cls:=.type "list",data:=.seq its'.toArray J})(r:D' ys its')(U:ys.length<=o_)(t:Nat):
  B6 X B2 σ (upd H p (.lst ys)) {s with heap:=s.heap.update p f,toks:=t}:=by
 have e:(s.heap.update p f).get? p=a_ {cls:=.type "list",data:=.seq its'.toArray J}:=by rw[EX f Y (by rw[S]<;>rfl),S]
 refine I.write (x:=p) (e:=p) (by rw[h];trivial) (.inl rfl) (λb u a q=>(Dd _ _ (D6 a)).trans q) ⟨_,e⟩ ?_;exact⟨U,its',J,r,e⟩
def rSetL:V->V->V->Hp->(Hp->Prop)->Prop:=λo i v H Q=>∃p xs k j,o=.ref p/\i=.int k/\H p=a_ (.lst xs)/\ixN xs.length k=a_ j/\Q (upd H p (.lst (xs.set j v)))
theorem set_list:PSet X rSetL:=by
 intro B2 s σ H o i v l m u Q I ro e d h;obtain⟨p,xs,k,j,rfl,rfl,Y,g,q⟩:=h;cases ro;obtain⟨t,rfl⟩:=e;obtain⟨its,n,r,J,f⟩:=I.lst Y;obtain⟨h1,h2,b,a⟩:=vq g;have S:=r.length;have w:=pL;have c:B6 X B2 σ (upd H p (.lst (xs.set j v))) {s with heap:=s.heap.update p (D4 (·.setIfInBounds j u))}:=
  I.lstUpd Y J (yX its n j u) (r.set d j) (by rw[Dn];exact f) s.toks
 by_cases h0:0<=k
 .have U:k.toNat=j:=by
   rw[MP h0 a]at h1;exact Dl h1
  exact PySem.W.ki_setAt J h0 ac (by rw[CJ,<- S];exact a) (by rw[U];exact⟨_,c,q⟩)
 .have U:(k+(its.toArray.size:Int)).toNat=j:=by
   rw[Mg ac b]at h1;rw[CJ,<- S];exact Dl h1
  exact PySem.W.ki_setBack J ac (by rw[CJ,<- S];exact b) ac (by rw[U];exact⟨_,c,q⟩)
theorem sM(lo hi:Option Int)(n:Nat):(Hj lo hi f_ n).1=((HT.sIx n 0 lo:Nat):Int)/\(Hj lo hi f_ n).2.1=((HT.sIx n n hi:Nat):Int)/\(Hj lo hi f_ n).2.2=1:=by
 refine⟨?_,?_,rfl⟩
 .cases lo with
  |none=>simp[Hj,HT.sIx]|some i=>
   simp only[Hj,HT.sIx,L8,show(1:Int)>0 by decide,FK];by_cases h:i<0
   .simp only[h,FK]<;>lia
   .simp only[h,En]<;>lia
 .cases hi with
  |none=>simp[Hj,HT.sIx]|some i=>
   simp only[Hj,HT.sIx,L8,show(1:Int)>0 by decide,FK];by_cases h:i<0
   .simp only[h,FK]<;>lia
   .simp only[h,En]<;>lia
def qA(its:aM)(lo hi:Option Int):slicePick its.toArray lo hi f_=((its.drop (HT.sIx its.length 0 lo)).take (HT.sIx its.length its.length hi-HT.sIx its.length 0 lo)).toArray:=by obtain⟨h1,h2,I⟩:=sM lo hi its.toArray.size;unfold slicePick;rw[h1,h2,I];simp only[sliceRange_one,pick_run,CJ]<;>rfl
def rSlL(K:Fg):V->Option Int->Option Int->Hp->VK->Prop:=λx lo hi H Q=>∃a xs,x=.ref a/\SqL K H a xs/\∀p,H p=f_->Q (.ref p) (upd H p (.lst (cutV xs lo hi)))
theorem sl_list:SlR X (rSlL X.K):=by
 intro B2 s σ H x v g f lo hi sl Q I U e pl Y h;obtain⟨a,xs,rfl,d,q⟩:=h;cases U;obtain⟨its,r,S,c⟩:=I.list d;have J:=r.length;refine⟨"list",_,ND.lookup,S.isList.typeIs,?_⟩
 refine wpAny_getItem_list_slice S.isList e pl Y .none ad ?_ (by rw[CJ]<;>lia);rw[qA,<- J];refine⟨.ref s.z,_,I.laid (t':=s.toks) (o:=.lst (cutV xs lo hi)) (λb i q=>d_ _ q) (m_ _) ?_,rfl,q _ (I.hok.fresh (m_ _))⟩
 exact⟨DJ (nQ xs lo hi) c,_,0,(r.drop (HT.sIx xs.length 0 lo)).take (HT.sIx xs.length xs.length hi-HT.sIx xs.length 0 lo),s_ _ rfl⟩
theorem iQ:cH X (.builtin "len") (λxs H Q=>∃p ys,xs=[.ref p]/\(SqL X.K H p ys\/SqT X.K H p ys)/\Q (.int ys.length) H):=by
 intro B2 s σ H xs us Q I r h;obtain⟨p,ys,rfl,S,q⟩:=h;obtain⟨u,rfl,U⟩:=vals1 r;cases U;have a:=pL;rcases S with S|S
 .obtain⟨its,r',pl,Y⟩:=I.list S;have J:=r'.length;exact Calls.call_len_list pl.isList (by simp only[CJ]<;>lia) ⟨.int ys.length,H,I.tok _,⟨s.toks+1,by rw[CJ,J]⟩,q⟩
 .obtain⟨its,r',pl,Y⟩:=I.tuple S;have J:=r'.length;exact len_tuple pl (by simp only[CJ]<;>lia) ⟨.int ys.length,H,I.tok _,⟨s.toks+1,by rw[CJ,J]⟩,q⟩
def cH.or{f:g_}{r r':aB->Hp->VK->Prop}(h:cH X f r)(h':cH X f r'):cH X f (λxs H Q=>r xs H Q\/r' xs H Q):=by
 intro B2 s σ H xs us Q I rs q;rcases q with q|q
 .exact h B2 s σ H xs us Q I rs q
 .exact h' B2 s σ H xs us Q I rs q
theorem uy:cH X (.type "list") (λxs H Q=>∃p ys,xs=[.ref p]/\(SqL X.K H p ys\/SqT X.K H p ys)/\∀l,H l=f_->Q (.ref l) (upd H l (.lst ys))):=by
 intro B2 s σ H xs us Q I r h;obtain⟨p,ys,rfl,Y,q⟩:=h;obtain⟨u,rfl,f⟩:=vals1 r;cases f;have fin:∀(its:aM),D' ys its->ys.length<=o_->∀(h':Du) (J:Nat),(∀b o',s.heap.get? b=a_ o'->h'.get? b=a_ o') ->
   h'.get? s.z=a_ {cls:=.type "list",dict:=f_,data:=.seq its.toArray J,slots:=#[]}->EP X B2 σ Q (.ref s.z) {s with heap:=h'}:=λits r' U h' J S e=>
  ⟨.ref s.z,_,I.laid (t':=s.toks) S (m_ _) (show dW X.prog X.w _ h' _ (.lst ys)from⟨U,its,J,r',e⟩),rfl,q _ (I.hok.fresh (m_ _))⟩
 rcases Y with Y|Y
 .obtain⟨its,r',pl,U⟩:=I.list Y;have a:=r'.length;obtain⟨o,c,d,n,hd⟩:=pl.isList;exact call_list_seq p (.inl rfl) c d hd (λh' J S e=>fin its r' U h' J S e) (by simp only[CJ]<;>lia)
 .obtain⟨its,r',pl,U⟩:=I.tuple Y;have a:=r'.length;obtain⟨o,c,d,n,hd⟩:=pl;exact call_list_seq p (.inr rfl) c d hd (λh' J S e=>fin its r' U h' J S e) (by simp only[CJ]<;>lia)
theorem rR:cH X (.type "tuple") (λxs H Q=>∃p ys,xs=[.ref p]/\((SqL X.K H p ys/\∀l,H l=f_->Q (.ref l) (upd H l (.tup ys)))\/(SqT X.K H p ys/\Q (.ref p) H))):=by
 intro B2 s σ H xs us Q I r h;obtain⟨p,ys,rfl,h⟩:=h;obtain⟨u,rfl,a⟩:=vals1 r;cases a;rcases h with⟨J,q⟩|⟨J,q⟩
 .obtain⟨its,r',pl,S⟩:=I.list J;have U:=r'.length;refine call_tuple_list pl.isList (λh' c=>?_) (by simp only[CJ]<;>lia);have Y:B6 X B2 σ H {s with heap:=h'}:=I.kept (t':=s.toks) c;have d:B6 X B2 σ (upd H h'.objs.size (.tup ys)) {s with heap:=h'.push {cls:=.type "tuple",data:=.seq its.toArray}}:=
   Y.laid (t':=s.toks) (λb o e=>d_ _ e) (m_ _) (show dW X.prog X.w _ _ _ (.tup ys)from⟨S,its,r',Mv _ _⟩)
  exact⟨.ref h'.objs.size,_,d,rfl,q _ (Y.hok.fresh (m_ _))⟩
 .obtain⟨its,r',pl,S⟩:=I.tuple J;exact call_tuple_same pl ⟨.ref p,H,I,rfl,q⟩
def tyV(K:Fg)(T:String)(x:V)(H:Hp):Prop:=match x with
 |.str _=>T="str"|.int _=>T="int"|.ref p=>(T="list"/\∃xs,SqL K H p xs)\/(T="tuple"/\∃o,K.lookup p=a_ o/\o.cls=.type "tuple"/\o.dict=f_) \/
   (T="dict"/\((∃I,H p=a_ (.dK I))\/∃I,H p=a_ (.dT I)))\/(T="set"/\∃S n,H p=a_ (.set S n))
 |_=>False
def tyV_is{s:k_}{v:g_}(I:B6 X B2 σ H s)(r:C' x v)(ty:tyV X.K T x H):
  s.TypeIs v T/\∀a,v=.ref a->∃Y,s.heap.get? a=a_ Y/\Y.dict=f_:=by
 cases x with
 |str z=>obtain⟨t,rfl⟩:=r;cases(show T="str" from ty);exact⟨typeIs_str s z t,λ_ e=>nomatch e⟩
 |int i=>obtain⟨t,rfl⟩:=r;cases(show T="int" from ty);exact⟨typeIs_int s i t,λ_ e=>nomatch e⟩
 |ref p=>
  cases r;rcases ty with⟨rfl,xs,b⟩|⟨rfl,o,J,d,hd⟩|⟨rfl,J⟩|⟨rfl,S,n,J⟩
  .obtain⟨its,_,pl,_⟩:=I.list b;refine⟨pl.isList.typeIs,λa e=>?_⟩
   cases e;obtain⟨o,n,e,c,hd,_⟩:=pl;exact⟨o,e,hd⟩
  .refine⟨⟨o,I.kIn p o J,d⟩,λa e=>?_⟩
   cases e;exact⟨o,I.kIn _ o J,hd⟩
  .have z:∃o,s.heap.get? p=a_ o/\o.ExactDict:=by
    rcases J with⟨U,J⟩|⟨U,J⟩
    .obtain⟨_,_,_,_,o,_,_,e,ex,_⟩:=I.hok p _ J;exact⟨o,e,ex⟩
    .obtain⟨_,_,_,_,o,_,_,e,ex,_⟩:=I.hok p _ J;exact⟨o,e,ex⟩
   obtain⟨o,e,ex⟩:=z;refine⟨⟨o,e,ex.1⟩,λa e2=>?_⟩
   cases e2;exact⟨o,e,ex.2.1⟩
  .obtain⟨o,_,_,_,e,ex,_⟩:=I.hok p _ J;refine⟨⟨o,e,ex.1⟩,λa e2=>?_⟩
   cases e2;exact⟨o,e,ex.2.1⟩
 |_=>exact DK ty
def tBM(K:Fg)(T:String)(r:V->aB->Hp->VK->Prop)(to:TE)(t:TA):TE:=λσ H Q=>to σ H λx H1=>tyV K T x H1/\t σ H1 λxs H2=>r x xs H2 Q
variable{o:Em}{es:List Em}{to:TE}{t:TA}{name:C_}{apos cpos:IM}{id:String}{r:V->List V->Hp->VK->Prop}
def pe_bm(pa:PlainAttrs T)(Y:Slot T name id)(b:typeOf (.builtin id)=ER (.type "method_descriptor"))(m:MtR X id r)(l:PE X o to)(n:PA X (e::es) t)(U: ~~~(Fi o name X.env (Dh o X.env)=Dh o X.env))(a: ~~~(((Eg cpos (j_ (e::es) X.env)).all (λx=> !x.1)&&(HQ cpos (Gv [] X.env)).all (λx=>x.1.isSome)
   &&CL ((e::es).length+([]:List Ik).length+(if ([]:List Ik).isEmpty then 0 else 1)<30))=e_))(S: ~~~((apos.endLine==cpos.line)=e_))(k: ~~~(j_ (e::es) X.env=(c_,Dh e X.env)::j_ es X.env))(J: ~~~((Eg cpos (j_ es X.env)).any (·.1)=c_)):
  PE X (.Call (.Attribute o name apos) (e::es) [] cpos) (tBM X.K T r to t):=by
 intro B2 s σ H Q I h;refine wpAny_Call_method_late U a S rfl (E' (l B2 s σ H _ I h) λv j c=>?_);obtain⟨x,H1,g,d,ty,q1⟩:=c;obtain⟨h1,h2⟩:=tyV_is g d ty;refine⟨T,id,pa,Y,b,h1,h2,?_⟩
 have f:=n cpos B2 j σ H1 _ g q1;rw[k]at f ⊢;refine Ii (by show(c_||(Eg cpos (j_ es X.env)).any (·.1))=c_;rw[J]<;>rfl) (IJ ?_);refine E' f λus i c=>?_;obtain⟨vs,H2,p,r2,q2⟩:=c;exact m B2 i σ H2 x vs v us Q p d r2 q2
/- xs.append(e),list.index on a module's tuple .. are MtR facts of 06m -/
end
def MtM(X:Cx)(id:String)(r:V->aB->Hp->VK->Prop):Prop:=
 ∀(B2:Pn) (s:k_) (σ:St) (H:Hp) (x:V) (xs:aB) (v:g_) (us:aM) (Q:VK),B6 X B2 σ H s->C' x v->D' xs us->r x xs H Q ->
  w_ (B_ X.prog X.w) X.A (Hk (.builtin id) (v::us)) (EP X B2 σ Q) X.xe s
def D'.one(h:D' [x] us):∃u,us=[u]/\C' x u:=by
 cases h with
 |cons r t=>cases t;exact⟨_,rfl,r⟩
def D'.two{y:V}(h:D' [x,y] us):∃u v,us=[u,v]/\C' x u/\C' y v:=by
 cases h with
 |cons r t=>obtain⟨v,rfl,q⟩:=D'.one t;exact⟨_,_,rfl,r,q⟩
theorem D'.zero:∀{us:aM},D' [] us->us=[]
 |_,.nil=>rfl
theorem D'.eraseIdx:∀{xs:aB} {us:aM} (i:Nat),D' xs us->D' (xs.eraseIdx i) (us.eraseIdx i)
 |_,_,_,.nil=>.nil|_,_,0,.cons _ t=>t|_,_,i+1,.cons r t=>.cons r (D'.eraseIdx i t)
section
variable{s:k_}{l:i_}{xs:List V}
def B6.lset{f:Array g_->Array g_}{t':Nat}(I:B6 X B2 σ H s)(a:H l=a_ (.lst xs))(e:s.heap.get? l=a_ {cls:=.type "list",data:=.seq its.toArray n})(U:f its.toArray=its'.toArray)(hv:D' ys its')(J:ys.length<=o_):
  B6 X B2 σ (upd H l (.lst ys)) {s with heap:=s.heap.update l (D4 f),toks:=t'}:=by
 have q:=PySem.IsL.update e f;rw[U]at q;refine I.write (x:=l) (e:=l) (by rw[a];exact trivial) (.inl rfl) (λb' u Y S=>(Dd s.heap (D4 f) (D6 Y)).trans S) ⟨_,q⟩ ?_;exact⟨J,its',_,hv,q⟩
def B6.lnew{t':Nat}(I:B6 X B2 σ H s)(hv:D' ys its)(J:ys.length<=o_):
  B6 X B2 σ (upd H s.heap.objs.size (.lst ys)) {s with heap:=s.heap.push {cls:=.type "list",data:=.seq its.toArray},toks:=t'}:=
 I.laid (λ_ _ q=>d_ _ q) (m_ _) ⟨J,its,0,hv,s_ _ rfl⟩
theorem B6.fresh(I:B6 X B2 σ H s):H s.heap.objs.size=f_:=I.hok.fresh (m_ _)
def B6.lstM(I:B6 X B2 σ H s)(J:H l=a_ (.lst xs)):xs.length<=o_/\∃(its:aM) (n:Nat),D' xs its/\xs.length=its.length/\s.heap.get? l=a_ {cls:=.type "list",data:=.seq its.toArray n}:=by obtain⟨z,its,n,r,e⟩:=I.hok l _ J;exact⟨z,its,n,r,r.length,e⟩
theorem notLongL(h:n<=o_):G7 n=c_:=by unfold G7;exact Dx ac
end
def qL:V->aB->Hp->VK->Prop:=λx vs H Q=>∃l xs y,x=.ref l/\vs=[y]/\H l=a_ (.lst xs)/\xs.length<o_/\Q .non (upd H l (.lst (xs++[y])))
theorem tJ:MtM X "list.append" qL:=by
 intro B2 s σ H x vs v us Q I S U h;obtain⟨l,xs,y,rfl,rfl,J,a,q⟩:=h;cases S;obtain⟨u,rfl,Y⟩:=U.one;obtain⟨z,its,n,r,b,e⟩:=I.lstM J;refine Nr Ih ⟨_,e,rfl⟩ F.entry_list_append (F.args_list_append_2 _ _) (PySem.list_append l its.toArray n u (by rw[CJ];lia)) ⟨e,?_⟩;refine⟨.non,_,I.lset (its':=its++[u]) J e ad (r.append (.cons Y .nil)) ?_,rfl,q⟩
 rw[CM,ID];lia
def AF:V->aB->Hp->VK->Prop:=λx vs H Q=>∃l b xs I,x=.ref l/\vs=[.ref b]/\H l=a_ (.lst xs)/\H b=a_ (.lst I)/\xs.length+I.length<=o_/\Q .non (upd H l (.lst (xs++I)))
theorem Bd:MtM X "list.extend" AF:=by
 intro B2 s σ H x vs v us Q I Y a h;obtain⟨l,b,xs,g,rfl,rfl,U,f,j,q⟩:=h;cases Y;obtain⟨u,rfl,c⟩:=a.one;cases c;obtain⟨z,its,n,r,k,e⟩:=I.lstM U;obtain⟨i,J,n2,r2,d,e2⟩:=I.lstM f;have hsz:its.toArray.size+J.toArray.size<=o_:=by rw[CJ,CJ];lia
 have S:¬(!its.toArray.isEmpty&&G7 (its.toArray.size+J.toArray.size))=e_:=by rw[notLongL hsz,KC];exact Dt
 refine Nr Lk ⟨_,e,rfl⟩ F.entry_list_extend (F.args_list_extend_2 _ _)
  (AutoSeq1.list_extend_list_list_0 l its.toArray n b J.toArray n2 S (by rw[CJ];lia) ac) ⟨e,e2,?_⟩
 refine⟨.non,_,I.lset (its':=its++J) U e ad (r.append r2) ?_,rfl,q⟩
 rw[CM];lia
end Lake
namespace Lake.Att
open PySem PySem.W PySem.Calls PyProof.Rows
def nq{P:Params}{h:Du}:∀(ns:am) (vs:aM),WellAll P h vs (ns.map WData.int)->Ld vs ns:=by
 intro ns
 induction ns with
 |nil=>intro vs w;rw[EM]at w;cases w;exact .nil|cons n ns I=>
  intro vs w;rw[u_]at w;cases w with
  |cons a b=>cases a;exact .cons _ _ (I _ b)
theorem Az{l:Jv}{n:Nat}(k:l.most=a_ n){P:Params}{h:Du}{args:List WData}{I:aM}(J:l.row.toRowW.claim.pre args=e_)(b:WellAll P h I args):
  ∃a vs ns,I=[x_ a]/\args=[WData.list (ns.map WData.int)]/\h.get? a=a_ {cls:=.type "list",data:=.seq vs.toArray}/\Ld vs ns/\ns.length<=n:=by
 have c:WShape.hasAll [] args [.list .int]=e_:=(pre_splitW J).1;have e:l.pre.holds [] {args:=args}=e_:=(pre_splitW J).2;obtain⟨d,r,rfl,h1,h2⟩:=hasAllW_cons c;obtain rfl:=hasAllW_nil h2;obtain⟨xs,rfl,m⟩:=hasW_list h1;obtain⟨ns,rfl⟩:=items_int m;have S:ns.length<=n:=by
  unfold OpenLaw.pre at e;have Y:(WTm.not (.lt (.lit (.int (n:Int))) (.len (.arg 0)))).holds [] {args:=[.list (ns.map .int)]}=e_:=by have Y:=(holds_andW e).1;rw[k]at Y;exact Y
  have h5:=condW_of Y (w_not (w_lt w_lit (w_len_list (w_arg rfl))));rw[q_]at h5;refine Nat.le_of_not_lt λq=>?_;have i:(n:Int)<((ns.length:Nat):Int):=ac
  first
   |(rw[El i]at h5;exact CQ h5 ag)
   |(simp at h5;lia)
 cases b with
 |cons g f=>
  cases f;cases g with
  |list j U=>exact⟨_,_,ns,rfl,rfl,j,nq ns _ U,S⟩
def AL(l:Jv)(args:List WData):l.row.toRowW.claim.post args (.bool e_) args=e_:=
 postW_of (r:=l.row.toRowW) (X:=(e_==e_))
  (show WShape.has [] (.bool e_) .bool=e_ by first|rfl|decide|simp[WShape.has,WShape.arms,WShape.armsAll])
  (show(WTm.eq .res (.lit (.bool e_))).value [] {args:=args,res:=a_ (.bool e_),after:=args}=a_ (.bool (e_==e_))from w_eq_bool (w_res rfl) w_lit) rfl
def vR{l:Jv}{n:Nat}{q:D0}{S:List C_}{x:(Mq)->Du->Prop}{v:Ew->Du->Prop}{d:DefRec}(B:l.most=a_ n)(k:d.params.defaults=[])(g:∀(w:Ew) (J I:k_) (mg h:Mq) (fa:i_) (o:IB) (pm cd doc:g_) (a:i_) (vs:aM) (ns:am),
   Ground q S [] x w J mg h I.heap->v w I.heap ->
   I.heap.get? fa=a_ o->o.data=.func (docDef d.name d.params d.body d.scope pm cd doc)->I.heap.CodeRec cd d.name->mg d.name=a_ (.ref fa) ->
   I.heap.get? a=a_ {cls:=.type "list",data:=.seq vs.toArray}->Ld vs ns->ns.length<=n->I.gens=#[] ->
   He (B_ l.prog w) Ki (.call (.ref fa) ⟨[.ref a],[]⟩) (λr s'=>r=.ok (.ret (.bool e_))/\OldK I.heap s'.heap/\s'.os=I.os/\Iq s'.gens) I):
  LL q S x v l.row.toRowW d [] (λf vs=>Hk f vs):=by
 intro w J I mg h G Y fa o pm cd doc K kV A hd m t j E u p L b s y i D;obtain rfl:K=.none:=Dflts.none t k;obtain rfl:kV=.none:=Dflts.noKw t;obtain⟨a,vs,ns,rfl,rfl,c,U,e⟩:=Az B b i;refine enter_call (F7 (g w J I mg h fa o pm cd doc a vs ns G Y A (fd_plain hd) m j c U e E) λr s' z=>?_);obtain⟨rfl,h2,H,F⟩:=z;exact⟨.inl ⟨.bool e_,.bool e_,[],rfl,λ_=>rfl,.bool e_,AL l _,λ_=>⟨E1,λ_ C=>(nomatch C)⟩⟩,h2,H,F⟩
end Lake.Att
namespace Lake
open PySem PySem.Spec PyProof.Rows
variable{P prog:D0}{w:Ew}{K:Fg}{mg:Mq}{CX:CXT}{k n j i m lo nN nN2 n2 k2 ep ep' hint wa wb nrem:Nat}{a c l b L C r q fad fI z Cb A1:i_}{fd fdI:Fh}{x qual:C_}{sp:Sp}{vs us bmB:List g_}{X:Cx}{st:Eb}{ps N' N ps2:List C_}{oc doc pm cdv ct mc u r' k' a' b' hv cd:g_}{od an dx hd:Option i_}{osl sl:Array (Option g_)}{pos spos py apos pos' p2 q1 q2 p1 np cpos hpos:IM}{A:ES}{B T newId initId:String}{H H1 H2 H' F F' H0 F1 F0 FB G:Hp}{scope sc:Kk}{env:KR}{E:Vp}{B2:Pn}{σ σ':St}{ix:List (Option Nat)}{fp ch ys:List i_}{t:Tok}{R:Bool->Hp->Prop}{elt tg iter e ex value ek ev e1 e2 e3 e4 e5:Em}{ifs es elts:List Em}{tt:TT}{te tl tv td:TE}{y v:V}{h h':Du}{cs:List (C_×i_)}{dvs:List V}{p O O2 OL O' out pa pb rest:List Nat}{pl:Lb Bool}{Q:VK}{ro bn:Bool}{D:Ends}{α β:Type}{op op':CmpOp}{sts body suite:List Ei}{ta:TA}{κ:Kq}{outer:List KR}{oe:IB}{os:OsState}{b₀:Ei}{tb:List (i_×List Bool)}{items:Array g_}{gs:List (List Nat×Nat)}
theorem sv:∀{vs:aM} {ns:am},Ld vs ns->D' (ns.map V.int) vs
 |_,_,.nil=>.nil|_,_,.cons n t h=>.cons ⟨t,rfl⟩ (sv h)
def Only(H:Hp):Prop:=∀b,H b=f_\/∃o xs,H b=a_ (.frz o (.lst xs))
def law_call{C:Mq}{fa:i_}{I:k_}{ns:am}(X:K.In I.heap)(l:I.heap.Ns DY mg)(S:I.heap.Ns Nt C)(G:∀x:C_,x≠"__name__"->C x=E6 x)(p:I.heap.NoLimit)(hg:I.gens=#[])(A:I.heap.get? a=a_ {cls:=.type "list",data:=.seq vs.toArray})(hi:Ld vs ns)(R:ns.length<=o_)(hr:fS k Ki)(F:∀base:Du,K.In base->base.Ns DY mg->fU P w K mg base CX k fa fd [x] sp)(c:∀(s:k_) (u:g_),JJ s fd ⟨[u],[]⟩ [(x,u)])(D:∀H:Hp,Only H->SqL K H a (ns.map V.int)->sp [.ref a] H (λv _=>v=.bl e_) λ_ _ _=>False)(L:∀H e s',CX [] H I (λ_ _ _=>False) e s'->False):
  He (B_ P w) Ki (.call (.ref fa) ⟨[.ref a],[]⟩) (λr s'=>r=.ok (.ret (.bool e_))/\OldK I.heap s'.heap/\s'.os=I.os/\Iq s'.gens) I:=by
 have Q:=sv hi;have g:=hi.length;have Y:∀H:Hp,Only H->SqL K H a (ns.map V.int)->HOk P w H I.heap->(∀b,H b≠f_->b=a)->(H a≠f_->K.lookup a=f_) ->
   He (B_ P w) Ki (.call (.ref fa) ⟨[.ref a],[]⟩) (λr s'=>r=.ok (.ret (.bool e_))/\OldK I.heap s'.heap/\s'.os=I.os/\Iq s'.gens) I:=by
  intro H T hS j W hK;have J:∀{b:i_} {o:IB},I.heap.get? b=a_ o->H b=f_->(hidT I.heap H).get? b=a_ o:=λe n=>hidT_get e n;have B:∀{b:i_} {o:IB} {es:Array EG} {ep:Nat},I.heap.get? b=a_ o->o.data=.dict es ep->H b=f_:=λ{b o es ep} e d=>by
   cases q:H b with
   |none=>rfl|some u=>have N:b=a:=W b (by rw[q];simp);subst N;rw[A]at e;cases e;have d':Data.seq vs.toArray _=Data.dict es ep:=d;cases d'
  have U:∀{b:i_} {m:Mq},I.heap.Ns b m->(hidT I.heap H).Ns b m:=λ{b m} ⟨o,es,ep,e,d,r⟩=>⟨o,es,ep,J e (B e d),d,r⟩
  have t:K.In (hidT I.heap H):=λb o e=>J (X b o e) (by
   cases q:H b with
   |none=>rfl|some u=>have N:b=a:=W b (by rw[q];simp);subst N;rw[hK (by rw[q];simp)]at e;cases e)
  have hM:Mod K mg (hidT I.heap H):=⟨t,U l,⟨C,U S,G⟩,let ⟨mc,h1,h2⟩:=p;⟨mc,U h1,h2⟩⟩
  have e0:Env0 P w K mg (hidT I.heap H) Ki [] I H:=⟨rfl,hM,λb o e=>of_hidT e,GQ (By _ _),trivial,λb S=>CQ (show b∈([]:List i_)from S) ad,j,.of_eq hg⟩
  refine F7 ((F _ t (U l)).run Ki [] I H ⟨[.ref a],[]⟩ [.ref a] [.ref a] _ _ hr e0 (c I (.ref a)) (.cons rfl .nil) (D H T hS)) λr s' h=>?_;cases r with
  |error e=>exact(L H e s' h).elim|ok fl=>
   cases fl with
   |next=>exact DK h|brk=>exact DK h|cont=>exact DK h|ret u=>
    obtain⟨v,H',os,y,O,i,r',q⟩:=h;have q':v=.bl e_:=q;subst q';obtain rfl:u=Jk e_:=r';refine⟨rfl,OldK.of_keep λb o e=>?_,os,y⟩
    cases q:H b with
    |none=>exact O.keep b o e q (by intro z;exact CQ (show b∈([]:List i_)from z) ad) ad|some u=>
     rcases T b with z|⟨ob,xs,z⟩
     .rw[q]at z;cases z
     .have Z:=O.frzs b ob _ z;obtain⟨e1,_⟩:=j b _ z;obtain⟨e2,_⟩:=i b _ Z;rw[e]at e1;cases e1;exact e2
 cases E:K.lookup a with
 |some o=>have e:=X a o E;rw[A]at e;cases e;refine Y (λ_=>f_) (λ_=>.inl rfl) (.inr ⟨_,vs.toArray,_,E,rfl,rfl,rfl,by rw[CJ,g];exact R,by simpa using Q⟩) (λb u z=>by have f:(f_:Option HO)=a_ u:=z;cases f) (λb z=>CQ rfl z) λz=>CQ rfl z|none=>
  refine Y (λb=>if b=a then a_ (.frz {cls:=.type "list",data:=.seq vs.toArray} (.lst (ns.map V.int)))else f_) (λb=>?_) (.inl (.inr ⟨{cls:=.type "list",data:=.seq vs.toArray},n_ rfl⟩)) (λb u z=>?_) (λb z=>?_) λ_=>E
  .by_cases S:b=a
   .exact .inr ⟨_,_,n_ S⟩
   .exact .inl (l_ S)
  .by_cases S:b=a
   .have f:=(n_ S).symm.trans z;cases f;subst S;exact⟨A,by rw[q_];exact R,vs,_,Q,A⟩
   .have f:=(l_ S).symm.trans z;cases f
  .by_cases S:b=a
   .exact S
   .exact CQ (l_ S) z
def walk_of{l:Jv}{q:D0}{J:List C_}{O:(Mq)->Du->Prop}{r:Ew->Du->Prop}{d:DefRec}{K:Params->Fg}{CX:Ew->CXT}{sp:Ew->Sp}(z:l.most=a_ n)(g:n<=o_)(j:d.params.defaults=[])(y:fS k Ki)(D:∀(w:Ew) (h:Du),r w h->(K w.params).In h)(F:∀(w:Ew) (mg:Mq) (fa:i_) (h:Du),(K w.params).In h->h.Ns DY mg->mg d.name=a_ (.ref fa) ->
   ∃fd:Fh,(∀(s:k_) (u:g_),JJ s fd ⟨[u],[]⟩ [(x,u)]) /\
    ∀base:Du,(K w.params).In base->base.Ns DY mg->fU l.prog w (K w.params) mg base (CX w) k fa fd [x] (sp w))(c:∀(w:Ew) (H:Hp) (a:i_) (ns:am),ns.length<=n->Only H->SqL (K w.params) H a (ns.map V.int)->sp w [.ref a] H (λv _=>v=.bl e_) λ_ _ _=>False)(m:∀(w:Ew) (H:Hp) (s:k_) (e:g_) (s':k_),CX w [] H s (λ_ _ _=>False) e s'->False):
  LL q J O r l.row.toRowW d [] (λf vs=>Hk f vs):=by
 refine Att.vR z j λw p U mg P fa o pm cd doc a vs ns G Y Q hd B i b S I A=>?_;have t:=D w _ Y;obtain⟨fd,C,N⟩:=F w mg fa _ t G.T.g i;exact law_call t G.T.g G.T.b G.T.builtins G.T.nolimit A b S (DJ I g) y N C (λH L E=>c w H a ns I L E) λH e s'=>m w H U e s'
def inClass(s:Ei)(j:Nat):Ei:=match s with
 |.ClassDef _ _ _ body _ _ _ _ _ _ _=>body.getD j (.Pass ⟨0,0,0,0⟩)|_=>.Pass ⟨0,0,0,0⟩
def cJ(s:Ei):Arguments:=match s with
 |.FunctionDef _ a _ _ _ _ _ _ _ _=>a|_=>{posonlyargs:=[],args:=[],vararg:=f_,kwonlyargs:=[],kw_defaults:=[],kwarg:=f_,defaults:=[]}
def bw(s:Ei):List Ei:=match s with
 |.FunctionDef _ _ b _ _ _ _ _ _ _=>b|_=>[]
def aE(s:Ei):Kk:=match s with
 |.FunctionDef _ _ _ _ _ _ sc _ _ _=>sc|_=>{kind:=.function,names:=[],isGenerator:=c_,isCoroutine:=c_}
noncomputable abbrev CX0:CXT:=λ_ _ _ _ _ _=>False
noncomputable abbrev E0:XK:=λ_ _ _=>False
def tw:Passes CX0 X E0:=λ_ _ _ _ _ _ _ h=>h.elim
structure Fun(K:Fg)(x qual:C_)(st:Ei)(f:i_)(fd:Fh):Prop where
 ex:∃(oc:g_) (od:Option i_) (kV doc pm:g_) (an:Option i_) (cdv ct:g_) (osl:Array (Option g_)),
  fd=JT x qual (cJ st) (bw st) (aE st) .none kV doc pm an cdv ct/\K.lookup f=a_ ⟨oc,od,.func fd,osl⟩/\KL K cdv qual=e_
 kp:Gd K (.ref f)=e_
theorem Fun.binds{st:Ei}{f:i_}(F:Fun K x qual st f fd)(h:∀(kV doc pm:g_) (an:Option i_) (cdv ct:g_) (us:aM),us.length=ps.length->Ju (JT x qual (cJ st) (bw st) (aE st) .none kV doc pm an cdv ct) ⟨us,[]⟩=ER (ps.zip us)):Binds K fd ps []:=by obtain⟨oc,od,kV,doc,pm,an,cdv,ct,osl,rfl,J,I⟩:=F.ex;exact .all (h kV doc pm an cdv ct)
def xr{st:Ei}{f:i_}{kV:g_}(l:K.lookup f=a_ ⟨oc,od,.func (JT x qual (cJ st) (bw st) (aE st) .none kV doc pm an cdv ct),osl⟩)(c:KL K cdv qual=e_)(k:Gd K (.ref f)=e_):Fun K x qual st f (JT x qual (cJ st) (bw st) (aE st) .none kV doc pm an cdv ct):=⟨⟨oc,od,kV,doc,pm,an,cdv,ct,osl,rfl,l,c⟩,k⟩
def pv(i:Nat)(J: ~~~(X.N[i]?=a_ x))(hv:autoParam (Vis X.env.scope x) Jq4)(hd:((x==("__debug__":C_))=c_)⁻¹)(I:((x==("__classdict__":C_))=c_)⁻¹):PE X (.Name x pos) (wk i):=pe_var J hv hd I
def iteF{A B:Prop}(h:B):if c_=e_ then A else B:=by rw[l_ Dt];exact h
def iteNS{c A B:Prop}[Decidable c](I:c)(h:B):if (!decide c)=e_ then A else B:=by rw[El I];exact iteF h
def aK(H H':Hp):Prop:=∀b o,H b=a_ o->H' b=a_ o
def aK.refl(H:Hp):aK H H:=λ_ _ h=>h
def aK.trans(a:aK H H1)(b:aK H1 H2):aK H H2:=λc o h=>b c o (a c o h)
def aK.free(e:aK H H')(h:H' l=f_):H l=f_:=by
 cases q:H l with
 |none=>rfl|some o=>rw[e l o q]at h;cases h
noncomputable def qk(cells:List (C_×i_)):List (C_×F_)->List (C_×i_)->List (C_×i_)
 |[],I=>I|(x,k)::r,I=>qk cells r (if (k==CV)=e_ then(x,(cells.lookup x).getD 0)::I else I)
def gt_ne(h1:b<a)(h2:a<c):c≠b:=by rintro rfl;exact CQ (Iy h1 h2) (Ee _)
def zi(h1:a<n)(h2:n<=b):a≠b:=by rintro rfl;exact CQ (CZ h1 h2) (Ee _)
theorem qj{cells:List (C_×i_)}{x:C_}{c:i_}:∀(ns:List (C_×F_)) (I:List (C_×i_)),(qk cells ns I).lookup x=a_ c ->
  ((x,CV)∈ns/\c=(cells.lookup x).getD 0)\/I.lookup x=a_ c
 |[],_,h=>.inr h|(y,k)::r,I,h=>by
  unfold qk at h;rcases qj r _ h with⟨m,e⟩|q
  .exact .inl ⟨CS _ m,e⟩
  .by_cases S:(k==CV)=e_
   .rw[n_ S,CN]at q;cases J:x==y with
    |true=>rw[J]at q;have e1:=Fc J;have e2:=Fc S;subst e1 e2;exact .inl ⟨CW,(Dl q).symm⟩|false=>rw[J]at q;exact .inr q
   .rw[l_ S]at q;exact .inr q
theorem nU{cells:List (C_×i_)}{x:C_}:∀(ns:List (C_×F_)) (I:List (C_×i_)),((x,CV)∈ns\/(I.lookup x).isSome=e_)->((qk cells ns I).lookup x).isSome=e_
 |[],_,h=>h.elim (λz=>nomatch z) id
 |(y,k)::r,I,h=>by
  unfold qk;refine nU r _ ?_;rcases h with h|h
  .rcases r_.mp h with e|h
   .cases e;refine .inr ?_;rw[n_ ag,CN];simp
   .exact .inl h
  .refine .inr ?_;by_cases J:(k==CV)=e_
   .rw[n_ J,CN];cases S:x==y with
    |true=>rfl|false=>exact h
   .rw[l_ J];exact h
theorem jK{x:C_}{c:i_}:∀(ns:List (C_×F_)) (n:Nat) (I:List (C_×i_)),(EL n ns I).lookup x=a_ c->(n<=c/\(x,EW)∈ns)\/I.lookup x=a_ c
 |[],_,_,h=>.inr h|(y,k)::r,n,I,h=>by
  unfold EL at h;by_cases S:(k==EW)=e_
  .rw[n_ S]at h;rcases jK r (n+1) _ h with⟨a,m⟩|q
   .exact .inl ⟨ac,CS _ m⟩
   .rw[CN]at q;cases J:x==y with
    |true=>rw[J]at q;have e1:=Fc J;have e2:=Fc S;have e3:=Dl q;subst e1 e2 e3;exact .inl ⟨m_ _,CW⟩|false=>rw[J]at q;exact .inr q
  .rw[l_ S]at h;rcases jK r n I h with⟨a,m⟩|q
   .exact .inl ⟨a,CS _ m⟩
   .exact .inr q
theorem nX:∀(ns:List (C_×F_)) (n:Nat) (I:List (C_×i_)),(∀x y c,I.lookup x=a_ c->I.lookup y=a_ c->x=y)->(∀x c,I.lookup x=a_ c->c<n) ->
  ∀x y c,(EL n ns I).lookup x=a_ c->(EL n ns I).lookup y=a_ c->x=y
 |[],_,_,hi,_=>hi|(z,k)::r,n,I,hi,Y=>by
  unfold EL;by_cases a:(k==EW)=e_
  .rw[n_ a];refine nX r (n+1) _ (λx y c h1 h2=>?_) (λx c h1=>?_)
   .rw[CN]at h1 h2;cases J:x==z with
    |true=>
     rw[J]at h1;have e1:=Dl h1;cases S:y==z with
     |true=>rw[Fc J,Fc S]|false=>rw[S]at h2;have U:=Y y c h2;rw[<- e1]at U;exact CQ U (Ee _)
    |false=>
     rw[J]at h1;cases S:y==z with
     |true=>rw[S]at h2;have e2:=Dl h2;have U:=Y x c h1;rw[<- e2]at U;exact CQ U (Ee _)|false=>rw[S]at h2;exact hi x y c h1 h2
   .rw[CN]at h1;cases J:x==z with
    |true=>rw[J]at h1;have e1:=Dl h1;rw[<- e1];exact Gq _|false=>rw[J]at h1;exact GP (Y x c h1)
  .rw[l_ a];exact nX r n I hi Y
theorem kL{x:C_}{c:i_}:∀(ns:List (C_×F_)) (h:Du) (I:List (C_×i_)),(EL h.objs.size ns I).lookup x=a_ c ->
  I.lookup x=a_ c\/(h.objs.size<=c/\(pushCells h ns).IsCell c f_)
 |[],_,_,e=>.inl e|(y,k)::r,h,I,e=>by
  unfold EL at e;unfold pushCells;by_cases S:(k==EW)=e_
  .rw[n_ S]at e ⊢;have q:=kL (x:=x) (c:=c) r (h.push {cls:=.type "cell",data:=.cell f_}) ((y,h.objs.size)::I) (by rw[D8];exact e);rcases q with q|⟨q1,q2⟩
   .rw[CN]at q;cases J:x==y with
    |true=>rw[J]at q;have e1:=Dl q;subst e1;exact .inr ⟨m_ _,Heap.IsCell.keeps ⟨_,s_ _ rfl,rfl⟩ (K2 r _)⟩|false=>rw[J]at q;exact .inl q
   .rw[D8]at q1;exact .inr ⟨ac,q2⟩
  .rw[l_ S]at e ⊢;exact kL r h I e
theorem l6{env:KR}(f:C_×F_->List (C_×i_)->Lb (Hi (List (C_×i_))))(S:∀n k cs,f (n,k) cs=if (k==CV)=e_ then(do let a <- cellOf env n;ER (.yield ((n,a)::cs)))else ER (.yield cs)):
  ∀(ns:List (C_×F_)) (I:List (C_×i_)),(∀x∈ns,x.2=CV->∃c,env.cells.lookup x.1=a_ c)->Mb ns I f=(ER (qk env.cells ns I):Lb _)
 |[],I,_=>by rw[Hu];rfl|(y,k)::r,I,Y=>by
  have U:∀x∈r,x.2=CV->∃c,env.cells.lookup x.1=a_ c:=λx d=>Y x (CS _ d);rw[Iz,S];unfold qk;by_cases J:(k==CV)=e_
  .rw[n_ J,n_ J];obtain⟨c,e⟩:=Y (y,k) CW (Fc J);have b:env.cells.lookup y=a_ c:=e;have e2:cellOf env y=ER c:=by unfold cellOf;rw[b]
   rw[e2,b];exact l6 f S r _ U
  .rw[l_ J,l_ J];exact l6 f S r _ U
def qi(I:∀x∈scope.names,x.2=CV->∃c,env.cells.lookup x.1=a_ c):closureFor scope env=ER (qk env.cells scope.names []):=by simp only[closureFor];rw[l6 (env:=env) _ (λn k cs=>by cases h:(k==CV)<;>simp[h]) scope.names [] I];rfl
theorem Bb{M:Kl}{s:k_}{Y:i_}{S:List (C_×i_)}{I:KR}{Q:KR->k_->Prop}(f:∀h1:Du,(∀b o,s.heap.get? b=a_ o->h1.get? b=a_ o)->h1.Ns s.heap.objs.size (λ_=>f_) ->
   (∀x c,(EL (s.heap.objs.size+1) scope.names S).lookup x=a_ c->S.lookup x=a_ c\/(s.heap.objs.size<c/\h1.IsCell c f_)) ->
   Q {scope:=scope,locals:=s.heap.objs.size,globals:=Y,cells:=EL (s.heap.objs.size+1) scope.names S,qual:=qual,func:=f_,code:=I.code,frame:=I.frame,builtins:=I.builtins} {s with heap:=h1}):
  w_ M A (Lg scope Y S [] qual f_ .none (a_ I)) Q E s:=by
 simp only[Lg,Option.isSome_some,FK];refine b_ (wpAny_alloc ?_);refine b_ (wpAny_layCells _ (λname J cells=>by cases U:J==EW<;>simp[U]) _ _ _ _ ?_);rw[show({s with heap:=s.heap.push {cls:=.type "dict",data:=.dict #[]}}:k_).heap.objs.size=s.z+1 from D8 ..];rw[Hu];refine b_ (h_ (h_ ?_));refine f _ (λb o e=>K2 _ _ b o (d_ _ e)) ((Heap.Ns.new s.heap (.type "dict")).keeps (K2 _ _)) λx c e=>?_;have q:=kL (x:=x) (c:=c) scope.names (s.heap.push {cls:=.type "dict",data:=.dict #[]}) S (by rw[D8];exact e);rw[D8]at q;refine q.imp id λd=>?_;obtain⟨a,b⟩:=d;exact⟨ac,b⟩
theorem pz{env:KR}{x:C_}:∀{ns:List (C_×F_)},ns.lookup x=a_ .free ->
  (ns.map λ(n,k)=>if (k==CV&&env.scope.kind==.function&&env.kindOf n==a_ .cell)then(n,EW)else(n,k)).lookup x=a_ .cell \/
  (ns.map λ(n,k)=>if (k==CV&&env.scope.kind==.function&&env.kindOf n==a_ .cell)then(n,EW)else(n,k)).lookup x=a_ .free
 |[],h=>by simp at h|(n,k)::r,h=>by
  have J:=@pz env x r;rw[u_];dsimp only;by_cases S:(k==CV&&env.scope.kind==.function&&env.kindOf n==a_ .cell)=e_
  .rw[n_ S,CN];cases I:x==n with
   |true=>exact .inl rfl|false=>rw[CN,I]at h;exact J h
  .rw[l_ S,CN];cases I:x==n with
   |true=>rw[CN,I]at h;have e:=Dl h;subst e;exact .inr rfl|false=>rw[CN,I]at h;exact J h
theorem pA{env:KR}{x:C_}:∀{ns:List (C_×F_)},
  ((ns.map λ(n,k)=>if (k==CV&&env.scope.kind==.function&&env.kindOf n==a_ .cell)then(n,EW)else(n,k)).lookup x=a_ .cell \/
  (ns.map λ(n,k)=>if (k==CV&&env.scope.kind==.function&&env.kindOf n==a_ .cell)then(n,EW)else(n,k)).lookup x=a_ .free) ->
  ns.lookup x=a_ .cell\/ns.lookup x=a_ .free
 |[],h=>by simp at h|(n,k)::r,h=>by
  have S:=@pA env x r;rw[u_]at h;dsimp only at h;by_cases J:(k==CV&&env.scope.kind==.function&&env.kindOf n==a_ .cell)=e_
  .rw[n_ J,CN]at h;rw[CN];cases I:x==n with
   |true=>
    have:k=CV:=by rw[A_,A_]at J;exact Fc J.1.1
    subst this;exact .inr rfl
   |false=>rw[I]at h;exact S h
  .rw[l_ J,CN]at h;rw[CN];cases I:x==n with
   |true=>rw[I]at h;exact h|false=>rw[I]at h;exact S h
def ba(X:Cx)(N':List C_)(sc:Kk)(L:i_)(cs:List (C_×i_))(s:k_)(H:Hp)(fp:List i_):Cx:=
 {X with
  N:=N',s₀:=s,H₀:=H,outer:=X.stack,ex:=fp,pn:=[],xe:=λ_ _=>False
  fn:=λx=> !(sc.names.any λp=>p.1==x&&p.2==CV)
  env:={scope:=relabel sc X.env,locals:=L,globals:=X.env.globals,cells:=cs,qual:=X.env.qual,func:=f_,code:=X.env.code,frame:=X.env.frame,builtins:=X.env.builtins}}
def inS(ix:List (Option Nat))(σ:St):St:=ix.map λo=>match o with
 |none=>f_|some j=>(σ[j]?).join
def br(N:List C_)(I:Kk)(N':List C_)(sc:Kk)(ix:List (Option Nat)):Bool:=
 CL (ix.length=N'.length) &&
 ((CU ix.length).all λi=>match ix[i]? with
  |some (a_ j)=>(match N'[i]?,N[j]? with
   |some x,a_ y=>x==y&&sc.names.lookup x==a_ CV|_,_=>c_)
  |_=>e_) &&
 (sc.names.all λp=>(p.2 != CV||(I.names.lookup p.1==a_ EW||I.names.lookup p.1==a_ CV))&&(p.2 != NameKind.local||sc.names.lookup p.1==a_ NameKind.local)) &&
 (sc.names.all λp=>sc.names.all λq=> !(p.1==q.1)||p.2==q.2)
section
variable{s:k_}
def br.len(I:br X.N X.env.scope N' sc ix=e_):ix.length=N'.length:=by unfold br at I;rw[A_,A_,A_]at I;exact Jn I.1.1.1
theorem br.at(I:br X.N X.env.scope N' sc ix=e_){i j:Nat}{x:C_}(h:ix[i]?=a_ (a_ j))(J:N'[i]?=a_ x):X.N[j]?=a_ x/\sc.names.lookup x=a_ .free:=by
 unfold br at I;rw[A_,A_,A_]at I;have q:=Gn.mp I.1.1.2 i (DH.mpr (y_.mp h).1);rw[h,J]at q;dsimp only at q;cases e:X.N[j]? with
 |none=>rw[e]at q;cases q|some y=>rw[e]at q;dsimp only at q;rw[A_]at q;exact⟨by rw[Fc q.1],Fc q.2⟩
def br.fr(I:br X.N X.env.scope N' sc ix=e_)(h:(x,CV)∈sc.names):X.env.kindOf x=a_ .cell\/X.env.kindOf x=a_ .free:=by
 unfold br at I;rw[A_,A_]at I;have q:=Gn.mp I.1.2 _ h;rw[A_]at q;have q1:=q.1;rw[IA]at q1;rcases q1 with z|z
 .exact CQ z ad
 .rw[IA]at z;exact z.imp (λe=>Fc e) λe=>Fc e
def br.loc(I:br X.N X.env.scope N' sc ix=e_):∀x∈sc.names,x.2=NameKind.local->sc.names.lookup x.1=a_ .local:=λx J e=>by
 unfold br at I;rw[A_,A_]at I;have q:=Gn.mp I.1.2 _ J;rw[A_]at q;have q1:=q.2;rw[IA]at q1;rcases q1 with z|z
 .rw[e]at z;exact CQ z ag
 .exact Fc z
def br.apart(I:br X.N X.env.scope N' sc ix=e_)(h1:(x,EW)∈sc.names)(h2:(x,CV)∈sc.names):False:=by unfold br at I;rw[A_]at I;have q:=Gn.mp (Gn.mp I.2 _ h1) _ h2;simp at q
def nR(I:B6 X B2 σ H s)(J:br X.N X.env.scope N' sc ix=e_):∀x∈sc.names,x.2=CV->∃c,X.env.cells.lookup x.1=a_ c:=λx S e=>by obtain⟨n,k⟩:=x;have U:k=CV:=e;subst U;exact I.ok.has n (br.fr J S)
def C7(I:B6 X B2 σ H s)(S:br X.N X.env.scope N' sc ix=e_)(h:(qk X.env.cells sc.names []).lookup x=a_ c):(x,CV)∈sc.names/\X.env.cells.lookup x=a_ c:=by
 rcases qj _ _ h with⟨m,e⟩|z
 .obtain⟨d,hd⟩:=nR I S _ m rfl;have J:X.env.cells.lookup x=a_ d:=hd;rw[J]at e;have e2:c=d:=e;subst e2;exact⟨m,J⟩
 .simp at z
def comp_inv{h1:Du}(I:B6 X B2 σ H s)(B:∀b∈fp,A0 X B2 H b)(hb:∀b∈fp,∃o,s.heap.get? b=a_ o)(d:br X.N X.env.scope N' sc ix=e_)(hk:sc.kind=.function)(Y:s.heap.objs.size<=L)(A:∀b o,s.heap.get? b=a_ o->h1.get? b=a_ o)(ns:h1.Ns L λ_=>f_)(g:∀x c,(EL (L+1) sc.names (qk X.env.cells sc.names [])).lookup x=a_ c->(qk X.env.cells sc.names []).lookup x=a_ c\/(L<c/\h1.IsCell c f_)):
  B6 (ba X N' sc L (EL (L+1) sc.names (qk X.env.cells sc.names [])) s H fp) [] (inS ix σ) H {s with heap:=h1}:=by
 have S:∀x c,(qk X.env.cells sc.names []).lookup x=a_ c->(x,CV)∈sc.names/\X.env.cells.lookup x=a_ c/\(∃v,s.heap.IsCell c v)/\c<s.z:=λx c e=>by obtain⟨m,Q⟩:=C7 I d e;obtain⟨v,z⟩:=I.cell x c Q;exact⟨m,Q,⟨v,z⟩,z.lt⟩
 have n:∀b∈fp,b<s.z:=λb z=>let ⟨o,e⟩:=hb b z;t_ e;have N:∀b∈fp,∀x c,(EL (L+1) sc.names (qk X.env.cells sc.names [])).lookup x=a_ c->c≠b:=λb z x c e=>by
  have a:=n b z;rcases g x c e with q|⟨q,_⟩
  .exact(B b z).2.2.2.2.1 x c (S x c q).2.1
  .exact gt_ne (CZ a Y) q
 have D:(ba X N' sc L (EL (L+1) sc.names (qk X.env.cells sc.names [])) s H fp).Ok:=by
  refine⟨I.ok.mod,hk,I.ok.glob,I.ok.blt,Y,?_,?_,?_,I.ok.hd,I.ok.frames,.inl rfl,?_,I.bs,DJ I.ok.bsz I.sz,?_,?_,I.stack,I.Aw⟩
  .refine nX sc.names (L+1) _ (λx y c e1 e2=>I.ok.inj x y c (S x c e1).2.1 (S y c e2).2.1) λx c e=>?_;exact GP (CZ (S x c e).2.2.2 Y)
  .intro x W;have E:=pA (env:=X.env) (x:=x) (ns:=sc.names) W;have q:((EL (L+1) sc.names (qk X.env.cells sc.names [])).lookup x).isSome=e_:=by
    rcases E with z|z
    .exact FG _ _ _ (.inl z)
    .exact FG _ _ _ (.inr (nU _ _ (.inl (EA z))))
   exact Ft.mp q
  .intro x c G e;show s.z<=c;rcases g x c e with q|⟨q,_⟩
   .have m:=(S x c q).1;have U:(!(sc.names.any λp=>p.1==x&&p.2==CV))=e_:=G;have z:(sc.names.any λp=>p.1==x&&p.2==CV)=e_:=Ib.mpr ⟨_,m,ad⟩;rw[z]at U;cases U
   .exact DJ Y (Gr q)
  .intro b z;have a:=n b z;exact⟨De (CZ a Y),N b z⟩
  .intro b o e z;rcases(B b z).2.2.2.1 with q|q
   .exact I.ok.noex b o e q
   .exact CQ (CZ (t_ e) (DJ I.ok.bsz q)) (Ee _)
  .intro b z Z;rcases r_.mp (I.p8 b Z)with q|q
   .exact(B b z).2.1 q
   .exact(B b z).2.2.1 q
 refine⟨D,rfl,I.bare,Un.kept A,⟨_,ns,λi x v K h2 h3=>?_⟩,λx c e=>?_,I.hok.fresh Y,λx c e=>?_,λp hp=>CQ hp (by simp[ba]),I.hok.kept A,?_⟩
 .have F:∃j,ix[i]?=a_ (a_ j)/\σ[j]?=a_ (a_ v):=by
   unfold inS at h2;rw[Dz]at h2;cases e:ix[i]? with
   |none=>rw[e]at h2;cases h2|some o=>
    rw[e]at h2;cases o with
    |none=>cases h2|some j=>
     have J:(σ[j]?).join=a_ v:=Dl h2;refine⟨j,rfl,?_⟩
     cases e2:σ[j]? with
     |none=>rw[e2]at J;cases J|some w=>rw[e2]at J;have h:w=a_ v:=J;rw[h]
  obtain⟨j,e1,e2⟩:=F;obtain⟨e3,e4⟩:=br.at d e1 K;have f:=br.fr d (EA e4);obtain⟨m,hn,hl⟩:=I.loc;obtain⟨u,r,l⟩:=hl j x v e3 e2 (f.elim (λz=>.inr (.inl z)) λz=>.inr (.inr z));refine⟨u,r,.inr ⟨pz (env:=X.env) (x:=x) (ns:=sc.names) e4,?_⟩⟩
  rcases l with⟨k,_⟩|⟨k,c,e,z⟩
  .rcases f with q|q<;>rw[q]at k<;>cases k
  .have q1:=nU (cells:=X.env.cells) sc.names [] (.inl (EA e4));obtain⟨c2,q2⟩:=Ft.mp q1;have P:=(S x c2 q2).2.1;rw[e]at P;cases P;have R:=FG (x:=x) sc.names (L+1) (qk X.env.cells sc.names []) (.inr q1);obtain⟨c3,C⟩:=Ft.mp R;rcases g x c3 C with t|⟨t,q7⟩
   .rw[q2]at t;cases t;exact⟨c,C,z.keeps A⟩
   .exfalso;rcases jK _ _ _ C with⟨_,T⟩|O
    .exact br.apart d T (EA e4)
    .rw[q2]at O;cases O;exact CQ (Iy (CZ (S x c q2).2.2.2 Y) t) (Ee _)
 .rcases g x c e with q|⟨_,q⟩
  .obtain⟨v,z⟩:=(S x c q).2.2.1;exact⟨v,z.keeps A⟩
  .exact⟨_,q⟩
 .rcases g x c e with q|⟨q,_⟩
  .exact I.freeC x c (S x c q).2.1
  .exact I.hok.fresh (DJ Y (Gr q))
 .show(inS ix σ).length=N'.length;unfold inS;rw[q_];exact br.len d
end
def PTs(X:Cx)(ifs:List Em)(t:TT):Prop:=
 ∀(B2:Pn) (s:k_) (σ:St) (H:Hp) (Q:Bool->Hp->Prop),B6 X B2 σ H s->t σ H Q ->
  w_ (B_ X.prog X.w) X.A (Mb ifs e_ λc r=>if r=e_ then do let I <- Mh c X.env (Dh c X.env);ER (HL I)else ER (HL r)) (TP X B2 σ Q) X.xe s
noncomputable def tYes:TT:=λ_ H Q=>Q e_ H
def pts_nil:PTs X [] tYes:=λ_ _ _ H _ I h=>wpAny_tests_nil ⟨H,I,h⟩
def pts_one{c:Em}{t:TT}(h:PT X c t):PTs X [c] t:=λB2 s σ H Q I q=>wpAny_tests_one (h B2 s σ H Q I q)
def uw{R:Mp->k_->Prop}{s:k_}{a I:g_}(J:Nat->k_->Prop)(S:∀n s,J n s->w_ (B_ prog w) A (G9 a) (λr d=>match r with
   |none=>R (.ok .next) d|some v=>w_ (B_ prog w) A (IZ tg a v) (λ_ U=>w_ (B_ prog w) A (Hx tg env v) (λ_ i=>
     w_ (B_ prog w) A (Mb ifs e_ λc r=>if r=e_ then do let Y <- Mh c env (Dh c env);ER (HL Y)else ER (HL r)) (λY b=>
      if Y=e_ then w_ (B_ prog w) A (Dh elt env) (λx g=>w_ (B_ prog w) A (Hk (.builtin "list.append") [I,x]) (λ_ f=>∃m,m<n/\J m f) (λ_ _=>False) g) (λ_ _=>False) b
      else ∃m,m<n/\J m b) (λ_ _=>False) i) (λ_ _=>False) U) (λ_ _=>False) d) (λ_ _=>False) s)(n:Nat)(h:J n s):He (B_ prog w) A (.compLoop (.ListComp elt [⟨tg,iter,ifs,0⟩] scope pos) 0 a I env) R s:=by
 refine codeAny_loop rfl J (λn s k=>?_) n h;show w_ _ A ((compTurn (.ListComp elt [⟨tg,iter,ifs,0⟩] scope pos) 0 a I env).onRaise (λx=>do LS x env;theTreesLotGoes x)) _ _ s;refine wpAny_noted ?_;rw[compTurn_list];refine b_ (LA (b_ (DX (S n s k) (λr d h1=>?_) λ_ _ z=>z.elim)));cases r with
 |none=>exact h_ h1|some v=>
  refine b_ (DX h1 (λ_ U e=>?_) λ_ _ z=>z.elim);refine b_ (DX e (λ_ i h2=>b_ (DX h2 (λY b j=>?_) λ_ _ z=>z.elim)) λ_ _ z=>z.elim);cases Y with
  |false=>exact h_ ⟨rfl,j⟩|true=>exact b_ (b_ (DX j (λx g o=>b_ (DX o (λ_ f l=>h_ (h_ ⟨rfl,l⟩)) λ_ _ z=>z.elim)) λ_ _ z=>z.elim))
def ko(J:It)(ix:List (Option Nat))(g:TG)(tt:TT)(te:TE)(σ:St)(F:aB->Hp->Prop)(H:Hp):Prop:=
 ∃W:Nat->Nat->aB->Hp->Prop,(∃m,W 0 m [] H)/\∀i m ys H,W i m ys H ->
  (J.stop i H/\ys.length<=o_/\F ys H)\/(J.go i H/\ys.length<=o_/\∃N:aB->Hp->Prop,(∀S H',N S H'->∃U,U<m/\W (i+1) U S H') /\
   ∀x H',J.yld i H x H'->g x (inS ix σ) H' λI H2=>tt I H2 λb Y=>if b=e_ then te I Y λy a=>N (ys++[y]) a else N ys Y)
section
variable{s:k_}
def B6.slots0(I:B6 X B2 σ' H s)(h:∀(i:Nat) v,(inS ix σ)[i]?=a_ (a_ v)->σ'[i]?=a_ (a_ v))(J:(inS ix σ).length=X.N.length):B6 X B2 (inS ix σ) H s:=
 I.weak (by rw[J,I.len]) h
theorem ur{g:TG}{J:It}{it:i_}{tn:Nat->Du->Prop}{F:aB->Hp->Prop}{E:Vp}(hc:X.calm=e_)(I:B6 X B2 σ H s)(T:Turn X.prog X.w X.K tg J fp it tn)(st:tn 0 s.heap)(hf:∀b∈fp,A0 X B2 H b)(ok:br X.N X.env.scope N' sc ix=e_)(hk:sc.kind=.function)(hg:∀L cs s H fp,PG (ba X N' sc L cs s H fp) tg g)(hkeep:∀x σ' H' (Q:St->Hp->Prop),g x σ' H' Q->g x σ' H' λσ2 H2=>Q σ2 H2/\∀(i:Nat) v,σ'[i]?=a_ (a_ v)->(∃j,ix[i]?=a_ (a_ j))->σ2[i]?=a_ (a_ v))(ht:∀L cs s H fp,PTs (ba X N' sc L cs s H fp) ifs tt)(he:∀L cs s H fp,PE (ba X N' sc L cs s H fp) elt te)(tr:ko J ix g tt te σ F H):
  w_ (B_ X.prog X.w) X.A (NG []) (λacc s3=>w_ (B_ X.prog X.w) X.A (Lg sc X.env.globals (qk X.env.cells sc.names []) [] X.env.qual f_ .none (a_ X.env)) (λU s4=>
   He (B_ X.prog X.w) X.A (.compStart (.ListComp elt [⟨tg,iter,ifs,0⟩] sc pos) 0 (.ref it) acc {U with scope:=relabel sc X.env}) (λr s'=>(∃fl,r=.ok fl) /\
    ∃(p:i_) (ys:aB) (H2:Hp),acc=.ref p/\B6 X B2 σ (upd H2 p (.lst ys)) s'/\H2 p=f_/\F ys H2/\(∃m,s'.heap.Ns U.locals m)/\(upd H2 p (.lst ys)) U.locals=f_/\U.locals≠X.env.locals /\
     X.s₀.heap.objs.size<=U.locals/\(∀x c,X.env.cells.lookup x=a_ c->c≠U.locals)/\∀q∈X.pn++B2,q.1≠U.locals) s4) E s3) E s:=by
 obtain⟨W,⟨m0,w0⟩,turn⟩:=tr;refine DN (Bb λh1 kp ns hcl=>?_);dsimp only at kp ns hcl ⊢;generalize hH2:s.heap.push {cls:=.type "list",dict:=f_,data:=.seq ([]:aM).toArray}=l at kp ns hcl ⊢;have eL:l.objs.size=s.z+1:=by rw[<- hH2,D8]
 have kp0:∀b o,s.heap.get? b=a_ o->h1.get? b=a_ o:=λb o e=>kp b o (hH2▸d_ _ e);have hD0:h1.PlainList s.z #[]:=⟨_,kp _ _ (hH2▸s_ _ rfl)⟩
 have fpo:∀b∈fp,∃o,s.heap.get? b=a_ o:=λb z=>let ⟨o,e,_⟩:=T.obj 0 _ st b z;⟨o,e⟩;have fpl:∀b∈fp,b<s.z:=λb z=>let ⟨o,e⟩:=fpo b z;t_ e;have sL:s.z<=l.objs.size:=by rw[eL];exact G6 _
 have R:s.z<l.objs.size:=by rw[eL];exact Gq _
 have I0:=comp_inv (h1:=h1) I hf fpo ok hk sL kp0 ns hcl;generalize S:ba X N' sc l.objs.size (EL (l.objs.size+1) sc.names (qk X.env.cells sc.names [])) s H fp=Y at I0;have w:Y.prog=X.prog:=by subst S;rfl
 have t:Y.w=X.w:=by subst S;rfl
 have eY3:Y.K=X.K:=by subst S;rfl
 have eY4:Y.calm=e_:=by subst S;exact hc
 have D:Y.A=X.A:=by subst S;rfl
 have f:Y.env={scope:=relabel sc X.env,locals:=l.objs.size,globals:=X.env.globals,cells:=EL (l.objs.size+1) sc.names (qk X.env.cells sc.names []),qual:=X.env.qual,func:=f_,code:=X.env.code,frame:=X.env.frame,builtins:=X.env.builtins}:=by subst S;rfl
 have eY7:Y.xe=λ_ _=>False:=by subst S;rfl
 have eY8:Y.pn=[]:=by subst S;rfl
 have eY9:Y.fs=frs X.stack:=by subst S;rfl
 have G:Y.s₀=s:=by subst S;rfl
 have eY11:Y.H₀=H:=by subst S;rfl
 have eY12:Y.ex=fp:=by subst S;rfl
 have eY13:Y.N=N':=by subst S;rfl
 have hgY:PG Y tg g:=by subst S;exact hg _ _ _ _ _
 have htY:PTs Y ifs tt:=by subst S;exact ht _ _ _ _ _
 have heY:PE Y elt te:=by subst S;exact he _ _ _ _ _
 have lenI:(inS ix σ).length=Y.N.length:=by rw[eY13];unfold inS;rw[q_];exact br.len ok
 have K:∀(b:i_),b<=l.objs.size->(∀x c,X.env.cells.lookup x=a_ c->c≠b)->∀x c,Y.env.cells.lookup x=a_ c->c≠b:=λb a hx x c e=>by
  rw[f]at e;rcases hcl x c e with q|⟨q,_⟩
  .exact hx x c (C7 I ok q).2
  .exact(zi (Nat.lt_of_le_of_lt a (Gq _)) q).symm
 have oldc:∀x c,X.env.cells.lookup x=a_ c->c<s.z:=λx c e=>let ⟨v,z⟩:=I.cell x c e;z.lt;have nfs:∀b,s.z<=b->b∉frs X.stack:=λb a z=>by
  rcases r_.mp (I.p8 b z)with q|q
  .exact zi I.lt a q.symm
  .exact I.nofs a q
 have fpY:∀(pp:Pn) (H':Hp),(∀b∈fp,H' b=f_)->(∀q∈pp,q.1∉fp)->∀b∈fp,A0 Y pp H' b:=λpp H' hn hq b z=>by
  have hlt:=fpl b z;refine⟨hn b z,?_,?_,.inl (by rw[eY12];exact z),K b (Gr (Iy hlt R)) ((hf b z).2.2.2.2.1),λq B e=>?_⟩
  .rw[f];exact zi hlt sL
  .rw[eY9];intro hs;rcases r_.mp (I.p8 b hs)with q|q
   .exact(hf b z).2.1 q
   .exact(hf b z).2.2.1 q
  .rw[eY8]at B;exact hq q (by simpa using B) (by rw[e];exact z)
 have Dfp:s.z∉fp:=λz=>CQ (fpl _ z) (Ee _);have Dok:∀(pp:Pn) (H':Hp),H' s.z=f_->(∀q∈pp,q.1≠s.z)->A0 Y pp H' s.z:=λpp H' hn hq=>by
  refine⟨hn,?_,by rw[eY9];exact nfs _ (m_ _),.inr (by rw[G];exact m_ _),K _ sL (λx c e=>De (oldc x c e)),λq B=>?_⟩
  .rw[f];exact De R
  .rw[eY8]at B;exact hq q (by simpa using B)
 have A:He (B_ X.prog X.w) X.A (.compLoop (.ListComp elt [⟨tg,iter,ifs,0⟩] sc pos) 0 (.ref it) (.ref s.z) Y.env) (λr s'=>(∃fl,r=.ok fl) /\
    ∃(p:i_) (ys:aB) (H2:Hp),x_ s.z=.ref p/\B6 X B2 σ (upd H2 p (.lst ys)) s'/\H2 p=f_/\F ys H2/\(∃m,s'.heap.Ns l.objs.size m)/\(upd H2 p (.lst ys)) l.objs.size=f_/\l.objs.size≠X.env.locals /\
     X.s₀.heap.objs.size<=l.objs.size/\(∀x c,X.env.cells.lookup x=a_ c->c≠l.objs.size)/\∀q∈X.pn++B2,q.1≠l.objs.size) {s with heap:=h1}:=by
  refine uw (λn s'=>∃i ys its H',B6 Y [] (inS ix σ) H' s'/\tn i s'.heap/\(∀b∈fp,H' b=f_)/\H' s.z=f_/\s'.heap.PlainList s.z its/\D' ys its.toList/\W i n ys H') ?_ m0
   ⟨0,[],#[],H,I0,T.keep _ _ _ st λb _ o e=>kp0 b o e,λb z=>(hf b z).1,I.hok.fresh (m_ _),hD0,.nil,w0⟩
  rintro n s3 ⟨i,ys,its,N,I3,st3,fr3,h,pl3,O,w3⟩;obtain⟨Z,oD⟩:=pl3;have hpD:∀q∈[((s.z:i_),({cls:=.type "list",data:=.seq its Z}:IB))],q.1∉fp:=λq hq=>by have:q=_:=CO.mp hq;rw[this];exact Dfp
  have I3':B6 Y [((s.z:i_),({cls:=.type "list",data:=.seq its Z}:IB))] (inS ix σ) N s3:=I3.qO λq hq=>by have e:q=_:=CO.mp hq;obtain⟨d0,d1,d2,_⟩:=Dok [] N h (λ_ z=>nomatch z);rw[e];exact⟨oD,d0,d1,d2,λv z=>by cases z⟩
  rcases turn i n ys N w3 with⟨stop,ln,qn⟩|⟨go,ln,NN,hNN,step⟩
  .have h1:=T.done Y w t eY3 eY4 i _ s3 _ N (λ_ _=>False) I3' (fpY _ N fr3 hpD) st3 stop;rw[D]at h1;refine DX h1 (λr s4 C=>?_) λ_ _ z=>z;obtain⟨hr,I4⟩:=C;subst hr;obtain⟨oD4,hD4,_⟩:=I4.pin ((s.z:i_),({cls:=.type "list",data:=.seq its Z}:IB)) (by rw[eY8];simp);refine⟨⟨_,rfl⟩,s.z,ys,N,rfl,?_,h,qn,?_,?_,?_,?_,?_,?_⟩
   .have P:Un (frs X.stack) fp H N s.heap s4.heap:=by
     have:=I4.base;rw[eY9,G,eY11,eY12]at this;exact this
    have hok4:HOk X.prog X.w N s4.heap:=by have:=I4.hok;rw[w,t]at this;exact this
    refine I.call' (ch:=fp) (by have:=I4.os;rw[G]at this;exact this) ⟨P.keep,P.slot,λb o e nn hx=>?_,P.there,λb xs q=>?_,λb o u q=>?_,λb ps q=>?_⟩ (λb u e=>?_) I4.bare (λb a=>?_)
    .rw[aw (De (t_ e))];exact P.free b o e nn hx
    .rw[aw (aA (P.tups b xs q) h)];exact P.tups b xs q
    .rw[aw (aA (P.frzs b o u q) h)];exact P.frzs b o u q
    .obtain⟨more,z⟩:=P.tbls b ps q;exact⟨more,by rw[aw (aA z h)];exact z⟩
    .by_cases a:b=s.z
     .subst a;rw[aq]at e;cases e;exact⟨ln,its.toList,Z,O,by simpa using oD4⟩
     .rw[aw a]at e;exact(hok4 b u e).wu (λ_ _ _ q=>q) (λc q=>by rw[aw (aA q h)];exact q) λc xs q=>by rw[aw (aA q h)];exact q
    .obtain⟨f0,f1,f2,f3,f4,f5⟩:=hf b a;exact⟨f3,f1,f4,f5⟩
   .obtain⟨m,hn,_⟩:=I4.loc;rw[f]at hn;exact⟨m,hn⟩
   .rw[aw (E4 R)];have:=I4.free;rw[f]at this;exact this
   .exact E4 (Iy I.lt R)
   .exact DJ I.sz sL
   .exact λx c e=>zi (oldc x c e) sL
   .exact λq hq=>zi (t_ (I.pin q hq).1) sL
  .have h1:=T.item Y w t eY3 eY4 i _ s3 _ N (λ_ _=>False) I3' (fpY _ N fr3 hpD) st3 go;rw[D]at h1;refine DX h1 (λr s4 C=>?_) λ_ _ z=>z;obtain⟨u,hr,h4⟩:=C;subst hr;refine DX h4 (λ_ s5 C=>?_) λ_ _ z=>z;obtain⟨x,H5,I5,r5,y5,st5,fr5⟩:=C;have I5':=I5.pinned (fpY _ H5 fr5 hpD) (T.obj _ _ st5);have h5:=hgY _ s5 _ H5 x u _ I5' r5 (hkeep x _ H5 _ (step x H5 y5));rw[w,t,D,eY7]at h5;refine DX h5 (λ_ s6 C=>?_) λ_ _ z=>z;obtain⟨σ6,H6,I6,q6,k6⟩:=C;have h6:=htY _ s6 σ6 H6 _ I6 q6;rw[w,t,D,eY7]at h6;refine DX h6 (λb s7 C=>?_) λ_ _ z=>z;obtain⟨H7,I7,q7⟩:=C;have back:∀{s8:k_} {H8:Hp},B6 Y ([((s.z:i_),({cls:=.type "list",data:=.seq its Z}:IB))]++tj fp s5.heap) σ6 H8 s8->B6 Y [] (inS ix σ) H8 s8/\tn (i+1) s8.heap/\(∀b∈fp,H8 b=f_)/\H8 s.z=f_/\s8.heap.get? s.z=a_ {cls:=.type "list",data:=.seq its Z}:=λ{s8 H8} I8=>by
    obtain⟨a1,a2,_⟩:=I8.pin ((s.z:i_),({cls:=.type "list",data:=.seq its Z}:IB)) (by rw[eY8];simp);refine⟨(I8.qO (pins':=[]) λ_ z=>nomatch z).slots0 (λk v e=>?_) lenI,T.keep _ _ _ st5 λb a o e=>(I8.pin (b,o) (Dc _ (Dc _ (iX a e)))).1,λb a=>?_,a2,a1⟩
    .refine k6 k v e ?_;unfold inS at e;rw[Dz]at e;cases e2:ix[k]? with
     |none=>rw[e2]at e;cases e|some o=>
      cases o with
      |none=>rw[e2]at e;cases e|some j=>exact⟨j,rfl⟩
    .obtain⟨o,e,d⟩:=T.obj _ _ st5 b a;exact(I8.pin (b,o) (Dc _ (Dc _ (iX a e)))).2.1
   cases b with
   |false=>rw[l_ Dt]at q7 ⊢;obtain⟨m',hm,w7⟩:=hNN _ _ q7;obtain⟨b1,b2,b3,b4,b5⟩:=back I7;exact⟨m',hm,i+1,ys,its,H7,b1,b2,b3,b4,⟨Z,b5⟩,O,w7⟩
   |true=>
    rw[n_ rfl]at q7 ⊢;have h7:=heY _ s7 σ6 H7 _ I7 q7;rw[w,t,D,eY7,f]at h7;rw[f];refine DX h7 (λuu s8 C=>?_) λ_ _ z=>z;obtain⟨y,H8,I8,r8,q8⟩:=C;obtain⟨m',hm,w8⟩:=hNN _ _ q8;obtain⟨b1,b2,b3,b4,b5⟩:=back I8;have ez:its.size<=o_:=by
     have h1:=O.length;have h2:its.toList.length=its.size:=by simp
     lia
    refine wpAny_list_append_plain (hsz:=ez) ⟨Z,b5⟩ λh9 pl9 sb9=>?_;obtain⟨d0,d1,d2,d3,d4,d5⟩:=Dok [] H8 b4 (λ_ z=>nomatch z);refine⟨m',hm,i+1,ys++[y],its.push uu,H8,b1.turned (t':=s8.toks) (λb o a e=>(sb9.2 b a).trans e) d0 d1 d3 d4 d5,T.keep _ _ _ b2 λb a o e=>(sb9.2 b ?_).trans e,b3,b4,pl9,?_,w8⟩
    .exact zi (fpl b a) (m_ _)
    .rw[Array.toList_push];exact O.append (.cons r8 .nil)
 rw[f]at A;exact codeAny_compStart_list A (T.self X.A 0 _ _ _ (T.keep _ _ _ st λb _ o e=>kp0 b o e) A)
end
def tComp(wi:TI)(ix:List (Option Nat))(g:TG)(tt:TT)(te:TE):TE:=λσ H Q=>wi σ H λJ H1=>ko J ix g tt te σ (λys H2=>∀p,H2 p=f_->Q (.ref p) (upd H2 p (.lst ys))) H1
def qr(ix:List (Option Nat))(g:TG):Prop:=∀x σ' H' (Q:St->Hp->Prop),g x σ' H' Q->g x σ' H' λI H2=>Q I H2/\∀(i:Nat) v,σ'[i]?=a_ (a_ v)->(∃j,ix[i]?=a_ (a_ j))->I[i]?=a_ (a_ v)
def bf(h:ix[k]?=a_ f_):qr ix (rC k):=λx σ' H' Q q=>⟨q,λi v e ⟨j,I⟩=>by
 have:k≠i:=by rintro rfl;rw[h]at I;cases I
 rw[v_ this];exact e⟩
section
variable{wi:TI}{g:TG}
def pe_comp(N':List C_)(ix:List (Option Nat))(z:X.calm=e_)(hi:PI X tg iter wi)(w:∀L cs s H fp,PG (ba X N' sc L cs s H fp) tg g)(u:qr ix g)(j:∀L cs s H fp,PTs (ba X N' sc L cs s H fp) ifs tt)(y:∀L cs s H fp,PE (ba X N' sc L cs s H fp) elt te)(U: ~~~(br X.N X.env.scope N' sc ix=e_))(Y: ~~~(sc.kind=.function))(k:autoParam (∀x,Gh iter X.env x=ER x) Jq5):
  PE X (.ListComp elt [⟨tg,iter,ifs,0⟩] sc pos) (tComp wi ix g tt te):=by
 intro B2 s σ H Q I h;rw[eval_ListComp];refine LC (use:=f_) rfl k (qi (nR I U)) Y (br.loc U) (E' (hi B2 s σ H _ I h) λv s1 h1=>E' h1 λi s2 h2=>?_);obtain⟨it,fp,W,J,H2,e,R,T,S,D,c⟩:=h2;subst e;refine E' (ur z R T S D U Y w u j y c) λO s3 C=>E' C λa Z B=>F7 B λr f l=>?_;obtain⟨⟨fl,e1⟩,p,ys,H5,e2,P,n,q,⟨m,t⟩,N,K,G,F,E⟩:=l;subst e1;subst e2;exact⟨m,t,λh' d=>⟨.ref p,_,P.turned (t':=f.toks) (λb o A e=>(d.2 b A).trans e) N K (.inr G) F E,rfl,q p n⟩⟩
def wm(j:Nat)(wi:TI)(ix:List (Option Nat))(g:TG)(tt:TT)(te:TE):TS:=λD σ H=>wi σ H λJ H1=>ko J ix g tt te σ (λys H2=>∀p,H2 p=f_->D.nx (σ.set j (a_ (.ref p))) (upd H2 p (.lst ys))) H1
def yM(N':List C_)(ix:List (Option Nat)){y:C_}(hN:X.N.Nodup)(O:X.N[j]?=a_ y)(i:X.env.scope.names.lookup y=a_ .local)(W:X.calm=e_)(hi:PI X tg iter wi)(P:∀L cs s H fp,PG (ba X N' sc L cs s H fp) tg g)(N:qr ix g)(C:∀L cs s H fp,PTs (ba X N' sc L cs s H fp) ifs tt)(R:∀L cs s H fp,PE (ba X N' sc L cs s H fp) elt te)(d: ~~~(EV (.ListComp elt [⟨tg,iter,ifs,0⟩] sc pos) (a_ (.Name y py)) spos.line X.env=ER e_))(c: ~~~(br X.N X.env.scope N' sc ix=e_))(k: ~~~(sc.kind=.function))(E:autoParam (∀x,Gh iter X.env x=ER x) Jq5):
  PS X (.Assign [.Name y py] (.ListComp elt [⟨tg,iter,ifs,0⟩] sc pos) spos) (wm j wi ix g tt te):=by
 intro B2 s σ H D I h;rw[exec_Assign_Name_used _ _ _ _ d];refine b_ (LA (b_ ?_));show w_ _ X.A (do let _ <- comprehension (.ListComp elt [⟨tg,iter,ifs,0⟩] sc pos) sc X.env _ (NG []) c_ (Dh iter X.env) (a_ (Hx (.Name y py) X.env))) _ _ s;refine b_ (DX (LC (use:=a_ (Hx (.Name y py) X.env)) (Q:=λ_ s'=>SP X B2 D .next s') rfl E (qi (nR I c)) k (br.loc c) (E' (hi B2 s σ H _ I h) λv s1 h1=>E' h1 λB s2 h2=>?_)) (λ_ s' G=>h_ (h_ G)) λ_ _ z=>z);obtain⟨it,fp,tn,J,H2,e,I2,T,U,f2,t⟩:=h2;subst e;refine E' (ur W I2 T U f2 c k P N C R t) λacc s3 h3=>E' h3 λS s4 h4=>F7 h4 λr A F=>?_;obtain⟨⟨fl,e1⟩,p,ys,H5,e2,I5,f,q,⟨m,K⟩,c0,n,c2,l,c4⟩:=F;subst e1;subst e2;show w_ _ X.A (Hx (.Name y py) X.env (.ref p)) _ _ A;refine NB (sG (v:=.ref p) I5 hN O (.inl i) rfl (λw I6 f=>?_) (.inr i));obtain⟨a,u,ha⟩:=f;have ea:S.locals≠a:=by
  rcases ha with z|z
  .rw[z];exact n
  .exact λe=>l y a z e.symm
 refine⟨m,K.sameBut u ea,λh' Y=>?_⟩
 exact⟨_,_,I6.turned (t':=w.toks) (λb o Z e=>(Y.2 b Z).trans e) c0 n (.inr c2) l c4,q p f⟩
end
theorem y0:∀{bs:List Bool} {us:aM},D' (bs.map V.bl) us->LSm.BoolsAre us bs
 |[],_,.nil=>.nil|b::r,_,.cons e t=>by cases e;exact .cons b (y0 t)
def call_all(j:X.calm=e_):cH X (.builtin "all") (λxs H Q=>∃(a:i_) (bs:List Bool),xs=[.ref a]/\SqL X.K H a (bs.map V.bl)/\Q (.bl (bs.all id)) H):=by
 intro B2 s σ H xs us Q I r h;obtain⟨a,bs,rfl,f,q⟩:=h;obtain⟨u,rfl,d⟩:=r.one;cases d;obtain⟨its,c,p,l⟩:=I.list f;have U:=y0 c;have S:=p.isList;have J:a<s.z:=by obtain⟨_,e,_⟩:=S;exact t_ e
 refine call_all_walk (Ij S ?_);refine⟨s.z,[s.z,a],[s.z],its.toArray.size,_,_,λi=>(bs[i]?).getD e_,rfl,NZ (A:=X.A.in1) (I.ok.hd j) _ a (De J) its.toArray,
  ⟨⟨_,s_ _ rfl,rfl,rfl⟩,S.push _⟩,λi v s' m n k Y=>?_,λh' tk g=>?_⟩
 .obtain⟨b,e,rfl⟩:=U.get i v (by simpa using k);simp only[e,Option.getD_some]at Y;exact Ep Y
 .have e:((CU its.toArray.size).all λi=>(bs[i]?).getD e_)=bs.all id:=by
   rw[CJ,U.length];exact LSm.range_all bs
  rw[e];exact⟨.bl (bs.all id),H,I.kept (LSm.kept_iter g),rfl,q⟩
def D'.atA{xs:aB}(r:D' xs us)(h:j<us.toArray.size):∃x,xs[j]?=a_ x/\C' x us.toArray[j]:=by
 have J:=r.length;have I:j<xs.length:=by rw[J];simpa using h
 obtain⟨u,e1,e2⟩:=r.get (i:=j) (x:=xs[j]) (by simp[I]);refine⟨xs[j],by simp[I],?_⟩
 have:us.toArray[j]=u:=by
  have h':j<us.length:=by simpa using h
  rw[Dk h']at e1;simpa using Dl e1
 rw[this];exact e2
def pe_tyN(S:Gl X x)(J:X.mg x=f_)(hv:E6 x=a_ (.type T))(I:(x≠"__name__")⁻¹)(hd:((x==("__debug__":C_))=c_)⁻¹):PE X (.Name x pos) (tC (.ty T)):=pe_bltn (v:=.ty T) S J hv rfl I hd
def pe_gint{n:Int}(J:Gl X x)(I:∃t,X.mg x=a_ (.int n t))(hd:((x==("__debug__":C_))=c_)⁻¹):PE X (.Name x pos) (tC (.int n)):=by obtain⟨t,e⟩:=I;exact AR (v:=.int n) J e ⟨t,rfl⟩ hd
section
variable{base:Du}
theorem Fun.okX{st:Ei}{f:i_}(F:Fun K x qual st f fd)(S:fO N ps (aE st))(J:∀vs H Q E,sp vs H Q E->vs.length=ps.length)(I:∀(cdv:g_) (A:ES) (outer:List KR) (s:k_) (H:Hp) (vs:aB) (Q:VK) (E:XK),fS k (A.deeper (Ge qual (aE st) s.heap.objs.size f cdv))->sp vs H Q E ->
   ∃t,PSs (vN CX P w K mg base N qual (aE st) f cdv A outer s H E).nox (bw st) t/\t {nx:=λ_ H'=>Q .non H',rt:=Q} (start N vs) H):fU P w K mg base CX (k+1) f fd ps sp:=by
 obtain⟨oc,od,kV,doc,pm,an,cdv,ct,osl,rfl,a,Y⟩:=F.ex;refine fn_of a Y S J λA outer s H vs Q E b U=>?_;obtain⟨t,h,q⟩:=I cdv A outer s H vs Q E b U;exact⟨t,h.nox,q⟩
structure Def(K:Fg)(mg:Mq)(x:C_)(st:Ei)(ps:List C_)(f:i_)(fd:Fh):Prop where
 fn:Fun K x x st f fd
 mg:mg x=a_ (.ref f)
 bd:Binds K fd ps []
def def_of(J:K.In h)(G:h.Ns DY mg){st:Ei}{f:i_}{kV:g_}(a:nsIn K DY x=a_ (a_ (.ref f)))(l:K.lookup f=a_ ⟨oc,od,.func (JT x x (cJ st) (bw st) (aE st) .none kV doc pm an cdv ct),osl⟩)(c:KL K cdv x=e_)(k:Gd K (.ref f)=e_)(I:∀(kV doc pm:g_) (an:Option i_) (cdv ct:g_) (us:aM),us.length=ps.length->Ju (JT x x (cJ st) (bw st) (aE st) .none kV doc pm an cdv ct) ⟨us,[]⟩=ER (ps.zip us)):
  Def K mg x st ps f (JT x x (cJ st) (bw st) (aE st) .none kV doc pm an cdv ct):=
 ⟨xr l c k,mg_of J G a,(xr l c k).binds I⟩
structure Mth(K:Fg)(C:i_)(x qual:C_)(st:Ei)(ps:List C_)(f:i_)(fd:Fh):Prop where
 fn:Fun K x qual st f fd
 mt:Meth K C x f
 bd:Binds K fd ps []
def mth_of{st:Ei}{f:i_}{kV:g_}(a:Dm K (.ref C) x=a_ (a_ (.ref f)))(i:isFn K (.ref f)=e_)(l:K.lookup f=a_ ⟨oc,od,.func (JT x qual (cJ st) (bw st) (aE st) .none kV doc pm an cdv ct),osl⟩)(c:KL K cdv qual=e_)(k:Gd K (.ref f)=e_)(I:∀(kV doc pm:g_) (an:Option i_) (cdv ct:g_) (us:aM),us.length=ps.length->Ju (JT x qual (cJ st) (bw st) (aE st) .none kV doc pm an cdv ct) ⟨us,[]⟩=ER (ps.zip us)):
  Mth K C x qual st ps f (JT x qual (cJ st) (bw st) (aE st) .none kV doc pm an cdv ct):=
 ⟨xr l c k,⟨a,i,k⟩,(xr l c k).binds I⟩
structure Kls(K:Fg)(mg:Mq)(x:C_)(C:i_):Prop where
 cl:Cls K C
 mg:mg x=a_ (.ref C)
 mks:Ml K C=e_
 kp:Gd K (.ref C)=e_
 c1:Dm K (.ref C) "__class__"=a_ (a_ (.builtin "object.__class__"))
 c2:JF K (.builtin "object.__class__") "__get__"=a_ (a_ (.builtin "getset_descriptor.__get__"))
 c3:NL K (.builtin "object.__class__")=a_ e_
 c4:E5 K C (.type "object")=a_ e_
def Kls.ty{dx:i_}{fs:List (C_×V)}(k:Kls K mg x C)(e:H a=a_ (.ins C dx fs)):A4 K H (.ref a) (.ref C):=.ins e k.cl k.c1 k.c2 k.c3 k.c4
def kls_of(f:K.In h)(G:h.Ns DY mg)(a:nsIn K DY x=a_ (a_ (.ref C)))(S:Kj K C MW=e_)(hd:KJ K C=e_)(J:L1 K C=e_)(I:Dm K (.ref C) "__setattr__"=a_ (a_ (.builtin "object.__setattr__")))(U:Ml K C=e_)(Y:Gd K (.ref C)=e_)(e:Dm K (.ref C) "__class__"=a_ (a_ (.builtin "object.__class__")))(d:JF K (.builtin "object.__class__") "__get__"=a_ (a_ (.builtin "getset_descriptor.__get__")))(c:NL K (.builtin "object.__class__")=a_ e_)(b:E5 K C (.type "object")=a_ e_):Kls K mg x C:=
 ⟨⟨S,hd,J,I⟩,mg_of f G a,U,Y,e,d,c,b⟩
end
def pg_c{s:k_}(S:N'.Nodup)(hi:N'[i]?=a_ x)(I:Loc (ba X N' sc L cs s H fp).env.scope x)(J:autoParam ((ba X N' sc L cs s H fp).fn x=e_\/(ba X N' sc L cs s H fp).env.scope.names.lookup x=a_ .local) Jq3):PG (ba X N' sc L cs s H fp) (.Name x pos) (rC i):=vg S hi I J
structure Grid(H:Hp)(a:i_)(as:List i_)(rows:List am):Prop where
 top:H a=a_ (.lst (as.map V.ref))
 len:as.length=rows.length
 row:∀(i:Nat) (b:i_) (r:am),as[i]?=a_ b->rows[i]?=a_ r->H b=a_ (.lst (r.map V.int))
theorem aK.upd{H:Hp}{a:i_}{o:HO}(h:H a=f_):aK H (upd H a o):=λb u e=>by rw[aw (aA e h)];exact e
section
variable{f:i_}{ds:List g_}{E:XK}{m:C_}{p:IM}{t:TA}
structure Stat(K:Fg)(C:i_)(mc:g_)(m:C_)(f:i_):Prop where
 s1:JF K (.ref C) "__getattribute__"=a_ (a_ (.builtin "type.__getattribute__"))
 s2:LZ K C mc=e_
 s3:L4 K (.ref C) mc m=a_ (.val (.ref f))
 s4:Gd K (.ref f)=e_
def pe_cmeth(S:Stat X.K C mc m f)(l:Gl X x)(j:X.mg x=a_ (.ref C))(F:fU X.prog X.w X.K X.mg X.base CX k f fd ps sp)(g:fS k X.A)(n:Binds X.K fd ps ds)(hd:D' dvs ds)(c:Passes CX X E)(o:PA X (e::es) t)(Y:((x==("__debug__":C_))=c_)⁻¹)(J: ~~~(j_ (e::es) X.env=(c_,Dh e X.env)::j_ es X.env))(U: ~~~((Eg pos (j_ es X.env)).any (·.1)=c_))(d: ~~~(Dh (.Call (.Attribute (.Name x p) m apos) (e::es) [] pos) X.env=(do
   let a <- Dh (.Name x p) X.env
   IV apos.atName
   let (f,first) <- Gg [a] (JE a m pl)
   MU pos f first (Eg pos (j_ (e::es) X.env)) (HQ pos (Gv [] X.env))))):
  PE X (.Call (.Attribute (.Name x p) m apos) (e::es) [] pos) (tCall sp dvs E t):=by
 intro B2 s σ H Q I h;refine Ic (pl:=pl) (iE I l j ?_ Y) d;refine PySem.W.method_cls I.kIn S.s1 (PySem.W.cls_value I.kIn S.s2 S.s3 rfl ?_);refine J8 (first:=[]) (h₀:=X.base) I.ok.mod.kin S.s4 (E' (o pos B2 _ σ H _ (I.tok (s.toks+1)) h) λus q i=>?_) J U;obtain⟨vs,H2,b,r,q2⟩:=i;refine⟨b.kIn,?_⟩
 exact wz (us:=us) (vs:=vs) F g n hd c b r q2
end
def Keeps(S:i_->Prop)(H H':Hp):Prop:=∀b o,H b=a_ o->¬S b->H' b=a_ o
def Grid.keeps{S:i_->Prop}{I:List i_}{rows:List am}(g:Grid H a I rows)(k:Keeps S H H')(h1:¬S a)(h2:∀x∈I,¬S x):Grid H' a I rows:=
 ⟨k _ _ g.top h1,g.len,λi b r e1 e2=>k _ _ (g.row i b r e1 e2) (h2 b (DR e1))⟩
section
variable{a:Em}
def aK.tup{a:i_}{xs:aB}(e:aK H H')(h:SqT K H a xs):SqT K H' a xs:=by
 rcases h with(h|⟨o,h⟩)|h
 .exact .inl (.inl (e _ _ h))
 .exact .inl (.inr ⟨o,e _ _ h⟩)
 .exact .inr h
end
def qy{xs:aB}(h:H a=a_ (.lst xs)):tyV K "list" (.ref a) H:=.inl ⟨rfl,_,SqL.of h⟩
set_option genSizeOf true in
set_option genInjectivity true in
inductive A' where
 |non|bl (b:Bool)|int (i:Int)|str (x:C_)|tup (ds:List A')|lst (ds:List A')|ins (C:i_) (fs:List (C_×A'))|dic (ks:List (List Int×A'))|dil (ks:List (Int×List (List Int)))
variable{d:A'}{rs:List A'}{ks:List (List Int×A')}
noncomputable abbrev j8:=am×i_×V
noncomputable def tHash(ks:am):Int:=HP (Ds (ks.map NI))
def rowE(x:am×i_×g_):EG:=⟨tHash x.1,.ref x.2.1,x.2.2⟩
def ic(p:j8)(q:am×i_×g_):Prop:=p.1=q.1/\p.2.1=q.2.1/\C' p.2.2 q.2.2
def oX(h:Du)(a:i_)(xs:List j8)(ep:Nat):Prop:=∃vs:List (am×i_×g_),Gw ic xs vs/\(a==Ex)=c_/\xs.length<=o_/\(vs.map (·.1)).Nodup/\∃o es,h.get? a=a_ o/\o.ExactDict/\o.data=.dict es ep/\es.toList=vs.map rowE
def lY(a:i_)(xs:List j8)(ep:Nat):HO:=.ext λh=>oX h a xs ep
noncomputable abbrev LK:=Int×List am
abbrev a5:=List LK
def lHash(k:LK):Int:=HP (Ds [NI k.1,HP (Ds (k.2.map tHash))])
def rowL(x:LK×i_):EG:=⟨lHash x.1,.ref x.2,.bool e_⟩
def vX(h:Du)(a:i_)(xs:List (LK×i_))(ep:Nat):Prop:=(a==Ex)=c_/\xs.length<=o_/\(xs.map (·.1)).Nodup/\∃o es,h.get? a=a_ o/\o.ExactDict/\o.data=.dict es ep/\es.toList=xs.map rowL
def uJ(a:i_)(xs:List (LK×i_))(ep:Nat):HO:=.ext λh=>vX h a xs ep
def jd(K:Fg)(F:Hp)(b:i_)(k:LK):Prop:=∃(r:i_) (bs:List i_),SqT K F b [V.int k.1,V.ref r]/\SqT K F r (bs.map V.ref)/\bs.length=k.2.length/\∀(j:Nat) (I:am) (c:i_),k.2[j]?=a_ I->bs[j]?=a_ c->SqT K F c (I.map V.int)
def vY(K:Fg)(F:Hp)(ks:a5)(xs:List (LK×i_)):Prop:=xs.map (·.1)=ks/\∀x∈xs,jd K F x.2 x.1
mutual
noncomputable def aR(K:Fg)(F:Hp):A'->V->Prop
 |.non,v=>v=.non|.bl b,v=>v=.bl b|.int i,v=>v=.int i|.str x,v=>v=.str x|.tup ds,v=>∃a xs,v=.ref a/\SqT K F a xs/\ay K F ds xs
 |.lst ds,v=>∃a xs,v=.ref a/\SqL K F a xs/\ay K F ds xs
 |.ins C gs,v=>∃a dx fs,v=.ref a/\F a=a_ (.ins C dx fs)/\jf K F gs fs
 |.dic ks,v=>∃a xs,v=.ref a/\(∃ep,F a=a_ (lY a xs ep))/\bP K F ks xs
 |.dil ks,v=>∃a xs,v=.ref a/\(∃ep,F a=a_ (uJ a xs ep))/\vY K F ks xs
noncomputable def ay(K:Fg)(F:Hp):List A'->aB->Prop
 |[],xs=>xs=[]|d::ds,xs=>∃v vs,xs=v::vs/\aR K F d v/\ay K F ds vs
noncomputable def jf(K:Fg)(F:Hp):List (C_×A')->List (C_×V)->Prop
 |[],fs=>fs=[]|(f,d)::gs,fs=>∃v r,fs=(f,v)::r/\aR K F d v/\jf K F gs r
noncomputable def bP(K:Fg)(F:Hp):List (am×A')->List j8->Prop
 |[],xs=>xs=[]|(k,d)::ks,xs=>∃b v r,xs=(k,b,v)::r/\SqT K F b (k.map .int)/\aR K F d v/\bP K F ks r
end
mutual
noncomputable def gz:A'->Bool
 |.tup ds=>xw ds|.lst _=>c_|.ins _ _=>c_|.dic _=>c_|.dil _=>c_|_=>e_
noncomputable def xw:List A'->Bool
 |[]=>e_|d::ds=>gz d&&xw ds
end
def aK.lst{xs:aB}(e:aK H H')(h:SqL K H a xs):SqL K H' a xs:=by
 rcases h with(h|⟨o,h⟩)|h
 .exact .inl (.inl (e _ _ h))
 .exact .inl (.inr ⟨o,e _ _ h⟩)
 .exact .inr h
def jd.mono(s:aK F F'){k:LK}(h:jd K F b k):jd K F' b k:=
 let ⟨r,bs,U,S,l,J⟩:=h;⟨r,bs,s.tup U,s.tup S,l,λj I c e1 e2=>s.tup (J j I c e1 e2)⟩
theorem vY.mono{K:Fg}{F F':Hp}(s:aK F F'){ks:a5}{xs:List (LK×i_)}(h:vY K F ks xs):vY K F' ks xs:=⟨h.1,λx I=>(h.2 x I).mono s⟩
mutual
theorem aR.mono{K:Fg}{F F':Hp}(s:aK F F'):∀{d:A'} {v:V},aR K F d v->aR K F' d v
 |.non,_,h=>h|.bl _,_,h=>h|.int _,_,h=>h|.str _,_,h=>h|.tup _,_,⟨a,xs,e,q,r⟩=>⟨a,xs,e,s.tup q,ay.mono s r⟩|.lst _,_,⟨a,xs,e,q,r⟩=>⟨a,xs,e,s.lst q,ay.mono s r⟩|.ins _ _,_,⟨a,dx,fs,e,q,r⟩=>⟨a,dx,fs,e,s _ _ q,jf.mono s r⟩|.dic _,_,⟨a,xs,e,⟨ep,q⟩,r⟩=>⟨a,xs,e,⟨ep,s _ _ q⟩,bP.mono s r⟩|.dil _,_,⟨a,xs,e,⟨ep,q⟩,r⟩=>⟨a,xs,e,⟨ep,s _ _ q⟩,vY.mono s r⟩
theorem ay.mono{K:Fg}{F F':Hp}(s:aK F F'):∀{ds:List A'} {xs:aB},ay K F ds xs->ay K F' ds xs
 |[],_,h=>h|_::_,_,⟨v,vs,e,q,r⟩=>⟨v,vs,e,aR.mono s q,ay.mono s r⟩
theorem jf.mono{K:Fg}{F F':Hp}(s:aK F F'):∀{gs:List (C_×A')} {fs:List (C_×V)},jf K F gs fs->jf K F' gs fs
 |[],_,h=>h|(_,_)::_,_,⟨v,r,e,q,t⟩=>⟨v,r,e,aR.mono s q,jf.mono s t⟩
theorem bP.mono{K:Fg}{F F':Hp}(s:aK F F'):∀{ks:List (am×A')} {xs:List j8},bP K F ks xs->bP K F' ks xs
 |[],_,h=>h|(_,_)::_,_,⟨b,v,r,e,t,q,z⟩=>⟨b,v,r,e,s.tup t,aR.mono s q,bP.mono s z⟩
end
mutual
theorem aR.flat{K:Fg}{F F':Hp}(s:∀a xs,SqT K F a xs->SqT K F' a xs):∀{d:A'} {v:V},gz d=e_->aR K F d v->aR K F' d v
 |.non,_,_,h=>h|.bl _,_,_,h=>h|.int _,_,_,h=>h|.str _,_,_,h=>h|.tup ds,_,f,⟨a,xs,e,q,r⟩=>⟨a,xs,e,s _ _ q,ay.flat s (by simpa[gz] using f) r⟩|.lst _,_,f,_=>by simp[gz]at f|.ins _ _,_,f,_=>by simp[gz]at f|.dic _,_,f,_=>by simp[gz]at f|.dil _,_,f,_=>by simp[gz]at f
theorem ay.flat{K:Fg}{F F':Hp}(s:∀a xs,SqT K F a xs->SqT K F' a xs):∀{ds:List A'} {xs:aB},xw ds=e_->ay K F ds xs->ay K F' ds xs
 |[],_,_,h=>h|d::ds,_,f,⟨v,vs,e,q,r⟩=>by simp only[xw,A_]at f;exact⟨v,vs,e,aR.flat s f.1 q,ay.flat s f.2 r⟩
end
theorem ay.length{K:Fg}{F:Hp}:∀{ds:List A'} {xs:aB},ay K F ds xs->xs.length=ds.length
 |[],_,h=>by rw[show _=[]from h];rfl|_::_,_,⟨_,_,e,_,r⟩=>by rw[e,CG,CG,ay.length r]
theorem ay.get{K:Fg}{F:Hp}:∀{ds:List A'} {xs:aB} {i:Nat} {d:A'},ay K F ds xs->ds[i]?=a_ d->∃v,xs[i]?=a_ v/\aR K F d v
 |[],_,_,_,_,e=>by simp at e|_::_,_,0,_,⟨v,vs,e,q,_⟩,h=>by simp only[HZ,FN]at h;subst h e;exact⟨v,rfl,q⟩|_::_,_,i+1,_,⟨v,vs,e,_,r⟩,h=>by subst e;simp only[EI]at h ⊢;exact ay.get r h
theorem ay.at{K:Fg}{F:Hp}{ds:List A'}{xs:aB}{i:Nat}{v:V}(r:ay K F ds xs)(h:xs[i]?=a_ v):∃d,ds[i]?=a_ d/\aR K F d v:=by
 have hi:i<ds.length:=by rw[<- r.length];exact(y_.mp h).1
 obtain⟨w,e,q⟩:=r.get (i:=i) (d:=ds[i]) (by simp[hi]);rw[h]at e;have I:=Dl e;subst I;exact⟨ds[i],by simp[hi],q⟩
def ay.cons{ds:List A'}{xs:aB}(q:aR K F d v)(r:ay K F ds xs):ay K F (d::ds) (v::xs):=⟨v,xs,rfl,q,r⟩
theorem ay.append{K:Fg}{F:Hp}:∀{ds es:List A'} {xs ys:aB},ay K F ds xs->ay K F es ys->ay K F (ds++es) (xs++ys)
 |[],_,_,_,h,r=>by rw[show _=[]from h];exact r|_::_,_,_,_,⟨v,vs,e,q,t⟩,r=>by subst e;exact⟨v,_,rfl,q,ay.append t r⟩
theorem ay.take{K:Fg}{F:Hp}:∀{ds:List A'} {xs:aB} (n:Nat),ay K F ds xs->ay K F (ds.take n) (xs.take n)
 |_,_,0,_=>rfl|[],_,_+1,h=>by rw[show _=[]from h];rfl|_::_,_,n+1,⟨v,vs,e,q,r⟩=>by subst e;exact⟨v,_,rfl,q,ay.take n r⟩
theorem ay.drop{K:Fg}{F:Hp}:∀{ds:List A'} {xs:aB} (n:Nat),ay K F ds xs->ay K F (ds.drop n) (xs.drop n)
 |_,_,0,h=>h|[],_,_+1,h=>by rw[show _=[]from h];rfl|_::_,_,n+1,⟨v,vs,e,q,r⟩=>by subst e;exact ay.drop n r
theorem ay.set{K:Fg}{F:Hp}{d:A'}{v:V}(q:aR K F d v):∀{ds:List A'} {xs:aB} (n:Nat),ay K F ds xs->ay K F (ds.set n d) (xs.set n v)
 |[],_,_,h=>by rw[show _=[]from h];rfl|_::_,_,0,⟨w,vs,e,_,r⟩=>by subst e;exact⟨v,_,rfl,q,r⟩|_::_,_,n+1,⟨w,vs,e,p,r⟩=>by subst e;exact⟨w,_,rfl,p,ay.set q n r⟩
theorem ay.eraseIdx{K:Fg}{F:Hp}:∀{ds:List A'} {xs:aB} (n:Nat),ay K F ds xs->ay K F (ds.eraseIdx n) (xs.eraseIdx n)
 |[],_,_,h=>by rw[show _=[]from h];rfl|_::_,_,0,⟨w,vs,e,_,r⟩=>by subst e;exact r|_::_,_,n+1,⟨w,vs,e,p,r⟩=>by subst e;exact⟨w,_,rfl,p,ay.eraseIdx n r⟩
theorem ay.of_get{K:Fg}{F:Hp}:∀{ds:List A'} {xs:aB},xs.length=ds.length->(∀(i:Nat) d v,ds[i]?=a_ d->xs[i]?=a_ v->aR K F d v)->ay K F ds xs
 |[],[],_,_=>rfl|[],_::_,h,_=>by simp at h|_::_,[],h,_=>by simp at h|d::ds,v::vs,h,q=>⟨v,vs,rfl,q 0 d v rfl rfl,ay.of_get (by simpa using h) λi e w h1 h2=>q (i+1) e w (by simpa using h1) (by simpa using h2)⟩
structure B4(F H F' H':Hp):Prop where
 ff:aK F F'
 hh:aK H H'
 fh:aK F' H'
 nw:∀b o,F' b=a_ o->F b=a_ o\/H b=f_
theorem B4.refl{F H:Hp}(s:aK F H):B4 F H F H:=⟨aK.refl _,aK.refl _,s,λ_ _ h=>.inl h⟩
theorem B4.trans{F H F1 H1 F2 H2:Hp}(a:B4 F H F1 H1)(b:B4 F1 H1 F2 H2):B4 F H F2 H2:=
 ⟨a.ff.trans b.ff,a.hh.trans b.hh,b.fh,λx o h=>(b.nw x o h).elim (λz=>a.nw x o z) λz=>.inr (a.hh.free z)⟩
def B4.lay{p:i_}{o:HO}(s:aK F H)(I:H p=f_):B4 F H (upd F p o) (upd H p o):=
 ⟨aK.upd (s.free I),aK.upd I,λb u h=>by
  by_cases e:b=p
  .subst e;rw[aq]at h ⊢;exact h
  .rw[aw e]at h ⊢;exact s b u h,λb u h=>by
  by_cases e:b=p
  .subst e;exact .inr I
  .rw[aw e]at h;exact .inl h⟩
def B4.grow{p:i_}{o:HO}(s:aK F H)(I:H p=f_):B4 F H F (upd H p o):=
 ⟨aK.refl _,aK.upd I,s.trans (aK.upd I),λ_ _ h=>.inl h⟩
def kz(K:Fg)(F H0 H:Hp):A'->V->Prop
 |.lst ds,v=>∃a xs,v=.ref a/\H a=a_ (.lst xs)/\F a=f_/\H0 a=f_/\ay K F ds xs
 |.dic ks,v=>∃a xs,v=.ref a/\(∃ep,H a=a_ (lY a xs ep))/\F a=f_/\H0 a=f_/\bP K F ks xs
 |.dil ks,v=>∃a xs,v=.ref a/\(∃ep,H a=a_ (uJ a xs ep))/\F a=f_/\H0 a=f_/\vY K F ks xs
 |d,v=>aR K F d v
noncomputable def isO:A'->Bool
 |.lst _=>e_|.dic _=>e_|.dil _=>e_|_=>c_
noncomputable def isMu:HO->Bool
 |.lst _=>e_|.ext _=>e_|_=>c_
def kz.non(hd:isO d=c_):kz K F H0 H d v=aR K F d v:=by cases d<;>first|rfl|cases hd
def kz.top(hd:isO d=e_)(q:kz K F H0 H d v):∃a o,v=.ref a/\H a=a_ o/\isMu o=e_/\F a=f_/\H0 a=f_:=by
 cases d with
 |lst ds=>obtain⟨a,xs,e,p,f,z,_⟩:=q;exact⟨a,_,e,p,rfl,f,z⟩
 |dic ks=>obtain⟨a,xs,e,⟨ep,p⟩,f,z,_⟩:=q;exact⟨a,_,e,p,rfl,f,z⟩
 |dil ks=>obtain⟨a,xs,e,⟨ep,p⟩,f,z,_⟩:=q;exact⟨a,_,e,p,rfl,f,z⟩
 |_=>cases hd
def kz.re(hd:isO d=e_)(q:kz K F H0 H d (.ref a))(J:aK F F')(fa:F' a=f_)(I:∀o,H a=a_ o->H' a=a_ o):kz K F' H0 H' d (.ref a):=by
 cases d with
 |lst ds=>obtain⟨b,xs,e,p,f,z,r⟩:=q;cases e;exact⟨a,xs,rfl,I _ p,fa,z,r.mono J⟩
 |dic ks=>obtain⟨b,xs,e,⟨ep,p⟩,f,z,r⟩:=q;cases e;exact⟨a,xs,rfl,⟨ep,I _ p⟩,fa,z,r.mono J⟩
 |dil ks=>obtain⟨b,xs,e,⟨ep,p⟩,f,z,r⟩:=q;cases e;exact⟨a,xs,rfl,⟨ep,I _ p⟩,fa,z,r.mono J⟩
 |_=>cases hd
def kz.give(hd:isO d=e_)(q:kz K F H0 H d (.ref a))(I:aK F F')(fa:F' a=H a):aR K F' d (.ref a):=by
 cases d with
 |lst ds=>obtain⟨b,xs,e,p,f,z,r⟩:=q;cases e;exact⟨a,xs,rfl,SqL.of (fa.trans p),r.mono I⟩
 |dic ks=>obtain⟨b,xs,e,⟨ep,p⟩,f,z,r⟩:=q;cases e;exact⟨a,xs,rfl,⟨ep,fa.trans p⟩,r.mono I⟩
 |dil ks=>obtain⟨b,xs,e,⟨ep,p⟩,f,z,r⟩:=q;cases e;exact⟨a,xs,rfl,⟨ep,fa.trans p⟩,r.mono I⟩
 |_=>cases hd
def Val(K:Fg)(own:Bool)(F H0 H:Hp)(d:A')(v:V):Prop:=if own=e_ then kz K F H0 H d v else aR K F d v
def kz.back(s:aK H0 H1)(h:kz K F H1 H d v):kz K F H0 H d v:=by
 cases d with
 |lst ds=>obtain⟨a,xs,e,p,q,z,r⟩:=h;exact⟨a,xs,e,p,q,s.free z,r⟩
 |dic ks=>obtain⟨a,xs,e,p,q,z,r⟩:=h;exact⟨a,xs,e,p,q,s.free z,r⟩
 |dil ks=>obtain⟨a,xs,e,p,q,z,r⟩:=h;exact⟨a,xs,e,p,q,s.free z,r⟩
 |_=>exact h
theorem Val.back{K:Fg}{own:Bool}{F H0 H1 H:Hp}{d:A'}{v:V}(s:aK H0 H1)(h:Val K own F H1 H d v):Val K own F H0 H d v:=by
 cases own with
 |true=>exact kz.back s h|false=>exact h
def kz.freeze(s:aK F H)(h:kz K F H0 H d v):∃F',aK F F'/\aK F' H/\(∀b o,F' b=a_ o->F b=a_ o\/H0 b=f_)/\aR K F' d v:=by
 cases hd:isO d with
 |true=>
  obtain⟨a,u,e,p,_,q,z⟩:=h.top hd;subst e;refine⟨upd F a u,aK.upd q,λb o h=>?_,λb o h=>?_,h.give hd (aK.upd q) (by rw[aq,p])⟩
  .by_cases e:b=a
   .subst e;rw[aq]at h;rw[p,<- h]
   .rw[aw e]at h;exact s b o h
  .by_cases e:b=a
   .subst e;exact .inr z
   .rw[aw e]at h;exact .inl h
 |false=>rw[kz.non hd]at h;exact⟨F,aK.refl _,s,λ_ _ z=>.inl z,h⟩
inductive Err where
 |stuck|exc (C:i_) (fs:List (C_×A'))
noncomputable abbrev M:=Except Err
variable{g':A'->A'->M A'}
noncomputable abbrev ae:=List (Option A')
variable{ρ ρ':ae}{fa fb fc fe fk fx fA fv f3 f4 f5:ae->M A'}{ft fu:ae->M Bool}{fi:ae->M (List A')}{fl:ae->M (Option Int)}
structure cp where
 p:Err->Hp->Hp->Prop
 mono:∀{e:Err} {F H F' H':Hp},p e F H->B4 F H F' H'->p e F' H'
 ns:∀{F H:Hp},p .stuck F H->False
noncomputable def Hn:cp:=⟨λ_ _ _=>False,λh _=>h,λh=>h⟩
def aF(K:Fg)(W:cp)(own:Bool)(F H:Hp)(r:M A')(Q:VK):Prop:=match r with
 |.ok d=>∀v F' H',B4 F H F' H'->Val K own F' H H' d v->Q v H'|.error e=>W.p e F H
def aF.step{W:cp}{own:Bool}{r:M A'}(p:aF K W own F H r Q)(s:B4 F H F1 H1):aF K W own F1 H1 r Q:=by
 cases r with
 |ok d=>exact λv F' H' t q=>p v F' H' (s.trans t) (q.back s.hh)|error e=>exact W.mono p s
def aF.frz{W:cp}{r:M A'}(p:aF K W c_ F H r Q):aF K W e_ F H r Q:=by
 cases r with
 |ok d=>intro v F' H' t q;obtain⟨F2,J,I,n,z⟩:=kz.freeze t.fh q;exact p v F2 H' ⟨t.ff.trans J,t.hh,I,λb o h=>(n b o h).elim (λz=>t.nw b o z) .inr⟩ z
 |error e=>exact p
structure jw(K:Fg)(F:Hp)(σ:St)(ρ:ae):Prop where
 len:ρ.length=σ.length
 sl:∀(i:Nat) (d:A'),ρ[i]?=a_ (a_ d)->∃v,σ[i]?=a_ (a_ v)/\aR K F d v
theorem jw.mono{K:Fg}{F F':Hp}{σ:St}{ρ:ae}(r:jw K F σ ρ)(s:aK F F'):jw K F' σ ρ:=
 ⟨r.len,λi d e=>let ⟨v,h,q⟩:=r.sl i d e;⟨v,h,q.mono s⟩⟩
theorem jw.set{K:Fg}{F:Hp}{σ:St}{ρ:ae}{d:A'}{v:V}(r:jw K F σ ρ)(q:aR K F d v)(i:Nat):jw K F (σ.set i (a_ v)) (ρ.set i (a_ d)):=
 ⟨by rw[Dn,Dn,r.len],λj e h=>by
  by_cases I:i=j
  .subst I;have hi:i<ρ.length:=by
    have:=(y_.mp h).1;simpa using this
   rw[CK hi]at h;cases h;exact⟨v,by rw[CK (by rw[<- r.len];exact hi)],q⟩
  .rw[v_ I]at h;obtain⟨w,h1,h2⟩:=r.sl j e h;exact⟨w,by rw[v_ I];exact h1,h2⟩⟩
def tD(K:Fg)(W:cp)(own:Bool)(f:ae->M A'):TE:=λσ H Q=>∃F ρ,jw K F σ ρ/\aK F H/\aF K W own F H (f ρ) Q
def aL{W:cp}{own:Bool}{f:ae->M A'}{R:VK}(r:jw K F σ ρ)(s:aK F H)(J:∀e,f ρ=.error e->W.p e F H)(I:∀d,f ρ=.ok d->∀v F1 H1,B4 F H F1 H1->Val K own F1 H H1 d v->R v H1):tD K W own f σ H R:=by
 refine⟨F,ρ,r,s,?_⟩
 cases e:f ρ with
 |ok d=>exact I d e|error x=>exact J x e
def tDT(K:Fg)(W:cp)(f:ae->M Bool):TT:=λσ H Q=>∃F ρ,jw K F σ ρ/\aK F H/\(match f ρ with
 |.ok b=>∀F' H',B4 F H F' H'->Q b H'|.error e=>W.p e F H)
def jA{W:cp}{f:ae->M Bool}(r:jw K F σ ρ)(s:aK F H)(J:∀e,f ρ=.error e->W.p e F H)(I:∀b,f ρ=.ok b->∀F1 H1,B4 F H F1 H1->R b H1):tDT K W f σ H R:=by
 refine⟨F,ρ,r,s,?_⟩
 cases e:f ρ with
 |ok d=>exact I d e|error x=>exact J x e
def tDA(K:Fg)(W:cp)(f:ae->M (List A')):TA:=λσ H Q=>∃F ρ,jw K F σ ρ/\aK F H/\(match f ρ with
 |.ok ds=>∀vs F' H',B4 F H F' H'->ay K F' ds vs->Q vs H'|.error e=>W.p e F H)
def jB{W:cp}{f:ae->M (List A')}{R:aB->Hp->Prop}(r:jw K F σ ρ)(s:aK F H)(J:∀e,f ρ=.error e->W.p e F H)(I:∀ds,f ρ=.ok ds->∀vs F1 H1,B4 F H F1 H1->ay K F1 ds vs->R vs H1):tDA K W f σ H R:=by
 refine⟨F,ρ,r,s,?_⟩
 cases e:f ρ with
 |ok d=>exact I d e|error x=>exact J x e
noncomputable def af(i:Nat):ae->M A':=λρ=>match ρ[i]? with
 |some (a_ d)=>.ok d|_=>.error .stuck
noncomputable def fC(d:A'):ae->M A':=λ_=>.ok d
noncomputable def f1(g:A'->M A')(fa:ae->M A'):ae->M A':=λρ=>(fa ρ).bind g
noncomputable def f2(g:A'->A'->M A')(fa fb:ae->M A'):ae->M A':=λρ=>(fa ρ).bind λa=>(fb ρ).bind λb=>g a b
noncomputable def aD:ae->M (List A'):=λ_=>.ok []
noncomputable def aa(fa:ae->M A')(fr:ae->M (List A')):ae->M (List A'):=λρ=>(fa ρ).bind λa=>(fr ρ).bind λr=>.ok (a::r)
noncomputable def fL(g:List A'->M A')(fr:ae->M (List A')):ae->M A':=λρ=>(fr ρ).bind g
def cV(ds:List A'):M A':=if ds.length<=o_ then .ok (.tup ds)else .error .stuck
def bo(ds:List A'):M A':=if ds.length<=o_ then .ok (.lst ds)else .error .stuck
noncomputable def fIte(ft:ae->M Bool)(fa fb:ae->M A'):ae->M A':=λρ=>(ft ρ).bind λb=>if b=e_ then fa ρ else fb ρ
noncomputable def fAnd(ft fu:ae->M Bool):ae->M Bool:=λρ=>(ft ρ).bind λb=>if b=e_ then fu ρ else .ok c_
noncomputable def fOr(ft fu:ae->M Bool):ae->M Bool:=λρ=>(ft ρ).bind λb=>if b=e_ then .ok e_ else fu ρ
noncomputable def vA(ft:ae->M Bool):ae->M Bool:=λρ=>(ft ρ).bind λb=>.ok (!b)
noncomputable def asB:A'->M Bool
 |.bl b=>.ok b|_=>.error .stuck
def fB(fa:ae->M A'):ae->M Bool:=λρ=>(fa ρ).bind asB
def oM(fa fb:ae->M A'):ae->M A':=λρ=>(fa ρ).bind λa=>(asB a).bind λb=>if b=e_ then fb ρ else .ok (.bl c_)
noncomputable def notD:A'->M A'
 |.bl b=>.ok (.bl (!b))|_=>.error .stuck
def truD:A'->M Bool
 |.non=>.ok c_|.bl b=>.ok b|.int i=>.ok (i != 0)|.str x=>if x.length<=o_ then .ok ((x.length:Int) != 0)else .error .stuck
 |.tup ds=>.ok (!ds.isEmpty)|.lst ds=>.ok (!ds.isEmpty)|_=>.error .stuck
def u7(fa:ae->M A'):ae->M Bool:=λρ=>(fa ρ).bind truD
def iN(g g':A'->A'->M A')(fa fb fc:ae->M A'):ae->M A':=λρ=>(fa ρ).bind λa=>(fb ρ).bind λb=>(g a b).bind λx=>(asB x).bind λk=>if k=e_ then(fc ρ).bind λc=>g' b c else .ok (.bl c_)
def rD2(K:Fg)(W:cp)(own:Bool)(g:A'->A'->M A'):R2:=λx y H Q=>∃F a b,aK F H/\aR K F a x/\aR K F b y/\aF K W own F H (g a b) Q
def rD1(K:Fg)(W:cp)(own:Bool)(g:A'->M A'):V->Hp->VK->Prop:=λx H Q=>∃F a,aK F H/\aR K F a x/\aF K W own F H (g a) Q
def rDL(K:Fg)(W:cp)(own:Bool)(g:List A'->M A'):aB->Hp->VK->Prop:=λxs H Q=>∃F ds,aK F H/\ay K F ds xs/\aF K W own F H (g ds) Q
section
variable{W:cp}{own:Bool}
def rd_var(h:tD K W c_ (af i) σ H Q):wk i σ H Q:=by
 obtain⟨F,ρ,r,s,p⟩:=h;unfold af at p
 match e:ρ[i]? with
 |some (a_ d)=>rw[e]at p;obtain⟨v,e1,q⟩:=r.sl i d e;exact⟨v,e1,p v F H (B4.refl s) q⟩
 |some f_=>rw[e]at p;exact(W.ns p).elim|none=>rw[e]at p;exact(W.ns p).elim
def rd_c(hd:∀F,aR K F d v)(h:tD K W c_ (fC d) σ H Q):tC v σ H Q:=by obtain⟨F,ρ,r,s,p⟩:=h;exact p v F H (B4.refl s) (hd F)
def aF.err{x:M A'}{e:Err}(p:aF K W own F H x Q)(h:x=.error e):W.p e F H:=by rw[h]at p;exact p
def rd_1{g:A'->M A'}(h:tD K W own (f1 g fa) σ H Q):tUn (rD1 K W own g) (tD K W c_ fa) σ H Q:=by
 obtain⟨F,ρ,r,s,p⟩:=h;refine aL r s (λe J=>p.err (by unfold f1;rw[J];rfl)) λa S x F1 H1 I q1=>?_;refine⟨F1,a,I.fh,q1,?_⟩
 have e:f1 g fa ρ=g a:=by unfold f1;rw[S];rfl
 rw[e]at p;exact p.step I
def rd_2{g:A'->A'->M A'}(h:tD K W own (f2 g fa fb) σ H Q):tOp (rD2 K W own g) (tD K W c_ fa) (tD K W c_ fb) σ H Q:=by
 obtain⟨F,ρ,r,s,p⟩:=h;refine aL r s (λe S=>p.err (by unfold f2;rw[S];rfl)) λa U x F1 H1 I q1=>?_;refine aL (r.mono I.ff) I.fh (λe S=>(p.step I).err (by unfold f2;rw[U];show(fb ρ).bind _=_;rw[S];rfl)) λb Y y F2 H2 J q2=>?_;refine⟨F2,a,b,J.fh,aR.mono J.ff q1,q2,?_⟩
 have e:f2 g fa fb ρ=g a b:=by unfold f2;rw[U];show(fb ρ).bind _=_;rw[Y];rfl
 rw[e]at p;exact p.step (I.trans J)
def rd_nil{R:aB->Hp->Prop}(h:tDA K W aD σ H R):wo σ H R:=by obtain⟨F,ρ,r,s,p⟩:=h;exact p [] F H (B4.refl s) rfl
def rd_cons{fr:ae->M (List A')}{R:aB->Hp->Prop}(h:tDA K W (aa fa fr) σ H R):j9 (tD K W c_ fa) (tDA K W fr) σ H R:=by
 obtain⟨F,ρ,r,s,p⟩:=h;refine aL r s (λe J=>?_) λa U x F1 H1 I q1=>jB (r.mono I.ff) I.fh (λe J=>?_) λds hd xs F2 H2 S q2=>?_
 .have z:aa fa fr ρ=.error e:=by unfold aa;rw[J];rfl
  rw[z]at p;exact p
 .have z:aa fa fr ρ=.error e:=by unfold aa;rw[U];show(fr ρ).bind _=_;rw[J];rfl
  rw[z]at p;exact W.mono p I
 .have z:aa fa fr ρ=.ok (a::ds):=by unfold aa;rw[U];show(fr ρ).bind _=_;rw[hd];rfl
  rw[z]at p;exact p (x::xs) F2 H2 (I.trans S) ⟨x,xs,rfl,aR.mono S.ff q1,q2⟩
def rd_L{g:List A'->M A'}{fr:ae->M (List A')}(h:tD K W own (fL g fr) σ H Q):tDA K W fr σ H λxs H1=>rDL K W own g xs H1 Q:=by
 obtain⟨F,ρ,r,s,p⟩:=h;refine jB r s (λe J=>p.err (by unfold fL;rw[J];rfl)) λds hd xs F1 H1 I q1=>⟨F1,ds,I.fh,q1,?_⟩
 have e:fL g fr ρ=g ds:=by unfold fL;rw[hd];rfl
 rw[e]at p;exact p.step I
def rd_tup{fr:ae->M (List A')}(h:tD K W own (fL cV fr) σ H Q):tTup (tDA K W fr) σ H Q:=by
 obtain⟨F,ρ,r,s,p⟩:=rd_L h;refine⟨F,ρ,r,s,?_⟩
 cases e:fr ρ with
 |error x=>rw[e]at p;exact p|ok ds=>
  rw[e]at p;intro vs F' H' t q;obtain⟨F1,es,J,q1,z⟩:=p vs F' H' t q;unfold cV at z;by_cases I:es.length<=o_
  .rw[n_ I]at z;refine⟨by rw[q1.length];exact I,λa S=>z (.ref a) _ _ (B4.lay J S) ?_⟩
   have:aR K (upd F1 a (.tup vs)) (.tup es) (.ref a):=⟨a,vs,rfl,SqT.of aq,q1.mono (aK.upd (J.free S))⟩
   cases own with
   |true=>exact this|false=>exact this
  .rw[l_ I]at z;exact(W.ns z).elim
def rd_lst{fr:ae->M (List A')}(h:tD K W e_ (fL bo fr) σ H Q):tLst (tDA K W fr) σ H Q:=by
 obtain⟨F,ρ,r,s,p⟩:=rd_L h;refine⟨F,ρ,r,s,?_⟩
 cases e:fr ρ with
 |error x=>rw[e]at p;exact p|ok ds=>
  rw[e]at p;intro vs F' H' t q;obtain⟨F1,es,S,q1,z⟩:=p vs F' H' t q;unfold bo at z;by_cases I:es.length<=o_
  .rw[n_ I]at z;exact⟨by rw[q1.length];exact I,λa J=>z (.ref a) F1 _ (B4.grow S J) ⟨a,vs,rfl,aq,S.free J,J,q1⟩⟩
  .rw[l_ I]at z;exact(W.ns z).elim
def rd_ite(h:tD K W own (fIte ft fa fb) σ H Q):tIf (tDT K W ft) (tD K W own fa) (tD K W own fb) σ H Q:=by
 obtain⟨F,ρ,r,s,p⟩:=h;refine jA r s (λe J=>p.err (by unfold fIte;rw[J];rfl)) λb S F1 H1 I=>?_;have e:fIte ft fa fb ρ=if b=e_ then fa ρ else fb ρ:=by unfold fIte;rw[S];rfl
 rw[e]at p;cases b with
 |true=>exact⟨F1,ρ,r.mono I.ff,I.fh,p.step I⟩|false=>exact⟨F1,ρ,r.mono I.ff,I.fh,p.step I⟩
theorem wq{f:ae->M Bool}(r:jw K F σ ρ)(I:B4 F H F1 H1)(p:match f ρ with
 |.ok b=>∀F' H',B4 F H F' H'->R b H'|.error e=>W.p e F H):tDT K W f σ H1 R:=by
 refine⟨F1,ρ,r.mono I.ff,I.fh,?_⟩
 cases e:f ρ with
 |ok b=>rw[e]at p;exact λF' H' t=>p F' H' (I.trans t)|error x=>rw[e]at p;exact W.mono p I
def rd_and(h:tDT K W (fAnd ft fu) σ H R):tAnd (tDT K W ft) (tDT K W fu) σ H R:=by
 obtain⟨F,ρ,r,s,p⟩:=h;refine jA r s (λe J=>?_) λb S F1 H1 I=>?_
 .have z:fAnd ft fu ρ=.error e:=by unfold fAnd;rw[J];rfl
  rw[z]at p;exact p
 .have z:fAnd ft fu ρ=if b=e_ then fu ρ else .ok c_:=by unfold fAnd;rw[S];rfl
  rw[z]at p;cases b with
  |true=>exact wq r I p|false=>exact p F1 H1 I
def rd_or(h:tDT K W (fOr ft fu) σ H R):tOr (tDT K W ft) (tDT K W fu) σ H R:=by
 obtain⟨F,ρ,r,s,p⟩:=h;refine jA r s (λe J=>?_) λb S F1 H1 I=>?_
 .have z:fOr ft fu ρ=.error e:=by unfold fOr;rw[J];rfl
  rw[z]at p;exact p
 .have z:fOr ft fu ρ=if b=e_ then .ok e_ else fu ρ:=by unfold fOr;rw[S];rfl
  rw[z]at p;cases b with
  |false=>exact wq r I p|true=>exact p F1 H1 I
def rd_not(h:tDT K W (vA ft) σ H R):tNot (tDT K W ft) σ H R:=by
 obtain⟨F,ρ,r,s,p⟩:=h;refine jA r s (λe J=>?_) λb S F1 H1 I=>?_
 .have z:vA ft ρ=.error e:=by unfold vA;rw[J];rfl
  rw[z]at p;exact p
 .have z:vA ft ρ=.ok (!b):=by unfold vA;rw[S];rfl
  rw[z]at p;exact p F1 H1 I
def rd_B(h:tDT K W (fB fa) σ H R):tTest (tD K W c_ fa) σ H R:=by
 obtain⟨F,ρ,r,s,p⟩:=h;refine aL r s (λe J=>?_) λa S x F1 H1 I q1=>?_
 .have z:fB fa ρ=.error e:=by unfold fB;rw[J];rfl
  rw[z]at p;exact p
 .have z:fB fa ρ=asB a:=by unfold fB;rw[S];rfl
  rw[z]at p;cases a with
  |bl b=>exact⟨b,q1,p F1 H1 I⟩|_=>exact(W.ns p).elim
def tru_of{a:A'}{x:V}{b:Bool}(s:aK F H1)(q:aR K F a x)(h:truD a=.ok b):TruV K x H1 b:=by
 cases a with
 |non=>rw[show x=.non from q];exact(EU h).symm|bl c=>rw[show x=.bl c from q];exact(EU h).symm|int i=>rw[show x=.int i from q];exact(EU h).symm|str y=>
  rw[show x=.str y from q];have h':(if y.length<=o_ then Ec ((y.length:Int) != 0)else E3 Err.stuck)=Ec b:=h;by_cases I:y.length<=o_
  .rw[n_ I]at h';exact⟨I,(EU h').symm⟩
  .rw[l_ I]at h';cases h'
 |tup ds=>
  obtain⟨p,xs,e,t,r⟩:=q;subst e;refine .inr (.inl ⟨xs,s.tup t,?_⟩);rw[<- EU h];cases ds with
  |nil=>rw[show xs=[]from r];rfl|cons d ds=>obtain⟨v,vs,e,_⟩:=r;rw[e];rfl
 |lst ds=>
  obtain⟨p,xs,e,t,r⟩:=q;subst e;refine .inl ⟨xs,s.lst t,?_⟩;rw[<- EU h];cases ds with
  |nil=>rw[show xs=[]from r];rfl|cons d ds=>obtain⟨v,vs,e,_⟩:=r;rw[e];rfl
 |ins C fs=>cases h|dic ks=>cases h|dil ks=>cases h
def rd_tru(h:tDT K W (u7 fa) σ H R):tD K W c_ fa σ H λx H1=>∃k,TruV K x H1 k/\R k H1:=by
 obtain⟨F,ρ,r,s,p⟩:=h;refine aL r s (λe U=>?_) λa Y x F1 H1 J q1=>?_
 .have z:u7 fa ρ=.error e:=by unfold u7;rw[U];rfl
  rw[z]at p;exact p
 .have z:u7 fa ρ=truD a:=by unfold u7;rw[Y];rfl
  rw[z]at p;cases e:truD a with
  |ok b=>rw[e]at p;exact⟨b,tru_of J.fh q1 e,p F1 H1 J⟩|error x=>
   rw[e]at p;have:x=.stuck:=by
    cases a with
    |str y=>
     have I:(if y.length<=o_ then Ec ((y.length:Int) != 0)else E3 Err.stuck)=E3 x:=e;by_cases S:y.length<=o_
     .rw[n_ S]at I;cases I
     .rw[l_ S]at I;cases I;rfl
    |ins C fs=>cases e;rfl|dic ks=>cases e;rfl|dil ks=>cases e;rfl|_=>cases e
   subst this;exact(W.ns p).elim
def rd_andV(h:tD K W c_ (oM fa fb) σ H Q):tAndV (tD K W c_ fa) (tD K W c_ fb) σ H Q:=by
 obtain⟨F,ρ,r,s,p⟩:=h;refine aL r s (λe J=>p.err (by unfold oM;rw[J];rfl)) λa S x F1 H1 I q1=>?_;have z:oM fa fb ρ=(asB a).bind λb=>if b=e_ then fb ρ else .ok (.bl c_):=by unfold oM;rw[S];rfl
 rw[z]at p;cases a with
 |bl b=>
  refine⟨b,q1,?_⟩
  cases b with
  |true=>exact⟨F1,ρ,r.mono I.ff,I.fh,aF.step (own:=c_) (r:=fb ρ) p I⟩|false=>exact p (.bl c_) F1 H1 I rfl
 |_=>exact(W.ns p).elim
def rd_notV(h:tD K W c_ (f1 notD fa) σ H Q):tNotV (tD K W c_ fa) σ H Q:=by
 obtain⟨F,ρ,r,s,p⟩:=h;refine aL r s (λe J=>p.err (by unfold f1;rw[J];rfl)) λa S x F1 H1 I q1=>?_;have z:f1 notD fa ρ=notD a:=by unfold f1;rw[S];rfl
 rw[z]at p;cases a with
 |bl b=>exact⟨b,q1,p (.bl (!b)) F1 H1 I rfl⟩|_=>exact(W.ns p).elim
def wH{g:A'->A'->M A'}(h:tD K W c_ (iN g g' fa fb fc) σ H Q):As (rD2 K W c_ g) (rD2 K W c_ g') (tD K W c_ fa) (tD K W c_ fb) (tD K W c_ fc) σ H Q:=by
 obtain⟨F,ρ,r,s,p⟩:=h;refine aL r s (λe S=>p.err (by unfold iN;rw[S];rfl)) λa j x F1 H1 J q1=>?_;refine aL (r.mono J.ff) J.fh (λe S=>(p.step J).err (by unfold iN;rw[j];show(fb ρ).bind _=_;rw[S];rfl)) λb o y F2 H2 U q2=>?_;have z:iN g g' fa fb fc ρ=(g a b).bind λx=>(asB x).bind λk=>if k=e_ then(fc ρ).bind λc=>g' b c else .ok (.bl c_):=by unfold iN;rw[j];show(fb ρ).bind _=_;rw[o];rfl
 rw[z]at p;refine⟨F2,a,b,U.fh,aR.mono U.ff q1,q2,?_⟩
 have p2:=p.step (J.trans U);cases e:g a b with
 |error x=>rw[e]at p2;exact p2|ok d=>
  rw[e]at p2;intro v i f I m;have p3:aF K W c_ i f ((asB d).bind λk=>if k=e_ then(fc ρ).bind λc=>g' b c else .ok (.bl c_)) Q:=aF.step p2 I;cases d with
  |bl k=>
   refine⟨k,m,?_⟩
   cases k with
   |false=>exact p3 (.bl c_) i f (B4.refl I.fh) rfl|true=>
    have p4:aF K W c_ i f ((fc ρ).bind λc=>g' b c) Q:=p3;refine aL (r.mono (J.trans (U.trans I)).ff) I.fh (λe S=>p4.err (by rw[S];rfl)) λc n w q t Y l=>⟨q,b,c,Y.fh,aR.mono (I.trans Y).ff q2,l,?_⟩
    rw[n]at p4;exact p4.step Y
  |_=>exact(W.ns p3).elim
end
inductive Pat where
 |nm (i:Nat)|tp (is:List Nat)
def ir:aC->List A'->ae->ae
 |i::is,d::ds,ρ=>ir is ds (ρ.set i (a_ d))|_,_,ρ=>ρ
def gE:Pat->A'->ae->M ae
 |.nm i,d,ρ=>.ok (ρ.set i (a_ d))|.tp is,.tup ds,ρ=>if ds.length=is.length then .ok (ir is ds ρ)else .error .stuck
 |.tp _,_,_=>.error .stuck
def gh:aC->TGs
 |[]=>gNil|i::is=>gCons (rC i) (gh is)
def gP(K:Fg):Pat->TG
 |.nm i=>rC i|.tp is=>gTup K is.length (gh is)
theorem pS{K:Fg}{F H:Hp}{R:St->Hp->Prop}:∀{is:aC} {ds:List A'} {vs:aB} {σ:St} {ρ:ae},jw K F σ ρ->ay K F ds vs->ds.length=is.length->(∀σ',jw K F σ' (ir is ds ρ)->R σ' H)->gh is vs σ H R
 |[],[],_,σ,ρ,r,q,_,h=>⟨q,h σ r⟩|[],_::_,_,_,_,_,_,e,_=>by simp at e|_::_,[],_,_,_,_,_,e,_=>by simp at e|i::is,d::ds,_,σ,ρ,r,⟨v,vs,e,q,t⟩,l,h=>⟨v,vs,e,pS (r.set q i) t (by simpa using l) h⟩
def gP_run{R:St->Hp->Prop}{p:Pat}(r:jw K F σ ρ)(s:aK F H)(q:aR K F d v)(e:gE p d ρ=.ok ρ')(h:∀σ',jw K F σ' ρ'->R σ' H):gP K p v σ H R:=by
 cases p with
 |nm i=>have:=EU e;subst this;exact h _ (r.set q i)|tp is=>
  cases d with
  |tup ds=>
   have J:(if ds.length=is.length then Ec (ir is ds ρ)else E3 Err.stuck)=Ec ρ':=e;by_cases I:ds.length=is.length
   .rw[n_ I]at J;have:=EU J;subst this;obtain⟨a,xs,ev,t,z⟩:=q;exact⟨a,xs,ev,s.tup t,by rw[z.length,I],pS r z I h⟩
   .rw[l_ I]at J;cases J
  |_=>cases e
def o7{p:Pat}{e:Err}(h:gE p d ρ=.error e):e=.stuck:=by
 cases p with
 |nm i=>cases h|tp is=>
  cases d with
  |tup ds=>
   have I:(if ds.length=is.length then Ec (ir is ds ρ)else E3 Err.stuck)=E3 e:=h;by_cases J:ds.length=is.length
   .rw[n_ J]at I;cases I
   .rw[l_ J]at I;cases I;rfl
  |_=>cases h;rfl
structure o9(K:Fg)(F1:Hp)(J:It)(ds:List A'):Prop where
 go:∀(i:Nat) (F H:Hp),aK F1 F->aK F H->i<ds.length->J.go i H
 yl:∀(i:Nat) (F H:Hp) (x:V) (H':Hp) (d:A'),aK F1 F->aK F H->ds[i]?=a_ d->J.yld i H x H'->∃F',B4 F H F' H'/\aR K F' d x
 st:∀(F H:Hp),aK F1 F->aK F H->J.stop ds.length H
def iD(K:Fg)(W:cp)(f:ae->M (List A')):TI:=λσ H R=>∃F ρ,jw K F σ ρ/\aK F H/\(match f ρ with
 |.ok ds=>∀J F1 H1,B4 F H F1 H1->o9 K F1 J ds->R J H1|.error e=>W.p e F H)
def k8:A'->M (List A')
 |.lst ds=>.ok ds|.tup ds=>.ok ds|_=>.error .stuck
def fIt(fa:ae->M A'):ae->M (List A'):=λρ=>(fa ρ).bind k8
def iSeq(K:Fg)(tl:TE):TI:=λσ H R=>tl σ H λx H1=>∃a,x=.ref a/\((∃xs,SqL K H1 a xs)/\R (Itl K a) H1\/(∃xs,SqT K H1 a xs)/\R (Itt K a) H1)
def tR{xs:aB}{ds:List A'}(t:SqL K F a xs)(z:ay K F ds xs):o9 K F (Itl K a) ds where
 go:=λi F' H' J I hi=>⟨xs,xs[i]'(by rw[z.length];exact hi),I.lst (J.lst t),by simp[z.length,hi]⟩
 yl:=λi F' H' x H2 d J I hd S=>by obtain⟨e,S⟩:=S;subst e;obtain⟨v,e1,q⟩:=z.get hd;have e2:=S xs (I.lst (J.lst t));rw[e1]at e2;cases e2;exact⟨F',B4.refl I,q.mono J⟩
 st:=λF' H' J I=>⟨xs,I.lst (J.lst t),by rw[z.length];exact m_ _⟩
def iter_tup{xs:aB}{ds:List A'}(t:SqT K F a xs)(z:ay K F ds xs):o9 K F (Itt K a) ds where
 go:=λi F' H' J I hi=>⟨xs,xs[i]'(by rw[z.length];exact hi),I.tup (J.tup t),by simp[z.length,hi]⟩
 yl:=λi F' H' x H2 d J I hd S=>by obtain⟨e,S⟩:=S;subst e;obtain⟨v,e1,q⟩:=z.get hd;have e2:=S xs (I.tup (J.tup t));rw[e1]at e2;cases e2;exact⟨F',B4.refl I,q.mono J⟩
 st:=λF' H' J I=>⟨xs,I.tup (J.tup t),by rw[z.length];exact m_ _⟩
noncomputable def aQ(lo:Int)(n:Nat):List A':=(CU n).map λk:Nat=>A'.int (lo+k)
def pN{lo:Int}:o9 K F (Itr lo n) (aQ lo n) where
 go:=λi F' H' S I hi=>by show i<n;simpa[aQ] using hi
 yl:=λi F' H' x H2 d S I hd J=>by
  obtain⟨e,J⟩:=J;subst e J;unfold aQ at hd;rw[Dz]at hd;have hi:i<n:=by have:=(y_.mp (show((CU n).map λk:Nat=>A'.int (lo+k))[i]?=a_ d by rw[Dz];exact hd)).1;simpa using this
  rw[Jd hi]at hd;cases hd;exact⟨F',B4.refl I,rfl⟩
 st:=λF' H' S I=>by show n<=_;simp[aQ]
noncomputable def b8(i:Int):Bool:=CL (-(2^62)<=i)&&CL (i<2^62)
def pq:List A'->M (List A')
 |[.int j]=>if b8 j=e_ then .ok (aQ 0 j.toNat)else .error .stuck
 |_=>.error .stuck
def v7:List A'->M (List A')
 |[.int i,.int j]=>if (b8 i&&b8 j)=e_ then .ok (aQ i (j-i).toNat)else .error .stuck
 |_=>.error .stuck
noncomputable def jt(g:List A'->M (List A'))(fr:ae->M (List A')):ae->M (List A'):=λρ=>(fr ρ).bind g
section
variable{W:cp}
def ri_seq{R:It->Hp->Prop}(h:iD K W (fIt fa) σ H R):iSeq K (tD K W c_ fa) σ H R:=by
 obtain⟨F,ρ,r,s,p⟩:=h;refine aL r s (λe J=>?_) λa S x F1 H1 I q1=>?_
 .have z:fIt fa ρ=.error e:=by unfold fIt;rw[J];rfl
  rw[z]at p;exact p
 .have z:fIt fa ρ=k8 a:=by unfold fIt;rw[S];rfl
  rw[z]at p;cases a with
  |lst ds=>obtain⟨b,xs,e,t,z⟩:=q1;exact⟨b,e,.inl ⟨⟨xs,I.fh.lst t⟩,p _ F1 H1 I (tR t z)⟩⟩
  |tup ds=>obtain⟨b,xs,e,t,z⟩:=q1;exact⟨b,e,.inr ⟨⟨xs,I.fh.tup t⟩,p _ F1 H1 I (iter_tup t z)⟩⟩
  |_=>exact(W.ns p).elim
def ri_rng1{fr:ae->M (List A')}{R:It->Hp->Prop}(h:iD K W (jt pq fr) σ H R):iRng1 (tDA K W fr) σ H R:=by
 obtain⟨F,ρ,r,s,p⟩:=h;refine jB r s (λe Y=>?_) λds hd xs F1 H1 U q1=>?_
 .have z:jt pq fr ρ=.error e:=by unfold jt;rw[Y];rfl
  rw[z]at p;exact p
 .have z:jt pq fr ρ=pq ds:=by unfold jt;rw[hd];rfl
  rw[z]at p;cases ds with
  |nil=>exact(W.ns p).elim|cons d ds=>
   cases d with
   |int j=>
    cases ds with
    |cons _ _=>exact(W.ns p).elim|nil=>
     obtain⟨v,vs,e,q,t⟩:=q1;have S:match (if b8 j=e_ then Ec (aQ 0 j.toNat)else E3 Err.stuck:M (List A'))with
      |.ok ds=>∀J F1 H1,B4 F H F1 H1->o9 K F1 J ds->R J H1|.error e=>W.p e F H:=p
     by_cases I:b8 j=e_
     .rw[n_ I]at S;unfold b8 at I;simp only[A_,Dj]at I;exact⟨j,by rw[e,show v=.int j from q,show vs=[]from t],I.1,I.2,S _ F1 H1 U pN⟩
     .rw[l_ I]at S;exact(W.ns S).elim
   |_=>exact(W.ns p).elim
def ri_rng2{fr:ae->M (List A')}{R:It->Hp->Prop}(h:iD K W (jt v7 fr) σ H R):iRng2 (tDA K W fr) σ H R:=by
 obtain⟨F,ρ,r,s,p⟩:=h;refine jB r s (λe c=>?_) λds hd xs F1 H1 b q1=>?_
 .have z:jt v7 fr ρ=.error e:=by unfold jt;rw[c];rfl
  rw[z]at p;exact p
 .have z:jt v7 fr ρ=v7 ds:=by unfold jt;rw[hd];rfl
  rw[z]at p;by_cases S:∃i j,ds=[.int i,.int j]
  .obtain⟨i,j,rfl⟩:=S;obtain⟨v,vs,e,q,a,Y,e2,q2,t⟩:=q1;have U:match (if (b8 i&&b8 j)=e_ then Ec (aQ i (j-i).toNat)else E3 Err.stuck:M (List A'))with
    |.ok ds=>∀J F1 H1,B4 F H F1 H1->o9 K F1 J ds->R J H1|.error e=>W.p e F H:=p
   by_cases I:(b8 i&&b8 j)=e_
   .rw[n_ I]at U;unfold b8 at I;simp only[A_,Dj]at I;exact⟨i,j,by rw[e,show v=.int i from q,e2,show a=.int j from q2,show Y=[]from t],⟨I.1.1,I.1.2,I.2.1,I.2.2⟩,U _ F1 H1 b pN⟩
   .rw[l_ I]at U;exact(W.ns U).elim
  .have:v7 ds=.error .stuck:=by
    unfold v7;split
    .exact CQ ⟨_,_,rfl⟩ S
    .rfl
   rw[this]at p;exact(W.ns p).elim
def dI(ix:List (Option Nat))(ρ:ae):ae:=ix.map λo=>match o with
 |none=>f_|some j=>(ρ[j]?).join
def aO(p:Pat)(ft:ae->M Bool)(fe:ae->M A')(ρ0:ae):List A'->M (List A')
 |[]=>.ok []|d::ds=>(gE p d ρ0).bind λρ=>(ft ρ).bind λb=>if b=e_ then(fe ρ).bind λy=>(aO p ft fe ρ0 ds).bind λr=>.ok (y::r)else aO p ft fe ρ0 ds
def dG(fi:ae->M (List A'))(ix:List (Option Nat))(p:Pat)(ft:ae->M Bool)(fe:ae->M A'):ae->M A':=λρ=>(fi ρ).bind λds=>if ds.length<=o_ then(aO p ft fe (dI ix ρ) ds).bind λr=>.ok (.lst r)else .error .stuck
noncomputable def jr:ae->M Bool:=λ_=>.ok e_
theorem jw.inS{F:Hp}{ρ:ae}(r:jw K F σ ρ)(ix:List (Option Nat)):jw K F (Lake.inS ix σ) (dI ix ρ):=
 ⟨by simp[Lake.inS,dI],λi d e=>by
  unfold dI at e;unfold Lake.inS;rw[Dz]at e ⊢;cases h:ix[i]? with
  |none=>rw[h]at e;cases e|some o=>
   rw[h]at e;cases o with
   |none=>cases e|some j=>
    simp only[G2,FN]at e ⊢;have e1:ρ[j]?=a_ (a_ d):=by
     cases z:ρ[j]? with
     |none=>rw[z]at e;cases e|some w=>rw[z]at e;simp at e;rw[e]
    obtain⟨v,h1,h2⟩:=r.sl j d e1;exact⟨v,by rw[h1];rfl,h2⟩⟩
theorem rd_comp{p:Pat}(h:tD K W e_ (dG fi ix p ft fe) σ H Q):
  tComp (iD K W fi) ix (gP K p) (tDT K W ft) (tD K W c_ fe) σ H Q:=by
 obtain⟨F,ρ,r,s,q⟩:=h;refine⟨F,ρ,r,s,?_⟩
 cases R:fi ρ with
 |error e=>exact q.err (by unfold dG;rw[R];rfl)|ok ds=>
  intro J F1 H1 A D;have e0:dG fi ix p ft fe ρ=if ds.length<=o_ then(aO p ft fe (dI ix ρ) ds).bind λr=>.ok (.lst r)else .error .stuck:=by unfold dG;rw[R];rfl
  rw[e0]at q;by_cases P:ds.length<=o_
  .rw[n_ P]at q;refine⟨λi m ys H2=>m=ds.length-i/\i<=ds.length/\∃F2 I,B4 F1 H1 F2 H2/\ay K F2 I ys/\I.length<=i /\
    (match aO p ft fe (dI ix ρ) (ds.drop i)with
     |.ok S=>aO p ft fe (dI ix ρ) ds=.ok (I++S)|.error e=>W.p e F H),⟨ds.length,ac,DU _,F1,[],B4.refl A.fh,rfl,DU _,?_⟩,?_⟩
   .rw[Ek];cases e:aO p ft fe (dI ix ρ) ds with
    |ok S=>rfl|error x=>exact q.err (by rw[e];rfl)
   .rintro i m ys H2 ⟨rfl,hi,F2,I,Y,C,ly,l⟩;have w:ys.length<=o_:=by rw[C.length];lia
    by_cases f:i<ds.length
    .have ed:ds.drop i=ds[i]::ds.drop (i+1):=D3 f;rw[ed]at l;refine .inr ⟨D.go i F2 H2 Y.ff Y.fh f,w,λt H'=>(i+1<=ds.length/\∃F2 I,B4 F1 H1 F2 H'/\ay K F2 I t/\I.length<=i+1 /\
      (match aO p ft fe (dI ix ρ) (ds.drop (i+1))with
       |.ok S=>aO p ft fe (dI ix ρ) ds=.ok (I++S)|.error e=>W.p e F H)),λt H' n=>⟨ds.length-(i+1),ac,rfl,n⟩,λx H' y=>?_⟩
     obtain⟨X,k,q3⟩:=D.yl i F2 H2 x H' ds[i] Y.ff Y.fh (by simp[f]) y;have r3:jw K X (Lake.inS ix σ) (dI ix ρ):=(r.mono (A.trans (Y.trans k)).ff).inS ix;have u:B4 F H X H':=A.trans (Y.trans k);have ec:aO p ft fe (dI ix ρ) (ds[i]::ds.drop (i+1))=(gE p ds[i] (dI ix ρ)).bind λU=>(ft U).bind λb=>if b=e_ then(fe U).bind λy=>(aO p ft fe (dI ix ρ) (ds.drop (i+1))).bind λr=>.ok (y::r)else aO p ft fe (dI ix ρ) (ds.drop (i+1)):=by rw[aO]
     rw[ec]at l;cases B:gE p ds[i] (dI ix ρ)with
     |error e=>rw[B]at l;have:=o7 B;subst this;exact(W.ns l).elim|ok U=>
      rw[B]at l;refine gP_run r3 k.fh q3 B λZ O=>?_;have g:match ((ft U).bind λb=>if b=e_ then(fe U).bind λy=>(aO p ft fe (dI ix ρ) (ds.drop (i+1))).bind λr=>.ok (y::r)else aO p ft fe (dI ix ρ) (ds.drop (i+1)))with
       |.ok S=>aO p ft fe (dI ix ρ) ds=.ok (I++S)|.error e=>W.p e F H:=l
      refine jA O k.fh (λe E=>by rw[E]at g;exact W.mono g u) λb G F5 H5 o=>?_;rw[G]at g;cases b with
      |false=>
       have c:match aO p ft fe (dI ix ρ) (ds.drop (i+1))with
        |.ok S=>aO p ft fe (dI ix ρ) ds=.ok (I++S)|.error e=>W.p e F H:=g
       exact⟨f,F5,I,Y.trans (k.trans o),C.mono (k.trans o).ff,ac,c⟩
      |true=>
       have c:match ((fe U).bind λy=>(aO p ft fe (dI ix ρ) (ds.drop (i+1))).bind λr=>.ok (y::r))with
        |.ok S=>aO p ft fe (dI ix ρ) ds=.ok (I++S)|.error e=>W.p e F H:=g
       refine aL (O.mono o.ff) o.fh (λe E=>by rw[E]at c;exact W.mono c (u.trans o)) λd hd v F6 H6 N q6=>?_;rw[hd]at c;refine⟨f,F6,I++[d],Y.trans (k.trans (o.trans N)),ay.append (C.mono (k.trans (o.trans N)).ff) ⟨v,[],rfl,q6,rfl⟩,by simp;lia,?_⟩
       have j:match ((aO p ft fe (dI ix ρ) (ds.drop (i+1))).bind λr=>.ok (d::r):M (List A'))with
        |.ok S=>aO p ft fe (dI ix ρ) ds=.ok (I++S)|.error e=>W.p e F H:=c
       cases T:aO p ft fe (dI ix ρ) (ds.drop (i+1))with
       |ok S=>rw[T]at j;show _=Ec ((I++[d])++S);rw[Dp];exact j|error x=>rw[T]at j;exact j
    .have:i=ds.length:=ac
     subst this;rw[Ia]at l;have z:aO p ft fe (dI ix ρ) ds=.ok (I++[]):=l;rw[DB]at z;rw[z]at q;refine .inl ⟨D.st F2 H2 Y.ff Y.fh,w,λa L=>?_⟩;have st:B4 F H F2 H2:=A.trans Y;exact q (.ref a) F2 _ (st.trans (B4.grow Y.fh L)) ⟨a,ys,rfl,aq,Y.fh.free L,st.hh.free L,C⟩
  .rw[l_ P]at q;exact(W.ns q).elim
end
inductive C1 where
 |nx (ρ:ae)|rt (d:A')|bk (ρ:ae)|ct (ρ:ae)
variable{g g2:ae->M C1}
structure Rep(K:Fg)(F0 H0 FB:Hp)(O:aC)(F H:Hp)(σ:St)(ρ:ae):Prop where
 st:B4 F0 H0 F H
 fb:aK FB F
 len:ρ.length=σ.length
 fz:∀(i:Nat) (d:A'),ρ[i]?=a_ (a_ d)->i∉O->∃v,σ[i]?=a_ (a_ v)/\aR K F d v
 ow:∀(i:Nat) (d:A'),ρ[i]?=a_ (a_ d)->i∈O->∃v,σ[i]?=a_ (a_ v)/\kz K F H0 H d v
 ap:∀(i j:Nat) (d e:A') (a:i_),i∈O->j∈O->(ρ[i]?=a_ (a_ d)/\isO d=e_)->(ρ[j]?=a_ (a_ e)/\isO e=e_)->σ[i]?=a_ (a_ (.ref a))->σ[j]?=a_ (a_ (.ref a))->i=j
def jM(O O2:aC)(σ:St)(ρ:ae)(b:i_):Prop:=∃(i:Nat) (d:A'),i∈O/\i∉O2/\isO d=e_/\ρ[i]?=a_ (a_ d)/\σ[i]?=a_ (a_ (.ref b))
open Classical in
noncomputable def plus(F H:Hp)(A:Addr->Prop):Hp:=λb=>if A b then H b else F b
open Classical in
noncomputable def minus(F:Hp)(A:Addr->Prop):Hp:=λb=>if A b then none else F b
def iw{A:i_->Prop}(h:A b):plus F H A b=H b:=by unfold plus;rw[n_ h]
def cR{A:i_->Prop}(h:¬A b):plus F H A b=F b:=by unfold plus;rw[l_ h]
def mm{A:i_->Prop}(h:A b):minus F A b=f_:=by unfold minus;rw[n_ h]
def dg{A:i_->Prop}(h:¬A b):minus F A b=F b:=by unfold minus;rw[l_ h]
def Rep.own(r:Rep K F0 H0 FB O F H σ ρ)(h:jM O O2 σ ρ b):F b=f_/\H0 b=f_/\∃o,H b=a_ o/\isMu o=e_:=by obtain⟨i,d,hi,_,hd,e1,e2⟩:=h;obtain⟨v,e3,q⟩:=r.ow i _ e1 hi;rw[e2]at e3;cases e3;obtain⟨a,o,e,p,m,f,z⟩:=q.top hd;cases e;exact⟨f,z,o,p,m⟩
def Rep.jE(r:Rep K F0 H0 FB O F H σ ρ):aK F (plus F H (jM O O2 σ ρ)):=λb o h=>by
 by_cases I:jM O O2 σ ρ b
 .rw[(r.own I).1]at h;cases h
 .rw[cR I];exact h
def Rep.fq(r:Rep K F0 H0 FB O F H σ ρ):aK (plus F H (jM O O2 σ ρ)) H:=λb o h=>by
 by_cases I:jM O O2 σ ρ b
 .rw[iw I]at h;exact h
 .rw[cR I]at h;exact r.st.fh b o h
def Rep.freeze(r:Rep K F0 H0 FB O F H σ ρ)(I:∀i∈O2,i∈O):Rep K F0 H0 FB O2 (plus F H (jM O O2 σ ρ)) H σ ρ where
 st:=⟨r.st.ff.trans r.jE,r.st.hh,r.fq,λb o h=>by
  by_cases c:jM O O2 σ ρ b
  .exact .inr (r.own c).2.1
  .rw[cR c]at h;exact r.st.nw b o h⟩
 fb:=r.fb.trans r.jE
 len:=r.len
 fz:=λi d e hi=>by
  by_cases J:i∈O
  .obtain⟨v,e3,q⟩:=r.ow i d e J;refine⟨v,e3,?_⟩
   cases hd:isO d with
   |true=>obtain⟨a,_,ev,_⟩:=q.top hd;subst ev;exact q.give hd r.jE (iw ⟨i,d,J,hi,hd,e,e3⟩)
   |false=>rw[kz.non hd]at q;exact q.mono r.jE
  .obtain⟨v,e3,q⟩:=r.fz i d e J;exact⟨v,e3,q.mono r.jE⟩
 ow:=λi d e hi=>by
  obtain⟨v,e3,q⟩:=r.ow i d e (I i hi);refine⟨v,e3,?_⟩
  cases hd:isO d with
  |true=>
   obtain⟨a,o,ev,p,_,f,z⟩:=q.top hd;subst ev;refine q.re hd r.jE ?_ λ_ h=>h;have:¬jM O O2 σ ρ a:=λ⟨j,d',U,S,Y,k,g⟩=>by have:=r.ap i j d d' a (I i hi) U ⟨e,hd⟩ ⟨k,Y⟩ e3 g;subst this;exact S hi
   rw[cR this];exact f
  |false=>rw[kz.non hd]at q ⊢;exact q.mono r.jE
 ap:=λi j d e a hi U=>r.ap i j d e a (I i hi) (I j U)
def Rep.repE(r:Rep K F0 H0 FB [] F H σ ρ):jw K F σ ρ:=⟨r.len,λi d e=>r.fz i d e ad⟩
def Rep.jg(r:Rep K F0 H0 FB O F H σ ρ):jw K (plus F H (jM O [] σ ρ)) σ ρ:=(r.freeze (O2:=[]) ad).repE
noncomputable def erase:aC->ae->ae
 |[],ρ=>ρ|i::is,ρ=>erase is (ρ.set i f_)
theorem kj:∀(O:aC) (ρ:ae),(erase O ρ).length=ρ.length
 |[],_=>rfl|i::is,ρ=>by rw[erase,kj,Dn]
theorem ua:∀(O:aC) (ρ:ae) (i:Nat) (d:A'),(erase O ρ)[i]?=a_ (a_ d)->ρ[i]?=a_ (a_ d)/\i∉O
 |[],_,_,_,h=>⟨h,ad⟩|j::is,ρ,i,d,h=>by
  obtain⟨h1,h2⟩:=ua is (ρ.set j f_) i d h;by_cases e:j=i
  .subst e;have I:j<ρ.length:=by
    have:=(y_.mp h1).1;simpa using this
   rw[CK I]at h1;cases h1
  .rw[v_ e]at h1;exact⟨h1,by simp[h2];lia⟩
def Rep.iT(r:Rep K F0 H0 FB O F H σ ρ):jw K F σ (erase O ρ):=
 ⟨by rw[kj,r.len],λi d e=>let ⟨h1,h2⟩:=ua O ρ i d e;r.fz i d h1 h2⟩
def Rep.step(r:Rep K F0 H0 FB O F H σ ρ)(s:B4 F H F1 H1):Rep K F0 H0 FB O F1 H1 σ ρ where
 st:=r.st.trans s
 fb:=r.fb.trans s.ff
 len:=r.len
 fz:=λi d e hi=>let ⟨v,e3,q⟩:=r.fz i d e hi;⟨v,e3,q.mono s.ff⟩
 ow:=λi d e hi=>by
  obtain⟨v,e3,q⟩:=r.ow i d e hi;refine⟨v,e3,?_⟩
  cases hd:isO d with
  |true=>
   obtain⟨a,u,ev,p,_,f,z⟩:=q.top hd;subst ev;refine q.re hd s.ff ?_ (s.hh a);cases e1:F1 a with
   |none=>rfl|some o=>
    rcases s.nw a o e1 with h|h
    .rw[f]at h;cases h
    .rw[p]at h;cases h
  |false=>rw[kz.non hd]at q ⊢;exact q.mono s.ff
 ap:=r.ap
def Rep.gu(r:Rep K F0 H0 FB O F H σ ρ)(s:B4 (plus F H (jM O [] σ ρ)) H F1 H1):Rep K F0 H0 FB O (minus F1 (jM O [] σ ρ)) H1 σ ρ:=by
 refine r.step ⟨λb o h=>?_,s.hh,λb o h=>?_,λb o h=>?_⟩
 .by_cases I:jM O [] σ ρ b
  .rw[(r.own I).1]at h;cases h
  .rw[dg I];exact s.ff b o (by rw[cR I];exact h)
 .by_cases I:jM O [] σ ρ b
  .rw[mm I]at h;cases h
  .rw[dg I]at h;exact s.fh b o h
 .by_cases I:jM O [] σ ρ b
  .rw[mm I]at h;cases h
  .rw[dg I]at h;rcases s.nw b o h with z|z
   .rw[cR I]at z;exact .inl z
   .exact .inr z
def Rep.pI(r:Rep K F0 H0 FB O F H σ ρ)(s:B4 (plus F H (jM O [] σ ρ)) H F1 H1)(a:i_)(xs:aB)(h:SqT K F1 a xs):SqT K (minus F1 (jM O [] σ ρ)) a xs:=by
 have key:∀{b:i_} {o:HO},F1 b=a_ o->isMu o=c_->minus F1 (jM O [] σ ρ) b=a_ o:=λ{b o} h n=>by
  by_cases I:jM O [] σ ρ b
  .obtain⟨_,_,u,e,m⟩:=r.own I;have:=s.ff b u (by rw[iw I];exact e);rw[h]at this;cases this;rw[n]at m;cases m
  .rw[dg I];exact h
 rcases h with(h|⟨o,h⟩)|h
 .exact .inl (.inl (key h rfl))
 .exact .inl (.inr ⟨o,key h rfl⟩)
 .exact .inr h
theorem Rep.set{d:A'}{v:V}(r:Rep K F0 H0 FB O F H σ ρ)(q:aR K F d v)(i:Nat):Rep K F0 H0 FB (O.filter (· != i)) F H (σ.set i (a_ v)) (ρ.set i (a_ d)) where
 st:=r.st
 fb:=r.fb
 len:=by rw[Dn,Dn,r.len]
 fz:=λj e h J=>by
  by_cases I:i=j
  .subst I;have hi:i<ρ.length:=by
    have:=(y_.mp h).1;simpa using this
   rw[CK hi]at h;cases h;exact⟨v,by rw[CK (by rw[<- r.len];exact hi)],q⟩
  .rw[v_ I]at h;rw[v_ I];exact r.fz j e h λz=>J (EE.mpr ⟨z,by simpa using D6 I⟩)
 ow:=λj e h J=>by
  obtain⟨h1,h2⟩:=EE.mp J;have I:i≠j:=λz=>by simp[z]at h2
  rw[v_ I]at h ⊢;exact r.ow j e h h1
 ap:=λj k ds es a J Y e1 e2 e3 e4=>by
  obtain⟨j1,U⟩:=EE.mp J;obtain⟨k1,k2⟩:=EE.mp Y;have I:i≠j:=λz=>by simp[z]at U
  have S:i≠k:=λz=>by simp[z]at k2
  rw[v_ I]at e1 e3;rw[v_ S]at e2 e4;exact r.ap j k ds es a j1 k1 e1 e2 e3 e4
def Rep.setOwn(r:Rep K F0 H0 FB O F H σ ρ)(q:kz K F H0 H d v)(s:∀a,v=.ref a->isO d=e_->¬jM O [i] σ ρ a):Rep K F0 H0 FB (i::O.filter (· != i)) F H (σ.set i (a_ v)) (ρ.set i (a_ d)) where
 st:=r.st
 fb:=r.fb
 len:=by rw[Dn,Dn,r.len]
 fz:=λj e h Y=>by simp only[r_,not_or]at Y;have I:i≠j:=λz=>Y.1 z.symm;rw[v_ I]at h ⊢;exact r.fz j e h λz=>Y.2 (EE.mpr ⟨z,by simpa using D6 I⟩)
 ow:=λj e h Y=>by
  by_cases I:i=j
  .subst I;have hi:i<ρ.length:=by
    have:=(y_.mp h).1;simpa using this
   rw[CK hi]at h;cases h;exact⟨v,by rw[CK (by rw[<- r.len];exact hi)],q⟩
  .rw[v_ I]at h ⊢;rcases r_.mp Y with z|z
   .exact CQ z.symm I
   .exact r.ow j e h (EE.mp z).1
 ap:=λj k ds es a Y n e1 e2 e3 e4=>by
  have key:∀{k':Nat} {S J:A'},k'∈O->k'≠i->((ρ.set i (a_ d))[i]?=a_ (a_ S)/\isO S=e_)->((ρ.set i (a_ d))[k']?=a_ (a_ J)/\isO J=e_)->(σ.set i (a_ v))[i]?=a_ (a_ (.ref a))->(σ.set i (a_ v))[k']?=a_ (a_ (.ref a))->False:=by
   intro k' S J g b f m f3 f4;have hi:i<ρ.length:=by have:=(y_.mp f.1).1;simpa using this
   rw[CK hi]at f;rw[CK (by rw[<- r.len];exact hi)]at f3;rw[v_ (D6 b)]at m f4;have p:v=.ref a:=by simpa using f3
   have o:d=S:=by simpa using f.1
   exact s a p (o▸f.2) ⟨k',J,g,by simpa using b,m.2,m.1,f4⟩
  rcases r_.mp Y with c|c
  .rcases r_.mp n with U|U
   .rw[c,U]
   .obtain⟨k1,k2⟩:=EE.mp U;subst c;exact(key k1 (by simpa using k2) e1 e2 e3 e4).elim
  .obtain⟨j1,t⟩:=EE.mp c;have I:i≠j:=λz=>by simp[z]at t
   rcases r_.mp n with U|U
   .subst U;exact(key j1 (D6 I) e2 e1 e4 e3).elim
   .obtain⟨k1,k2⟩:=EE.mp U;have l:i≠k:=λz=>by simp[z]at k2
    rw[v_ I]at e1 e3;rw[v_ l]at e2 e4;exact r.ap j k ds es a j1 k1 e1 e2 e3 e4
def Rep.dM(r:Rep K F0 H0 FB O F H σ ρ)(s:B4 (plus F H (jM O [] σ ρ)) H F1 H1):aK F (minus F1 (jM O [] σ ρ)):=λb o h=>by
 by_cases I:jM O [] σ ρ b
 .rw[(r.own I).1]at h;cases h
 .rw[dg I];exact s.ff b o (by rw[cR I];exact h)
def zF(h:i∉O):O.filter (· != i)=O:=by rw[List.filter_eq_self];intro a I;simp;intro e;exact h (e▸I)
def Rep.set'(r:Rep K F0 H0 FB O F H σ ρ)(q:aR K F d v)(hi:i∉O):Rep K F0 H0 FB O F H (σ.set i (a_ v)) (ρ.set i (a_ d)):=by have:=r.set q i;rw[zF hi]at this;exact this
def Rep.base{I:Hp}(r:Rep K F0 H0 FB O F H σ ρ)(s:aK I FB):Rep K F0 H0 I O F H σ ρ:=⟨r.st,s.trans r.fb,r.len,r.fz,r.ow,r.ap⟩
def Rep.wc{d':A'}{u:HO}(r:Rep K F0 H0 FB O F H σ ρ)(hi:i∈O)(e1:ρ[i]?=a_ (a_ d))(hd:isO d=e_)(e2:σ[i]?=a_ (a_ (.ref a)))(q:F a=f_->H0 a=f_->kz K F H0 (upd H a u) d' (.ref a)):Rep K F0 H0 FB O F (upd H a u) σ (ρ.set i (a_ d')):=by
 have U:F a=f_/\H0 a=f_/\∃o,H a=a_ o/\isMu o=e_:=r.own (O2:=[]) ⟨i,d,hi,ad,hd,e1,e2⟩;have c:i<ρ.length:=(y_.mp e1).1;refine⟨⟨r.st.ff,λb o h=>?_,λb o h=>?_,r.st.nw⟩,r.fb,by rw[Dn,r.len],λj e h J=>?_,λj e h J=>?_,λj k es fs b J s x w f3 f4=>?_⟩
 .rw[aw (aA h U.2.1)];exact r.st.hh b o h
 .rw[aw (aA h U.1)];exact r.st.fh b o h
 .have I:i≠j:=λz=>J (z▸hi);rw[v_ I]at h;exact r.fz j e h J
 .by_cases I:i=j
  .subst I;rw[CK c]at h;cases h;exact⟨.ref a,e2,q U.1 U.2.1⟩
  .rw[v_ I]at h;obtain⟨v,e3,z⟩:=r.ow j e h J;refine⟨v,e3,?_⟩
   cases Y:isO e with
   |true=>
    obtain⟨b,o,ev,p,_,f,_⟩:=z.top Y;subst ev;have g:b≠a:=λz=>by subst z;exact I (r.ap i j d e b hi J ⟨e1,hd⟩ ⟨h,Y⟩ e2 e3)
    exact z.re Y (aK.refl _) f λo h=>by rw[aw g];exact h
   |false=>rw[kz.non Y]at z ⊢;exact z
 .have S:∀{j:Nat} {e:A'},((ρ.set i (a_ d'))[j]?=a_ (a_ e)/\isO e=e_)->∃n,ρ[j]?=a_ (a_ n)/\isO n=e_:=λ{j e} f=>by
   by_cases I:i=j
   .subst I;exact⟨d,e1,hd⟩
   .rw[v_ I]at f;exact⟨e,f⟩
  obtain⟨m,t⟩:=S x;obtain⟨l,g2⟩:=S w;exact r.ap j k m l b J s t g2 f3 f4
def Rep.write{ds J:List A'}{I:aB}(r:Rep K F0 H0 FB O F H σ ρ)(hi:i∈O)(e1:ρ[i]?=a_ (a_ (.lst ds)))(e2:σ[i]?=a_ (a_ (.ref a)))(q:ay K F J I):Rep K F0 H0 FB O F (upd H a (.lst I)) σ (ρ.set i (a_ (.lst J))):=
 r.wc hi e1 rfl e2 λf z=>⟨a,I,rfl,aq,f,z,q⟩
noncomputable def Pat.names:Pat->aC
 |.nm i=>[i]|.tp is=>is
theorem pU{R:St->Hp->Prop}:∀{is:aC} {ds:List A'} {vs:aB} {σ:St} {ρ:ae},Rep K F0 H0 FB O F H σ ρ->(∀i∈is,i∉O)->ay K F ds vs->ds.length=is.length->(∀σ',Rep K F0 H0 FB O F H σ' (ir is ds ρ)->R σ' H)->gh is vs σ H R
 |[],[],_,σ,ρ,r,_,q,_,h=>⟨q,h σ r⟩|[],_::_,_,_,_,_,_,_,e,_=>by simp at e|_::_,[],_,_,_,_,_,_,e,_=>by simp at e|i::is,d::ds,_,σ,ρ,r,n,⟨v,vs,e,q,t⟩,l,h=>⟨v,vs,e,pU (r.set' q (n i ad)) (λj I=>n j (by simp[I])) t (by simpa using l) h⟩
def gP_rep{R:St->Hp->Prop}{p:Pat}(r:Rep K F0 H0 FB O F H σ ρ)(n:∀i∈p.names,i∉O)(q:aR K F d v)(e:gE p d ρ=.ok ρ')(h:∀σ',Rep K F0 H0 FB O F H σ' ρ'->R σ' H):gP K p v σ H R:=by
 cases p with
 |nm i=>have:=EU e;subst this;exact h _ (r.set' q (n i (by simp[Pat.names])))|tp is=>
  cases d with
  |tup ds=>
   have J:(if ds.length=is.length then Ec (ir is ds ρ)else E3 Err.stuck)=Ec ρ':=e;by_cases I:ds.length=is.length
   .rw[n_ I]at J;have:=EU J;subst this;obtain⟨a,xs,ev,t,z⟩:=q;exact⟨a,xs,ev,r.st.fh.tup t,by rw[z.length,I],pU r n z I h⟩
   .rw[l_ I]at J;cases J
  |_=>cases e
def cQ(K:Fg)(W:cp)(ro:Bool)(F0 H0 FB:Hp)(OL O':aC)(D:Ends)(r:M C1):Prop:=match r with
 |.ok (.nx ρ)=>∀σ F H,Rep K F0 H0 FB O' F H σ ρ->D.nx σ H|.ok (.rt d)=>∀v F H,B4 F0 H0 F H->Val K ro F H0 H d v->D.rt v H|.ok (.bk ρ)=>∀σ F H,Rep K F0 H0 FB OL F H σ ρ->D.bk σ H|.ok (.ct ρ)=>∀σ F H,Rep K F0 H0 FB OL F H σ ρ->D.ct σ H|.error e=>W.p e F0 H0
def tS(K:Fg)(W:cp)(ro:Bool)(F0 H0:Hp)(OL O O':aC)(g:ae->M C1):TS:=λD σ H=>∃FB F ρ,Rep K F0 H0 FB O F H σ ρ/\cQ K W ro F0 H0 FB OL O' D (g ρ)
def d9:ae->M C1:=λρ=>.ok (.nx ρ)
def bO(g h:ae->M C1):ae->M C1:=λρ=>(g ρ).bind λfl=>match fl with
 |.nx ρ'=>h ρ'|fl=>.ok fl
noncomputable def sIf(ft:ae->M Bool)(g h:ae->M C1):ae->M C1:=λρ=>(ft ρ).bind λb=>if b=e_ then g ρ else h ρ
def b6(O:aC)(i:Nat)(f:ae->M A'):ae->M C1:=λρ=>(f (erase O ρ)).bind λd=>.ok (.nx (ρ.set i (a_ d)))
def gU(ρ:ae)(i:Nat):M (List A'):=match ρ[i]? with
 |some (a_ (.lst ds))=>.ok ds|_=>.error .stuck
def put(ρ:ae)(i:Nat)(ds:List A'):M C1:=.ok (.nx (ρ.set i (a_ (.lst ds))))
def jR(O:aC)(i:Nat)(f:ae->M A'):ae->M C1:=λρ=>(gU ρ i).bind λds=>(f (erase O ρ)).bind λd=>if ds.length<o_ then put ρ i (ds++[d])else .error .stuck
noncomputable def asI:A'->M Int
 |.int i=>.ok i|_=>.error .stuck
def uW(i:Nat)(fi f:ae->M A'):ae->M C1:=λρ=>(f ρ).bind λd=>(gU ρ i).bind λds=>(fi ρ).bind λk=>(asI k).bind λk=>if gz d=e_ then(match ixN ds.length k with
 |some j=>put ρ i (ds.set j d)|none=>.error .stuck)else .error .stuck
def dN(f:ae->M A'):ae->M C1:=λρ=>(f ρ).bind λd=>.ok (.rt d)
def cq(p:Pat)(g:ae->M C1):List A'->ae->M C1
 |[],ρ=>.ok (.nx ρ)|d::ds,ρ=>(gE p d ρ).bind λJ=>(g J).bind λfl=>match fl with
  |.nx I=>cq p g ds I|.ct I=>cq p g ds I|.bk I=>.ok (.nx I)|.rt d=>.ok (.rt d)
def kJ(O:aC)(fi:ae->M (List A'))(p:Pat)(g:ae->M C1):ae->M C1:=λρ=>(fi (erase O ρ)).bind λds=>cq p g ds ρ
section
variable{W:cp}{own:Bool}{h:ae->M C1}{f fi:ae->M A'}
def cQ.err{x:M C1}{e:Err}(p:cQ K W ro F0 H0 FB OL O' D x)(h:x=.error e):W.p e F0 H0:=by rw[h]at p;exact p
def cQ.gL{x:M C1}{e:Err}(p:cQ K W ro F0 H0 FB OL O' D x)(s:B4 F0 H0 F H)(h:x=.error e):W.p e F H:=W.mono (p.err h) s
theorem cQ.stuck{x:M C1}{P:Prop}(p:cQ K W ro F0 H0 FB OL O' D x)(h:x=.error .stuck):P:=(W.ns (p.err h)).elim
def tS.enter(I:∀i∈O2,i∈O)(t:tS K W ro F0 H0 OL O O' g D σ H):tS K W ro F0 H0 OL O2 O' g D σ H:=by obtain⟨FB,F,ρ,r,p⟩:=t;exact⟨FB,_,ρ,r.freeze I,p⟩
def rs_next(t:tS K W ro F0 H0 OL O O d9 D σ H):tNext D σ H:=by obtain⟨FB,F,ρ,r,p⟩:=t;exact p σ F H r
def rs_seq(t:tS K W ro F0 H0 OL O O2 (bO g h) D σ H):tSeq (tS K W ro F0 H0 OL O O' g) (tS K W ro F0 H0 OL O' O2 h) D σ H:=by
 obtain⟨FB,F,ρ,r,p⟩:=t;refine⟨FB,F,ρ,r,?_⟩
 unfold bO at p;cases e:g ρ with
 |error x=>exact p.err (by rw[e];rfl)|ok fl=>
  rw[e]at p;cases fl with
  |nx ρ'=>exact λσ' F' H' r'=>⟨FB,F',ρ',r',p⟩|rt d=>exact p|bk ρ'=>exact p|ct ρ'=>exact p
def rs_if(t:tS K W ro F0 H0 OL O O' (sIf ft g h) D σ H):tIfS (tDT K W ft) (tS K W ro F0 H0 OL O O' g) (tS K W ro F0 H0 OL O O' h) D σ H:=by
 obtain⟨FB,F,ρ,r,p⟩:=t;refine jA r.jg r.fq (λe J=>p.gL (r.freeze (O2:=[]) ad).st (by unfold sIf;rw[J];rfl)) λb S F1 H1 I=>?_;have z:sIf ft g h ρ=if b=e_ then g ρ else h ρ:=by unfold sIf;rw[S];rfl
 rw[z]at p;cases b with
 |true=>exact⟨FB,_,ρ,r.gu I,p⟩|false=>exact⟨FB,_,ρ,r.gu I,p⟩
noncomputable def aft(own:Bool)(i:Nat)(O:aC):aC:=if own=e_ then i::O.filter (· != i)else O.filter (· != i)
def Rep.bindV(r:Rep K F0 H0 FB O F H σ ρ)(q:Val K own F H2 H d v)(h2:aK H0 H2)(J:∀a,jM O [] σ ρ a->∃o,H2 a=a_ o):Rep K F0 H0 FB (aft own i O) F H (σ.set i (a_ v)) (ρ.set i (a_ d)):=by
 cases own with
 |false=>exact r.set q i|true=>refine r.setOwn (kz.back h2 q) λa S hd z=>?_;subst S;obtain⟨b,_,e,_,_,_,n⟩:=kz.top hd q;cases e;obtain⟨j,es,h1,h2,c,Y,U⟩:=z;obtain⟨o,I⟩:=J a ⟨j,es,h1,ad,c,Y,U⟩;rw[n]at I;cases I
def rs_setB(t:tS K W ro F0 H0 OL O (aft own i O) (b6 O i f) D σ H):tAsg (tD K W own f) (rC i) D σ H:=by
 obtain⟨FB,F,ρ,r,p⟩:=t;refine aL r.iT r.st.fh (λe J=>p.gL r.st (by unfold b6;rw[J];rfl)) λd hd v F1 H1 I q=>?_;have z:b6 O i f ρ=.ok (.nx (ρ.set i (a_ d))):=by unfold b6;rw[hd];rfl
 rw[z]at p;exact p _ F1 H1 ((r.step I).bindV q r.st.hh λa S=>let ⟨_,_,_,e,_⟩:=r.own S;⟨_,e⟩)
def iZ{ds:List A'}(h:gU ρ i=.ok ds):ρ[i]?=a_ (a_ (.lst ds)):=by
 unfold gU at h;split at h
 .cases h;assumption
 .cases h
def nc{e:Err}(h:gU ρ i=.error e):e=.stuck:=by
 unfold gU at h;split at h
 .cases h
 .cases h;rfl
def Rep.Bh{ds:List A'}(r:Rep K F0 H0 FB O F H σ ρ)(hi:i∈O)(e:ρ[i]?=a_ (a_ (.lst ds))):∃a xs,σ[i]?=a_ (a_ (.ref a))/\H a=a_ (.lst xs)/\ay K F ds xs:=by obtain⟨v,e3,a,xs,ev,p,_,_,t⟩:=r.ow i _ e hi;subst ev;exact⟨a,xs,e3,p,t⟩
def tApp(K:Fg)(i:Nat)(te:TE):TS:=yA (tBM K "list" qL (wk i) (j9 te wo))
def rs_appB(hi:i∈O)(t:tS K W ro F0 H0 OL O O (jR O i f) D σ H):tApp K i (tD K W c_ f) D σ H:=by
 obtain⟨FB,F,ρ,r,p⟩:=t;cases I:gU ρ i with
 |error e=>have:=nc I;subst this;exact p.stuck (by unfold jR;rw[I];rfl)|ok ds=>
  obtain⟨a,xs,e2,U,z⟩:=r.Bh hi (iZ I);refine⟨.ref a,e2,qy U,?_⟩
  refine aL r.iT r.st.fh (λe Y=>p.gL r.st (by unfold jR;rw[I];show(f (erase O ρ)).bind _=_;rw[Y];rfl)) λd hd v F1 H1 J q=>?_;have b:jR O i f ρ=if ds.length<o_ then put ρ i (ds++[d])else .error .stuck:=by unfold jR;rw[I];show(f (erase O ρ)).bind _=_;rw[hd];rfl
  rw[b]at p;by_cases S:ds.length<o_
  .rw[n_ S]at p;exact⟨a,xs,v,rfl,rfl,J.hh _ _ U,by rw[z.length];exact S,p σ F1 _ ((r.step J).write hi (iZ I) e2 (ay.append (z.mono J.ff) ⟨v,[],rfl,q,rfl⟩))⟩
  .rw[l_ S]at p;exact p.stuck rfl
def rs_setI(hi:i∈O)(t:tS K W ro F0 H0 OL O O (uW i fi f) D σ H):tAsg (tD K W c_ f) (gSub (wk i) (tD K W c_ fi) rSetL) D σ H:=by
 obtain⟨FB,F,ρ,r,p⟩:=t;refine aL r.jg r.fq (λe b=>p.gL (r.freeze (O2:=[]) ad).st (by unfold uW;rw[b];rfl)) λd hd v F1 H1 c q=>?_;have m:uW i fi f ρ=(gU ρ i).bind λds=>(fi ρ).bind λk=>(asI k).bind λk=>if gz d=e_ then(match ixN ds.length k with
  |some j=>put ρ i (ds.set j d)|none=>.error .stuck)else .error .stuck:=by unfold uW;rw[hd];rfl
 rw[m]at p;cases J:gU ρ i with
 |error e=>have:=nc J;subst this;exact p.stuck (by rw[J];rfl)|ok ds=>
  rw[J]at p;have p:cQ K W ro F0 H0 FB OL O D ((fi ρ).bind λk=>(asI k).bind λk=>if gz d=e_ then(match ixN ds.length k with
   |some j=>put ρ i (ds.set j d)|none=>.error .stuck)else .error .stuck):=p
  have I:=r.gu c;obtain⟨a,xs,e2,l,z⟩:=I.Bh hi (iZ J);refine⟨.ref a,e2,?_⟩
  refine aL I.jg I.fq (λe b=>p.gL (I.freeze (O2:=[]) ad).st (by rw[b];rfl)) λk h w F2 H2 S q2=>?_;rw[h]at p;cases k with
  |int k=>
   have p:cQ K W ro F0 H0 FB OL O D (if gz d=e_ then(match ixN ds.length k with
    |some j=>put ρ i (ds.set j d)|none=>.error .stuck)else .error .stuck):=p
   by_cases Y:gz d=e_
   .rw[n_ Y]at p;cases U:ixN ds.length k with
    |none=>rw[U]at p;exact p.stuck rfl|some j=>
     rw[U]at p;refine⟨a,xs,k,j,rfl,q2,S.hh _ _ l,by rw[z.length];exact U,?_⟩
     have g:aR K (minus F1 (jM O [] σ ρ)) d v:=aR.flat (r.pI c) Y q;exact p σ _ _ ((I.gu S).write hi (iZ J) e2 (ay.set (g.mono (I.dM S)) j (z.mono (I.dM S))))
   .rw[l_ Y]at p;exact p.stuck rfl
  |_=>exact p.stuck rfl
def rs_ret(t:tS K W ro F0 H0 OL O O' (dN f) D σ H):tRet (tD K W ro f) D σ H:=by
 obtain⟨FB,F,ρ,r,p⟩:=t;have I:=r.freeze (O2:=[]) ad;refine aL r.jg r.fq (λe S=>p.gL I.st (by unfold dN;rw[S];rfl)) λd hd v F1 H1 J q=>?_;have z:dN f ρ=.ok (.rt d):=by unfold dN;rw[hd];rfl
 rw[z]at p;exact p v F1 H1 (I.st.trans J) (q.back r.st.hh)
theorem rs_for{fs:ae->M (List A')}{pt:Pat}(n:∀i∈pt.names,i∉O)(t:tS K W ro F0 H0 OL O O (kJ O fs pt g) D σ H):tFor (iD K W fs) (gP K pt) (tS K W ro F0 H0 O O O g) D σ H:=by
 obtain⟨FB,F,ρ,r,p⟩:=t;refine⟨F,erase O ρ,r.iT,r.st.fh,?_⟩
 cases e:fs (erase O ρ)with
 |error x=>exact p.gL r.st (by unfold kJ;rw[e];rfl)|ok ds=>
  have z:kJ O fs pt g ρ=cq pt g ds ρ:=by unfold kJ;rw[e];rfl
  rw[z]at p;intro J F1 H1 f h;refine⟨λi m σ H=>∃F ρ,Rep K F0 H0 F1 O F H σ ρ/\i<=ds.length/\m=ds.length-i/\cQ K W ro F0 H0 FB OL O D (cq pt g (ds.drop i) ρ),⟨ds.length,F1,ρ,?_,DU _,ac,by rw[Ek];exact p⟩,?_⟩
  .have a:=r.step f;exact⟨a.st,aK.refl _,a.len,a.fz,a.ow,a.ap⟩
  .rintro i m b H2 ⟨F2,I,r2,hi,rfl,p2⟩;by_cases U:i<ds.length
   .have v:ds.drop i=ds[i]::ds.drop (i+1):=D3 U;rw[v]at p2;refine .inr ⟨h.go i F2 H2 r2.fb r2.st.fh U,λσ' H'=>(∃F ρ,Rep K F0 H0 F1 O F H' σ' ρ/\cQ K W ro F0 H0 FB OL O D (cq pt g (ds.drop (i+1)) ρ)),λσ' H' ⟨F,ρ,r,p⟩=>⟨ds.length-(i+1),ac,F,ρ,r,U,rfl,p⟩,λx H' y=>?_⟩;obtain⟨w,o,s⟩:=h.yl i F2 H2 x H' ds[i] r2.fb r2.st.fh (by simp[U]) y;have u:cq pt g (ds[i]::ds.drop (i+1)) I=(gE pt ds[i] I).bind λc=>(g c).bind λfl=>match fl with
     |.nx I=>cq pt g (ds.drop (i+1)) I|.ct I=>cq pt g (ds.drop (i+1)) I|.bk I=>.ok (.nx I)|.rt d=>.ok (.rt d):=by rw[cq]
    rw[u]at p2;cases eb:gE pt ds[i] I with
    |error x=>have:=o7 eb;subst this;exact p2.stuck (by rw[eb];rfl)|ok Y=>
     rw[eb]at p2;have p2:cQ K W ro F0 H0 FB OL O D ((g Y).bind λfl=>match fl with
      |.nx I=>cq pt g (ds.drop (i+1)) I|.ct I=>cq pt g (ds.drop (i+1)) I|.bk I=>.ok (.nx I)|.rt d=>.ok (.rt d)):=p2
     refine gP_rep (r2.step o) n s eb λl q=>⟨F1,w,Y,q,?_⟩
     have j:aK FB F1:=(r.step f).fb;cases k:g Y with
     |error x=>exact p2.err (by rw[k];rfl)|ok fl=>
      rw[k]at p2;cases fl with
      |nx S=>exact λσ' F' H' r'=>⟨F',S,r',p2⟩|ct S=>exact λσ' F' H' r'=>⟨F',S,r',p2⟩|bk S=>exact λσ' F' H' r'=>p2 σ' F' H' (r'.base j)|rt d=>exact p2
   .have:i=ds.length:=ac
    subst this;rw[Ia]at p2;exact .inl ⟨h.st F2 H2 r2.fb r2.st.fh,p2 b F2 H2 (r2.base (r.step f).fb)⟩
end
noncomputable def stk:M α:=.error .stuck
def lq:A'->A'->M A'
 |.int i,.int j=>.ok (.int (i+j))|.str x,.str y=>if x.length+y.length<=o_ then .ok (.str (x++y))else stk
 |.lst xs,.lst ys=>if xs.length+ys.length<=o_ then .ok (.lst (xs++ys))else stk
 |.tup xs,.tup ys=>if xs.length+ys.length<=o_ then .ok (.tup (xs++ys))else stk
 |_,_=>stk
def subD:A'->A'->M A'
 |.int i,.int j=>.ok (.int (i-j))|_,_=>stk
noncomputable def cU(i:Int):Bool:=CL (-(2^64)<i)&&CL (i<2^64)
def Bc:A'->A'->M A'
 |.int i,.int j=>if (cU i||cU j)=e_ then .ok (.int (i*j))else stk
 |_,_=>stk
def lP:A'->A'->M A'
 |.int i,.int j=>if (CL (0<j)&&CL (j<18446744073709551616))=e_ then .ok (.int (i/j))else stk
 |_,_=>stk
def tK:A'->A'->M A'
 |.int i,.int j=>if 0<j then .ok (.int (i%j))else stk
 |_,_=>stk
def negD:A'->M A'
 |.int i=>.ok (.int (-i))|_=>stk
def ltD:A'->A'->M A'
 |.int i,.int j=>.ok (.bl (CL (i<j)))|_,_=>stk
def leD:A'->A'->M A'
 |.int i,.int j=>.ok (.bl (CL (i<=j)))|_,_=>stk
def gtD:A'->A'->M A'
 |.int i,.int j=>.ok (.bl (CL (j<i)))|_,_=>stk
noncomputable def b2z(b:Bool):Int:=if b then 1 else 0
mutual
noncomputable def eqD:A'->A'->Bool
 |.non,.non=>e_|.bl a,.bl b=>a==b|.bl a,.int b=>b2z a==b|.int a,.bl b=>a==b2z b|.int a,.int b=>a==b|.str a,.str b=>a==b|.tup xs,.tup ys=>xA xs ys|.lst xs,.lst ys=>xA xs ys|_,_=>c_
noncomputable def xA:List A'->List A'->Bool
 |[],[]=>e_|d::ds,e::es=>eqD d e&&xA ds es|_,_=>c_
end
mutual
noncomputable def G':A'->Nat->Bool
 |.tup ds,n=>(match n with
  |0=>c_|n+1=>mj ds n)
 |.lst ds,n=>(match n with
  |0=>c_|n+1=>mj ds n)
 |.ins _ _,_=>c_|.dic _,_=>c_|.dil _,_=>c_|.non,_=>e_|.bl _,_=>e_|.int _,_=>e_|.str _,_=>e_
noncomputable def mj:List A'->Nat->Bool
 |[],_=>e_|d::ds,n=>G' d n&&mj ds n
end
def eqM(a b:A'):M A':=if (G' a 40&&G' b 40)=e_ then .ok (.bl (eqD a b))else stk
def neM(a b:A'):M A':=if (G' a 40&&G' b 40)=e_ then .ok (.bl (!eqD a b))else stk
def yU:A'->A'->M A'
 |.non,.non=>.ok (.bl c_)|_,.non=>.ok (.bl e_)|_,_=>stk
def jL(ds:List A')(i:Int):M A':=match atI ds i with
 |some d=>.ok d|none=>stk
def ixD:A'->A'->M A'
 |.lst ds,.int i=>jL ds i|.tup ds,.int i=>jL ds i|_,_=>stk
def xf:List A'->M A'
 |[.lst ds]=>.ok (.int ds.length)|[.tup ds]=>.ok (.int ds.length)|_=>stk
def eK:List A'->M (List Bool)
 |[]=>.ok []|d::ds=>(asB d).bind λb=>(eK ds).bind λr=>.ok (b::r)
def cA:List A'->M am
 |[]=>.ok []|d::ds=>(asI d).bind λb=>(cA ds).bind λr=>.ok (b::r)
def allD:List A'->M A'
 |[.lst ds]=>(eK ds).bind λbs=>.ok (.bl (bs.all id))|_=>stk
def sumD:List A'->M A'
 |[.lst ds]=>(cA ds).bind λis=>.ok (.int is.sum)|_=>stk
def jY:List A'->M A'
 |[.lst ds]=>.ok (.lst ds)|[.tup ds]=>.ok (.lst ds)|_=>stk
def lu:List A'->M A'
 |[.lst ds]=>.ok (.tup ds)|[.tup ds]=>.ok (.tup ds)|_=>stk
def intD:List A'->M A'
 |[.int i]=>.ok (.int i)|[.bl b]=>.ok (.int (b2z b))|_=>stk
noncomputable def oi(i j:Int):Int:=if j>i then j else i
noncomputable def mn(i j:Int):Int:=if j<i then j else i
def maxL:am->M A'
 |[]=>stk|i::is=>.ok (.int (is.foldl oi i))
def minL:am->M A'
 |[]=>stk|i::is=>.ok (.int (is.foldl mn i))
def maxD:List A'->M A'
 |[.int i,.int j]=>.ok (.int (oi i j))|[.lst ds]=>(cA ds).bind maxL|_=>stk
def minD:List A'->M A'
 |[.int i,.int j]=>.ok (.int (mn i j))|[.lst ds]=>(cA ds).bind minL|_=>stk
def kc:A'->M A'
 |.int _=>.ok (.bl e_)|.bl _=>.ok (.bl e_)|.ins _ _=>stk|.dic _=>stk|.dil _=>stk|_=>.ok (.bl c_)
def iI:A'->M A'
 |.bl _=>.ok (.bl e_)|.ins _ _=>stk|.dic _=>stk|.dil _=>stk|_=>.ok (.bl c_)
def k9:A'->M A'
 |.lst _=>.ok (.bl e_)|.ins _ _=>stk|.dic _=>stk|.dil _=>stk|_=>.ok (.bl c_)
def fLR(fr:ae->M (List A')):ae->M A':=λρ=>(fr ρ).bind bo
def dr:Nat->List A'->List A'
 |_,[]=>[]|k,d::ds=>.tup [.int k,d]::dr (k+1) ds
def xk:A'->M (List A')
 |.lst ds=>.ok ds|_=>.error .stuck
def u9(fa:ae->M A'):ae->M (List A'):=λρ=>(fa ρ).bind λd=>(xk d).bind λds=>.ok (dr 0 ds)
def oh:List A'->List A'->List A'
 |d::ds,e::es=>.tup [d,e]::oh ds es|_,_=>[]
def b7(nN n:Nat)(g:ae->M C1)(ds:List A'):M A':=if ds.length=n then(g (ds.map a_++Di (nN-ds.length) f_)).bind λfl=>match fl with
 |.nx _=>.ok .non|.rt d=>.ok d|_=>stk else stk
@[simp]def ai{α β:Type}(a:α)(f:α->M β):Nx (Ec a:M α) f=f a:=id rfl
@[simp]def gZ{α β:Type}(e:Err)(f:α->M β):Nx (E3 e:M α) f=.error e:=id rfl
@[simp] theorem di:∀is:am,cA (is.map A'.int)=.ok is
 |[]=>rfl|i::is=>by simp[cA,asI,di is]
@[simp] theorem zS:∀is:List Bool,eK (is.map A'.bl)=.ok is
 |[]=>rfl|i::is=>by simp[eK,asB,zS is]
@[simp] theorem AZ(n:Nat):∀is:am,mj (is.map A'.int) n=e_
 |[]=>by simp[mj]|i::is=>by simp[mj,G',AZ n is]
theorem my{ds:List A'}(h:k<ds.length):jL ds (k:Int)=.ok ds[k]:=by unfold jL atI ixN;rw[n_ ac,n_ ac];simp[h]
theorem getI_int{is:am}{k:Int}(h0:0<=k)(h:k<is.length):jL (is.map A'.int) k=.ok (.int (is[k.toNat]'(by omega))):=by
 have I:k.toNat<(is.map A'.int).length:=by simp;lia
 have e:k=(k.toNat:Int):=ac
 have:=my I;rw[<- e]at this;rw[this];simp
theorem eJ{p:Pat}{fe:ae->M A'}{ρ0:ae}(f:A'->A'):∀(ds:List A'),(∀d∈ds,∃ρ,gE p d ρ0=.ok ρ/\fe ρ=.ok (f d))->aO p jr fe ρ0 ds=.ok (ds.map f)
 |[],_=>rfl|d::ds,h=>by obtain⟨ρ,e1,e2⟩:=h d ad;rw[aO,e1];simp only[ai,jr,e2,eJ f ds λx I=>h x (by simp[I])];simp
@[simp]def sJ(i:Int):cU i=(CL (-(2^64)<i)&&CL (i<2^64)):=id rfl
@[simp]def small_def2(i:Int):b8 i=(CL (-(2^62)<=i)&&CL (i<2^62)):=id rfl
@[simp]def eqDs_nilR(ds:List A'):xA ds []=ds.isEmpty:=by cases ds<;>rfl
section
variable{fr:ae->M (List A')}{h:ae->M C1}
@[simp]def BI(d:A')(r:ae):af 0 (a_ d::r)=.ok d:=id rfl
@[simp]def BH(i:Nat)(o:Option A')(r:ae):af (i+1) (o::r)=af i r:=by simp[af]
@[simp]def e_c(d:A'):fC d ρ=.ok d:=id rfl
@[simp]def e_1(k:A'->M A'):f1 k fa ρ=(fa ρ).bind k:=id rfl
@[simp]def e_2(k:A'->A'->M A'):f2 k fa fb ρ=(fa ρ).bind λa=>(fb ρ).bind λb=>k a b:=id rfl
@[simp]def e_nil:aD ρ=.ok []:=id rfl
@[simp]def e_cons:aa fa fr ρ=(fa ρ).bind λa=>(fr ρ).bind λr=>.ok (a::r):=id rfl
@[simp]def e_L(k:List A'->M A'):fL k fr ρ=(fr ρ).bind k:=id rfl
@[simp]def e_ite:fIte ft fa fb ρ=(ft ρ).bind λb=>if b=e_ then fa ρ else fb ρ:=id rfl
@[simp]def e_and:fAnd ft fu ρ=(ft ρ).bind λb=>if b=e_ then fu ρ else .ok c_:=id rfl
@[simp]def e_or:fOr ft fu ρ=(ft ρ).bind λb=>if b=e_ then .ok e_ else fu ρ:=id rfl
@[simp]def e_not:vA ft ρ=(ft ρ).bind λb=>.ok (!b):=id rfl
@[simp]def e_B:fB fa ρ=(fa ρ).bind asB:=id rfl
@[simp]def e_andV:oM fa fb ρ=(fa ρ).bind λa=>(asB a).bind λb=>if b=e_ then fb ρ else .ok (.bl c_):=id rfl
@[simp]def e_tru:u7 fa ρ=(fa ρ).bind truD:=id rfl
@[simp]def e_chain(k k':A'->A'->M A'):iN k k' fa fb fc ρ=(fa ρ).bind λa=>(fb ρ).bind λb=>(k a b).bind λx=>(asB x).bind λz=>if z=e_ then(fc ρ).bind λc=>k' b c else .ok (.bl c_):=id rfl
@[simp]def e_yes:jr ρ=.ok e_:=id rfl
@[simp]def e_it:fIt fa ρ=(fa ρ).bind k8:=id rfl
@[simp]def e_rng(k:List A'->M (List A')):jt k fr ρ=(fr ρ).bind k:=id rfl
@[simp]def e_LR:fLR fr ρ=(fr ρ).bind bo:=id rfl
@[simp]def e_enum:u9 fa ρ=(fa ρ).bind λd=>(xk d).bind λds=>.ok (dr 0 ds):=id rfl
@[simp]def e_comp(fi:ae->M (List A'))(ix:List (Option Nat))(p:Pat):dG fi ix p ft fa ρ=(fi ρ).bind λds=>if ds.length<=o_ then(aO p ft fa (dI ix ρ) ds).bind λr=>.ok (.lst r)else .error .stuck:=id rfl
@[simp]def e_asB(b:Bool):asB (.bl b)=.ok b:=id rfl
@[simp]def e_asI(b:Int):asI (.int b)=.ok b:=id rfl
@[simp]def e_itemsL(ds:List A'):k8 (.lst ds)=.ok ds:=id rfl
@[simp]def e_itL(ds:List A'):xk (.lst ds)=.ok ds:=id rfl
@[simp]def e_itemsT(ds:List A'):k8 (.tup ds)=.ok ds:=id rfl
@[simp]def e_notD(b:Bool):notD (.bl b)=.ok (.bl (!b)):=id rfl
@[simp]def e_truB(b:Bool):truD (.bl b)=.ok b:=id rfl
@[simp]def e_truL(ds:List A'):truD (.lst ds)=.ok (!ds.isEmpty):=id rfl
@[simp]def e_addI(i j:Int):lq (.int i) (.int j)=.ok (.int (i+j)):=id rfl
@[simp]def e_subI(i j:Int):subD (.int i) (.int j)=.ok (.int (i-j)):=id rfl
@[simp]def e_negI(i:Int):negD (.int i)=.ok (.int (-i)):=id rfl
@[simp]def e_ltI(i j:Int):ltD (.int i) (.int j)=.ok (.bl (CL (i<j))):=id rfl
@[simp]def e_leI(i j:Int):leD (.int i) (.int j)=.ok (.bl (CL (i<=j))):=id rfl
@[simp]def e_gtI(i j:Int):gtD (.int i) (.int j)=.ok (.bl (CL (j<i))):=id rfl
@[simp]def e_ixL(ds:List A')(i:Int):ixD (.lst ds) (.int i)=jL ds i:=id rfl
@[simp]def e_ixT(ds:List A')(i:Int):ixD (.tup ds) (.int i)=jL ds i:=id rfl
@[simp]def e_lenL(ds:List A'):xf [.lst ds]=.ok (.int ds.length):=id rfl
@[simp]def e_lenT(ds:List A'):xf [.tup ds]=.ok (.int ds.length):=id rfl
@[simp]def e_all(ds:List A'):allD [.lst ds]=(eK ds).bind λbs=>.ok (.bl (bs.all id)):=id rfl
@[simp]def e_listL(ds:List A'):jY [.lst ds]=.ok (.lst ds):=id rfl
@[simp]def e_listT(ds:List A'):jY [.tup ds]=.ok (.lst ds):=id rfl
@[simp]def e_tupleL(ds:List A'):lu [.lst ds]=.ok (.tup ds):=id rfl
@[simp]def e_intB(b:Bool):intD [.bl b]=.ok (.int (b2z b)):=id rfl
@[simp]def e_max2(i j:Int):maxD [.int i,.int j]=.ok (.int (oi i j)):=id rfl
@[simp]def e_min2(i j:Int):minD [.int i,.int j]=.ok (.int (mn i j)):=id rfl
@[simp]def e_maxL(ds:List A'):maxD [.lst ds]=(cA ds).bind maxL:=id rfl
@[simp]def e_isiBI(i:Int):iI (.int i)=.ok (.bl c_):=id rfl
@[simp]def e_isiII(i:Int):kc (.int i)=.ok (.bl e_):=id rfl
@[simp]def e_isiLL(ds:List A'):k9 (.lst ds)=.ok (.bl e_):=id rfl
@[simp]def e_notN(d:A'):yU d .non=.ok (.bl (match d with|.non=>c_|_=>e_)):=by cases d<;>rfl
@[simp]def e_next:d9 ρ=.ok (.nx ρ):=id rfl
@[simp] theorem e_seq:bO g h ρ=(g ρ).bind λfl=>match fl with
 |.nx ρ'=>h ρ'|fl=>.ok fl:=id rfl
@[simp]def e_if:sIf ft g h ρ=(ft ρ).bind λb=>if b=e_ then g ρ else h ρ:=id rfl
@[simp]def e_setB(O:aC)(i:Nat):b6 O i fa ρ=(fa (erase O ρ)).bind λd=>.ok (.nx (ρ.set i (a_ d))):=id rfl
@[simp]def e_ret:dN fa ρ=(fa ρ).bind λd=>.ok (.rt d):=id rfl
@[simp]def e_for(O:aC)(fi:ae->M (List A'))(p:Pat):kJ O fi p g ρ=(fi (erase O ρ)).bind λds=>cq p g ds ρ:=id rfl
@[simp]def e_appB(O:aC)(i:Nat):jR O i fa ρ=(gU ρ i).bind λds=>(fa (erase O ρ)).bind λd=>if ds.length<o_ then put ρ i (ds++[d])else .error .stuck:=id rfl
@[simp] theorem e_setI(i:Nat):uW i fb fa ρ=(fa ρ).bind λd=>(gU ρ i).bind λds=>(fb ρ).bind λk=>(asI k).bind λk=>if gz d=e_ then(match ixN ds.length k with
 |some j=>put ρ i (ds.set j d)|none=>.error .stuck)else .error .stuck:=id rfl
@[simp]def e_put(i:Nat)(ds:List A'):put ρ i ds=.ok (.nx (ρ.set i (a_ (.lst ds)))):=id rfl
@[simp]def e_lst0(ds:List A')(r:ae):gU (a_ (.lst ds)::r) 0=.ok ds:=id rfl
@[simp]def e_lstS(i:Nat)(o:Option A')(r:ae):gU (o::r) (i+1)=gU r i:=by simp[gU]
@[simp]def e_er0:erase [] ρ=ρ:=id rfl
@[simp]def e_erS(i:Nat)(O:aC):erase (i::O) ρ=erase O (ρ.set i f_):=id rfl
@[simp]def l8(i:Nat)(d:A'):gE (.nm i) d ρ=.ok (ρ.set i (a_ d)):=id rfl
@[simp]def e_btp(is:aC)(ds:List A'):gE (.tp is) (.tup ds) ρ=if ds.length=is.length then .ok (ir is ds ρ)else .error .stuck:=id rfl
@[simp]def e_sa0(ds:List A'):ir [] ds ρ=ρ:=by cases ds<;>rfl
@[simp]def e_saS(i:Nat)(is:aC)(d:A')(ds:List A'):ir (i::is) (d::ds) ρ=ir is ds (ρ.set i (a_ d)):=id rfl
@[simp]def e_in0:dI [] ρ=[]:=id rfl
@[simp]def e_inN(ix:List (Option Nat)):dI (f_::ix) ρ=f_::dI ix ρ:=id rfl
@[simp]def e_inS(j:Nat)(ix:List (Option Nat)):dI (a_ j::ix) ρ=(ρ[j]?).join::dI ix ρ:=id rfl
@[simp]def e_tup(ds:List A'):cV ds=if ds.length<=o_ then .ok (.tup ds)else .error .stuck:=id rfl
@[simp]def e_lst(ds:List A'):bo ds=if ds.length<=o_ then .ok (.lst ds)else .error .stuck:=id rfl
@[simp]def e_line:o_=16777216:=EK
@[simp] theorem e_run(a b:Nat)(ds:List A'):b7 a b g ds=if ds.length=b then(g (ds.map a_++Di (a-ds.length) f_)).bind λfl=>match fl with
 |.nx _=>.ok .non|.rt d=>.ok d|_=>stk else stk:=id rfl
@[simp]def e_rng1{j:Int}(h:b8 j=e_):pq [.int j]=.ok (aQ 0 j.toNat):=by show(if b8 j=e_ then _ else _)=_;rw[n_ h]
@[simp]def e_rng2{i j:Int}(h:b8 i=e_)(h2:b8 j=e_):v7 [.int i,.int j]=.ok (aQ i (j-i).toNat):=by show(if (b8 i&&b8 j)=e_ then _ else _)=_;rw[h,h2,Ny,n_ rfl]
@[simp]def e_mod{i j:Int}(h:0<j):tK (.int i) (.int j)=.ok (.int (i%j)):=by simp[tK,h]
@[simp]def e_fdiv{i j:Int}(h:0<j)(h2:j<18446744073709551616):lP (.int i) (.int j)=.ok (.int (i/j)):=by simp[lP,h,h2]
@[simp]def e_mulR{i j:Int}(h:cU j=e_):Bc (.int i) (.int j)=.ok (.int (i*j)):=by show(if (cU i||cU j)=e_ then _ else _)=_;rw[h,Bool.or_true,n_ rfl]
@[simp]def e_mulL{i j:Int}(h:cU i=e_):Bc (.int i) (.int j)=.ok (.int (i*j)):=by show(if (cU i||cU j)=e_ then _ else _)=_;rw[h,Bool.true_or,n_ rfl]
end
section
variable{W:cp}{own:Bool}{a b c:Em}{rest:List Em}{p:IM}{f:ae->M A'}{fr:ae->M (List A')}
def PE.imp{t t':TE}(h:PE X e t)(q:∀σ H Q,t' σ H Q->t σ H Q):PE X e t':=λB2 s σ H Q I z=>h B2 s σ H Q I (q σ H Q z)
def PT.imp{t t':TT}(h:PT X e t)(q:∀σ H Q,t' σ H Q->t σ H Q):PT X e t':=λB2 s σ H Q I z=>h B2 s σ H Q I (q σ H Q z)
def PW.imp{t t':TT}(h:PW X e t)(q:∀σ H Q,t' σ H Q->t σ H Q):PW X e t':=λJ B2 s σ H Q I z=>h J B2 s σ H Q I (q σ H Q z)
def PA.imp{t t':TA}(h:PA X es t)(q:∀σ H Q,t' σ H Q->t σ H Q):PA X es t':=λps B2 s σ H Q I z=>h ps B2 s σ H Q I (q σ H Q z)
def PI.imp{t t':TI}(h:PI X tg e t)(q:∀σ H Q,t' σ H Q->t σ H Q):PI X tg e t':=λB2 s σ H Q I z=>h B2 s σ H Q I (q σ H Q z)
def PS.imp{st:Ei}{t t':TS}(h:PS X st t)(q:∀D σ H,t' D σ H->t D σ H):PS X st t':=λB2 s σ H D I z=>h B2 s σ H D I (q D σ H z)
def PSs.imp{st:List Ei}{t t':TS}(h:PSs X st t)(q:∀D σ H,t' D σ H->t D σ H):PSs X st t':=λB2 s σ H D I z=>h B2 s σ H D I (q D σ H z)
abbrev DE(K:Fg)(W:cp)(own:Bool)(X:Cx)(e:Em)(f:ae->M A'):Prop:=PE X e (tD K W own f)
abbrev DT(K:Fg)(W:cp)(X:Cx)(e:Em)(f:ae->M Bool):Prop:=PT X e (tDT K W f)
abbrev DW(K:Fg)(W:cp)(X:Cx)(e:Em)(f:ae->M Bool):Prop:=PW X e (tDT K W f)
abbrev DA(K:Fg)(W:cp)(X:Cx)(es:List Em)(f:ae->M (List A')):Prop:=PA X es (tDA K W f)
abbrev DI(K:Fg)(W:cp)(X:Cx)(tg e:Em)(f:ae->M (List A')):Prop:=PI X tg e (iD K W f)
abbrev DG(K:Fg)(X:Cx)(tg:Em)(p:Pat):Prop:=PG X tg (gP K p)
abbrev DS(K:Fg)(W:cp)(ro:Bool)(X:Cx)(OL O O':aC)(st:Ei)(g:ae->M C1):Prop:=∀F0 H0:Hp,PS X st (tS K W ro F0 H0 OL O O' g)
abbrev DSs(K:Fg)(W:cp)(ro:Bool)(X:Cx)(OL O O':aC)(st:List Ei)(g:ae->M C1):Prop:=∀F0 H0:Hp,PSs X st (tS K W ro F0 H0 OL O O' g)
abbrev Op2(K:Fg)(W:cp)(own:Bool)(X:Cx)(o:g_->g_->Lb g_)(g:A'->A'->M A'):Prop:=OpR X o (rD2 K W own g)
abbrev ky(K:Fg)(W:cp)(own:Bool)(X:Cx)(v:g_)(g:List A'->M A'):Prop:=cH X v (rDL K W own g)
def ao(i:Nat)(J: ~~~(X.N[i]?=a_ x))(hv:autoParam (Vis X.env.scope x) Jq4)(hd:((x==("__debug__":C_))=c_)⁻¹)(I:((x==("__classdict__":C_))=c_)⁻¹):DE K W c_ X (.Name x pos) (af i):=(pv i J hv hd I).imp λ_ _ _=>rd_var
def ah{i:Int}{j}:DE K W c_ X (.Constant (.int i) j pos) (fC (.int i)):=pe_int.imp λ_ _ _=>rd_c λ_=>rfl
def iO{k:Bool}{j}:DE K W c_ X (.Constant (.bool k) j pos) (fC (.bl k)):=pe_bl.imp λ_ _ _=>rd_c λ_=>rfl
def de_non{j}:DE K W c_ X (.Constant .none j pos) (fC .non):=pe_non.imp λ_ _ _=>rd_c λ_=>rfl
def vJ{n:Int}(I:∃t,X.mg x=a_ (.int n t))(J: ~~~(Gl X x))(hd:((x==("__debug__":C_))=c_)⁻¹):DE K W c_ X (.Name x pos) (fC (.int n)):=(pe_gint J I hd).imp λ_ _ _=>rd_c λ_=>rfl
def az(h:DE K W e_ X e f):DE K W c_ X e f:=PE.imp h λ_ _ _ ⟨F,ρ,r,s,p⟩=>⟨F,ρ,r,s,p.frz⟩
def b9{op:Operator}{g:A'->A'->M A'}(I:Op2 K W own X (Fq op) g)(S:DE K W c_ X a fa)(J:DE K W c_ X b fb):DE K W own X (.BinOp a op b pos) (f2 g fa fb):=(pe_op I S J).imp λ_ _ _=>rd_2
def zG{op:UnaryOp}{g:A'->M A'}(I:UnR X (NC op) (rD1 K W own g))(J:DE K W c_ X a fa):DE K W own X (.UnaryOp op a pos) (f1 g fa):=(pe_un I J).imp λ_ _ _=>rd_1
def nL{g:A'->A'->M A'}(I:Op2 K W c_ X (DQ op) g)(U:DE K W c_ X a fa)(S:DE K W c_ X b fb)(J:autoParam (Hf op b=c_) Jq10):DE K W c_ X (.Compare a [op] [b] pos) (f2 g fa fb):=
 (pe_cmpR I U S J).imp λ_ _ _=>rd_2
def bZ{g:A'->A'->M A'}(I:Op2 K W c_ X (DQ op) g)(U:DE K W c_ X a fa)(S:DE K W c_ X b fb)(J:autoParam (Hf op b=c_) Jq10):DT K W X (.Compare a [op] [b] pos) (fB (f2 g fa fb)):=
 (AI I U S J).imp λσ H Q h=>by have q:=rd_B h;exact rd_2 (own:=c_) q
def de_chain{g:A'->A'->M A'}(J:Op2 K W c_ X (DQ op) g)(I:Op2 K W c_ X (DQ op') g')(d:DE K W c_ X a fa)(Y:DE K W c_ X b fb)(U:DE K W c_ X c fc)(S:autoParam (LU [op,op'] [b,c]=c_) Jq8):DE K W c_ X (.Compare a [op,op'] [b,c] pos) (iN g g' fa fb fc):=(pe_chain J I d Y U S).imp λ_ _ _=>wH
def xD{g:A'->A'->M A'}(J:Op2 K W c_ X (DQ op) g)(I:Op2 K W c_ X (DQ op') g')(d:DE K W c_ X a fa)(Y:DE K W c_ X b fb)(U:DE K W c_ X c fc)(S:autoParam (LU [op,op'] [b,c]=c_) Jq8):DT K W X (.Compare a [op,op'] [b,c] pos) (fB (iN g g' fa fb fc)):=(pt_chain J I d Y U S).imp λσ H Q h=>by have q:=rd_B h;exact wH q
def jv(S:DE K W c_ X a fa)(U: ~~~(X.K=K))(J:autoParam (∀I,Mh a X.env I=(do let v <- I;IV a.pos;Gg [v] (truthy v))) Jq5):DT K W X a (u7 fa):=by subst U;exact(pt_truth S J).imp λ_ _ _=>rd_tru
def lE(I:DT K W X a ft):DT K W X (.UnaryOp .Not a pos) (vA ft):=(pt_not I).imp λ_ _ _=>rd_not
def vC(I:DT K W X a ft):DW K W X (.BoolOp .And [a] pos) ft:=pw_and1 I
def BM(I:DT K W X a ft):DW K W X (.BoolOp .Or [a] pos) ft:=pw_or1 I
def BN(J:DT K W X a ft)(I:DW K W X (.BoolOp .And (b::rest) pos) fu):DW K W X (.BoolOp .And (a::b::rest) pos) (fAnd ft fu):=(pw_and J I).imp λ_ _ _=>rd_and
def dw_or(J:DT K W X a ft)(I:DW K W X (.BoolOp .Or (b::rest) pos) fu):DW K W X (.BoolOp .Or (a::b::rest) pos) (fOr ft fu):=(pw_or J I).imp λ_ _ _=>rd_or
def de_one{op}(h:DE K W c_ X a f):DE K W c_ X (.BoolOp op [a] pos) f:=pe_one h
def xT(J:DE K W c_ X a fa)(I:DE K W c_ X (.BoolOp .And (b::rest) pos) fb):DE K W c_ X (.BoolOp .And (a::b::rest) pos) (oM fa fb):=(pe_and J I).imp λ_ _ _=>rd_andV
def de_not(I:DE K W c_ X a fa):DE K W c_ X (.UnaryOp .Not a pos) (f1 notD fa):=(pe_not I).imp λ_ _ _=>rd_notV
def de_ite(I:DT K W X c ft)(S:DE K W own X a fa)(J:DE K W own X b fb):DE K W own X (.IfExp c a b pos) (fIte ft fa fb):=(pe_ifExp I S J).imp λ_ _ _=>rd_ite
def bS:DA K W X [] aD:=cK.imp λ_ _ _=>rd_nil
def aX(S:DE K W c_ X e fa)(J:DA K W X es fr)(I: ~~~(j_ (e::es) X.env=(c_,Dh e X.env)::j_ es X.env)):DA K W X (e::es) (aa fa fr):=(aW S J I).imp λ_ _ _=>rd_cons
def fH{I}(h:DA K W X es fr):DE K W own X (.Tuple es I pos) (fL cV fr):=(pe_tup h).imp λ_ _ _=>rd_tup
def aV(h:DA K W X es fr):DE K W e_ X (.List es pos) (fL bo fr):=(pe_lst h).imp λ_ _ _=>rd_lst
def aJ{id:String}{g:List A'->M A'}(b:ky K W own X (.builtin id) g)(Y:X.mg x=f_)(hv:E6 x=a_ (.builtin id))(c:DA K W X (e::es) fr)(a: ~~~(Gl X x))(U:(x≠"__name__")⁻¹)(S:((x==("__debug__":C_))=c_)⁻¹)(I: ~~~(j_ (e::es) X.env=(c_,Dh e X.env)::j_ es X.env))(J: ~~~((Eg pos (j_ es X.env)).any (·.1)=c_)):DE K W own X (.Call (.Name x p) (e::es) [] pos) (fL g fr):=
 (fZ b a Y hv c U S I J).imp λ_ _ _=>rd_L
def cP{g:List A'->M A'}(b:ky K W own X (.type T) g)(Y:X.mg x=f_)(hv:E6 x=a_ (.type T))(c:DA K W X (e::es) fr)(a: ~~~(Gl X x))(U:(x≠"__name__")⁻¹)(S:((x==("__debug__":C_))=c_)⁻¹)(I: ~~~(j_ (e::es) X.env=(c_,Dh e X.env)::j_ es X.env))(J: ~~~((Eg pos (j_ es X.env)).any (·.1)=c_)):DE K W own X (.Call (.Name x p) (e::es) [] pos) (fL g fr):=
 (mV b a Y hv c U S I J).imp λ_ _ _=>rd_L
def bK{g:A'->A'->M A'}(J:IxR X (rD2 K W own g))(U:DE K W c_ X a fa)(S:DE K W c_ X b fb)(I:autoParam (vV b) Jq11):DE K W own X (.Subscript a b pos) (f2 g fa fb):=(pe_ix J U S I).imp λ_ _ _=>rd_2
def l9(S:X.N.Nodup)(hi: ~~~(X.N[i]?=a_ x))(I:autoParam (Loc X.env.scope x) Jq6)(J:autoParam (X.fn x=e_\/X.env.scope.names.lookup x=a_ .local) Jq3):DG K X (.Name x pos) (.nm i):=vg S hi I J
def dJ(g:DE K W c_ X e fa)(i: ~~~(X.K=K)):DI K W X tg e (fIt fa):=by
 subst i;refine PI.imp (t:=iSeq X.K (tD X.K W c_ fa)) ?_ λ_ _ _=>ri_seq;intro B2 s σ H R I h;refine E' (g B2 s σ H _ I h) λv J f=>?_;obtain⟨y,H1,S,c,q1⟩:=f;obtain⟨l,e1,q⟩:=q1;subst e1;cases c;rcases q with⟨⟨xs,U⟩,q⟩|⟨⟨xs,U⟩,q⟩
 .obtain⟨its,a,p,d⟩:=S.list U;refine Ij p.isList ?_;refine⟨J.z,[J.z],_,_,H1,rfl,S.kept (t':=J.toks) λb o e=>d_ _ e,sA l _,⟨_,s_ _ rfl,rfl,rfl⟩,λb Y=>?_,q⟩
  have e:b=J.z:=by simpa using Y
  subst e;exact S.fpOk (m_ _) (S.hok.fresh (m_ _))
 .obtain⟨its,a,p,d⟩:=S.tuple U;refine GL (show J.heap.IsTuple l its.toArray from p) ?_;refine⟨J.z,[J.z],_,_,H1,rfl,S.kept (t':=J.toks) λb o e=>d_ _ e,yv l _,⟨_,s_ _ rfl,rfl,rfl⟩,λb Y=>?_,q⟩
  have e:b=J.z:=by simpa using Y
  subst e;exact S.fpOk (m_ _) (S.hok.fresh (m_ _))
def jJ(J:X.mg "range"=f_)(U:DA K W X [a] fr)(S: ~~~(Gl X "range"))(I: ~~~(j_ [a] X.env=[(c_,Dh a X.env)])):DI K W X tg (.Call (.Name "range" p) [a] [] pos) (jt pq fr):=(AO S J U I).imp λ_ _ _=>ri_rng1
def di_rng2(S:X.mg "range"=f_)(Y:DA K W X [a,b] fr)(U: ~~~(Gl X "range"))(J: ~~~(j_ [a,b] X.env=[(c_,Dh a X.env),(c_,Dh b X.env)]))(I: ~~~(j_ [b] X.env=[(c_,Dh b X.env)])):
  DI K W X tg (.Call (.Name "range" p) [a,b] [] pos) (jt v7 fr):=(AN U S Y J I).imp λ_ _ _=>ri_rng2
variable{st:Ei}{h:ae->M C1}
def bR:DSs K W ro X OL O O [] d9:=λ_ _=>AJ.imp λ_ _ _=>rs_next
def aj(h1:DS K W ro X OL O O' st g)(h2:DSs K W ro X OL O' O2 sts h):DSs K W ro X OL O O2 (st::sts) (bO g h):=λF0 H0=>(iV (h1 F0 H0) (h2 F0 H0)).imp λ_ _ _=>rs_seq
def av(h1:DS K W ro X OL O O' st g):DSs K W ro X OL O O' [st] g:=λF0 H0=>qN (h1 F0 H0)
def f7(h1:DSs K W ro X OL O2 O' sts g)(I:(∀i∈O2,i∈O)⁻¹):DSs K W ro X OL O O' sts g:=λF0 H0=>PSs.imp (h1 F0 H0) λ_ _ _=>tS.enter I
def dH{J I:List Ei}(S:DT K W X c ft)(Y:DSs K W ro X OL O O' J g)(U:DSs K W ro X OL O O' I h):DS K W ro X OL O O' (.If c J I pos) (sIf ft g h):=λF0 H0=>(ps_if S (Y F0 H0) (U F0 H0)).imp λ_ _ _=>rs_if
def vE(Y:X.N.Nodup)(U:DE K W own X e f)(hi: ~~~(X.N[i]?=a_ x))(I:autoParam (Loc X.env.scope x) Jq6)(J: ~~~(EV e (a_ (.Name x pos')) pos.line X.env=ER c_))(S:autoParam (X.fn x=e_\/X.env.scope.names.lookup x=a_ .local) Jq3):
  DS K W ro X OL O (aft own i O) (.Assign [.Name x pos'] e pos) (b6 O i f):=λF0 H0=>(ps_set Y hi I U J S).imp λ_ _ _=>rs_setB
def aI(I:DE K W ro X e f):DS K W ro X OL O O' (.Return (a_ e) pos) (dN f):=λF0 H0=>(ps_ret I).imp λ_ _ _=>rs_ret
def cO{fs:ae->M (List A')}{pt:Pat}(hi:DI K W X tg iter fs)(S:DG K X tg pt)(Y:DSs K W ro X O O O body g)(n:(∀i∈pt.names,i∉O)⁻¹)(J:PassesOwn (B_ X.prog X.w) X.A X.env X.xe:=by exact PassesOwn.never)(U: ~~~(X.calm=e_))(I:autoParam (∀x,Gh iter X.env x=ER x) Jq5):DS K W ro X OL O O (.For tg iter body [] pos) (kJ O fs pt g):=λF0 H0=>(ps_for J U hi S (Y F0 H0) I).imp λ_ _ _=>rs_for n
def nH{q:IM}(d:DE K W c_ X e f)(c:(i∈O)⁻¹)(g: ~~~(X.N[i]?=a_ x))(hv:autoParam (Vis X.env.scope x) Jq4)(hd:((x==("__debug__":C_))=c_)⁻¹)(b:((x==("__classdict__":C_))=c_)⁻¹)(h: ~~~(X.K=K))(U: ~~~(j_ [e] X.env=[(c_,Dh e X.env)]))(S: ~~~(Fi (.Name x p) "append" X.env (Dh (.Name x p) X.env)=Dh (.Name x p) X.env))(Y: ~~~(((Eg q (j_ [e] X.env)).all (λx=> !x.1)&&(HQ q (Gv [] X.env)).all (λx=>x.1.isSome)&&CL ([e].length+([]:List Ik).length+(if ([]:List Ik).isEmpty then 0 else 1)<30))=e_))(I: ~~~((Eg q (j_ [] X.env)).any (·.1)=c_))(J: ~~~((apos.endLine==q.line)=e_))(a: ~~~(EV (.Call (.Attribute (.Name x p) "append" apos) [e] [] q) f_ pos.line X.env=ER c_)):
  DS K W ro X OL O O (.Expr (.Call (.Attribute (.Name x p) "append" apos) [e] [] q) pos) (jR O i f):=λF0 H0=>by
 subst h;exact PS.imp (mT (pe_bm HD Ih Kn tJ (pv i g hv hd b) (aW d cK U) S Y J U I) a) λ_ _ _=>rs_appB c
end
section
variable{W:cp}{own:Bool}
def OpR.imp{f:g_->g_->Lb g_}{r r':R2}(h:OpR X f r)(q:∀x y H Q,r' x y H Q->r x y H Q):OpR X f r':=λB2 s σ H x y v u Q I S J z=>h B2 s σ H x y v u Q I S J (q x y H Q z)
def UnR.imp{f:g_->Lb g_}{r r':V->Hp->VK->Prop}(h:UnR X f r)(q:∀x H Q,r' x H Q->r x H Q):UnR X f r':=λB2 s σ H x v Q I J z=>h B2 s σ H x v Q I J (q x H Q z)
def cH.imp{f:g_}{r r':aB->Hp->VK->Prop}(h:cH X f r)(q:∀x H Q,r' x H Q->r x H Q):cH X f r':=λB2 s σ H x v Q I J z=>h B2 s σ H x v Q I J (q x H Q z)
def IxR.imp{r r':R2}(h:IxR X r)(q:∀x y H Q,r' x y H Q->r x y H Q):IxR X r':=λJ sl B2 s σ H x y v u Q I U S z e=>h J sl B2 s σ H x y v u Q I U S (q x y H Q z) e
def aF.stuck{P:Prop}(p:aF K W own F H (stk) Q):P:=(W.ns p).elim
theorem aF.int{F H:Hp}{Q:VK}{i:Int}(p:aF K W own F H (.ok (.int i)) Q)(s:aK F H):Q (.int i) H:=p _ F H (B4.refl s) (by cases own<;>rfl)
theorem aF.bl{F H:Hp}{Q:VK}{b:Bool}(p:aF K W own F H (.ok (.bl b)) Q)(s:aK F H):Q (.bl b) H:=p _ F H (B4.refl s) (by cases own<;>rfl)
theorem aF.str{F H:Hp}{Q:VK}{x:C_}(p:aF K W own F H (.ok (.str x)) Q)(s:aK F H):Q (.str x) H:=p _ F H (B4.refl s) (by cases own<;>rfl)
theorem aF.tup{F H:Hp}{Q:VK}{ds:List A'}{xs:aB}{a:i_}(p:aF K W own F H (.ok (.tup ds)) Q)(s:aK F H)(q:ay K F ds xs)(I:H a=f_):Q (.ref a) (upd H a (.tup xs)):=
 p _ _ _ (B4.lay s I) (by
  have:aR K (upd F a (.tup xs)) (.tup ds) (.ref a):=⟨a,xs,rfl,SqT.of aq,q.mono (aK.upd (s.free I))⟩
  cases own<;>exact this)
def aF.same{ds:List A'}(p:aF K W own F H (.ok (.tup ds)) Q)(s:aK F H)(q:aR K F (.tup ds) v):Q v H:=p _ F H (B4.refl s) (by cases own<;>exact q)
theorem aF.lst{F H:Hp}{Q:VK}{ds:List A'}{xs:aB}{a:i_}(p:aF K W e_ F H (.ok (.lst ds)) Q)(s:aK F H)(q:ay K F ds xs)(I:H a=f_):Q (.ref a) (upd H a (.lst xs)):=
 p _ F _ (B4.grow s I) ⟨a,xs,rfl,aq,s.free I,I,q⟩
def gR{g:A'->A'->M A'}(S:∀a b,(∃i j,a=.int i/\b=.int j)\/g a b=stk){x:V}(h:rD2 K W own g x y H Q):∃F i j,aK F H/\x=.int i/\y=.int j/\aF K W own F H (g (.int i) (.int j)) Q:=by
 obtain⟨F,a,b,s,J,I,p⟩:=h;rcases S a b with⟨i,j,rfl,rfl⟩|e
 .exact⟨F,i,j,s,J,I,p⟩
 .rw[e]at p;exact p.stuck
def tI:Op2 K W own X (Fq .Sub) subD:=op_sub.imp λx y H Q h=>by obtain⟨F,i,j,s,e1,e2,p⟩:=gR (λa b=>by cases a<;>cases b<;>first|exact .inr rfl|exact .inl ⟨_,_,rfl,rfl⟩) h;exact⟨i,j,e1,e2,p.int s⟩
def vm:Op2 K W own X (Fq .Mult) Bc:=op_mul.imp λx y H Q h=>by
 obtain⟨F,i,j,s,e1,e2,p⟩:=gR (λa b=>by cases a<;>cases b<;>first|exact .inr rfl|exact .inl ⟨_,_,rfl,rfl⟩) h;have J:aF K W own F H (if (cU i||cU j)=e_ then .ok (.int (i*j))else stk) Q:=p;by_cases I:(cU i||cU j)=e_
 .rw[n_ I]at J;refine⟨i,j,e1,e2,?_,J.int s⟩
  unfold cU at I;simp only[IA,A_,Dj]at I;exact I
 .rw[l_ I]at J;exact J.stuck
theorem Bk{j:Int}(h0:0<j)(h1:j<18446744073709551616):j.natAbs.log2<9000:=by
 have a:j.natAbs<2^64:=ac
 have b:=(Nat.log2_lt (n:=j.natAbs) (k:=64) ac).mpr a;lia
theorem AX:OpR X (Fq .FloorDiv) (rI (λ_ j=>0<j/\j<18446744073709551616) λi j=>.int (i/j)):=opI λi j _ _ _ _ _ I q=>by obtain⟨S,J⟩:=I;exact floordiv_int ac (by rw[Int.fdiv_eq_ediv_of_nonneg i ac];exact q) (.inl (PyProof.noPylong_of_log2 (Bk S J)))
def jX:Op2 K W own X (Fq .FloorDiv) lP:=AX.imp λx y H Q h=>by
 obtain⟨F,i,j,s,e1,e2,p⟩:=gR (λa b=>by cases a<;>cases b<;>first|exact .inr rfl|exact .inl ⟨_,_,rfl,rfl⟩) h;have I:aF K W own F H (if (CL (0<j)&&CL (j<18446744073709551616))=e_ then .ok (.int (i/j))else stk) Q:=p;by_cases J:(CL (0<j)&&CL (j<18446744073709551616))=e_
 .rw[n_ J]at I;simp only[A_,Dj]at J;exact⟨i,j,e1,e2,J,I.int s⟩
 .rw[l_ J]at I;exact I.stuck
def kN:Op2 K W own X (Fq .Mod) tK:=op_mod.imp λx y H Q h=>by
 obtain⟨F,i,j,s,e1,e2,p⟩:=gR (λa b=>by cases a<;>cases b<;>first|exact .inr rfl|exact .inl ⟨_,_,rfl,rfl⟩) h;have I:aF K W own F H (if 0<j then .ok (.int (i%j))else stk) Q:=p;by_cases J:0<j
 .rw[n_ J]at I;exact⟨i,j,e1,e2,J,I.int s⟩
 .rw[l_ J]at I;exact I.stuck
def yS:UnR X (NC .USub) (rD1 K W own negD):=un_neg.imp λx H Q h=>by
 obtain⟨F,a,s,I,p⟩:=h;cases a with
 |int i=>exact⟨i,I,aF.int (own:=own) p s⟩|_=>exact aF.stuck p
def o_lt:Op2 K W own X (DQ .Lt) ltD:=op_lt.imp λx y H Q h=>by obtain⟨F,i,j,s,e1,e2,p⟩:=gR (λa b=>by cases a<;>cases b<;>first|exact .inr rfl|exact .inl ⟨_,_,rfl,rfl⟩) h;exact⟨i,j,e1,e2,p.bl s⟩
def o_le:Op2 K W own X (DQ .LtE) leD:=op_le.imp λx y H Q h=>by obtain⟨F,i,j,s,e1,e2,p⟩:=gR (λa b=>by cases a<;>cases b<;>first|exact .inr rfl|exact .inl ⟨_,_,rfl,rfl⟩) h;exact⟨i,j,e1,e2,p.bl s⟩
def o_gt:Op2 K W own X (DQ .Gt) gtD:=op_gt.imp λx y H Q h=>by obtain⟨F,i,j,s,e1,e2,p⟩:=gR (λa b=>by cases a<;>cases b<;>first|exact .inr rfl|exact .inl ⟨_,_,rfl,rfl⟩) h;exact⟨i,j,e1,e2,p.bl s⟩
theorem op_catL:OpR X (Fq .Add) (λx y H Q=>∃l b xs a,x=.ref l/\y=.ref b/\SqL X.K H l xs/\SqL X.K H b a/\xs.length+a.length<=o_/\∀p,H p=f_->Q (.ref p) (upd H p (.lst (xs++a)))):=by
 intro B2 s σ H x y v u Q I m k h;obtain⟨l,b,xs,a,rfl,rfl,t,w,C,q⟩:=h;cases m;cases k;obtain⟨its,r,p1,D⟩:=I.list t;obtain⟨J,r2,p2,o⟩:=I.list w;have B:=r.length;have A:=r2.length;obtain⟨⟨z,dd,i,sl⟩,f,g,n,hd⟩:=id p1.isList;obtain⟨⟨j,d,e,c⟩,S,Y,n2,U⟩:=id p2.isList;simp only at g hd Y U;subst g hd Y U;refine Kh ⟨_,f,rfl⟩ ⟨_,S,rfl⟩ noFill_list_add seq_list_add PySem.F.slot_list_add PySem.F.entry_list_add (PySem.F.args_list_add_2 _ _) (list_addW l b its.toArray J.toArray n n2 dd d sl c (by simp only[CJ];lia)) ⟨f,S,?_⟩;have ea:its.toArray++J.toArray=(its++J).toArray:=by simp
 rw[ea];exact⟨.ref _,_,I.lnew (t':=s.toks) (r.append r2) (by rw[CM];lia),rfl,q _ I.fresh⟩
def op_cat3:OpR X (Fq .Add) (λx y H Q=>∃a b xs ys,x=.ref a/\y=.ref b/\SqT X.K H a xs/\SqT X.K H b ys/\xs.length+ys.length<=o_/\(xs=[]->Q (.ref b) H)/\(ys=[]->Q (.ref a) H)/\∀p,H p=f_->Q (.ref p) (upd H p (.tup (xs++ys)))):=by
 intro B2 s σ H x y v u Q I i g h;obtain⟨a,b,xs,ys,rfl,rfl,o,m,z,q1,q2,w⟩:=h;by_cases j:xs=[]
 .subst j;cases i;cases g;obtain⟨its,t,p1,_⟩:=I.tuple o;obtain⟨J,r2,p2,_⟩:=I.tuple m;cases t;obtain⟨⟨B,dd,q,sl⟩,k,l,n,hd⟩:=id p1;obtain⟨⟨r,d,f,c⟩,S,Y,n2,U⟩:=id p2;simp only at l hd Y U;subst l hd Y U;exact Kh ⟨_,k,rfl⟩ ⟨_,S,rfl⟩ KH LG HR HE (Hy _ _)
   (tuple_addW0 a b #[] J.toArray n n2 dd d sl c rfl) ⟨k,S,⟨.ref b,H,I,rfl,q1 rfl⟩⟩
 .exact op_catT B2 s σ H _ _ v u Q I i g ⟨a,b,xs,ys,rfl,rfl,o,m,j,z,λe=>q2 e,λ_ p A=>w p A⟩
def ja(g: ~~~(X.K=K)):Op2 K W e_ X (Fq .Add) lq:=by
 subst g;refine(op_add.or (yR.or (op_catL.or op_cat3))).imp λx y H Q h=>?_;obtain⟨F,a,b,s,d,c,p⟩:=h;cases a with
 |int i=>
  cases b with
  |int j=>exact .inl ⟨i,j,d,c,p.int s⟩|_=>exact aF.stuck p
 |str z=>
  cases b with
  |str w=>
   have I:aF X.K W e_ F H (if z.length+w.length<=o_ then .ok (.str (z++w))else stk) Q:=p;by_cases J:z.length+w.length<=o_
   .rw[n_ J]at I;exact .inr (.inl ⟨z,w,d,c,J,I.str s⟩)
   .rw[l_ J]at I;exact I.stuck
  |_=>exact aF.stuck p
 |lst ds=>
  cases b with
  |lst es=>
   obtain⟨a,xs,e1,Y,S⟩:=d;obtain⟨b,ys,e2,U,r2⟩:=c;have I:aF X.K W e_ F H (if ds.length+es.length<=o_ then .ok (.lst (ds++es))else stk) Q:=p;by_cases J:ds.length+es.length<=o_
   .rw[n_ J]at I;exact .inr (.inr (.inl ⟨a,b,xs,ys,e1,e2,s.lst Y,s.lst U,by rw[S.length,r2.length];exact J,λl f=>I.lst s (S.append r2) f⟩))
   .rw[l_ J]at I;exact I.stuck
  |_=>exact aF.stuck p
 |tup ds=>
  cases b with
  |tup es=>
   obtain⟨a,xs,e1,Y,S⟩:=d;obtain⟨b,ys,e2,U,r2⟩:=c;have I:aF X.K W e_ F H (if ds.length+es.length<=o_ then .ok (.tup (ds++es))else stk) Q:=p;by_cases J:ds.length+es.length<=o_
   .rw[n_ J]at I;refine .inr (.inr (.inr ⟨a,b,xs,ys,e1,e2,s.tup Y,s.tup U,by rw[S.length,r2.length];exact J,λe=>?_,λe=>?_,λl f=>I.tup s (S.append r2) f⟩))
    .have z:ds=[]:=by have:=S.length;rw[e]at this;exact GC.mp this.symm
     subst z;exact I.same s ⟨b,ys,rfl,U,r2⟩
    .have z:es=[]:=by have:=r2.length;rw[e]at this;exact GC.mp this.symm
     subst z;rw[DB]at I;exact I.same s ⟨a,xs,rfl,Y,S⟩
   .rw[l_ J]at I;exact I.stuck
  |_=>exact aF.stuck p
 |_=>exact aF.stuck p
def o_notN:Op2 K W own X (DQ .IsNot) yU:=op_notN.imp λx y H Q h=>by
 obtain⟨F,a,b,s,I,J,p⟩:=h;have key:∀{k:Bool},yU a b=.ok (.bl k)->b=.non->((!decide (x=V.non))=k)->y=V.non/\Q (.bl (!decide (x=V.non))) H:=λ{k} e1 e2 e3=>by subst e2;rw[e1]at p;rw[e3];exact⟨J,p.bl s⟩
 cases b with
 |non=>
  cases a with
  |non=>exact key rfl rfl (by rw[show x=.non from I];rfl)|bl k=>exact key rfl rfl (by rw[show x=.bl k from I];rfl)|int k=>exact key rfl rfl (by rw[show x=.int k from I];rfl)|str k=>exact key rfl rfl (by rw[show x=.str k from I];rfl)|tup ds=>obtain⟨l,xs,e,_⟩:=I;exact key rfl rfl (by rw[e];rfl)
  |lst ds=>obtain⟨l,xs,e,_⟩:=I;exact key rfl rfl (by rw[e];rfl)
  |ins C fs=>obtain⟨l,dx,xs,e,_⟩:=I;exact key rfl rfl (by rw[e];rfl)
  |dic ks=>obtain⟨l,xs,e,_⟩:=I;exact key rfl rfl (by rw[e];rfl)
  |dil ks=>obtain⟨l,xs,e,_⟩:=I;exact key rfl rfl (by rw[e];rfl)
 |_=>cases a<;>exact aF.stuck p
def BB{ds:List A'}{xs:aB}{i:Int}(p:aF K W c_ F H (jL ds i) Q)(s:aK F H)(r:ay K F ds xs):∃v,atI xs i=a_ v/\Q v H:=by
 unfold jL at p;cases e:atI ds i with
 |none=>rw[e]at p;exact aF.stuck p|some d=>
  rw[e]at p;unfold atI at e;cases I:ixN ds.length i with
  |none=>rw[I]at e;cases e|some j=>
   rw[I]at e;obtain⟨v,e1,q⟩:=r.get (show ds[j]?=a_ d from e);refine⟨v,?_,p v F H (B4.refl s) q⟩
   unfold atI;rw[r.length,I];exact e1
def gQ(Y: ~~~(X.K=K)):IxR X (rD2 K W c_ ixD):=by
 subst Y;refine ix_seq.imp λx y H Q h=>?_;obtain⟨F,a,b,s,U,S,p⟩:=h;cases a with
 |lst ds=>
  cases b with
  |int i=>obtain⟨a,xs,e1,I,J⟩:=U;obtain⟨v,e2,q⟩:=BB p s J;exact .inl ⟨a,xs,i,v,e1,S,s.lst I,e2,q⟩
  |_=>exact aF.stuck p
 |tup ds=>
  cases b with
  |int i=>obtain⟨a,xs,e1,I,J⟩:=U;obtain⟨v,e2,q⟩:=BB p s J;exact .inr (.inl ⟨a,xs,i,v,e1,S,s.tup I,e2,q⟩)
  |_=>exact aF.stuck p
 |_=>exact aF.stuck p
def lV(I: ~~~(X.K=K)):ky K W own X (.builtin "len") xf:=by
 subst I;refine iQ.imp λxs H Q h=>?_;obtain⟨F,ds,s,q,p⟩:=h;cases ds with
 |nil=>exact aF.stuck p|cons d ds=>
  cases ds with
  |cons _ _=>cases d<;>exact aF.stuck p
  |nil=>
   obtain⟨v,vs,e,q,e2⟩:=q;cases d with
   |lst es=>
    obtain⟨a,ys,e1,t,r⟩:=q;refine⟨a,ys,by rw[e,e1,show vs=[]from e2],.inl (s.lst t),?_⟩
    rw[r.length];exact aF.int (own:=own) p s
   |tup es=>
    obtain⟨a,ys,e1,t,r⟩:=q;refine⟨a,ys,by rw[e,e1,show vs=[]from e2],.inr (s.tup t),?_⟩
    rw[r.length];exact aF.int (own:=own) p s
   |_=>exact aF.stuck p
end
section
variable{W:cp}{own:Bool}
def iy{g:List A'->M A'}(I:∀ds,(∃d,ds=[d])\/g ds=stk){xs:aB}(h:rDL K W own g xs H Q):∃F d x,aK F H/\xs=[x]/\aR K F d x/\aF K W own F H (g [d]) Q:=by
 obtain⟨F,ds,s,q,p⟩:=h;rcases I ds with⟨d,rfl⟩|e
 .obtain⟨v,vs,e,q1,e2⟩:=q;exact⟨F,d,v,s,by rw[e,show vs=[]from e2],q1,p⟩
 .rw[e]at p;exact p.stuck
def Ai{g:List A'->M A'}(J:∀ds,(∃d,ds=[d])\/(∃d e,ds=[d,e])\/g ds=stk){xs:aB}(h:rDL K W own g xs H Q):(∃F d x,aK F H/\xs=[x]/\aR K F d x/\aF K W own F H (g [d]) Q)\/∃F d e x y,aK F H/\xs=[x,y]/\aR K F d x/\aR K F e y/\aF K W own F H (g [d,e]) Q:=by
 obtain⟨F,ds,s,q,p⟩:=h;rcases J ds with⟨d,rfl⟩|⟨d,e,rfl⟩|e
 .obtain⟨v,vs,e,q1,e2⟩:=q;exact .inl ⟨F,d,v,s,by rw[e,show vs=[]from e2],q1,p⟩
 .obtain⟨v,vs,e1,q1,w,I,e2,q2,e3⟩:=q;exact .inr ⟨F,d,e,v,w,s,by rw[e1,e2,show I=[]from e3],q1,q2,p⟩
 .rw[e]at p;exact p.stuck
theorem qp{F:Hp}:∀{ds:List A'} {xs:aB} {bs:List Bool},ay K F ds xs->eK ds=.ok bs->xs=bs.map V.bl
 |[],_,_,q,e=>by cases e;exact q|d::ds,_,bs,⟨v,vs,e1,q,r⟩,e=>by
  cases d with
  |bl b=>
   cases e2:eK ds with
   |error x=>simp only[eK,asB,ai,e2,gZ]at e;cases e|ok cs=>simp only[eK,asB,ai,e2]at e;cases e;rw[e1,show v=.bl b from q,qp r e2];rfl
  |_=>cases e
theorem qq:∀{ds:List A'} {e:Err},eK ds=.error e->e=.stuck
 |[],_,h=>by cases h|d::ds,e,h=>by
  cases d with
  |bl b=>
   cases e2:eK ds with
   |error x=>simp only[eK,asB,ai,e2,gZ]at h;cases h;exact qq e2|ok cs=>simp only[eK,asB,ai,e2]at h;cases h
  |_=>cases h;rfl
theorem eE{F:Hp}:∀{ds:List A'} {xs:aB} {bs:am},ay K F ds xs->cA ds=.ok bs->xs=bs.map V.int
 |[],_,_,q,e=>by cases e;exact q|d::ds,_,bs,⟨v,vs,e1,q,r⟩,e=>by
  cases d with
  |int b=>
   cases e2:cA ds with
   |error x=>simp only[cA,asI,ai,e2,gZ]at e;cases e|ok cs=>simp only[cA,asI,ai,e2]at e;cases e;rw[e1,show v=.int b from q,eE r e2];rfl
  |_=>cases e
theorem fy:∀{ds:List A'} {e:Err},cA ds=.error e->e=.stuck
 |[],_,h=>by cases h|d::ds,e,h=>by
  cases d with
  |int b=>
   cases e2:cA ds with
   |error x=>simp only[cA,asI,ai,e2,gZ]at h;cases h;exact fy e2|ok cs=>simp only[cA,asI,ai,e2]at h;cases h
  |_=>cases h;rfl
def Co(J:X.calm=e_)(S: ~~~(X.K=K)):ky K W own X (.builtin "all") allD:=by
 subst S;refine(call_all J).imp λxs H Q h=>?_;obtain⟨F,d,x,s,e,q,p⟩:=iy (λds=>by match ds with|[d]=>exact .inl ⟨d,rfl⟩|[]=>exact .inr rfl|a::b::c=>exact .inr (by cases a<;>rfl)) h;cases d with
 |lst ds=>
  obtain⟨a,ys,e1,t,r⟩:=q;have I:aF X.K W own F H ((eK ds).bind λbs=>.ok (.bl (bs.all id))) Q:=p;cases eb:eK ds with
  |error z=>rw[eb]at I;have:=qq eb;subst this;exact aF.stuck I|ok bs=>
   rw[eb]at I;refine⟨a,bs,by rw[e,e1],?_,aF.bl (own:=own) I s⟩
   rw[<- qp r eb];exact s.lst t
 |_=>exact aF.stuck p
def xY(J: ~~~(X.K=K)):ky K W e_ X (.type "list") jY:=by
 subst J;refine uy.imp λxs H Q h=>?_;obtain⟨F,d,x,s,e,q,p⟩:=iy (λds=>by match ds with|[d]=>exact .inl ⟨d,rfl⟩|[]=>exact .inr rfl|a::b::c=>exact .inr (by cases a<;>rfl)) h;cases d with
 |lst ds=>obtain⟨a,ys,e1,t,r⟩:=q;exact⟨a,ys,by rw[e,e1],.inl (s.lst t),λl I=>aF.lst p s r I⟩
 |tup ds=>obtain⟨a,ys,e1,t,r⟩:=q;exact⟨a,ys,by rw[e,e1],.inr (s.tup t),λl I=>aF.lst p s r I⟩
 |_=>exact aF.stuck p
def rV(J: ~~~(X.K=K)):ky K W own X (.type "tuple") lu:=by
 subst J;refine rR.imp λxs H Q h=>?_;obtain⟨F,d,x,s,e,q,p⟩:=iy (λds=>by match ds with|[d]=>exact .inl ⟨d,rfl⟩|[]=>exact .inr rfl|a::b::c=>exact .inr (by cases a<;>rfl)) h;cases d with
 |lst ds=>obtain⟨a,ys,e1,t,r⟩:=q;exact⟨a,ys,by rw[e,e1],.inl ⟨s.lst t,λl I=>aF.tup p s r I⟩⟩
 |tup ds=>obtain⟨a,ys,e1,t,r⟩:=q;subst e1;exact⟨a,ys,e,.inr ⟨s.tup t,aF.same (own:=own) p s ⟨a,ys,rfl,t,r⟩⟩⟩
 |_=>exact aF.stuck p
def c_int:ky K W own X (.type "int") intD:=Ci.imp λxs H Q h=>by
 obtain⟨F,d,x,s,e,q,p⟩:=iy (λds=>by match ds with|[d]=>exact .inl ⟨d,rfl⟩|[]=>exact .inr rfl|a::b::c=>exact .inr (by cases a<;>rfl)) h;cases d with
 |int i=>exact .inl ⟨i,by rw[e,show x=.int i from q],aF.int (own:=own) p s⟩|bl b=>exact .inr ⟨b,by rw[e,show x=.bl b from q],aF.int (own:=own) p s⟩|_=>exact aF.stuck p
theorem fold_max:∀(is:am) (i:Int),(is.foldl oi i=i\/is.foldl oi i∈is)/\i<=is.foldl oi i/\∀a∈is,a<=is.foldl oi i
 |[],i=>⟨.inl rfl,Eu _,λ_ h=>nomatch h⟩
 |j::is,i=>by
  obtain⟨h1,h2,J⟩:=fold_max is (oi i j);have z:(oi i j=i\/oi i j=j)/\i<=oi i j/\j<=oi i j:=by unfold oi;split<;>(refine⟨?_,?_,?_⟩<;>first|exact .inl rfl|exact .inr rfl|lia)
  rw[Dy];refine⟨?_,JV z.2.1 h2,λa I=>?_⟩
  .rcases h1 with h1|h1
   .rw[h1];rcases z.1 with z|z
    .exact .inl z
    .exact .inr (by rw[z];exact CW)
   .exact .inr (CS _ h1)
  .rcases r_.mp I with e|e
   .rw[e];exact JV z.2.2 h2
   .exact J a e
theorem fold_min:∀(is:am) (i:Int),(is.foldl mn i=i\/is.foldl mn i∈is)/\is.foldl mn i<=i/\∀a∈is,is.foldl mn i<=a
 |[],i=>⟨.inl rfl,Eu _,λ_ h=>nomatch h⟩
 |j::is,i=>by
  obtain⟨h1,h2,J⟩:=fold_min is (mn i j);have z:(mn i j=i\/mn i j=j)/\mn i j<=i/\mn i j<=j:=by unfold mn;split<;>(refine⟨?_,?_,?_⟩<;>first|exact .inl rfl|exact .inr rfl|lia)
  rw[Dy];refine⟨?_,JV h2 z.2.1,λa I=>?_⟩
  .rcases h1 with h1|h1
   .rw[h1];rcases z.1 with z|z
    .exact .inl z
    .exact .inr (by rw[z];exact CW)
   .exact .inr (CS _ h1)
  .rcases r_.mp I with e|e
   .rw[e];exact JV h2 z.2.2
   .exact J a e
theorem vy{is:am}{i m:Int}(h1:m∈i::is)(h2:∀a∈i::is,a<=m):is.foldl oi i=m:=by
 obtain⟨J,g2,I⟩:=fold_max is i;have U:is.foldl oi i<=m:=by
  rcases J with g|g
  .rw[g];exact h2 i CW
  .exact h2 _ (CS _ g)
 have S:m<=is.foldl oi i:=by
  rcases r_.mp h1 with e|e
  .rw[e];exact g2
  .exact I m e
 lia
theorem vx{is:am}{i m:Int}(h1:m∈i::is)(h2:∀a∈i::is,m<=a):is.foldl mn i=m:=by
 obtain⟨J,g2,I⟩:=fold_min is i;have U:m<=is.foldl mn i:=by
  rcases J with g|g
  .rw[g];exact h2 i CW
  .exact h2 _ (CS _ g)
 have S:is.foldl mn i<=m:=by
  rcases r_.mp h1 with e|e
  .rw[e];exact g2
  .exact I m e
 lia
theorem Cf(g:X.calm=e_):cH X (.builtin "max") (λxs H Q=>∃a i is,xs=[.ref a]/\SqL X.K H a ((i::is).map V.int)/\Q (.int (is.foldl oi i)) H):=by
 intro B2 s σ H xs us Q I r h;obtain⟨a,i,is,rfl,c,q⟩:=h;obtain⟨u,rfl,b⟩:=r.one;cases b;obtain⟨its,Y,p,l⟩:=I.list c;have hi:=intsAre_of Y;obtain⟨xs,e⟩:=hi.allInts.items;have J:i::is=xs.toList.map (·.1):=by rw[<- hi.numsOf,<- LI,<- e]
 have hsz:0<xs.size:=by have k:=Gx Ka J;simp at k;lia
 have S:=p.isList;rw[e]at S;refine max_intList (I.ok.hd g) S hsz λv h' tk hv d=>?_;obtain⟨t,rfl⟩:=MS hv;obtain⟨h1,h2⟩:=argBest_gt (KU xs) (xs.size-1);refine⟨.int _,H,I.kept d,⟨t,rfl⟩,?_⟩
 have:=vy (is:=is) (i:=i) (m:=KU xs (argBest (λi j=>CL (KU xs i>KU xs j)) (xs.size-1))) (by
   rw[J,MR];exact getD_mem (by rw[q_,DF];lia)) (λa U=>by
   rw[J]at U;obtain⟨j,f,rfl⟩:=mem_getD U;rw[q_,DF]at f;rw[<- MR];exact h2 j ac)
 rw[<- this];exact q
theorem Cd(g:X.calm=e_):cH X (.builtin "min") (λxs H Q=>∃a i is,xs=[.ref a]/\SqL X.K H a ((i::is).map V.int)/\Q (.int (is.foldl mn i)) H):=by
 intro B2 s σ H xs us Q I r h;obtain⟨a,i,is,rfl,c,q⟩:=h;obtain⟨u,rfl,b⟩:=r.one;cases b;obtain⟨its,Y,p,l⟩:=I.list c;have hi:=intsAre_of Y;obtain⟨xs,e⟩:=hi.allInts.items;have J:i::is=xs.toList.map (·.1):=by rw[<- hi.numsOf,<- LI,<- e]
 have hsz:0<xs.size:=by have k:=Gx Ka J;simp at k;lia
 have S:=p.isList;rw[e]at S;refine min_intList (I.ok.hd g) S hsz λv h' tk hv d=>?_;obtain⟨t,rfl⟩:=MS hv;obtain⟨h1,h2⟩:=argBest_lt (KU xs) (xs.size-1);refine⟨.int _,H,I.kept d,⟨t,rfl⟩,?_⟩
 have:=vx (is:=is) (i:=i) (m:=KU xs (argBest (λi j=>CL (KU xs i<KU xs j)) (xs.size-1))) (by
   rw[J,MR];exact getD_mem (by rw[q_,DF];lia)) (λa U=>by
   rw[J]at U;obtain⟨j,f,rfl⟩:=mem_getD U;rw[q_,DF]at f;rw[<- MR];exact h2 j ac)
 rw[<- this];exact q
def c_max(J:X.calm=e_)(U: ~~~(X.K=K)):ky K W own X (.builtin "max") maxD:=by
 subst U;refine((Cg J).or (Cf J)).imp λxs H Q h=>?_;rcases Ai (λds=>by match ds with|[d]=>exact .inl ⟨d,rfl⟩|[d,e]=>exact .inr (.inl ⟨d,e,rfl⟩)|[]=>exact .inr (.inr rfl)|a::b::c::d=>exact .inr (.inr (by cases a<;>cases b<;>rfl))) h with⟨F,d,x,s,e,q,p⟩|⟨F,d,S,x,y,s,e,q,q2,p⟩
 .cases d with
  |lst ds=>
   obtain⟨a,ys,e1,t,r⟩:=q;have I:aF X.K W own F H ((cA ds).bind maxL) Q:=p;cases eb:cA ds with
   |error z=>rw[eb]at I;have:=fy eb;subst this;exact aF.stuck I|ok is=>
    rw[eb]at I;cases is with
    |nil=>exact aF.stuck I|cons i is=>refine .inr ⟨a,i,is,by rw[e,e1],?_,aF.int (own:=own) I s⟩;rw[<- eE r eb];exact s.lst t
  |_=>exact aF.stuck p
 .cases d with
  |int i=>
   cases S with
   |int j=>exact .inl ⟨i,j,by rw[e,show x=.int i from q,show y=.int j from q2],aF.int (own:=own) p s⟩|_=>exact aF.stuck p
  |_=>cases S<;>exact aF.stuck p
def c_min(J:X.calm=e_)(U: ~~~(X.K=K)):ky K W own X (.builtin "min") minD:=by
 subst U;refine((Ce J).or (Cd J)).imp λxs H Q h=>?_;rcases Ai (λds=>by match ds with|[d]=>exact .inl ⟨d,rfl⟩|[d,e]=>exact .inr (.inl ⟨d,e,rfl⟩)|[]=>exact .inr (.inr rfl)|a::b::c::d=>exact .inr (.inr (by cases a<;>cases b<;>rfl))) h with⟨F,d,x,s,e,q,p⟩|⟨F,d,S,x,y,s,e,q,q2,p⟩
 .cases d with
  |lst ds=>
   obtain⟨a,ys,e1,t,r⟩:=q;have I:aF X.K W own F H ((cA ds).bind minL) Q:=p;cases eb:cA ds with
   |error z=>rw[eb]at I;have:=fy eb;subst this;exact aF.stuck I|ok is=>
    rw[eb]at I;cases is with
    |nil=>exact aF.stuck I|cons i is=>refine .inr ⟨a,i,is,by rw[e,e1],?_,aF.int (own:=own) I s⟩;rw[<- eE r eb];exact s.lst t
  |_=>exact aF.stuck p
 .cases d with
  |int i=>
   cases S with
   |int j=>exact .inl ⟨i,j,by rw[e,show x=.int i from q,show y=.int j from q2],aF.int (own:=own) p s⟩|_=>exact aF.stuck p
  |_=>cases S<;>exact aF.stuck p
end
theorem SqL.inj{B2:Pn}{σ:St}{H:Hp}{s:k_}{a:i_}{xs ys:aB}(I:B6 X B2 σ H s)(h:SqL X.K H a xs)(h':SqL X.K H a ys):xs=ys:=by
 obtain⟨Y,S,p1,_⟩:=I.list h;obtain⟨U,r2,p2,_⟩:=I.list h';obtain⟨o,n,e,_,_,d⟩:=p1;obtain⟨o',b,J,_,_,d'⟩:=p2;rw[e]at J;cases J;rw[d]at d';injection d' with d1 _
 have:Y=U:=by simpa using Gx JB d1
 subst this;exact S.inj r2
theorem SqT.inj{B2:Pn}{σ:St}{H:Hp}{s:k_}{a:i_}{xs ys:aB}(I:B6 X B2 σ H s)(h:SqT X.K H a xs)(h':SqT X.K H a ys):xs=ys:=by
 obtain⟨Y,S,p1,_⟩:=I.tuple h;obtain⟨U,r2,p2,_⟩:=I.tuple h';obtain⟨o,e,_,n,d⟩:=p1;obtain⟨o',J,_,b,d'⟩:=p2;rw[e]at J;cases J;rw[d]at d';injection d' with d1 _
 have:Y=U:=by simpa using Gx JB d1
 subst this;exact S.inj r2
def ay.all_eq{F:Hp}(e:Nat->Bool):∀{ds es:List A'},ds.length=es.length->(∀(j:Nat) a b,ds[j]?=a_ a->es[j]?=a_ b->e j=eqD a b)->(CU ds.length).all e=xA ds es:=by
 intro ds
 induction ds generalizing e with
 |nil=>intro es h _;cases es with
  |nil=>rfl|cons _ _=>simp at h
 |cons d ds I=>
  intro es h q;cases es with
  |nil=>simp at h|cons b es=>
   rw[CG,FQ,List.all_cons,NS,xA];rw[q 0 d b rfl rfl]
   congr 1
   exact I (e∘Nat.succ) (by simpa using h) λj x y S J=>q (j+1) x y (by simpa using S) (by simpa using J)
theorem mC:∀{ds es:List A'},ds.length≠es.length->xA ds es=c_
 |[],[],h=>CQ rfl h|[],_::_,_=>rfl|_::_,[],_=>rfl|d::ds,e::es,h=>by rw[xA,mC (ds:=ds) (es:=es) (λz=>h (by simp[z])),KC]
theorem xy(e:Nat->Bool):∀{ds es:List A'},(∀(j:Nat) a b,ds[j]?=a_ a->es[j]?=a_ b->e j=eqD a b)->((CU (J_ ds.length es.length)).all e&&ds.length==es.length)=xA ds es:=by
 intro ds es q;by_cases I:ds.length=es.length
 .have e1:J_ ds.length es.length=ds.length:=ac
  rw[e1,ay.all_eq (F:=λ_=>f_) e I q,I,beq_self_eq_true,Ny]
 .rw[mC I];have:(ds.length==es.length)=c_:=by simpa using I
  rw[this,KC]
mutual
theorem mD:∀{d:A'} {n:Nat},G' d n=e_->eqD d d=e_
 |.non,_,_=>rfl|.bl b,_,_=>by simp[eqD]|.int i,_,_=>by simp[eqD]|.str x,_,_=>by simp[eqD]|.tup ds,0,h=>by simp[G']at h|.tup ds,n+1,h=>by simp only[G']at h;simp only[eqD];exact nE h|.lst ds,0,h=>by simp[G']at h|.lst ds,n+1,h=>by simp only[G']at h;simp only[eqD];exact nE h|.ins _ _,_,h=>by simp[G']at h|.dic _,_,h=>by simp[G']at h|.dil _,_,h=>by simp[G']at h
theorem nE:∀{ds:List A'} {n:Nat},mj ds n=e_->xA ds ds=e_
 |[],_,_=>rfl|d::ds,n,h=>by simp only[mj,A_]at h;simp only[xA,mD h.1,nE h.2,Bool.and_self]
end
theorem qT:∀{ds:List A'} {n i:Nat} {d:A'},mj ds n=e_->ds[i]?=a_ d->G' d n=e_
 |[],_,_,_,_,h=>by simp at h|_::_,_,0,_,h,e=>by simp only[mj,A_]at h;simp at e;rw[<- e];exact h.1|_::_,_,i+1,_,h,e=>by simp only[mj,A_]at h;exact qT h.2 (by simpa using e)
def jb(ds es:List A')(j:Nat):Bool:=match ds[j]?,es[j]? with
 |some a,a_ b=>eqD a b|_,_=>e_
inductive Sh(s:k_):A'->g_->Prop
 |non:Sh s .non .none
 |bl (b:Bool):Sh s (.bl b) (.bool b)
 |int (i:Int) (t:Nat):Sh s (.int i) (.int i t)
 |str (x:C_) (t:Nat):Sh s (.str x) (.str x t)
 |tup {ds:List A'} {l:i_} {is:Array g_} (p:s.heap.IsTuple l is):Sh s (.tup ds) (.ref l)
 |lst {ds:List A'} {l:i_} {is:Array g_} (p:s.heap.IsList l is):Sh s (.lst ds) (.ref l)
noncomputable def sq:A'->A'->Bool
 |.tup _,.tup _=>e_|.lst _,.lst _=>e_|_,_=>c_
def sI{a b:A'}(h:sq a b=e_):(∃ds es,a=.tup ds/\b=.tup es)\/∃ds es,a=.lst ds/\b=.lst es:=by
 unfold sq at h;split at h
 .exact .inl ⟨_,_,rfl,rfl⟩
 .exact .inr ⟨_,_,rfl,rfl⟩
 .cases h
def eqAt_U{s:k_}{a b:A'}{v:g_}(U:Sh s a u)(S:Sh s b v)(J:A.units<DV):sq a b=e_\/Ie A s u v (eqD a b):=match U,S with
 |.non,.non=>.inr (.same _)|.non,.bl b=>.inr (.none_bool b)|.non,.int b I=>.inr (.none_int b I)|.non,.str b I=>.inr (.none_str b I)|.non,.tup q=>.inr (.none_tuple q J)|.non,.lst q=>.inr (.none_list q J)|.bl a,.non=>.inr (.bool_none a)|.bl a,.bl b=>.inr (.bool_bool a b)|.bl a,.int b I=>.inr (.bool_int a b I)|.bl a,.str b I=>.inr (.bool_str a b I)|.bl a,.tup q=>.inr (.bool_tuple a q J)|.bl a,.lst q=>.inr (.bool_list a q J)|.int a t,.non=>.inr (.int_none a t)|.int a t,.bl b=>.inr (.int_bool a t b)|.int a t,.int b I=>.inr (.int_int a t b I)|.int a t,.str b I=>.inr (.int_str a t b I)|.int a t,.tup q=>.inr (.int_tuple a t q J)|.int a t,.lst q=>.inr (.int_list a t q J)|.str a t,.non=>.inr (.str_none a t)|.str a t,.bl b=>.inr (.str_bool a t b)|.str a t,.int b I=>.inr (.str_int a t b I)|.str a t,.str b I=>.inr (.str_str a t b I)|.str a t,.tup q=>.inr (.str_tuple a t q J)|.str a t,.lst q=>.inr (.str_list a t q J)|.tup p,.non=>.inr (.tuple_none p J)|.tup p,.bl b=>.inr (.tuple_bool b p J)|.tup p,.int b I=>.inr (.tuple_int b I p J)|.tup p,.str b I=>.inr (.tuple_str b I p J)|.tup _,.tup _=>.inl rfl|.tup p,.lst q=>.inr (.tuple_list p q J)|.lst p,.non=>.inr (.list_none p J)|.lst p,.bl b=>.inr (.list_bool b p J)|.lst p,.int b I=>.inr (.list_int b I p J)|.lst p,.str b I=>.inr (.list_str b I p J)|.lst p,.tup q=>.inr (.list_tuple p q J)|.lst _,.lst _=>.inl rfl
def rcAt_U{s:k_}{a b:A'}{v:g_}(U:Sh s a u)(S:Sh s b v)(J:A.units<DV):sq a b=e_\/LN A s u v (eqD a b):=match U,S with
 |.non,.non=>.inr (.none_none)|.non,.bl b=>.inr (.none_bool b)|.non,.int b I=>.inr (.none_int b I)|.non,.str b I=>.inr (.none_str b I)|.non,.tup q=>.inr (.none_tuple q J)|.non,.lst q=>.inr (.none_list q J)|.bl a,.non=>.inr (.bool_none a)|.bl a,.bl b=>.inr (.bool_bool a b)|.bl a,.int b I=>.inr (.bool_int a b I)|.bl a,.str b I=>.inr (.bool_str a b I)|.bl a,.tup q=>.inr (.bool_tuple a q J)|.bl a,.lst q=>.inr (.bool_list a q J)|.int a t,.non=>.inr (.int_none a t)|.int a t,.bl b=>.inr (.int_bool a t b)|.int a t,.int b I=>.inr (.int_int a t b I)|.int a t,.str b I=>.inr (.int_str a t b I)|.int a t,.tup q=>.inr (.int_tuple a t q J)|.int a t,.lst q=>.inr (.int_list a t q J)|.str a t,.non=>.inr (.str_none a t)|.str a t,.bl b=>.inr (.str_bool a t b)|.str a t,.int b I=>.inr (.str_int a t b I)|.str a t,.str b I=>.inr (.str_str a t b I)|.str a t,.tup q=>.inr (.str_tuple a t q J)|.str a t,.lst q=>.inr (.str_list a t q J)|.tup p,.non=>.inr (.tuple_none p J)|.tup p,.bl b=>.inr (.tuple_bool b p J)|.tup p,.int b I=>.inr (.tuple_int b I p J)|.tup p,.str b I=>.inr (.tuple_str b I p J)|.tup _,.tup _=>.inl rfl|.tup p,.lst q=>.inr (.tuple_list p q J)|.lst p,.non=>.inr (.list_none p J)|.lst p,.bl b=>.inr (.list_bool b p J)|.lst p,.int b I=>.inr (.list_int b I p J)|.lst p,.str b I=>.inr (.list_str b I p J)|.lst p,.tup q=>.inr (.list_tuple p q J)|.lst _,.lst _=>.inl rfl
def rcNeAt_U{s:k_}{a b:A'}{v:g_}(U:Sh s a u)(S:Sh s b v)(J:A.units<DV):sq a b=e_\/K5 A s u v (!eqD a b):=match U,S with
 |.non,.non=>.inr (.none_none)|.non,.bl b=>.inr (.none_bool b)|.non,.int b I=>.inr (.none_int b I)|.non,.str b I=>.inr (.none_str b I)|.non,.tup q=>.inr (.none_tuple q J)|.non,.lst q=>.inr (.none_list q J)|.bl a,.non=>.inr (.bool_none a)|.bl a,.bl b=>.inr (.bool_bool a b)|.bl a,.int b I=>.inr (.bool_int a b I)|.bl a,.str b I=>.inr (.bool_str a b I)|.bl a,.tup q=>.inr (.bool_tuple a q J)|.bl a,.lst q=>.inr (.bool_list a q J)|.int a t,.non=>.inr (.int_none a t)|.int a t,.bl b=>.inr (.int_bool a t b)|.int a t,.int b I=>.inr (.int_int a t b I)|.int a t,.str b I=>.inr (.int_str a t b I)|.int a t,.tup q=>.inr (.int_tuple a t q J)|.int a t,.lst q=>.inr (.int_list a t q J)|.str a t,.non=>.inr (.str_none a t)|.str a t,.bl b=>.inr (.str_bool a t b)|.str a t,.int b I=>.inr (.str_int a t b I)|.str a t,.str b I=>.inr (.str_str a t b I)|.str a t,.tup q=>.inr (.str_tuple a t q J)|.str a t,.lst q=>.inr (.str_list a t q J)|.tup p,.non=>.inr (.tuple_none p J)|.tup p,.bl b=>.inr (.tuple_bool b p J)|.tup p,.int b I=>.inr (.tuple_int b I p J)|.tup p,.str b I=>.inr (.tuple_str b I p J)|.tup _,.tup _=>.inl rfl|.tup p,.lst q=>.inr (.tuple_list p q J)|.lst p,.non=>.inr (.list_none p J)|.lst p,.bl b=>.inr (.list_bool b p J)|.lst p,.int b I=>.inr (.list_int b I p J)|.lst p,.str b I=>.inr (.list_str b I p J)|.lst p,.tup q=>.inr (.list_tuple p q J)|.lst _,.lst _=>.inl rfl
section
variable{s:k_}
def sN(I:B6 X B2 σ H s)(J:aK F H){x:V}(o:G' d n=e_)(q:aR X.K F d x)(r:C' x u):Sh s d u:=by
 cases d with
 |non=>cases(show x=.non from q);cases r;exact .non|bl b=>cases(show x=.bl b from q);cases r;exact .bl b|int i=>cases(show x=.int i from q);obtain⟨t,rfl⟩:=r;exact .int i t
 |str y=>cases(show x=.str y from q);obtain⟨t,rfl⟩:=r;exact .str y t
 |tup ds=>obtain⟨l,xs,e,t,_⟩:=q;subst e;cases r;obtain⟨is,_,p,_⟩:=I.tuple (J.tup t);exact .tup (show s.heap.IsTuple l is.toArray from p)
 |lst ds=>obtain⟨l,xs,e,t,_⟩:=q;subst e;cases r;obtain⟨is,_,p,_⟩:=I.list (J.lst t);exact .lst p.isList
 |_=>simp[G']at o
theorem nJ{n:Nat}(S:∀(d e:A') {v:V},aR X.K F d v->aR X.K F e v->G' d n=e_->G' e n=e_->d=e):∀(ds es:List A') {xs:aB},ay X.K F ds xs->ay X.K F es xs->mj ds n=e_->mj es n=e_->ds=es
 |[],[],_,_,_,_,_=>rfl|[],_::_,_,q,⟨_,_,e,_⟩,_,_=>by rw[show _=[]from q]at e;cases e|_::_,[],_,⟨_,_,e,_⟩,q,_,_=>by rw[show _=[]from q]at e;cases e|d::ds,e::es,_,⟨v,vs,e1,q1,U⟩,⟨w,Y,e2,q2,r2⟩,J,I=>by rw[e1]at e2;cases e2;simp only[mj,A_]at J I;rw[S d e q1 q2 J.1 I.1,nJ S ds es U r2 J.2 I.2]
def mG{e:A'}(hd:sq d d=c_)(q:aR X.K F d v)(r:aR X.K F e v)(J:G' d n=e_)(I:G' e n=e_):d=e:=by
 cases d<;>first|(cases hd;done)|(simp[G']at J;done)|(simp only[aR]at q;subst q)
 all_goals cases e<;>first|(simp[G']at I;done)|(simp only[aR]at r;first|(obtain⟨_,_,z,_⟩:=r;cases z;done)|(cases r<;>rfl))
theorem rJ(I:B6 X B2 σ H s)(U:aK F H):∀(n:Nat) (d e:A') {v:V},aR X.K F d v->aR X.K F e v->G' d n=e_->G' e n=e_->d=e
 |n,.tup ds,e,v,⟨l,xs,e1,h1,Y⟩,r,J,S=>by
  subst e1;cases n with
  |zero=>simp[G']at J|succ n=>
   cases e with
   |tup es=>obtain⟨a,ys,e2,h2,r2⟩:=r;cases e2;cases SqT.inj I (U.tup h1) (U.tup h2);rw[nJ (rJ I U n) _ _ Y r2 (by simpa only[G'] using J) (by simpa only[G'] using S)]
   |lst es=>obtain⟨a,ys,e2,h2,r2⟩:=r;cases e2;obtain⟨c,_,p1,_⟩:=I.list (U.lst h2);obtain⟨b,_,p2,_⟩:=I.tuple (U.tup h1);exact CQ rfl (K4 p1.isList (show s.heap.IsTuple l b.toArray from p2))
   |_=>first|(simp[G']at S;done)|(simp only[aR]at r;cases r)
 |n,.lst ds,e,v,⟨l,xs,e1,h1,Y⟩,r,J,S=>by
  subst e1;cases n with
  |zero=>simp[G']at J|succ n=>
   cases e with
   |lst es=>obtain⟨a,ys,e2,h2,r2⟩:=r;cases e2;cases SqL.inj I (U.lst h1) (U.lst h2);rw[nJ (rJ I U n) _ _ Y r2 (by simpa only[G'] using J) (by simpa only[G'] using S)]
   |tup es=>obtain⟨a,ys,e2,h2,r2⟩:=r;cases e2;obtain⟨c,_,p1,_⟩:=I.list (U.lst h1);obtain⟨b,_,p2,_⟩:=I.tuple (U.tup h2);exact CQ rfl (K4 p1.isList (show s.heap.IsTuple l b.toArray from p2))
   |_=>first|(simp[G']at S;done)|(simp only[aR]at r;cases r)
 |_,.non,_,_,q,r,J,S=>mG rfl q r J S|_,.bl _,_,_,q,r,J,S=>mG rfl q r J S|_,.int _,_,_,q,r,J,S=>mG rfl q r J S|_,.str _,_,_,q,r,J,S=>mG rfl q r J S|_,.ins _ _,_,_,_,_,J,_=>by simp[G']at J|_,.dic _,_,_,_,_,J,_=>by simp[G']at J|_,.dil _,_,_,_,_,J,_=>by simp[G']at J
termination_by n=>n
theorem rcAt_S{a b:A'}{x:V}{v:g_}(I:B6 X B2 σ H s)(d:aK F H)(N:sq a b=e_)(w:aR X.K F a x)(t:aR X.K F b y)(r:C' x u)(p:C' y v)(l:A.units<DV)(C:∀(ds es:List A') (j:Nat) (S J:A') (x y:V) (u v:g_),(a=.tup ds/\b=.tup es\/a=.lst ds/\b=.lst es)->ds[j]?=a_ S->es[j]?=a_ J->aR X.K F S x->aR X.K F J y->C' x u->C' y v->Ie A.in1 s u v (eqD S J)):LN A s u v (eqD a b):=by
 rcases sI N with⟨ds,es,rfl,rfl⟩|⟨ds,es,rfl,rfl⟩
 .skip;obtain⟨B,xs,e1,h1,c⟩:=w;subst e1;cases r;obtain⟨is,Y,p1,_⟩:=I.tuple (d.tup h1);obtain⟨z,ys,e2,h2,r2⟩:=t;subst e2;cases p;obtain⟨k,U,p2,_⟩:=I.tuple (d.tup h2);have G:=Y.length;have E:=U.length;have L:=c.length;have K:=r2.length;have q:=SeqAt.RcAt.tuples (A:=A) (e:=jb ds es) (show s.heap.IsTuple B is.toArray from p1) (show s.heap.IsTuple z k.toArray from p2) l (λj h1 h2=>by
   obtain⟨g,o,m⟩:=Y.atA h1;obtain⟨f,n,g2⟩:=U.atA h2;obtain⟨S,k1,i⟩:=c.at o;obtain⟨J,k2,h⟩:=r2.at n;rw[show jb ds es j=eqD S J by simp only[jb,k1,k2]];exact C ds es j S J g f _ _ (.inl ⟨rfl,rfl⟩) k1 k2 i h m g2)
  rw[show is.toArray.size=ds.length by simp;lia,show k.toArray.size=es.length by simp;lia,xy _ (λj a b h1 h2=>by simp only[jb,h1,h2])]at q;exact q
 .skip;obtain⟨B,xs,e1,h1,c⟩:=w;subst e1;cases r;obtain⟨is,Y,p1,_⟩:=I.list (d.lst h1);obtain⟨z,ys,e2,h2,r2⟩:=t;subst e2;cases p;obtain⟨k,U,p2,_⟩:=I.list (d.lst h2);have G:=Y.length;have E:=U.length;have L:=c.length;have K:=r2.length;by_cases D:ds.length=es.length
  .have q:=SeqAt.RcAt.lists (A:=A) (e:=jb ds es) p1.isList p2.isList (by simp;lia) l (λj h1 h2=>by
   obtain⟨g,o,m⟩:=Y.atA h1;obtain⟨f,n,g2⟩:=U.atA h2;obtain⟨S,k1,i⟩:=c.at o;obtain⟨J,k2,h⟩:=r2.at n;rw[show jb ds es j=eqD S J by simp only[jb,k1,k2]];exact C ds es j S J g f _ _ (.inr ⟨rfl,rfl⟩) k1 k2 i h m g2)
   rw[show is.toArray.size=ds.length by simp;lia,ay.all_eq (F:=F) _ D (λj a b h1 h2=>by simp only[jb,h1,h2])]at q;exact q
  .rw[show eqD (.lst ds) (.lst es)=c_ from mC D];exact SeqAt.RcAt.lists_lengths (A:=A) p1.isList p2.isList (by simp;lia) l
theorem rcNeAt_S{a b:A'}{x:V}{v:g_}(I:B6 X B2 σ H s)(d:aK F H)(N:sq a b=e_)(w:aR X.K F a x)(t:aR X.K F b y)(r:C' x u)(p:C' y v)(l:A.units<DV)(C:∀(ds es:List A') (j:Nat) (S J:A') (x y:V) (u v:g_),(a=.tup ds/\b=.tup es\/a=.lst ds/\b=.lst es)->ds[j]?=a_ S->es[j]?=a_ J->aR X.K F S x->aR X.K F J y->C' x u->C' y v->Ie A.in1 s u v (eqD S J)):K5 A s u v (!eqD a b):=by
 rcases sI N with⟨ds,es,rfl,rfl⟩|⟨ds,es,rfl,rfl⟩
 .skip;obtain⟨B,xs,e1,h1,c⟩:=w;subst e1;cases r;obtain⟨is,Y,p1,_⟩:=I.tuple (d.tup h1);obtain⟨z,ys,e2,h2,r2⟩:=t;subst e2;cases p;obtain⟨k,U,p2,_⟩:=I.tuple (d.tup h2);have G:=Y.length;have E:=U.length;have L:=c.length;have K:=r2.length;have q:=SeqAt.RcNeAt.tuples (A:=A) (e:=jb ds es) (show s.heap.IsTuple B is.toArray from p1) (show s.heap.IsTuple z k.toArray from p2) l (λj h1 h2=>by
   obtain⟨g,o,m⟩:=Y.atA h1;obtain⟨f,n,g2⟩:=U.atA h2;obtain⟨S,k1,i⟩:=c.at o;obtain⟨J,k2,h⟩:=r2.at n;rw[show jb ds es j=eqD S J by simp only[jb,k1,k2]];exact C ds es j S J g f _ _ (.inl ⟨rfl,rfl⟩) k1 k2 i h m g2)
  rw[show is.toArray.size=ds.length by simp;lia,show k.toArray.size=es.length by simp;lia,xy _ (λj a b h1 h2=>by simp only[jb,h1,h2])]at q;exact q
 .skip;obtain⟨B,xs,e1,h1,c⟩:=w;subst e1;cases r;obtain⟨is,Y,p1,_⟩:=I.list (d.lst h1);obtain⟨z,ys,e2,h2,r2⟩:=t;subst e2;cases p;obtain⟨k,U,p2,_⟩:=I.list (d.lst h2);have G:=Y.length;have E:=U.length;have L:=c.length;have K:=r2.length;by_cases D:ds.length=es.length
  .have q:=SeqAt.RcNeAt.lists (A:=A) (e:=jb ds es) p1.isList p2.isList (by simp;lia) l (λj h1 h2=>by
   obtain⟨g,o,m⟩:=Y.atA h1;obtain⟨f,n,g2⟩:=U.atA h2;obtain⟨S,k1,i⟩:=c.at o;obtain⟨J,k2,h⟩:=r2.at n;rw[show jb ds es j=eqD S J by simp only[jb,k1,k2]];exact C ds es j S J g f _ _ (.inr ⟨rfl,rfl⟩) k1 k2 i h m g2)
   rw[show is.toArray.size=ds.length by simp;lia,ay.all_eq (F:=F) _ D (λj a b h1 h2=>by simp only[jb,h1,h2])]at q;exact q
  .rw[show eqD (.lst ds) (.lst es)=c_ from mC D];exact SeqAt.RcNeAt.lists_lengths (A:=A) p1.isList p2.isList (by simp;lia) l
def ok_sub{a b U S:A'}{ds es:List A'}(I:G' a n=e_)(J:G' b n=e_)(h:a=.tup ds/\b=.tup es\/a=.lst ds/\b=.lst es)(k1:ds[j]?=a_ U)(k2:es[j]?=a_ S):∃m,n=m+1/\G' U m=e_/\G' S m=e_:=by
 cases n with
 |zero=>rcases h with⟨rfl,rfl⟩|⟨rfl,rfl⟩<;>simp[G']at I
 |succ m=>exact⟨m,rfl,by rcases h with⟨rfl,rfl⟩|⟨rfl,rfl⟩<;>simp only[G']at I J<;>exact⟨qT I k1,qT J k2⟩⟩
theorem eqAt_N(I:B6 X B2 σ H s)(d:aK F H):∀(n:Nat) (a b:A') {x y:V} {u v:g_} {A:ES},G' a n=e_->G' b n=e_->aR X.K F a x->aR X.K F b y->C' x u->C' y v->A.units+n<DV->Ie A s u v (eqD a b):=by
 intro n
 induction n with
 |zero=>intro a b x y u v A S f J c Y U t;refine(eqAt_U (sN I d S J Y) (sN I d f c U) ac).resolve_left λh=>?_;rcases sI h with⟨ds,es,rfl,rfl⟩|⟨ds,es,rfl,rfl⟩<;>simp[G']at S
 |succ n r=>
  intro a b x y u v A S f J c Y U t;rcases eqAt_U (A:=A) (sN I d S J Y) (sN I d f c U) ac with h|h
  .by_cases g:x=y
   .subst g;cases(show a=b from rJ I d (n+1) a b J c S f);rw[mD S];rcases sI h with⟨ds,es,rfl,_⟩|⟨ds,es,rfl,_⟩<;>(obtain⟨p,xs,e1,_⟩:=J;subst e1;cases Y;cases U;exact SeqAt.EqAt.same _)
   .have q:=rcAt_S (A:=A) I d h J c Y U ac λds es j D C G E L K w k1 k2 o l B g2=>by
     obtain⟨m,e,k,i⟩:=ok_sub S f w k1 k2;cases e;exact r D C k i o l B g2 (by show A.units+1+n<DV;lia)
    rcases sI h with⟨ds,es,rfl,rfl⟩|⟨ds,es,rfl,rfl⟩<;>(obtain⟨p,xs,e1,_⟩:=J;obtain⟨N,ys,e2,_⟩:=c;subst e1;subst e2;cases Y;cases U;exact SeqAt.EqAt.of_refs (λz=>g (by rw[z])) q)
  .exact h
def eqAt_D(I:B6 X B2 σ H s)(f:aK F H)(a b:A'){x:V}{v:g_}(d:G' a n=e_)(c:G' b n=e_)(Y:aR X.K F a x)(U:aR X.K F b y)(S:C' x u)(J:C' y v)(e:A.units+n<DV):Ie A s u v (eqD a b):=eqAt_N I f n a b d c Y U S J e
theorem eqAt_I(I:B6 X B2 σ H s)(h:aK F H){a b:A'}(Y:G' a n=e_)(U:G' b n=e_)(k:A.units+n<DV)(ds es:List A')(j:Nat)(S J:A')(x y:V)(u v:g_)(g:a=.tup ds/\b=.tup es\/a=.lst ds/\b=.lst es)(k1:ds[j]?=a_ S)(k2:es[j]?=a_ J)(f:aR X.K F S x)(e:aR X.K F J y)(i:C' x u)(g2:C' y v):Ie A.in1 s u v (eqD S J):=by obtain⟨m,rfl,d,c⟩:=ok_sub Y U g k1 k2;exact eqAt_D I h S J d c f e i g2 (by show A.units+1+m<DV;lia)
theorem rcAt_D(I:B6 X B2 σ H s)(J:aK F H)(a b:A'){x:V}{v:g_}(e:G' a n=e_)(d:G' b n=e_)(c:aR X.K F a x)(Y:aR X.K F b y)(U:C' x u)(S:C' y v)(f:A.units+n<DV):LN A s u v (eqD a b):=
 (rcAt_U (sN I J e c U) (sN I J d Y S) ac).elim (λh=>rcAt_S I J h c Y U S ac (eqAt_I I J e d f)) id
theorem rcNeAt_D(I:B6 X B2 σ H s)(J:aK F H)(a b:A'){x:V}{v:g_}(e:G' a n=e_)(d:G' b n=e_)(c:aR X.K F a x)(Y:aR X.K F b y)(U:C' x u)(S:C' y v)(f:A.units+n<DV):K5 A s u v (!eqD a b):=
 (rcNeAt_U (sN I J e c U) (sN I J d Y S) ac).elim (λh=>rcNeAt_S I J h c Y U S ac (eqAt_I I J e d f)) id
end
section
variable{W:cp}{own:Bool}
def aF.blS{s:k_}{b:Bool}(p:aF K W own F H (.ok (.bl b)) Q)(J:aK F H)(I:B6 X B2 σ H s):EP X B2 σ Q (.bool b) s:=⟨.bl b,H,I,rfl,p.bl J⟩
theorem yT(f:X.A.units+64<DV)(e: ~~~(X.K=K)):Op2 K W own X (DQ .Eq) eqM:=by
 subst e;intro B2 s σ H x y v u Q I Y U h;obtain⟨F,a,b,S,d,c,p⟩:=h;unfold eqM at p;by_cases J:(G' a 40&&G' b 40)=e_
 .rw[n_ J]at p;simp only[A_]at J;exact rcAt_D I S a b J.1 J.2 d c Y U ac _ _ _ _ (p.blS S I)
 .rw[l_ J]at p;exact p.stuck
theorem o_ne(f:X.A.units+64<DV)(e: ~~~(X.K=K)):Op2 K W own X (DQ .NotEq) neM:=by
 subst e;intro B2 s σ H x y v u Q I Y U h;obtain⟨F,a,b,S,d,c,p⟩:=h;unfold neM at p;by_cases J:(G' a 40&&G' b 40)=e_
 .rw[n_ J]at p;simp only[A_]at J;exact rcNeAt_D I S a b J.1 J.2 d c Y U ac _ _ _ _ (p.blS S I)
 .rw[l_ J]at p;exact p.stuck
end
section
variable{s:k_}
def B6.uO{t':Nat}{T:i_}{xs:aB}(I:B6 X B2 σ H s)(f:∀b∈ch,A0 X B2 H b)(k:∀b o,b∉ch->s.heap.get? b=a_ o->h'.get? b=a_ o)(g:s.heap.objs.size<=T)(d:xs.length<=o_/\∃its:aM,D' xs its/\Lp h' T its.toArray):B6 X B2 σ (upd H T (.tup xs)) {s with heap:=h',toks:=t'}:=by
 have J:H T=f_:=I.hok.fresh g;have U:∀b u,H b=a_ u->b∉ch:=λb u e z=>by rw[(f b z).1]at e;cases e
 have a:∀{b:i_} {o:IB},s.heap.get? b=a_ o->b≠T:=λ{b o} e=>De (CZ (t_ e) g);refine I.step (g':=s.gens) (d':=s.drawn) (ch:=ch) (λb Y=>?_) (λb o _ _ S e _=>k b o S e) (λb o _ _ S e _=>⟨o.slots,k b o S e⟩) (λb o _ e n=>by rw[aw (a e)];exact n)
  (λb o S e=>⟨o,k b o S e⟩) (λb ys e=>by rw[aw (aA e J)];exact e) (λb o u e=>by rw[aw (aA e J)];exact e) (λb ps e=>⟨#[],by rw[aw (aA e J),e];simp⟩) (λm i=>?_) (λb u e=>?_) I.bare
 .obtain⟨p,j,l,f3,f4,f5⟩:=f b Y;exact⟨f3,j,f4,f5⟩
 .obtain⟨o,es,ep,h,r⟩:=i;exact⟨o,es,ep,k _ o (λz=>(f _ z).2.1 rfl) h,r⟩
 .by_cases Y:b=T
  .subst Y;rw[aq]at e;cases e;exact d
  .rw[aw Y]at e;refine(I.hok b u e).wu (λc v S q=>k c v ?_ q) (λc q=>?_) λc ys q=>?_
   .rcases S with z|z
    .rw[z];exact U b u e
    .exact U c _ z
   .rw[aw (aA q J)];exact q
   .rw[aw (aA q J)];exact q
def B6.uP{t':Nat}(I:B6 X B2 σ H s)(U:∀b∈ch,A0 X B2 H b)(k:∀b o,b∉ch->s.heap.get? b=a_ o->h'.get? b=a_ o):B6 X B2 σ H {s with heap:=h',toks:=t'}:=by
 have S:∀b u,H b=a_ u->b∉ch:=λb u e z=>by rw[(U b z).1]at e;cases e
 refine I.step (g':=s.gens) (d':=s.drawn) (ch:=ch) (λb d=>?_) (λb o _ _ J e _=>k b o J e) (λb o _ _ J e _=>⟨o.slots,k b o J e⟩) (λb o _ e n=>n)
  (λb o J e=>⟨o,k b o J e⟩) (λb ys e=>e) (λb o u e=>e) (λb ps e=>⟨#[],by rw[e];simp⟩) (λm a=>?_) (λb u e=>?_) I.bare
 .obtain⟨h,f,g,f3,f4,f5⟩:=U b d;exact⟨f3,f,f4,f5⟩
 .obtain⟨o,es,ep,Y,r⟩:=a;exact⟨o,es,ep,k _ o (λz=>(U _ z).2.1 rfl) Y,r⟩
 .refine(I.hok b u e).wu (λc v J q=>k c v ?_ q) (λ_ q=>q) λ_ _ q=>q;rcases J with z|z
  .rw[z];exact S b u e
  .exact S c _ z
end
def Ite(K:Fg)(a:i_):It:=
 ⟨λi H=>∃xs x,SqL K H a xs/\xs[i]?=a_ x,λi H x H'=>∃T y,H T=f_/\x=.ref T/\H'=upd H T (.tup [.int i,y])/\∀xs,SqL K H a xs->xs[i]?=a_ y,λi H=>∃xs,SqL K H a xs/\xs.length<=i⟩
theorem sC(a e Y:i_)(l:e≠Y):Turn P w K (.Tuple elts k pos) (Ite K a) [e,Y] e (λi h=>(∃J,IsEnum h e Y i J)/\h.IsListIter Y a i) where
 mem:=by simp
 obj:=λi h st b S=>by
  obtain⟨⟨J,f⟩,o,e1,c,d⟩:=st;rcases r_.mp S with rfl|S
  .exact⟨_,f,λv z=>by cases z⟩
  .have:b=Y:=by simpa using S
   subst this;exact⟨o,e1,λv z=>by rw[d]at z;cases z⟩
 keep:=λi h h' st N=>by obtain⟨⟨J,f⟩,U⟩:=st;exact⟨⟨J,N e ad _ f⟩,U.at λo x=>N Y ad o x⟩
 item:=by
  intro X G hw L O i B2 s σ H E I r st C;subst G hw L;obtain⟨⟨J,f⟩,U⟩:=st;obtain⟨xs,x,n,A⟩:=C;obtain⟨its,t,p,R⟩:=I.list n;obtain⟨u,W,Q⟩:=t.get A;refine wpAny_pyNext_enum_item f U p.isList (x:=u) (by simpa using W) l λh1 Z j hT hsz hk=>?_;refine⟨_,rfl,Lf Z λh2 D g=>?_⟩
  have B:e<s.z:=t_ f;have m:s.z≠e:=E4 B;have I1:B6 X B2 σ (upd H s.z (.tup [.int i,x])) {s with heap:=h2,toks:=s.toks+1}:=I.uO (ch:=[e,Y]) r (λb o S q=>by have h3:=hk b o (λz=>S (by simp[z])) (λz=>S (by simp[z])) q;exact(g.2 b (λz=>S (by simp[z]))).trans h3) (m_ _) ⟨by show 2<=o_;decide,[.int i s.toks,u],.cons ⟨_,rfl⟩ (.cons Q .nil),⟨_,(g.2 _ m).trans hT,rfl,0,rfl⟩⟩
  refine⟨.ref s.z,_,I1,rfl,⟨s.z,x,I.hok.fresh (m_ _),rfl,rfl,λys T=>by rw[I.xc T n];exact A⟩,⟨⟨u,by simpa using D⟩,j.at λo y=>(g.2 Y l.symm).trans y⟩,λb S=>?_⟩
  have F:=(r b S).1;have:b≠s.z:=by
   rcases r_.mp S with rfl|S
   .exact m.symm
   .have:b=Y:=by simpa using S
    subst this;obtain⟨o,e1,_⟩:=U;exact De (t_ e1)
  rw[aw this];exact F
 done:=by intro X G hw L O i B2 s σ H E I r st C;subst G hw L;obtain⟨⟨J,f⟩,U⟩:=st;obtain⟨xs,n,A⟩:=C;obtain⟨its,t,p,R⟩:=I.list n;have hl:=t.length;exact wpAny_pyNext_enum_end (I.ok.hd O) f U p.isList (FO (by simp;lia)) λh2 eb=>⟨rfl,I.uP (t':=s.toks) (ch:=[e,Y]) r λb o S q=>eb b o (λz=>S (by simp[z])) q⟩
 self:=λ_ _ _ _ _ st h=>by obtain⟨⟨J,f⟩,_⟩:=st;exact GX f h
theorem nF:∀(ds:List A') (k i:Nat),(dr k ds)[i]?=(ds[i]?).map λd=>.tup [.int ((k+i:Nat):Int),d]
 |[],k,i=>by simp[dr]|d::ds,k,0=>by simp[dr]|d::ds,k,i+1=>by rw[dr,EI,nF ds (k+1) i,EI];rw[show k+1+i=k+(i+1) by lia]
theorem fG:∀(ds:List A') (k:Nat),(dr k ds).length=ds.length
 |[],_=>rfl|d::ds,k=>by rw[dr,CG,fG ds,CG]
def tU{xs:aB}{ds:List A'}(t:SqL K F a xs)(z:ay K F ds xs):o9 K F (Ite K a) (dr 0 ds) where
 go:=λi F' H' S I hi=>⟨xs,xs[i]'(by rw[z.length];rw[fG]at hi;exact hi),I.lst (S.lst t),by rw[fG]at hi;simp[z.length,hi]⟩
 yl:=λi F' H' x H2 d S I hd U=>by
  obtain⟨T,y,Y,ex,b,U⟩:=U;subst ex b;rw[nF]at hd;cases J:ds[i]? with
  |none=>rw[J]at hd;cases hd|some d'=>
   rw[J]at hd;simp at hd;subst hd;obtain⟨v,e1,q⟩:=z.get J;have e2:=U xs (I.lst (S.lst t));rw[e1]at e2;cases e2;refine⟨upd F' T (.tup [.int i,y]),B4.lay I Y,T,_,rfl,SqT.of aq,?_⟩
   exact⟨.int i,[y],rfl,rfl,y,[],rfl,(q.mono S).mono (aK.upd (I.free Y)),rfl⟩
 st:=λF' H' S I=>⟨xs,I.lst (S.lst t),by rw[z.length,fG];exact m_ _⟩
section
variable{W:cp}{a b:Em}{p:IM}{f:ae->M A'}{fr:ae->M (List A')}
def iEnum(K:Fg)(tl:TE):TI:=λσ H R=>tl σ H λx H1=>∃a,x=.ref a/\(∃xs,SqL K H1 a xs)/\R (Ite K a) H1
def pi_enum{q:IM}(o:Gl X "enumerate")(j:X.mg "enumerate"=f_)(m:PE X a tl)(d: ~~~(j_ [a] X.env=[(c_,Dh a X.env)])):
  PI X (.Tuple elts k q) (.Call (.Name "enumerate" p) [a] [] pos) (iEnum X.K tl):=by
 intro B2 s σ H R I h;have r:PA X [a] (j9 tl wo):=aW m cK d;refine M1 (jk I o j boot_enumerate (D5 (E' (r pos B2 s σ H (λvs H1=>match vs with
  |[x]=>∃a,x=.ref a/\(∃xs,SqL X.K H1 a xs)/\R (Ite X.K a) H1
  |_=>False) I h) λus J ⟨vs,H1,U,g,q1⟩=>?_) d rfl))
 rcases vs with _|⟨x,_|⟨_,_⟩⟩
 .exact DK q1
 rotate_left
 .exact DK q1
 .obtain⟨l,e1,⟨xs,i⟩,q⟩:=q1;subst e1;obtain⟨u,rfl,f⟩:=g.one;cases f;obtain⟨its,v,pl,w⟩:=U.list i;refine M5 pl.isList λh2 e Y hsz n=>?_;have t:B6 X B2 σ H1 {J with heap:=h2}:=U.kept (t':=J.toks) n;refine GX e ?_;refine⟨J.z+1,[J.z+1,J.z],_,_,H1,rfl,t,sC l _ _ (J9 _),⟨⟨_,e⟩,Y⟩,λb c=>?_,q⟩
  have S:J.z<=b:=by
   rcases r_.mp c with rfl|c
   .exact G6 _
   .have:b=J.z:=by simpa using c
    exact GQ this.symm
  exact U.fpOk S (U.hok.fresh S)
def ri_enum{R:It->Hp->Prop}(h:iD K W (u9 fa) σ H R):iEnum K (tD K W c_ fa) σ H R:=by
 obtain⟨F,ρ,r,s,p⟩:=h;refine aL r s (λe J=>?_) λd hd v F1 H1 I q1=>?_
 .have z:u9 fa ρ=.error e:=by unfold u9;rw[J];rfl
  rw[z]at p;exact p
 .have z:u9 fa ρ=(xk d).bind λds=>.ok (dr 0 ds):=by unfold u9;rw[hd];rfl
  rw[z]at p;cases d with
  |lst ds=>obtain⟨b,xs,e,t,z⟩:=q1;exact⟨b,e,⟨xs,I.fh.lst t⟩,p _ F1 H1 I (tU t z)⟩
  |_=>exact(W.ns p).elim
def di_enum{q:IM}(J:X.mg "enumerate"=f_)(S:DE K W c_ X a fa)(U: ~~~(Gl X "enumerate"))(I: ~~~(j_ [a] X.env=[(c_,Dh a X.env)]))(Y: ~~~(X.K=K)):
  DI K W X (.Tuple elts k q) (.Call (.Name "enumerate" p) [a] [] pos) (u9 fa):=by
 subst Y;exact(pi_enum U J S I).imp λ_ _ _=>ri_enum
def dQ:PTs X [] (tDT K W jr):=λB2 s σ H Q I h=>pts_nil B2 s σ H Q I (by obtain⟨F,ρ,r,J,q⟩:=h;exact q F H (B4.refl J))
def gC:PGs X [] (gh []):=pgs_nil
def bF{is:aC}(U:X.N.Nodup)(h2:PGs X es (gh is))(hi: ~~~(X.N[i]?=a_ x))(I:autoParam (Loc X.env.scope x) Jq6)(S:autoParam (X.fn x=e_\/X.env.scope.names.lookup x=a_ .local) Jq3)(J: ~~~((Fe (.Name x p::es) X.env).map (·.2)=Hx (.Name x p) X.env::(Fe es X.env).map (·.2))):PGs X (.Name x p::es) (gh (i::is)):=wN (vg U hi I S) h2 J
def oN{is:aC}(S:X.calm=e_)(h:PGs X es (gh is))(J: ~~~((Fe es X.env).length=is.length))(I: ~~~((Fe es X.env).findIdx? (·.1)=f_))(U: ~~~(X.K=K)):DG K X (.Tuple es k pos) (.tp is):=by subst U;exact pg_tup S h J I
theorem lz{ix:List (Option Nat)}:∀{is:aC},(∀i∈is,ix[i]?=a_ f_)->∀vs σ' H' (Q:St->Hp->Prop),gh is vs σ' H' Q->gh is vs σ' H' λI H2=>Q I H2/\∀(i:Nat) v,σ'[i]?=a_ (a_ v)->(∃j,ix[i]?=a_ (a_ j))->I[i]?=a_ (a_ v)
 |[],_,vs,σ',H',Q,⟨e,q⟩=>⟨e,q,λ_ _ h _=>h⟩|i::is,b,vs,σ',H',Q,⟨v,r,e,q⟩=>by
  refine⟨v,r,e,?_⟩
  have:=lz (ix:=ix) (is:=is) (λj d=>b j (by simp[d])) r (σ'.set i (a_ v)) H' Q q;have S:∀{is:aC} {vs:aB} {J:St} {H1:Hp} {Q U:St->Hp->Prop},(∀I H2,Q I H2->U I H2)->gh is vs J H1 Q->gh is vs J H1 U:=by
   intro is
   induction is with
   |nil=>rintro vs J H1 Q U m ⟨e,q⟩;exact⟨e,m _ _ q⟩
   |cons i is c=>rintro vs J H1 Q U m ⟨v,r,e,q⟩;exact⟨v,r,e,c m q⟩
  refine S (λI H2 Y=>?_) this;obtain⟨q1,q2⟩:=Y;refine⟨q1,λj w h Y=>?_⟩
  obtain⟨l,a⟩:=Y;refine q2 j w ?_ ⟨l,a⟩;have:i≠j:=by rintro rfl;rw[b i ad]at a;cases a
  rw[v_ this];exact h
def tN{is:aC}(h:∀i∈is,ix[i]?=a_ f_):qr ix (gP K (.tp is)):=λx σ' H' Q ⟨a,xs,e,t,l,q⟩=>⟨a,xs,e,t,l,lz h xs σ' H' Q q⟩
def i7{s:k_}(S:N'.Nodup)(hi: ~~~(N'[i]?=a_ x))(I:autoParam (Loc (ba X N' sc L cs s H fp).env.scope x) Jq6)(J:autoParam ((ba X N' sc L cs s H fp).fn x=e_\/(ba X N' sc L cs s H fp).env.scope.names.lookup x=a_ .local) Jq3):DG K (ba X N' sc L cs s H fp) (.Name x pos) (.nm i):=pg_c S hi I J
variable{pt:Pat}
def dR(N':List C_)(ix:List (Option Nat))(hi:DI K W X tg iter fi)(a:∀L cs s H fp,DG K (ba X N' sc L cs s H fp) tg pt)(U:qr ix (gP K pt))(J:∀L cs s H fp,PTs (ba X N' sc L cs s H fp) ifs (tDT K W ft))(b:∀L cs s H fp,DE K W c_ (ba X N' sc L cs s H fp) elt fe)(c: ~~~(X.calm=e_))(I: ~~~(br X.N X.env.scope N' sc ix=e_))(Y: ~~~(sc.kind=.function))(S:autoParam (∀x,Gh iter X.env x=ER x) Jq5):
  DE K W e_ X (.ListComp elt [⟨tg,iter,ifs,0⟩] sc pos) (dG fi ix pt ft fe):=(pe_comp N' ix c hi a U J b I Y S).imp λ_ _ _=>rd_comp
def ds_setI{q r:IM}(c:DE K W c_ X e f)(a:DE K W c_ X b fk)(Y:(i∈O)⁻¹)(g: ~~~(X.N[i]?=a_ x))(hv:autoParam (Vis X.env.scope x) Jq4)(hd:((x==("__debug__":C_))=c_)⁻¹)(S:((x==("__classdict__":C_))=c_)⁻¹)(d:autoParam (∀v,Hx (.Subscript (.Name x p) b q) X.env v=(do
   let I <- Gg [v] (Dh (.Name x p) X.env)
   let J <- Gg [v,I] (Dh b X.env)
   IV q
   Gg [v,I,J] (NF I J v)
   release [v,I,J] [])) Jq5)(U: ~~~(LD [.Subscript (.Name x p) b q] e r.line X.env=ER c_))(hw: ~~~(LF [.Subscript (.Name x p) b q] e X.env=ER f_))(h1: ~~~((Fe [.Subscript (.Name x p) b q] X.env).map (·.2)=[Hx (.Subscript (.Name x p) b q) X.env])):
  DS K W ro X OL O O (.Assign [.Subscript (.Name x p) b q] e r) (uW i fk f):=λF0 H0=>(ps_asg c (pg_sub (pv i g hv hd S) a set_list d) U hw h1).imp λ_ _ _=>rs_setI Y
def spF(K:Fg)(ro:Bool)(g:List A'->M A')(n:Nat):Sp:=λvs H Q _=>∃F ds,aK F H/\ay K F ds vs/\ds.length=n/\aF K Hn ro F H (g ds) Q
def jS{ds:List A'}(h:ds.length≠n):b7 nN n g ds=stk:=by unfold b7;rw[l_ h]
def C3(F:fU X.prog X.w X.K X.mg X.base CX0 k fad fd ps (spF K ro (b7 nN n g) n))(b:fS k X.A)(c:X.mg x=a_ (.ref fad))(d:Gd X.K (.ref fad)=e_)(i:Binds X.K fd ps [])(j:DA K Hn X (e::es) fr)(f: ~~~(Gl X x))(U:((x==("__debug__":C_))=c_)⁻¹)(J: ~~~(j_ (e::es) X.env=(c_,Dh e X.env)::j_ es X.env))(S: ~~~((Eg pos (j_ es X.env)).any (·.1)=c_)):
  DE K Hn ro X (.Call (.Name x p) (e::es) [] pos) (fL (b7 nN n g) fr):=by
 refine PE.imp (mW F b f c d i .nil tw j U J S) λσ H Q h=>?_;obtain⟨F,ρ,r,s,p⟩:=rd_L h;refine⟨F,ρ,r,s,?_⟩
 cases e1:fr ρ with
 |error z=>rw[e1]at p;exact p|ok ds=>
  rw[e1]at p;intro vs F' H' st q;obtain⟨F1,I,a,q1,z⟩:=p vs F' H' st q;show spF K ro (b7 nN n g) n (vs++[]) H' Q E0;rw[DB];by_cases Y:I.length=n
  .exact⟨F1,I,a,q1,Y,z⟩
  .rw[jS Y]at z;exact aF.stuck z
end
section
variable{base:Du}
def sH{vs:aB}{ds:List A'}(q:ay K F ds vs)(h:(ds.map a_++Di (N.length-ds.length) f_)[i]?=a_ (a_ d)):∃v,(start N vs)[i]?=a_ (a_ v)/\aR K F d v:=by
 have hi:i<ds.length:=by
  by_cases hi:i<ds.length
  .exact hi
  .rw[DZ (by simpa using hi),HY]at h;split at h<;>cases h
 rw[DD (by simpa using hi),Dz]at h;cases e:ds[i]? with
 |none=>rw[e]at h;cases h|some d'=>
  rw[e]at h;cases h;obtain⟨v,e1,q1⟩:=q.get e;refine⟨v,?_,q1⟩
  unfold start;rw[DD (by rw[q_,q.length];exact hi),Dz,e1];rfl
theorem fn_D{st:Ei}{f:i_}(F:Fun K x qual st f fd)(S:fO N ps (aE st))(ro:Bool)(g:ae->M C1)(b:∀(cdv:g_) (A:ES) (outer:List KR) (s:k_) (H:Hp) (E:XK),fS k (A.deeper (Ge qual (aE st) s.heap.objs.size f cdv)) ->
   DSs K Hn ro (vN CX0 P w K mg base N qual (aE st) f cdv A outer s H E).nox [] [] O' (bw st) g):fU P w K mg base CX0 (k+1) f fd ps (spF K ro (b7 N.length ps.length g) ps.length):=by
 have U:ps.length<=N.length:=by have:=Gx Ka S.pre;rw[FF]at this;lia
 refine F.okX S (λvs H Q E ⟨F,ds,s,q,l,p⟩=>by rw[q.length,l]) λcdv A outer s H vs Q E J Y=>?_;obtain⟨F1,ds,I,q,l,p⟩:=Y;refine⟨_,b cdv A outer s H E J F1 H,F1,F1,ds.map a_++Di (N.length-ds.length) f_,?_,?_⟩
 .refine⟨B4.refl I,aK.refl _,?_,λi d e _=>sH q e,(λi d e h=>nomatch h),(λi j ds es a h=>nomatch h)⟩
  unfold start;rw[CM,CM,q_,q_,EZ,EZ,q.length]
 .have e1:b7 N.length ps.length g ds=(g (ds.map a_++Di (N.length-ds.length) f_)).bind λfl=>match fl with
   |.nx _=>.ok .non|.rt d=>.ok d|_=>stk:=by unfold b7;exact n_ l
  rw[e1]at p;cases e2:g (ds.map a_++Di (N.length-ds.length) f_)with
  |error z=>rw[e2]at p;exact p|ok fl=>
   rw[e2]at p;cases fl with
   |nx ρ=>exact λσ F H r=>p .non F H r.st (by cases ro<;>rfl)
   |rt d=>exact λv F H st q=>p v F H st q|bk ρ=>exact aF.stuck p|ct ρ=>exact aF.stuck p
def spLaw(K:Fg):Sp:=λvs H Q _=>∃(a:i_) (ns:am),vs=[.ref a]/\SqL K H a (ns.map V.int)/\ns.length<=63/\∀H',Q (.bl e_) H'
theorem j5{F:Hp}:∀is:am,ay K F (is.map A'.int) (is.map V.int)
 |[]=>rfl|i::is=>⟨.int i,is.map V.int,rfl,rfl,j5 is⟩
def law_ok{f:i_}{mlaw:Nat->List A'->M A'}(F:∀n,fU P w K mg base CX0 k f fd [x] (spF K ro (mlaw n) 1))(h:∀ns:am,ns.length<=63->∃n,mlaw n [.lst (ns.map .int)]=.ok (.bl e_)):fU P w K mg base CX0 k f fd [x] (spLaw K):=by
 refine⟨λvs H Q E ⟨a,ns,e,_⟩=>by rw[e];rfl,λA outer s H I us vs Q E J b c hv ⟨a,ns,e,S,Y,q⟩=>?_⟩
 obtain⟨n,U⟩:=h ns Y;refine(F n).run A outer s H I us vs Q E J b c hv ⟨H,[.lst (ns.map .int)],aK.refl _,⟨.ref a,[],e,⟨a,_,rfl,S,j5 ns⟩,rfl⟩,rfl,?_⟩;rw[U];intro v F' H' st z;have:v=.bl e_:=by cases ro<;>exact z
 rw[this];exact q H'
end
structure Kit(K:Fg):Prop where
 AH:Ed K (.type "int") (.type "int")=a_ e_
 yL:Ed K (.type "bool") (.type "int")=a_ e_
 yI:Ed K (.type "list") (.type "int")=a_ c_
 v9:Ed K (.type "tuple") (.type "int")=a_ c_
 AG:Ed K (.type "str") (.type "int")=a_ c_
 oE:Ed K (.type "NoneType") (.type "int")=a_ c_
 yK:Ed K (.type "int") (.type "bool")=a_ c_
 vf:Ed K (.type "bool") (.type "bool")=a_ e_
 vd:Ed K (.type "list") (.type "bool")=a_ c_
 sX:Ed K (.type "tuple") (.type "bool")=a_ c_
 yH:Ed K (.type "str") (.type "bool")=a_ c_
 mS:Ed K (.type "NoneType") (.type "bool")=a_ c_
 yJ:Ed K (.type "int") (.type "list")=a_ c_
 ve:Ed K (.type "bool") (.type "list")=a_ c_
 vc:Ed K (.type "list") (.type "list")=a_ e_
 sW:Ed K (.type "tuple") (.type "list")=a_ c_
 yG:Ed K (.type "str") (.type "list")=a_ c_
 mQ:Ed K (.type "NoneType") (.type "list")=a_ c_
 q_int_tuple:Ed K (.type "int") (.type "tuple")=a_ c_
 q_bool_tuple:Ed K (.type "bool") (.type "tuple")=a_ c_
 q_list_tuple:Ed K (.type "list") (.type "tuple")=a_ c_
 q_tuple_tuple:Ed K (.type "tuple") (.type "tuple")=a_ e_
 q_str_tuple:Ed K (.type "str") (.type "tuple")=a_ c_
 A3:Ed K (.type "NoneType") (.type "tuple")=a_ c_
 q_int_str:Ed K (.type "int") (.type "str")=a_ c_
 q_bool_str:Ed K (.type "bool") (.type "str")=a_ c_
 q_list_str:Ed K (.type "list") (.type "str")=a_ c_
 q_tuple_str:Ed K (.type "tuple") (.type "str")=a_ c_
 q_str_str:Ed K (.type "str") (.type "str")=a_ e_
 q_NoneType_str:Ed K (.type "NoneType") (.type "str")=a_ c_
section
variable{W:cp}{own:Bool}{a b:Em}{p:IM}{fr:ae->M (List A')}
def isi_D{s:k_}{x:V}{U Y bl S bs:Bool}{Q:Vp}(I:B6 X B2 σ H s)(J:aK F H)(q:aR X.K F d x)(r:C' x u)(hi:Ed X.K (.type "int") (.type T)=a_ U)(n:Ed X.K (.type "bool") (.type T)=a_ Y)(m:Ed X.K (.type "list") (.type T)=a_ bl)(f:Ed X.K (.type "tuple") (.type T)=a_ S)(g:Ed X.K (.type "str") (.type T)=a_ bs)(j:Ed X.K (.type "NoneType") (.type T)=a_ bn)(h:∀k tk,(match d with|.int _=>k=U|.bl _=>k=Y|.lst _=>k=bl|.tup _=>k=S|.str _=>k=bs|.non=>k=bn|.ins _ _=>False|.dic _=>False|.dil _=>False)->Q (.bool k) {s with toks:=tk})(a:∀C fs,d≠.ins C fs)(c:∀ks,d≠.dic ks)(b:∀ks,d≠.dil ks):
  w_ (B_ X.prog X.w) X.A (Hk (.builtin "isinstance") [u,.type T]) Q X.xe s:=by
 cases d with
 |non=>cases(show x=.non from q);cases r;exact JG PySem.W.kitx_none I.kIn Gz j (λz=>nomatch z) λtk=>h _ tk rfl
 |bl y=>cases(show x=.bl y from q);cases r;exact JG PySem.W.kitx_bool I.kIn Gz n (λz=>nomatch z) λtk=>h _ tk rfl
 |int i=>cases(show x=.int i from q);obtain⟨t,rfl⟩:=r;exact JG PySem.W.kitx_int I.kIn Gz hi (λz=>nomatch z) λtk=>h _ tk rfl
 |str y=>cases(show x=.str y from q);obtain⟨t,rfl⟩:=r;exact JG PySem.W.kitx_str I.kIn Gz g (λz=>nomatch z) λtk=>h _ tk rfl
 |lst ds=>obtain⟨l,xs,e,t,_⟩:=q;subst e;cases r;obtain⟨its,_,pl,_⟩:=I.list (J.lst t);obtain⟨o,h1,h2,_⟩:=pl.isList;exact JG PySem.W.kitx_list I.kIn ⟨o,h1,h2⟩ m (λz=>nomatch z) λtk=>h _ tk rfl
 |tup ds=>obtain⟨l,xs,e,t,_⟩:=q;subst e;cases r;obtain⟨its,_,pl,_⟩:=I.tuple (J.tup t);obtain⟨o,h1,h2,_⟩:=pl;exact JG PySem.W.kitx_tuple I.kIn ⟨o,h1,h2⟩ f (λz=>nomatch z) λtk=>h _ tk rfl
 |ins C fs=>exact CQ rfl (a C fs)|dic ks=>exact CQ rfl (c ks)|dil ks=>exact CQ rfl (b ks)
def BZ{y:C_}{g:A'->M A'}(i:cH X (.builtin "isinstance") (λxs H Q=>∃v,xs=[v,.ty T]/\rD1 K W own g v H Q))(e:X.mg "isinstance"=f_)(Y:X.mg y=f_)(S:E6 y=a_ (.type T))(j:DE K W c_ X a fa)(f: ~~~(Gl X "isinstance"))(b: ~~~(Gl X y))(c:(y≠"__name__")⁻¹)(hd:((y==("__debug__":C_))=c_)⁻¹)(J: ~~~(j_ [a,.Name y p2] X.env=[(c_,Dh a X.env),(c_,Dh (.Name y p2) X.env)]))(I: ~~~(j_ [.Name y p2] X.env=[(c_,Dh (.Name y p2) X.env)]))(U: ~~~((Eg pos (j_ [.Name y p2] X.env)).any (·.1)=c_)):
  DE K W own X (.Call (.Name "isinstance" p) [a,.Name y p2] [] pos) (f1 g fa):=
 (fZ i f e Jc (aW j (aW (pe_tyN (pos:=p2) b Y S c hd) cK I) (by rw[J,I])) ag ag (by rw[J,I]) U).imp λσ H Q h=>by
  obtain⟨F,ρ,r,s,q⟩:=rd_1 h;refine⟨F,ρ,r,s,?_⟩
  cases e1:fa ρ with
  |error z=>rw[e1]at q;exact q|ok d=>rw[e1]at q;exact λv F' H' st z=>⟨v,rfl,q v F' H' st z⟩
def Cn(J:Kit K)(c: ~~~(X.K=K)):cH X (.builtin "isinstance") (λxs H Q=>∃v,xs=[v,.ty "int"]/\rD1 K W own kc v H Q):=by
 subst c;intro B2 s σ H xs us Q I r h;obtain⟨v,rfl,F,d,Y,q,p⟩:=h;obtain⟨u,w,rfl,a,S⟩:=r.two;cases(show w=EB "int" from S);by_cases hi:(∃C fs,d=.ins C fs)\/(∃ks,d=.dic ks)\/∃ks,d=.dil ks
 .rcases hi with⟨C,fs,rfl⟩|⟨ks,rfl⟩|⟨ks,rfl⟩<;>exact aF.stuck p
 .refine isi_D I Y q a J.AH J.yL J.yI J.v9 J.AG J.oE (λk tk b=>⟨.bl k,H,I.tok tk,rfl,?_⟩) (λC fs e=>hi (.inl ⟨C,fs,e⟩)) (λks e=>hi (.inr (.inl ⟨ks,e⟩))) (λks e=>hi (.inr (.inr ⟨ks,e⟩)));cases d<;>first|(have U:k=_:=b;subst U;exact aF.bl (own:=own) p Y)|exact CQ (.inl ⟨_,_,rfl⟩) hi|exact CQ (.inr (.inl ⟨_,rfl⟩)) hi|exact CQ (.inr (.inr ⟨_,rfl⟩)) hi
def qh(J:Kit K)(c:X.mg "isinstance"=f_)(Y:X.mg "int"=f_)(e:DE K W c_ X a fa)(f: ~~~(X.K=K))(d: ~~~(Gl X "isinstance"))(b: ~~~(Gl X "int"))(S: ~~~(j_ [a,.Name "int" p2] X.env=[(c_,Dh a X.env),(c_,Dh (.Name "int" p2) X.env)]))(I: ~~~(j_ [.Name "int" p2] X.env=[(c_,Dh (.Name "int" p2) X.env)]))(U: ~~~((Eg pos (j_ [.Name "int" p2] X.env)).any (·.1)=c_)):
  DE K W own X (.Call (.Name "isinstance" p) [a,.Name "int" p2] [] pos) (f1 kc fa):=BZ (Cn J f) c Y dkK e d b ag ag S I U
def zQ(J:Kit K)(c: ~~~(X.K=K)):cH X (.builtin "isinstance") (λxs H Q=>∃v,xs=[v,.ty "bool"]/\rD1 K W own iI v H Q):=by
 subst c;intro B2 s σ H xs us Q I r h;obtain⟨v,rfl,F,d,Y,q,p⟩:=h;obtain⟨u,w,rfl,a,S⟩:=r.two;cases(show w=EB "bool" from S);by_cases hi:(∃C fs,d=.ins C fs)\/(∃ks,d=.dic ks)\/∃ks,d=.dil ks
 .rcases hi with⟨C,fs,rfl⟩|⟨ks,rfl⟩|⟨ks,rfl⟩<;>exact aF.stuck p
 .refine isi_D I Y q a J.yK J.vf J.vd J.sX J.yH J.mS (λk tk b=>⟨.bl k,H,I.tok tk,rfl,?_⟩) (λC fs e=>hi (.inl ⟨C,fs,e⟩)) (λks e=>hi (.inr (.inl ⟨ks,e⟩))) (λks e=>hi (.inr (.inr ⟨ks,e⟩)));cases d<;>first|(have U:k=_:=b;subst U;exact aF.bl (own:=own) p Y)|exact CQ (.inl ⟨_,_,rfl⟩) hi|exact CQ (.inr (.inl ⟨_,rfl⟩)) hi|exact CQ (.inr (.inr ⟨_,rfl⟩)) hi
def nK(J:Kit K)(c:X.mg "isinstance"=f_)(Y:X.mg "bool"=f_)(e:DE K W c_ X a fa)(f: ~~~(X.K=K))(d: ~~~(Gl X "isinstance"))(b: ~~~(Gl X "bool"))(S: ~~~(j_ [a,.Name "bool" p2] X.env=[(c_,Dh a X.env),(c_,Dh (.Name "bool" p2) X.env)]))(I: ~~~(j_ [.Name "bool" p2] X.env=[(c_,Dh (.Name "bool" p2) X.env)]))(U: ~~~((Eg pos (j_ [.Name "bool" p2] X.env)).any (·.1)=c_)):
  DE K W own X (.Call (.Name "isinstance" p) [a,.Name "bool" p2] [] pos) (f1 iI fa):=BZ (zQ J f) c Y dkK e d b ag ag S I U
def zP(J:Kit K)(c: ~~~(X.K=K)):cH X (.builtin "isinstance") (λxs H Q=>∃v,xs=[v,.ty "list"]/\rD1 K W own k9 v H Q):=by
 subst c;intro B2 s σ H xs us Q I r h;obtain⟨v,rfl,F,d,Y,q,p⟩:=h;obtain⟨u,w,rfl,a,S⟩:=r.two;cases(show w=EB "list" from S);by_cases hi:(∃C fs,d=.ins C fs)\/(∃ks,d=.dic ks)\/∃ks,d=.dil ks
 .rcases hi with⟨C,fs,rfl⟩|⟨ks,rfl⟩|⟨ks,rfl⟩<;>exact aF.stuck p
 .refine isi_D I Y q a J.yJ J.ve J.vc J.sW J.yG J.mQ (λk tk b=>⟨.bl k,H,I.tok tk,rfl,?_⟩) (λC fs e=>hi (.inl ⟨C,fs,e⟩)) (λks e=>hi (.inr (.inl ⟨ks,e⟩))) (λks e=>hi (.inr (.inr ⟨ks,e⟩)));cases d<;>first|(have U:k=_:=b;subst U;exact aF.bl (own:=own) p Y)|exact CQ (.inl ⟨_,_,rfl⟩) hi|exact CQ (.inr (.inl ⟨_,rfl⟩)) hi|exact CQ (.inr (.inr ⟨_,rfl⟩)) hi
def vI(J:Kit K)(c:X.mg "isinstance"=f_)(Y:X.mg "list"=f_)(e:DE K W c_ X a fa)(f: ~~~(X.K=K))(d: ~~~(Gl X "isinstance"))(b: ~~~(Gl X "list"))(S: ~~~(j_ [a,.Name "list" p2] X.env=[(c_,Dh a X.env),(c_,Dh (.Name "list" p2) X.env)]))(I: ~~~(j_ [.Name "list" p2] X.env=[(c_,Dh (.Name "list" p2) X.env)]))(U: ~~~((Eg pos (j_ [.Name "list" p2] X.env)).any (·.1)=c_)):
  DE K W own X (.Call (.Name "isinstance" p) [a,.Name "list" p2] [] pos) (f1 k9 fa):=BZ (zP J f) c Y dkK e d b ag ag S I U
def tRng(ta:TA)(lo hi:aB->Option Int):TE:=λσ H Q=>ta σ H λvs H1=>∃i j,lo vs=a_ i/\hi vs=a_ j/\(-(2^62)<=i/\i<2^62/\ -(2^62)<=j/\j<2^62)/\∀r,H1 r=f_->Q (.ref r) (upd H1 r (.rng i j))
noncomputable def lo1:aB->Option Int
 |[.int _]=>a_ 0|_=>f_
noncomputable def hi1:aB->Option Int
 |[.int j]=>a_ j|_=>f_
noncomputable def lo2:aB->Option Int
 |[.int i,.int _]=>a_ i|_=>f_
noncomputable def hi2:aB->Option Int
 |[.int _,.int j]=>a_ j|_=>f_
def wD{s:k_}{lo hi:Int}{t u v:Tok}{tk:Nat}(I:B6 X B2 σ H s):B6 X B2 σ (upd H s.heap.objs.size (.rng lo hi)) {s with heap:=s.heap.push {cls:=.type "range",data:=.fields #[.int lo t,.int hi u,.int 1 v]},toks:=tk}:=
 I.laid (λb o e=>d_ _ e) (m_ _) ⟨t,u,v,s_ _ rfl⟩
def pe_rng1(c:Gl X "range")(b:X.mg "range"=f_)(d:PA X [a] ta)(U: ~~~(j_ [a] X.env=[(c_,Dh a X.env)])):PE X (.Call (.Name "range" p) [a] [] pos) (tRng ta lo1 hi1):=by
 intro B2 s σ H Q I h;refine M1 (jk I c b Lm (D5 (E' (d pos B2 s σ H _ I h) λus e Y=>?_) U rfl));obtain⟨vs,H1,S,J,q1⟩:=Y;obtain⟨i,j,e1,e2,f,q⟩:=q1
 match vs,J,e1,e2 with
 |[.int k],J,e1,e2=>cases e1;cases e2;obtain⟨u,rfl,t,rfl⟩:=J.one;exact call_range_1 ⟨.ref _,_,wD S,rfl,q _ S.fresh⟩
def pe_rng2(e:Gl X "range")(d:X.mg "range"=f_)(f:PA X [a,b] ta)(Y: ~~~(j_ [a,b] X.env=[(c_,Dh a X.env),(c_,Dh b X.env)]))(J: ~~~(j_ [b] X.env=[(c_,Dh b X.env)])):PE X (.Call (.Name "range" p) [a,b] [] pos) (tRng ta lo2 hi2):=by
 intro B2 s σ H Q I h;refine M1 (jk I e d Lm (D5 (E' (f pos B2 s σ H _ I h) λus g c=>?_) (by rw[Y,J]) (by rw[J];rfl)));obtain⟨vs,H1,U,S,q1⟩:=c;obtain⟨i,j,e1,e2,l,q⟩:=q1
 match vs,S,e1,e2 with
 |[.int k,.int m],S,e1,e2=>cases e1;cases e2;obtain⟨u,w,rfl,⟨t,rfl⟩,t',rfl⟩:=S.two;exact call_range_2 ⟨.ref _,_,wD U,rfl,q _ U.fresh⟩
theorem D'.of_get:∀{xs:aB} {us:aM},xs.length=us.length->(∀(i:Nat) v u,xs[i]?=a_ v->us[i]?=a_ u->C' v u)->D' xs us
 |[],[],_,_=>.nil|[],_::_,h,_=>by simp at h|_::_,[],h,_=>by simp at h|x::xs,u::us,h,q=>.cons (q 0 x u rfl rfl) (D'.of_get (by simpa using h) λi v w h1 h2=>q (i+1) v w (by simpa using h1) (by simpa using h2))
def pP{lo:Int}:∀{n:Nat} {I:aM},I.length=n->(∀(i:Nat) v,I[i]?=a_ v->∃t,v=.int (lo+i) t)->D' ((CU n).map λk:Nat=>V.int (lo+k)) I:=by
 intro n I J h;refine D'.of_get (by simp[J]) λi v u e1 e2=>?_;obtain⟨t,rfl⟩:=h i u e2;have hi:i<n:=by have:=(y_.mp e1).1;simpa using this
 rw[Dz,Jd hi]at e1;cases e1;exact⟨t,rfl⟩
theorem rT(c:X.calm=e_):cH X (.type "list") (λxs H Q=>∃r lo hi,xs=[.ref r]/\H r=a_ (.rng lo hi)/\(-(2^62)<=lo/\lo<2^62/\ -(2^62)<=hi/\hi<2^62)/\(hi-lo).toNat<=o_/\∀l,H l=f_->Q (.ref l) (upd H l (.lst ((CU (hi-lo).toNat).map λk:Nat=>V.int (lo+k))))):=by
 intro B2 s σ H xs us Q I a h;obtain⟨r,lo,hi,rfl,d,⟨o,m,j,g⟩,U,q⟩:=h;obtain⟨u,rfl,Y⟩:=a.one;cases Y;obtain⟨t,u,v,e⟩:=(show ∃t u v,s.heap.get? r=a_ {cls:=.type "range",data:=.fields #[.int lo t,.int hi u,.int 1 v]}from I.hok r _ d)
 refine call_list_range (n:=(hi-lo).toNat) (I.ok.hd c) e (NW o m j g) (by rw[LH];split<;>lia) (by rw[EK]at U;lia) λh' tk J f b e2 S=>?_;have hv:D' ((CU (hi-lo).toNat).map λk:Nat=>V.int (lo+k)) J.toList:=pP (by rw[DF];exact S.1) λi v hi=>by obtain⟨t,e⟩:=S.2 i v (by simpa using hi);exact⟨t,by rw[e,HK]⟩
 exact⟨.ref _,_,I.laid (t':=tk) b (m_ _) (show dW X.prog X.w _ h' _ (.lst _)from⟨by simpa using U,J.toList,f,hv,by simpa using e2⟩),rfl,q _ I.fresh⟩
def nI(lo:Int)(n:Nat):ay K F (aQ lo n) ((CU n).map λk:Nat=>V.int (lo+k)):=by
 refine ay.of_get (by simp[aQ]) λi d v h1 h2=>?_;have hi:i<n:=by have:=(y_.mp h2).1;simpa using this
 unfold aQ at h1;rw[Dz,Jd hi]at h1 h2;cases h1;cases h2;rfl
def lrng_end{i j:Int}(p:aF K W e_ F H1 (bo (aQ i (j-i).toNat)) Q)(s:aK F H1)(U:H1 r=f_):
  (j-i).toNat<=o_/\∀l,upd H1 r (.rng i j) l=f_->Q (.ref l) (upd (upd H1 r (.rng i j)) l (.lst ((CU (j-i).toNat).map λk:Nat=>V.int (i+k)))):=by
 unfold bo at p;by_cases S:(aQ i (j-i).toNat).length<=o_
 .rw[n_ S]at p;refine⟨by simpa[aQ] using S,λl I=>?_⟩
  have J:B4 F H1 F (upd H1 r (.rng i j)):=B4.grow s U;have e:H1 l=f_:=J.hh.free I;exact p _ F _ (J.trans (B4.grow J.fh I)) ⟨l,_,rfl,aq,s.free e,e,nI i _⟩
 .rw[l_ S]at p;exact(W.ns p).elim
def de_lrng2(d:X.mg "list"=f_)(q:X.mg "range"=f_)(x:DA K W X [a,b] fr)(w: ~~~(X.calm=e_))(t: ~~~(Gl X "range"))(f: ~~~(Gl X "list"))(o: ~~~(j_ [a,b] X.env=[(c_,Dh a X.env),(c_,Dh b X.env)]))(Y: ~~~(j_ [b] X.env=[(c_,Dh b X.env)]))(J: ~~~(j_ [.Call (.Name "range" q1) [a,b] [] q2] X.env=[(c_,Dh (.Call (.Name "range" q1) [a,b] [] q2) X.env)])):DE K W e_ X (.Call (.Name "list" p) [.Call (.Name "range" q1) [a,b] [] q2] [] pos) (fLR (jt v7 fr)):=by
 refine PE.imp (mV (rT w) f d FA (aW (pe_rng2 t q x o Y) cK J) ag ag J rfl) λσ H Q h=>?_;obtain⟨F,ρ,r,s,p⟩:=h;refine jB r s (λe u=>p.err (by unfold fLR jt;rw[u];rfl)) λds hd xs F1 H1 g q1=>?_;have e1:fLR (jt v7 fr) ρ=(v7 ds).bind bo:=by unfold fLR jt;rw[hd];rfl
 rw[e1]at p;have p1:=p.step g;by_cases S:∃i j,ds=[.int i,.int j]
 .obtain⟨i,j,rfl⟩:=S;obtain⟨v,vs,e2,q2,m,U,e3,n,e4⟩:=q1;have p2:aF K W e_ F1 H1 ((if (b8 i&&b8 j)=e_ then Ec (aQ i (j-i).toNat)else E3 Err.stuck:M (List A')).bind bo) Q:=p1;by_cases I:(b8 i&&b8 j)=e_
  .rw[n_ I]at p2;unfold b8 at I;simp only[A_,Dj]at I;have e5:xs=[.int i,.int j]:=by rw[e2,show v=.int i from q2,e3,show m=.int j from n,show U=[]from e4]
   subst e5;refine⟨i,j,rfl,rfl,⟨I.1.1,I.1.2,I.2.1,I.2.2⟩,λr2 c=>?_⟩
   obtain⟨l,k⟩:=lrng_end p2 g.fh c;exact⟨r2,i,j,rfl,aq,⟨I.1.1,I.1.2,I.2.1,I.2.2⟩,l,k⟩
  .rw[l_ I]at p2;exact(W.ns p2).elim
 .have:v7 ds=.error .stuck:=by
   unfold v7;split
   .exact CQ ⟨_,_,rfl⟩ S
   .rfl
  rw[this]at p1;exact(W.ns p1).elim
end
section
variable{p:IM}
def km{s:k_}{is:aC}(U:N'.Nodup)(h2:PGs (ba X N' sc L cs s H fp) es (gh is))(hi: ~~~(N'[i]?=a_ x))(I:autoParam (Loc (ba X N' sc L cs s H fp).env.scope x) Jq6)(S:autoParam ((ba X N' sc L cs s H fp).fn x=e_\/(ba X N' sc L cs s H fp).env.scope.names.lookup x=a_ .local) Jq3)(J: ~~~((Fe (.Name x p::es) (ba X N' sc L cs s H fp).env).map (·.2)=Hx (.Name x p) (ba X N' sc L cs s H fp).env::(Fe es (ba X N' sc L cs s H fp).env).map (·.2))):PGs (ba X N' sc L cs s H fp) (.Name x p::es) (gh (i::is)):=wN (pg_c U hi I S) h2 J
end
open PySem.W in
section
open PySem.W
variable{key:Nat->Int}
noncomputable def ltK(key:Nat->Int)(i j:Nat):Bool:=CL (key i<key j)
end
section
open PySem.W
variable{key:Nat->Int}
def Asks(prog:D0)(w:Ew)(A:ES)(key:Nat->Int)(vs:aM)(s':k_):Prop:=
 w_ (B_ prog w) A (keyKind' vs.toArray) (fun κ I=>I=s'/\∀i j (C:Bool->k_->Prop),i<vs.length->j<vs.length->C (ltK key i j) s'->Mm prog w A κ vs i j C s') (λ_ _=>False) s'
end
noncomputable def insL{α:Type}(lt:α->α->Bool)(x:α):List α->List α
 |[]=>[x]|y::ys=>if lt y x=e_ then y::insL lt x ys else x::y::ys
def fQ{α:Type}(lt:α->α->Bool):List α->List α
 |[]=>[]|x::xs=>insL lt x (fQ lt xs)
noncomputable def ltZ(a b:Int):Bool:=CL (a<b)
noncomputable def aZ(t:am):A':=.tup (t.map .int)
def tupD:A'->M am
 |.tup ds=>cA ds|_=>stk
def gq:List A'->M (List am)
 |[]=>.ok []|d::ds=>(tupD d).bind λt=>(gq ds).bind λr=>.ok (t::r)
section
variable{lt:α->α->Bool}
structure Ord(lt:α->α->Bool):Prop where
 irr:∀a,lt a a=c_
 tr:∀a b c,lt a b=e_->lt b c=e_->lt a c=e_
 tot:∀a b,lt a b=c_->lt b a=c_->a=b
theorem ordZ:Ord ltZ:=⟨λa=>by simp[ltZ],λa b c h1 h2=>by simp[ltZ]at *;lia,λa b h1 h2=>by simp[ltZ]at *;lia⟩
theorem nu(x:α):∀l:List α,(insL lt x l).Perm (x::l)
 |[]=>Fy _|y::ys=>by
  rw[insL];split
  .exact((nu x ys).cons y).trans (List.Perm.swap x y ys)
  .exact Fy _
theorem gK:∀l:List α,(fQ lt l).Perm l
 |[]=>Fy _|x::xs=>(nu x _).trans ((gK xs).cons x)
def Ord.le_trans(o:Ord lt){a b c:α}(h1:lt b a=c_)(h2:lt c b=c_):lt c a=c_:=by
 cases h:lt c a with
 |false=>rfl|true=>
  cases I:lt b c with
  |true=>rw[o.tr b c a I h]at h1;cases h1|false=>have:=o.tot c b h2 I;subst this;rw[h]at h1;cases h1
def Ord.asym(o:Ord lt){a b:α}(h:lt a b=e_):lt b a=c_:=by
 cases h2:lt b a with
 |false=>rfl|true=>have:=o.tr a b a h h2;rw[o.irr]at this;cases this
theorem nt(o:Ord lt)(x:α):∀l:List α,l.Pairwise (λa b=>lt b a=c_)->(insL lt x l).Pairwise (λa b=>lt b a=c_)
 |[],_=>by simp[insL]|y::ys,h=>by
  rw[insL];rw[D_]at h;split
  .rename_i J;rw[D_];refine⟨λb S=>?_,nt o x ys h.2⟩
   rcases r_.mp ((nu x ys).mem_iff.mp S)with e|e
   .rw[e];exact o.asym J
   .exact h.1 b e
  .rename_i J;have I:lt y x=c_:=by simpa using J
   rw[D_,D_];refine⟨λb S=>?_,h⟩
   rcases r_.mp S with e|e
   .rw[e];exact I
   .exact o.le_trans I (h.1 b e)
theorem iH(o:Ord lt):∀l:List α,(fQ lt l).Pairwise (λa b=>lt b a=c_)
 |[]=>E1|x::xs=>nt o x _ (iH o xs)
theorem mU(o:Ord lt):∀{l m:List α},l.Perm m->l.Pairwise (λa b=>lt b a=c_)->m.Pairwise (λa b=>lt b a=c_)->l=m
 |[],m,h,_,_=>(List.Perm.nil_eq h)|a::l,m,h,h1,h2=>by
  cases m with
  |nil=>exact CQ h.symm ad|cons b m=>
   rw[D_]at h1 h2;have e:a=b:=by
    rcases r_.mp (h.mem_iff.mp CW)with e|e
    .exact e
    .rcases r_.mp (h.mem_iff.mpr CW)with e2|e2
     .exact e2.symm
     .exact o.tot a b (h2.1 a e) (h1.1 b e2)
   subst e;rw[mU o (List.Perm.cons_inv h) h1.2 h2.2]
end
section
open PySem.W
variable{lt:α->α->Bool}
def getD_get{l:List α}{d:α}(h:i<l.length):l.getD i d=l[i]:=by simp[h]
noncomputable def rk(lt:α->α->Bool)(I:List α)(d:α)(i:Nat):Int:=((I.filter λz=>lt z (I.getD i d)).length:Int)
theorem filter_lt{p q:α->Bool}(h:∀z,p z=e_->q z=e_):∀l:List α,(l.filter p).length<=(l.filter q).length/\((∃z∈l,p z=c_/\q z=e_)->(l.filter p).length<(l.filter q).length)
 |[]=>⟨m_ _,λ⟨_,h,_⟩=>nomatch h⟩
 |x::xs=>by
  obtain⟨Y,U⟩:=filter_lt h xs;cases I:p x with
  |true=>
   have J:=h x I;rw[H9 I,H9 J];refine⟨by simp;exact Y,λI=>?_⟩
   obtain⟨z,S,e1,e2⟩:=I;rcases r_.mp S with e|e
   .rw[e,I]at e1;cases e1
   .have:=U ⟨z,e,e1,e2⟩;simp;exact this
  |false=>
   rw[K8 (by simp[I])];cases J:q x with
   |true=>rw[H9 J];exact⟨by simp;lia,λ_=>by simp;lia⟩|false=>
    rw[K8 (by simp[J])];refine⟨Y,λI=>?_⟩
    obtain⟨z,S,e1,e2⟩:=I;rcases r_.mp S with e|e
    .rw[e,J]at e2;cases e2
    .exact U ⟨z,e,e1,e2⟩
theorem rk_lt(o:Ord lt){I:List α}{d:α}(hi:i<I.length)(S:j<I.length):ltK (rk lt I d) i j=lt (I.getD i d) (I.getD j d):=by
 unfold ltK rk;have Y:I.getD i d∈I:=by rw[getD_get hi];exact D7 hi
 have a:I.getD j d∈I:=by rw[getD_get S];exact D7 S
 cases h:lt (I.getD i d) (I.getD j d)with
 |true=>refine El ?_;have:=(filter_lt (p:=λz=>lt z (I.getD i d)) (q:=λz=>lt z (I.getD j d)) (λz J=>o.tr _ _ _ J h) I).2 ⟨_,Y,o.irr _,h⟩;lia|false=>
  refine Dx ?_;have:=(filter_lt (p:=λz=>lt z (I.getD j d)) (q:=λz=>lt z (I.getD i d)) (λz J=>by
   cases U:lt z (I.getD i d)with
   |true=>rfl|false=>have e:=o.le_trans h U;rw[J]at e;cases e) I).1
  lia
def tup_deep{F:Hp}{t:am}(h:tupD d=.ok t):d=aZ t:=by
 cases d with
 |tup ds=>
  have:∀{ds:List A'} {t:am},cA ds=.ok t->ds=t.map .int:=by
   intro ds
   induction ds with
   |nil=>intro t h;cases h;rfl|cons d ds I=>
    intro t h;cases d with
    |int i=>
     cases e:cA ds with
     |error x=>simp only[cA,asI,ai,e,gZ]at h;cases h|ok r=>simp only[cA,asI,ai,e]at h;cases h;rw[I e];rfl
    |_=>cases h
  unfold aZ;rw[this h]
 |_=>cases h
theorem mI:∀{ds:List A'} {ts:List am},gq ds=.ok ts->ds=ts.map aZ
 |[],_,h=>by cases h;rfl|d::ds,ts,h=>by
  cases e:tupD d with
  |error x=>simp only[gq,e,gZ]at h;cases h|ok t=>
   cases e2:gq ds with
   |error x=>simp only[gq,e,ai,e2,gZ]at h;cases h|ok r=>simp only[gq,e,ai,e2]at h;cases h;rw[tup_deep (F:=λ_=>f_) e,mI e2];rfl
theorem mJ:∀{ds:List A'} {e:Err},gq ds=.error e->e=.stuck
 |[],_,h=>by cases h|d::ds,e,h=>by
  cases e1:tupD d with
  |error x=>
   simp only[gq,e1,gZ]at h;cases h;cases d with
   |tup ds=>exact fy e1|_=>cases e1;rfl
  |ok t=>
   cases e2:gq ds with
   |error x=>simp only[gq,e1,ai,e2,gZ]at h;cases h;exact mJ e2|ok r=>simp only[gq,e1,ai,e2]at h;cases h
end
noncomputable def cX(n d:Nat):Option Int->Nat
 |none=>d|some v=>if v<0 then(v+(n:Int)).toNat else J_ v.toNat n
def zJ(xs:List α)(lo hi:Option Int):List α:=(xs.drop (cX xs.length 0 lo)).take (cX xs.length xs.length hi-cX xs.length 0 lo)
def fV:A'->Option Int->Option Int->M A'
 |.lst ds,lo,hi=>.ok (.lst (zJ ds lo hi))|.tup ds,lo,hi=>if (CL (cX ds.length 0 lo=0)&&CL (cX ds.length ds.length hi=ds.length))=e_ then stk else .ok (.tup (zJ ds lo hi))
 |_,_,_=>stk
noncomputable def tE:ae->M (Option Int):=λ_=>.ok f_
def lL(f:ae->M A'):ae->M (Option Int):=λρ=>(f ρ).bind λd=>(asI d).bind λi=>.ok (a_ i)
noncomputable def fSl(g:A'->Option Int->Option Int->M A')(fa:ae->M A')(fl fu:ae->M (Option Int)):ae->M A':=λρ=>(fa ρ).bind λa=>(fl ρ).bind λl=>(fu ρ).bind λu=>g a l u
def extD(ρ:ae)(i:Nat)(ds:List A'):A'->M C1
 |.lst es=>if ds.length+es.length<=o_ then put ρ i (ds++es)else stk
 |_=>stk
def sExt(O:aC)(i:Nat)(f:ae->M A'):ae->M C1:=λρ=>(gU ρ i).bind λds=>(f (erase O ρ)).bind λd=>extD ρ i ds d
def isBD:A'->A'->M A'
 |.bl a,.bl b=>.ok (.bl (a==b))|.non,.bl _=>.ok (.bl c_)|.int _,.bl _=>.ok (.bl c_)|.str _,.bl _=>.ok (.bl c_)|.lst _,.bl _=>.ok (.bl c_)|.tup _,.bl _=>.ok (.bl c_)|_,_=>stk
section
variable{W:cp}{own:Bool}{a b d:Em}{lo hi:Option Em}{y:C_}{p q r t u:IM}{f:ae->M A'}{fu:ae->M (Option Int)}
def tDO(K:Fg)(W:cp)(f:ae->M (Option Int)):TO:=λσ H Q=>∃F ρ,jw K F σ ρ/\aK F H/\(match f ρ with
 |.ok o=>∀F' H',B4 F H F' H'->Q o H'|.error e=>W.p e F H)
def Ar{R:Option Int->Hp->Prop}(r:jw K F σ ρ)(s:aK F H)(J:∀e,fl ρ=.error e->W.p e F H)(I:∀o,fl ρ=.ok o->∀F1 H1,B4 F H F1 H1->R o H1):tDO K W fl σ H R:=by
 refine⟨F,ρ,r,s,?_⟩
 cases e:fl ρ with
 |ok d=>exact I d e|error x=>exact J x e
abbrev DP(K:Fg)(W:cp)(X:Cx)(e:Option Em)(f:ae->M (Option Int)):Prop:=PO X e (tDO K W f)
def PO.imp{t t':TO}(h:PO X lo t)(q:∀σ H Q,t' σ H Q->t σ H Q):PO X lo t':=λB2 s σ H Q I z=>h B2 s σ H Q I (q σ H Q z)
def rG:DP K W X f_ tE:=po_none.imp λσ H Q ⟨F,ρ,r,s,p⟩=>p F H (B4.refl s)
def rF(h:DE K W c_ X e f):DP K W X (a_ e) (lL f):=(po_some h).imp λσ H Q ⟨F,ρ,r,s,p⟩=>by
 refine aL r s (λe J=>?_) λd hd v F1 H1 I q1=>?_
 .have z:lL f ρ=.error e:=by unfold lL;rw[J];rfl
  rw[z]at p;exact p
 .have z:lL f ρ=(asI d).bind λi=>.ok (a_ i):=by unfold lL;rw[hd];rfl
  rw[z]at p;cases d with
  |int i=>exact⟨i,q1,p F1 H1 I⟩|_=>exact(W.ns p).elim
def rDS(K:Fg)(W:cp)(own:Bool)(g:A'->Option Int->Option Int->M A'):V->Option Int->Option Int->Hp->VK->Prop:=λx lo hi H Q=>∃F a,aK F H/\aR K F a x/\aF K W own F H (g a lo hi) Q
def rd_sl{g:A'->Option Int->Option Int->M A'}(h:tD K W own (fSl g fa fl fu) σ H Q):tSl (rDS K W own g) (tD K W c_ fa) (tDO K W fl) (tDO K W fu) σ H Q:=by
 obtain⟨F,ρ,r,s,p⟩:=h;refine aL r s (λe S=>p.err (by unfold fSl;rw[S];rfl)) λa Y x F1 H1 I q1=>?_;refine Ar (r.mono I.ff) I.fh (λe S=>(p.step I).err (by unfold fSl;rw[Y];show(fl ρ).bind _=_;rw[S];rfl)) λl b F2 H2 J=>?_;refine Ar ((r.mono I.ff).mono J.ff) J.fh (λe S=>(p.step (I.trans J)).err (by unfold fSl;rw[Y];show(fl ρ).bind _=_;rw[b];show(fu ρ).bind _=_;rw[S];rfl)) λu c d f U=>?_;refine⟨d,a,U.fh,aR.mono (J.trans U).ff q1,?_⟩
 have e:fSl g fa fl fu ρ=g a l u:=by unfold fSl;rw[Y];show(fl ρ).bind _=_;rw[b];show(fu ρ).bind _=_;rw[c];rfl
 rw[e]at p;exact p.step ((I.trans J).trans U)
def de_sl{g:A'->Option Int->Option Int->M A'}(J:SlR X (rDS K W own g))(U:DE K W c_ X a fa)(S:DP K W X lo fl)(I:DP K W X hi fu):DE K W own X (.Subscript a (.Slice lo hi f_ p2) pos) (fSl g fa fl fu):=(pe_slice J U S I).imp λ_ _ _=>rd_sl
def xZ(n d:Nat)(o:Option Int):cX n d o=HT.sIx n d o:=by cases o<;>rfl
def ay.cut{ds:List A'}{xs:aB}{l u:Option Int}(h:ay K F ds xs):ay K F (zJ ds l u) (cutV xs l u):=by unfold zJ cutV;rw[xZ,xZ,h.length];exact ay.take _ (ay.drop _ h)
def x_sl(j: ~~~(X.K=K)):SlR X (rDS K W e_ fV):=by
 subst j;intro B2 s σ H x v d c lo hi sl Q I f i pl g h;refine(SlR.or sl_list sl_tup) B2 s σ H x v d c lo hi sl Q I f i pl g ?_;obtain⟨F,a,J,b,p⟩:=h;cases a with
 |lst ds=>obtain⟨l,xs,e,t,z⟩:=b;exact .inl ⟨l,xs,e,J.lst t,λr U=>aF.lst p J z.cut U⟩
 |tup ds=>
  obtain⟨l,xs,e,t,z⟩:=b;have S:aF X.K W e_ F H (if (CL (cX ds.length 0 lo=0)&&CL (cX ds.length ds.length hi=ds.length))=e_ then stk else .ok (.tup (zJ ds lo hi))) Q:=p;by_cases Y:(CL (cX ds.length 0 lo=0)&&CL (cX ds.length ds.length hi=ds.length))=e_
  .rw[n_ Y]at S;exact S.stuck
  .rw[l_ Y]at S;refine .inr ⟨l,xs,e,J.tup t,λhw=>Y ?_,λr U=>aF.tup S J z.cut U⟩;rw[xZ,xZ,<- z.length];simp only[A_,Dj];exact hw
 |_=>exact aF.stuck p
def o_isB:Op2 K W own X (DQ .Is) isBD:=by
 intro B2 s σ H x y v u Q I S Y h;obtain⟨F,a,b,J,U,c,p⟩:=h;cases b with
 |bl k=>
  cases(show y=.bl k from c);cases Y;cases a with
  |bl j=>cases(show x=.bl j from U);cases S;exact is_bool (cI I (aF.bl p J) rfl)|non=>cases(show x=.non from U);cases S;exact h_ (cI I (aF.bl p J) rfl)|int j=>cases(show x=.int j from U);obtain⟨t,rfl⟩:=S;exact h_ (cI I (aF.bl p J) rfl)
  |str j=>cases(show x=.str j from U);obtain⟨t,rfl⟩:=S;exact h_ (cI I (aF.bl p J) rfl)
  |lst ds=>obtain⟨l,xs,e,_⟩:=U;subst e;cases S;exact h_ (cI I (aF.bl p J) rfl)
  |tup ds=>obtain⟨l,xs,e,_⟩:=U;subst e;cases S;exact h_ (cI I (aF.bl p J) rfl)
  |ins C fs=>exact aF.stuck p|dic ks=>exact aF.stuck p|dil ks=>exact aF.stuck p
 |_=>cases a<;>exact aF.stuck p
def rs_ext(hi:i∈O)(t:tS K W ro F0 H0 OL O O (sExt O i f) D σ H):yA (tBM K "list" AF (wk i) (j9 (tD K W e_ f) wo)) D σ H:=by
 obtain⟨FB,F,ρ,r,p⟩:=t;cases I:gU ρ i with
 |error e=>have:=nc I;subst this;exact p.stuck (by unfold sExt;rw[I];rfl)|ok ds=>
  obtain⟨a,xs,e2,Y,z⟩:=r.Bh hi (iZ I);refine⟨.ref a,e2,qy Y,?_⟩
  refine aL r.iT r.st.fh (λe g=>p.gL r.st (by unfold sExt;rw[I];show(f (erase O ρ)).bind _=_;rw[g];rfl)) λd hd v F1 H1 J q=>?_;have j:sExt O i f ρ=extD ρ i ds d:=by unfold sExt;rw[I];show(f (erase O ρ)).bind _=_;rw[hd];rfl
  rw[j]at p;cases d with
  |lst es=>
   obtain⟨b,c,e3,h,_,_,U⟩:=q;by_cases S:ds.length+es.length<=o_
   .have ep:extD ρ i ds (.lst es)=put ρ i (ds++es):=n_ S;rw[ep]at p;exact⟨a,b,xs,c,rfl,by rw[e3],J.hh _ _ Y,h,by rw[z.length,U.length];exact S,p σ F1 _ ((r.step J).write hi (iZ I) e2 (ay.append (z.mono J.ff) U))⟩
   .exact p.stuck (l_ S)
  |_=>exact p.stuck rfl
def ds_ext(d:DE K W e_ X e f)(c:(i∈O)⁻¹)(g: ~~~(X.N[i]?=a_ x))(hv:autoParam (Vis X.env.scope x) Jq4)(hd:((x==("__debug__":C_))=c_)⁻¹)(b:((x==("__classdict__":C_))=c_)⁻¹)(h: ~~~(X.K=K))(U: ~~~(j_ [e] X.env=[(c_,Dh e X.env)]))(S: ~~~(Fi (.Name x p) "extend" X.env (Dh (.Name x p) X.env)=Dh (.Name x p) X.env))(Y: ~~~(((Eg q (j_ [e] X.env)).all (λx=> !x.1)&&(HQ q (Gv [] X.env)).all (λx=>x.1.isSome)&&CL ([e].length+([]:List Ik).length+(if ([]:List Ik).isEmpty then 0 else 1)<30))=e_))(I: ~~~((Eg q (j_ [] X.env)).any (·.1)=c_))(J: ~~~((apos.endLine==q.line)=e_))(a: ~~~(EV (.Call (.Attribute (.Name x p) "extend" apos) [e] [] q) f_ pos.line X.env=ER c_)):
  DS K W ro X OL O O (.Expr (.Call (.Attribute (.Name x p) "extend" apos) [e] [] q) pos) (sExt O i f):=λF0 H0=>by
 subst h;exact PS.imp (mT (pe_bm HD Lk PySem.F.type_list_extend Bd (pv i g hv hd b) (aW d cK U) S Y J U I) a) λ_ _ _=>rs_ext c
end
section
variable{fu:ae->M (Option Int)}
@[simp]def e_pNone:tE ρ=.ok f_:=id rfl
@[simp]def e_pSome:lL fa ρ=(fa ρ).bind λd=>(asI d).bind λi=>.ok (a_ i):=id rfl
@[simp]def e_slF(k:A'->Option Int->Option Int->M A'):fSl k fa fl fu ρ=(fa ρ).bind λa=>(fl ρ).bind λl=>(fu ρ).bind λu=>k a l u:=id rfl
@[simp]def e_sliceL(ds:List A')(lo hi:Option Int):fV (.lst ds) lo hi=.ok (.lst (zJ ds lo hi)):=id rfl
@[simp]def e_extD(i:Nat)(ds es:List A'):extD ρ i ds (.lst es)=if ds.length+es.length<=o_ then put ρ i (ds++es)else stk:=id rfl
@[simp]def e_ext(O:aC)(i:Nat):sExt O i fa ρ=(gU ρ i).bind λds=>(fa (erase O ρ)).bind λd=>extD ρ i ds d:=id rfl
@[simp]def e_isBB(a b:Bool):isBD (.bl a) (.bl b)=.ok (.bl (a==b)):=id rfl
@[simp]def e_eqII(i j:Int):eqM (.int i) (.int j)=.ok (.bl (CL (i=j))):=by show Ec (A'.bl (i==j))=_;rw[show(i==j)=CL (i=j)from rfl]
@[simp]def e_neII(i j:Int):neM (.int i) (.int j)=.ok (.bl (!decide (i=j))):=by show Ec (A'.bl (!(i==j)))=_;rw[show(i==j)=CL (i=j)from rfl]
@[simp] theorem cut_take{α:Type}(xs:List α){j:Int}(h:0<=j):zJ xs f_ (a_ j)=xs.take j.toNat:=by
 unfold zJ cX;simp only[l_ (show ¬j<0 by lia),Ek,Iw];rcases N9 j.toNat xs.length with h1|h1
 .rw[GA h1]
 .rw[M3 h1,Gi,Fb h1]
@[simp] theorem rP{α:Type}(xs:List α){j:Int}(h:0<=j):zJ xs (a_ j) f_=xs.drop j.toNat:=by
 unfold zJ cX;simp only[l_ (show ¬j<0 by lia)];rcases N9 j.toNat xs.length with h1|h1
 .rw[GA h1,Fb ad]
 .rw[M3 h1,EN h1,Ia];simp
end
def oW(Cs:List i_)(x:C_):A'->M A'
 |.ins C fs=>if Cs.contains C=e_ then(match fs.lookup x with
  |some d=>.ok d|none=>stk)else stk
 |_=>stk
def isC(C:i_)(m:C_):A'->Bool
 |.ins D fs=>(D==C)&&(fs.lookup m).isNone|_=>c_
def ki(C:i_)(m:C_)(g:List A'->M A')(fo:ae->M A')(fr:ae->M (List A')):ae->M A':=λρ=>(fo ρ).bind λo=>if isC C m o=e_ then(fr ρ).bind λI=>g (o::I)else stk
def cC(C C2:i_)(m:C_)(g g2:List A'->M A')(fo:ae->M A')(fr:ae->M (List A')):ae->M A':=λρ=>(fo ρ).bind λo=>if isC C m o=e_ then(fr ρ).bind λI=>g (o::I)else if isC C2 m o=e_ then(fr ρ).bind λI=>g2 (o::I)else stk
def newR(C:i_)(g:List A'->M A'):List A'->M A'
 |[d]=>(g [d]).bind λr=>.ok (.ins C [("gaps",r)])|_=>stk
def twoL:A'->A'->Bool
 |.lst xs,.lst ys=>CL (xs.length=ys.length)|_,_=>c_
def newP(C:i_)(g:List A'->M A'):List A'->M A'
 |[d,e]=>(g [d]).bind λr=>(g [e]).bind λr2=>if twoL r r2=e_ then .ok (.ins C [("gaps",r),("beside",r2)])else stk
 |_=>stk
def sStk:ae->M C1:=λ_=>stk
section
variable{W:cp}{own:Bool}{o a b c d:Em}{y m:C_}{p:IM}{f fo:ae->M A'}{fr:ae->M (List A')}{C2:i_}{Cs:List i_}
def ds_stk{st:Ei}:DS K W ro X OL O O' st sStk:=λF0 H0 B2 s σ H D I h=>by obtain⟨FB,F,ρ,r,p⟩:=h;exact p.stuck rfl
theorem jf.at{F:Hp}{x:C_}:∀{gs:List (C_×A')} {fs:List (C_×V)},jf K F gs fs->(∀d,gs.lookup x=a_ d->∃v,fs.lookup x=a_ v/\aR K F d v)/\(gs.lookup x=f_->fs.lookup x=f_)
 |[],fs,h=>by cases(show fs=[]from h);exact⟨λd h=>by simp at h,λ_=>rfl⟩|(g,d)::gs,fs,h=>by
  obtain⟨v,r,rfl,h1,h2⟩:=h;have I:=jf.at (x:=x) h2;rw[CN,CN];cases e:x==g with
  |true=>exact⟨λd' h'=>by cases h';exact⟨v,rfl,h1⟩,λh'=>by cases h'⟩|false=>exact I
def uj(g:∀C∈Cs,Cls K C/\gN K C y)(U:DE K W c_ X e fa)(b: ~~~(Fi e y X.env (Dh e X.env)=Dh e X.env))(f: ~~~(X.K=K)):DE K W c_ X (.Attribute e y pos) (f1 (oW Cs y) fa):=by
 subst f;refine(AS U b).imp λσ H Q h=>?_;obtain⟨F,ρ,r,s,p⟩:=h;refine aL r s (λe U=>p.err (by unfold f1;rw[U];rfl)) λa c x F1 H1 J q1=>?_;have i:f1 (oW Cs y) fa ρ=oW Cs y a:=by unfold f1;rw[c];rfl
 rw[i]at p;cases a with
 |ins C gs=>
  obtain⟨l,dx,fs,e1,ea,j⟩:=q1;have I:aF X.K W c_ F H (if Cs.contains C=e_ then(match gs.lookup y with
   |some d=>.ok d|none=>stk)else stk) Q:=p
  by_cases Y:Cs.contains C=e_
  .rw[n_ Y]at I;obtain⟨h1,h2⟩:=g C (by simpa using Y);cases S:gs.lookup y with
   |none=>rw[S]at I;exact aF.stuck I|some d=>rw[S]at I;obtain⟨v,hv,hd⟩:=j.at.1 d S;exact⟨l,C,dx,fs,v,e1,J.fh _ _ ea,h1,h2,hv,(I.step J) v F1 H1 (B4.refl J.fh) hd⟩
  .rw[l_ Y]at I;exact aF.stuck I
 |_=>exact aF.stuck p
def PE.or{S J:TE}(h1:PE X e S)(h2:PE X e J):PE X e (λσ H Q=>S σ H Q\/J σ H Q):=λB2 s σ H Q I h=>h.elim (h1 B2 s σ H Q I) (h2 B2 s σ H Q I)
def AD(h:tD K Hn ro (ki C m (b7 nN n g) fo fr) σ H Q):tMeth C m (spF K ro (b7 nN n g) n) [] E0 (tD K Hn c_ fo) (tDA K Hn fr) σ H Q:=by
 obtain⟨F,ρ,r,s,p⟩:=h;refine aL r s (λe a=>p.err (by unfold ki;rw[a];rfl)) λo i x F1 H1 S q1=>?_;have k:ki C m (b7 nN n g) fo fr ρ=if isC C m o=e_ then(fr ρ).bind λJ=>b7 nN n g (o::J)else stk:=by unfold ki;rw[i];rfl
 rw[k]at p;by_cases U:isC C m o=e_
 .rw[n_ U]at p;cases o with
  |ins D gs=>
   obtain⟨l,dx,fs,e1,ea,q⟩:=id q1;have I:((D==C)&&(gs.lookup m).isNone)=e_:=U;rw[A_]at I;obtain⟨c,j⟩:=I;have c:D=C:=by simpa using c
   subst c;refine⟨l,dx,fs,e1,S.fh _ _ ea,q.at.2 (by simpa using j),?_⟩
   have p:=p.step S;refine jB (r.mono S.ff) S.fh (λe a=>p.err (by rw[a];rfl)) λJ b vs F2 H2 Y f=>?_;rw[b]at p;have p:aF K Hn ro F1 H1 (b7 nN n g (.ins D gs::J)) Q:=p;have p:=p.step Y;show spF K ro (b7 nN n g) n (x::(vs++[])) H2 Q E0;rw[DB];by_cases d:(A'.ins D gs::J).length=n
   .exact⟨F2,.ins D gs::J,Y.fh,⟨x,vs,rfl,aR.mono Y.ff q1,f⟩,d,p⟩
   .rw[jS d]at p;exact aF.stuck p
  |_=>cases U
 .rw[l_ U]at p;exact aF.stuck p
def wG(h:tD K Hn ro (cC C C2 m (b7 nN n g) (b7 nN2 n2 g2) fo fr) σ H Q):
  tD K Hn ro (ki C m (b7 nN n g) fo fr) σ H Q\/tD K Hn ro (ki C2 m (b7 nN2 n2 g2) fo fr) σ H Q:=by
 obtain⟨F,ρ,r,s,p⟩:=h;cases J:fo ρ with
 |error e=>
  refine .inl ⟨F,ρ,r,s,?_⟩;have e1:cC C C2 m (b7 nN n g) (b7 nN2 n2 g2) fo fr ρ=.error e:=by unfold cC;rw[J];rfl
  have e2:ki C m (b7 nN n g) fo fr ρ=.error e:=by unfold ki;rw[J];rfl
  rw[e1]at p;rw[e2];exact p
 |ok o=>
  have e1:cC C C2 m (b7 nN n g) (b7 nN2 n2 g2) fo fr ρ=if isC C m o=e_ then(fr ρ).bind λI=>b7 nN n g (o::I)else if isC C2 m o=e_ then(fr ρ).bind λI=>b7 nN2 n2 g2 (o::I)else stk:=by unfold cC;rw[J];rfl
  have e2:ki C m (b7 nN n g) fo fr ρ=if isC C m o=e_ then(fr ρ).bind λI=>b7 nN n g (o::I)else stk:=by unfold ki;rw[J];rfl
  have e3:ki C2 m (b7 nN2 n2 g2) fo fr ρ=if isC C2 m o=e_ then(fr ρ).bind λI=>b7 nN2 n2 g2 (o::I)else stk:=by unfold ki;rw[J];rfl
  rw[e1]at p;by_cases S:isC C m o=e_
  .rw[n_ S]at p e2;exact .inl ⟨F,ρ,r,s,by rw[e2];exact p⟩
  .rw[l_ S]at p;exact .inr ⟨F,ρ,r,s,by rw[e3];exact p⟩
def yk(X:Cx)(o:Em)(m:C_)(apos:IM)(es:List Em)(pos:IM)(pl:Lb Bool):Prop:=Dh (.Call (.Attribute o m apos) es [] pos) X.env=(do let I <- Dh o X.env;IV apos.atName;let (f,first) <- Gg [I] (JE I m pl);MU pos f first (Eg pos (j_ es X.env)) (HQ pos (Gv [] X.env)))
section
variable{fad2:i_}{fd2:Fh}
def wO(c:Cls X.K C)(M:Meth X.K C m fad)(F:fU X.prog X.w X.K X.mg X.base CX0 k fad fd ps (spF X.K ro (b7 nN n g) n))(U:fS k X.A)(a:Binds X.K fd ps [])(Y:DE X.K Hn c_ X o fo)(b:DA X.K Hn X (e::es) fr)(I:j_ (e::es) X.env=(c_,Dh e X.env)::j_ es X.env)(J:(Eg pos (j_ es X.env)).any (·.1)=c_)(S:yk X o m apos (e::es) pos pl):DE X.K Hn ro X (.Call (.Attribute o m apos) (e::es) [] pos) (ki C m (b7 nN n g) fo fr):=
 (pe_meth (pl:=pl) Y c M F U a .nil tw b I J S).imp λ_ _ _=>AD
def tm(c:Cls X.K C)(M:Meth X.K C m fad)(F:fU X.prog X.w X.K X.mg X.base CX0 k fad fd ps (spF X.K ro (b7 nN n g) n))(J:fS k X.A)(U:Binds X.K fd ps [])(S:DE X.K Hn c_ X o fo)(I:yk X o m apos [] pos pl):DE X.K Hn ro X (.Call (.Attribute o m apos) [] [] pos) (ki C m (b7 nN n g) fo aD):=
 (pe_meth0 (pl:=pl) S c M F J U .nil tw I).imp λσ H Q h=>by
  obtain⟨F,ρ,r,s,z⟩:=AD h;refine⟨F,ρ,r,s,?_⟩
  cases e1:fo ρ with
  |error b=>rw[e1]at z;exact z|ok od=>rw[e1]at z;intro v F' H' st q;obtain⟨l,dx,fs,h1,h2,a,Y⟩:=z v F' H' st q;exact⟨l,dx,fs,h1,h2,a,rd_nil Y⟩
def de_meth2(c:Cls K C)(M:Meth K C m fad)(F:fU X.prog X.w X.K X.mg X.base CX0 k fad fd ps (spF K ro (b7 nN n g) n))(d:fS k X.A)(f:Binds X.K fd ps [])(i:Cls K C2)(j:Meth K C2 m fad2)(F2:fU X.prog X.w X.K X.mg X.base CX0 k2 fad2 fd2 ps2 (spF K ro (b7 nN2 n2 g2) n2))(S:fS k2 X.A)(U:Binds X.K fd2 ps2 [])(a:DE K Hn c_ X o fo)(b:DA K Hn X (e::es) fr)(h: ~~~(X.K=K))(I: ~~~(j_ (e::es) X.env=(c_,Dh e X.env)::j_ es X.env))(J: ~~~((Eg pos (j_ es X.env)).any (·.1)=c_))(Y: ~~~(yk X o m apos (e::es) pos pl)):
  DE K Hn ro X (.Call (.Attribute o m apos) (e::es) [] pos) (cC C C2 m (b7 nN n g) (b7 nN2 n2 g2) fo fr):=by
 subst h;exact(PE.or (wO c M F d f a b I J Y) (wO i j F2 S U a b I J Y)).imp λ_ _ _=>wG
def fJ(c:Cls K C)(M:Meth K C m fad)(F:fU X.prog X.w X.K X.mg X.base CX0 k fad fd ps (spF K ro (b7 nN n g) n))(Y:fS k X.A)(a:Binds X.K fd ps [])(d:Cls K C2)(e:Meth K C2 m fad2)(F2:fU X.prog X.w X.K X.mg X.base CX0 k2 fad2 fd2 ps2 (spF K ro (b7 nN2 n2 g2) n2))(I:fS k2 X.A)(J:Binds X.K fd2 ps2 [])(U:DE K Hn c_ X o fo)(b: ~~~(X.K=K))(S: ~~~(yk X o m apos [] pos pl)):
  DE K Hn ro X (.Call (.Attribute o m apos) [] [] pos) (cC C C2 m (b7 nN n g) (b7 nN2 n2 g2) fo aD):=by
 subst b;exact(PE.or (tm c M F Y a U S) (tm d e F2 I J U S)).imp λ_ _ _=>wG
end
def spI1(K:Fg)(C:i_)(g:List A'->M A'):Sp:=λvs H Q _=>∃p dx v F d,vs=[.ref p,v]/\H p=a_ (.ins C dx [])/\F p=f_/\aK F H/\aR K F d v/\(match g [d]with
 |.ok r=>∀w F' H',aK F F'->aK F' H'->F' p=f_->(∀b o,F' b=a_ o->F b=a_ o\/H b=f_)->(∀c o,H c=a_ o->c≠p->H' c=a_ o)->H' p=a_ (.ins C dx [("gaps",w)])->aR K F' r w->Q .non H'|.error e=>Hn.p e F H)
def spI2(K:Fg)(C:i_)(g:List A'->M A'):Sp:=λvs H Q _=>∃p dx v J F d S,vs=[.ref p,v,J]/\H p=a_ (.ins C dx [])/\F p=f_/\aK F H/\aR K F d v/\aR K F S J/\(match (g [d]).bind λr=>(g [S]).bind λr2=>if twoL r r2=e_ then .ok (r,r2)else stk with
 |.ok (r,r2)=>∀w I F' H',aK F F'->aK F' H'->F' p=f_->(∀b o,F' b=a_ o->F b=a_ o\/H b=f_)->(∀c o,H c=a_ o->c≠p->H' c=a_ o)->H' p=a_ (.ins C dx [("gaps",w),("beside",I)])->aR K F' r w->aR K F' r2 I->Q .non H'|.error e=>Hn.p e F H)
def B4.born{x dx:i_}{fs:List (C_×V)}(s:aK F H)(S:H x=f_)(J:H dx=f_)(U:dx≠x)(h1:aK F F')(h2:aK F' H')(f:F' x=f_)(d:∀b o,F' b=a_ o->F b=a_ o\/upd (upd H dx (.own x)) x (.ins C dx []) b=f_)(a:∀c o,upd (upd H dx (.own x)) x (.ins C dx []) c=a_ o->c≠x->H' c=a_ o)(Y:H' x=a_ (.ins C dx fs)):B4 F H (upd F' x (.ins C dx fs)) H' where
 ff:=h1.trans (aK.upd f)
 hh:=λc o e=>by
  have I:c≠x:=λh=>by rw[h,S]at e;cases e
  have hd:c≠dx:=λh=>by rw[h,J]at e;cases e
  exact a c o (by rw[aw I,aw hd];exact e) I
 fh:=λc o e=>by
  by_cases I:c=x
  .subst I;rw[aq]at e;rw[Y];exact e
  .rw[aw I]at e;exact h2 _ _ e
 nw:=λc o e=>by
  by_cases I:c=x
  .subst I;exact .inr S
  .rw[aw I]at e;rcases d c o e with z|z
   .exact .inl z
   .refine .inr ?_;by_cases hd:c=dx
    .subst hd;exact J
    .rw[aw I,aw hd]at z;exact z
def BX{g:List A'->M A'}(l:Mk X.K C fI)(P:fU X.prog X.w X.K X.mg X.base CX0 k fI fdI ps (spI1 K C g))(t:fS (k+1) X.A)(y:X.mg x=a_ (.ref C))(D:Binds X.K fdI ps [])(E:DA K Hn X [e] fr)(A: ~~~(Gl X x))(i:((x==("__debug__":C_))=c_)⁻¹)(a: ~~~(j_ [e] X.env=(c_,Dh e X.env)::j_ [] X.env))(b: ~~~((Eg pos (j_ [] X.env)).any (·.1)=c_)):
  DE K Hn c_ X (.Call (.Name x p) [e] [] pos) (fL (newR C g) fr):=by
 refine PE.imp (AQ l P t A y D .nil tw E i a b) λσ H Q h=>?_;obtain⟨F,ρ,r,s,p⟩:=rd_L h;refine⟨F,ρ,r,s,?_⟩
 cases e1:fr ρ with
 |error z=>rw[e1]at p;exact p|ok ds=>
  rw[e1]at p;intro vs F1 H1 st q;obtain⟨F2,j,I,q1,z⟩:=p vs F1 H1 st q;rcases j with _|⟨d,_|⟨_,_⟩⟩
  .exact aF.stuck z
  rotate_left
  .exact aF.stuck z
  .obtain⟨v,U,rfl,n,u⟩:=q1;cases(show U=[]from u);intro x dx Y S f;refine⟨x,dx,v,F2,d,rfl,aq,I.free Y,λc o e=>?_,n,?_⟩
   .have B:c≠x:=λh=>by rw[h,I.free Y]at e;cases e
    have hd:c≠dx:=λh=>by rw[h,I.free S]at e;cases e
    rw[aw B,aw hd];exact I _ _ e
   .have z:aF K Hn c_ F2 H1 ((g [d]).bind λr=>.ok (.ins C [("gaps",r)])) Q:=z;cases J:g [d]with
    |error e=>rw[J]at z;exact DK z|ok r=>
     rw[J]at z;intro w F' H' h1 h2 m O N L G;refine⟨rfl,z (.ref x) (upd F' x (.ins C dx [("gaps",w)])) H' (B4.born I Y S f h1 h2 m O N L) ?_⟩
     exact⟨x,dx,_,rfl,aq,w,[],rfl,aR.mono (aK.upd m) G,rfl⟩
def BY{g:List A'->M A'}(A:Mk X.K C fI)(FI:fU X.prog X.w X.K X.mg X.base CX0 k fI fdI ps (spI2 K C g))(L:fS (k+1) X.A)(O:X.mg x=a_ (.ref C))(T:Binds X.K fdI ps [])(W:DA K Hn X [e,a] fr)(P: ~~~(Gl X x))(n:((x==("__debug__":C_))=c_)⁻¹)(j: ~~~(j_ [e,a] X.env=(c_,Dh e X.env)::j_ [a] X.env))(l: ~~~((Eg pos (j_ [a] X.env)).any (·.1)=c_)):
  DE K Hn c_ X (.Call (.Name x p) [e,a] [] pos) (fL (newP C g) fr):=by
 refine PE.imp (AQ A FI L P O T .nil tw W n j l) λσ H Q h=>?_;obtain⟨F,ρ,r,s,p⟩:=rd_L h;refine⟨F,ρ,r,s,?_⟩
 cases e1:fr ρ with
 |error z=>rw[e1]at p;exact p|ok ds=>
  rw[e1]at p;intro vs F1 H1 st q;obtain⟨F2,u,J,q1,z⟩:=p vs F1 H1 st q;rcases u with _|⟨d,_|⟨y,_|⟨_,_⟩⟩⟩
  .exact aF.stuck z
  .exact aF.stuck z
  rotate_left
  .exact aF.stuck z
  .obtain⟨v,D,rfl,G,E,Y,rfl,b,N⟩:=q1;cases(show Y=[]from N);intro x dx f U m;refine⟨x,dx,v,E,F2,d,y,rfl,aq,J.free f,λc o e=>?_,G,b,?_⟩
   .have R:c≠x:=λh=>by rw[h,J.free f]at e;cases e
    have hd:c≠dx:=λh=>by rw[h,J.free U]at e;cases e
    rw[aw R,aw hd];exact J _ _ e
   .have z:aF K Hn c_ F2 H1 ((g [d]).bind λr=>(g [y]).bind λr2=>if twoL r r2=e_ then .ok (.ins C [("gaps",r),("beside",r2)])else stk) Q:=z;cases S:g [d]with
    |error e=>rw[S]at z;exact DK z|ok r=>
     rw[S,ai]at z;cases I:g [y]with
     |error e=>rw[I]at z;exact DK z|ok r2=>
      rw[I,ai]at z;by_cases i:twoL r r2=e_
      .rw[n_ i]at z;rw[ai,ai,n_ i];intro w B F' H' h1 h2 t h4 h5 h6 h7 Z;refine⟨rfl,z (.ref x) (upd F' x (.ins C dx [("gaps",w),("beside",B)])) H' (B4.born J f U m h1 h2 t h4 h5 h6) ?_⟩
       exact⟨x,dx,_,rfl,aq,w,_,rfl,aR.mono (aK.upd t) h7,B,[],rfl,aR.mono (aK.upd t) Z,rfl⟩
      .rw[l_ i]at z;exact aF.stuck z
end
section
variable{W:cp}{own:Bool}
def Cc(n:X.calm=e_):cH X (.builtin "sum") (λxs H Q=>∃(a:i_) (is:am),xs=[.ref a]/\SqL X.K H a (is.map V.int)/\Q (.int is.sum) H):=by
 intro B2 s σ H xs us Q I r h;obtain⟨a,is,rfl,k,q⟩:=h;obtain⟨u,rfl,i⟩:=r.one;cases i;obtain⟨its,g,p,v⟩:=I.list k;have hi:=intsAre_of g;obtain⟨xs,e⟩:=hi.allInts.items;have U:is=xs.toList.map (·.1):=by rw[<- hi.numsOf,<- LI,<- e]
 have f:=p.isList;rw[e]at f;refine NK (iter_intList f λd e2 st c Y=>?_);subst e2;refine⟨_,_,_,_,_,_,_,KU xs,rfl,(NZ (A:=X.A.in1) (I.ok.hd n) _ a Y (intItems xs)).toS,st,c,(λ_ _=>MS),λs' t' J=>?_⟩
 obtain⟨h',g',d',S,j⟩:=s';have e1:=J.gens;have e2:=J.drawn;have e3:=J.os;have e4:=J.heap;simp only at e1 e2 e3;subst e1 e2 e3;have m:=old_kept (s:=s) (l:=a) (h':=h') λb o t e=>e4 b o t e;refine⟨.int _,H,I.kept (t':=S) m,⟨t',rfl⟩,?_⟩
 have es:preSum (KU xs) (intItems xs).size=is.sum:=by rw[preSum_eq,U,Fb (by simp[intItems])]
 rw[es];exact q
def c_sum(Y:X.calm=e_)(b: ~~~(X.K=K)):ky K W own X (.builtin "sum") sumD:=by
 subst b;refine(Cc Y).imp λxs H Q h=>?_;obtain⟨F,ds,s,q,p⟩:=h;rcases ds with _|⟨d,_|⟨_,_⟩⟩
 .exact aF.stuck p
 .obtain⟨v,vs,rfl,J,U⟩:=q;cases(show vs=[]from U);cases d with
  |lst ds=>
   obtain⟨a,xs,e,t,z⟩:=J;have I:aF X.K W own F H ((cA ds).bind λis=>.ok (.int is.sum)) Q:=p;cases hi:cA ds with
   |error e=>rw[hi]at I;have:=fy hi;subst this;exact aF.stuck I|ok is=>rw[hi]at I;have S:xs=is.map V.int:=eE z hi;subst S;exact⟨a,is,by rw[e],s.lst t,aF.int I s⟩
  |_=>exact aF.stuck p
 .cases d<;>exact aF.stuck p
end
theorem vZ:∀(ds es:List A') (i:Nat),(oh ds es)[i]?=(ds[i]?).bind λd=>(es[i]?).map λe=>.tup [d,e]
 |[],es,i=>by simp[oh]|d::ds,[],i=>by cases h:(d::ds)[i]?<;>simp[oh]
 |d::ds,e::es,0=>by simp[oh]|d::ds,e::es,i+1=>by rw[oh,EI,vZ ds es i,EI,EI]
theorem qt:∀(ds es:List A'),(oh ds es).length=J_ ds.length es.length
 |[],es=>by simp[oh]|d::ds,[]=>by simp[oh]|d::ds,e::es=>by rw[oh,CG,qt ds es,CG,CG];lia
section
variable{s:k_}
noncomputable abbrev newL:IB:={cls:=.type "list",data:=.seq ([]:aM).toArray}
def vP{Q:aM->k_->Prop}{a b:Int}{u v:Tok}(y:A.handled=f_)(p:IsRange s.heap r a b 1 t u v)(Y:HS a b 1=e_)(x:Gb a b 1=n)(S:n<=2^24)(C:∀g tk (I:Array g_),(∀c o,s.heap.get? c=a_ o->g.get? c=a_ o)->NQ (λi v=>∃t,v=.int (a+i*1) t) I n->Q I.toList {s with heap:=g,toks:=tk}):w_ (B_ prog w) A (NJ (.ref r)) Q E s:=by
 unfold NJ;refine b_ (wpAny_runValue (GF L7 ?_))
 (rw[Fn L6 _];show w_ _ A.in1 (NG [] >>=λl=>again (.builtin "list.__iadd__" ⟨[l,.ref r],[]⟩)) _ _ s)
 refine b_ (DN (h_ ⟨JX HX _,GF M6 ?_⟩))
 (rw[Fn HX _];show w_ _ A.in1 (Builtin.List.listExtendWith (.ref s.z) (.ref r) (.ref s.z)) _ _ _)
 have B:(s.heap.push newL).get? s.z=a_ {cls:=.type "list",data:=.seq #[] 0}:=s_ _ rfl;refine DX (wpAny_extend_range (A:=A) (R:=λJ z=>J=.ok (.ret (.ref s.z))/\∃(I:Array g_) (c:Nat),z.heap.get? s.z=a_ {cls:=.type "list",dict:=f_,data:=.seq I c,slots:=#[]}/\Q I.toList z) (s:={s with heap:=s.heap.push newL}) y (d_ _ p) Y x S s.z _ 0 B λg tk I c d U j=>?_) (λfin z h=>?_) λe z h=>CQ h.1 ad
 .exact⟨rfl,I,c,U,C g tk I (λz o e=>d z o (De (t_ e)) (d_ _ e)) j⟩
 .cases fin with
  |done f=>obtain⟨e,I,c,U,q⟩:=h;cases e;exact b_ (m:=load s.z) (J7 U (h_ q))
  |again D=>
   refine⟨h.1,F7 h.2 λJ z k=>?_⟩
   obtain⟨rfl,I,c,U,q⟩:=k;exact b_ (m:=load s.z) (J7 U (h_ q))
theorem qz{a b:Int}{u v:Tok}(U:HS a b 1=e_)(q:Gb a b 1=n)(J:n<=2^24):
  MeetsIn prog w (Builtin.«tuple.__new__» ⟨[.type "tuple",.ref r],[]⟩)
   (λA R s=>A.handled=f_/\IsRange s.heap r a b 1 t u v/\∀(g:Du) (tk:Nat) (I:Array g_),(∀c o,s.heap.get? c=a_ o->g.get? c=a_ o)->NQ (λi v=>∃t,v=.int (a+i*1) t) I n->R (.ok (.ret (.ref g.objs.size))) {s with heap:=g.push {cls:=.type "tuple",data:=.seq I},toks:=tk}):=
 .of_wp λA R s h=>by
  obtain⟨p,g,d,tk,os⟩:=s;obtain⟨y,Y,h⟩:=h;have k:=sub_tuple_self;have f:=init_tuple_lookup;have x:=madeHere_tuple;have z:HA ⟨p,g,d,tk,os⟩ (.ref r) "range":=⟨_,Y,rfl⟩
  wp_walk using wpAny_loadPart' Y,Kg z,vP (A:=A.in1) (n:=n) y Y U q J
  intro g2 S I l j;show w_ _ _ (G4 I.toList.toArray >>=λv=>ret v) _ _ _;unfold G4;have m:I.toList.toArray.size<=o_:=by rw[EK];have:=j.1;simp;lia
  refine b_ (DN (h_ ⟨_,rfl,?_⟩) m);have e:I.toList.toArray=I:=by simp
  rw[e];exact h g2 S I l j
end
section
variable{s:k_}
theorem lU{Q:Vp}{a b:Int}{u v:Tok}(h:A.handled=f_)(e:IsRange s.heap r a b 1 t u v)(U:HS a b 1=e_)(f:Gb a b 1=n)(J:n<=2^24)(j:∀(g:Du) (tk:Nat) (I:Array g_),(∀c o,s.heap.get? c=a_ o->g.get? c=a_ o)->NQ (λi v=>∃t,v=.int (a+i*1) t) I n->Q (.ref g.objs.size) {s with heap:=g.push {cls:=.type "tuple",data:=.seq I},toks:=tk}):
  w_ (B_ prog w) A (Hk (.type "tuple") [.ref r]) Q E s:=
 callType_newIn F.called_tuple ag (F.typeCall_tuple_1 _) (F.newCall_tuple_1 _) (λS=>K6 S _) F.entry_tuple_new
  (qz (t:=t) (u:=u) (v:=v) U f J) ⟨h,e,λg tk I Y d=>⟨⟨_,s_ _ rfl,rfl⟩,j g tk I Y d⟩⟩
end
section
variable{W:cp}{own:Bool}{a b:Em}{p:IM}{fr:ae->M (List A')}
theorem oU(f:X.calm=e_):cH X (.type "tuple") (λxs H Q=>∃r lo hi,xs=[.ref r]/\H r=a_ (.rng lo hi)/\(-(2^62)<=lo/\lo<2^62/\ -(2^62)<=hi/\hi<2^62)/\(hi-lo).toNat<=o_/\∀l,H l=f_->Q (.ref l) (upd H l (.tup ((CU (hi-lo).toNat).map λk:Nat=>V.int (lo+k))))):=by
 intro B2 s σ H xs us Q I c h;obtain⟨r,lo,hi,rfl,j,⟨x,w,p,m⟩,U,q⟩:=h;obtain⟨u,rfl,a⟩:=c.one;cases a;obtain⟨t,u,v,e⟩:=(show ∃t u v,s.heap.get? r=a_ {cls:=.type "range",data:=.fields #[.int lo t,.int hi u,.int 1 v]}from I.hok r _ j)
 refine lU (n:=(hi-lo).toNat) (I.ok.hd f) e (NW x w p m) (by rw[LH];split<;>lia) (by rw[EK]at U;lia) λg tk J d S=>?_;have hv:D' ((CU (hi-lo).toNat).map λk:Nat=>V.int (lo+k)) J.toList:=pP (by rw[DF];exact S.1) λi v hi=>by obtain⟨t,e⟩:=S.2 i v (by simpa using hi);exact⟨t,by rw[e,HK]⟩
 have Y:B6 X B2 σ H {s with heap:=g,toks:=tk}:=I.kept d;exact⟨.ref _,_,Y.laid (t':=tk) (λb o e=>d_ _ e) (m_ _) (show dW X.prog X.w _ (g.push {cls:=.type "tuple",data:=.seq J}) _ (.tup _)from⟨by simpa using U,J.toList,hv,⟨_,s_ _ rfl,rfl,0,ad⟩⟩),rfl,q _ Y.fresh⟩
def fTR(fr:ae->M (List A')):ae->M A':=λρ=>(fr ρ).bind cV
def trng_end{i j:Int}(p:aF K W own F H1 (cV (aQ i (j-i).toNat)) Q)(s:aK F H1)(Y:H1 r=f_):
  (j-i).toNat<=o_/\∀l,upd H1 r (.rng i j) l=f_->Q (.ref l) (upd (upd H1 r (.rng i j)) l (.tup ((CU (j-i).toNat).map λk:Nat=>V.int (i+k)))):=by
 unfold cV at p;by_cases J:(aQ i (j-i).toNat).length<=o_
 .rw[n_ J]at p;refine⟨by simpa[aQ] using J,λl I=>?_⟩
  have S:B4 F H1 F (upd H1 r (.rng i j)):=B4.grow s Y;have U:=B4.lay (o:=.tup ((CU (j-i).toNat).map λk:Nat=>V.int (i+k))) S.fh I;refine p _ _ _ (S.trans U) ?_;cases own<;>exact⟨l,_,rfl,SqT.of aq,nI i _⟩
 .rw[l_ J]at p;exact(W.ns p).elim
def xQ(Y:X.mg "tuple"=f_)(i:X.mg "range"=f_)(n:DA K W X [a] fr)(m: ~~~(X.calm=e_))(k: ~~~(Gl X "range"))(b: ~~~(Gl X "tuple"))(g: ~~~(j_ [a] X.env=[(c_,Dh a X.env)]))(J: ~~~(j_ [.Call (.Name "range" q1) [a] [] q2] X.env=[(c_,Dh (.Call (.Name "range" q1) [a] [] q2) X.env)])):DE K W own X (.Call (.Name "tuple" p) [.Call (.Name "range" q1) [a] [] q2] [] pos) (fTR (jt pq fr)):=by
 refine PE.imp (mV (oU m) b Y Fo (aW (pe_rng1 k i n g) cK J) ag ag J rfl) λσ H Q h=>?_;obtain⟨F,ρ,r,s,p⟩:=h;refine jB r s (λe l=>p.err (by unfold fTR jt;rw[l];rfl)) λds hd xs F1 H1 c q1=>?_;have e1:fTR (jt pq fr) ρ=(pq ds).bind cV:=by unfold fTR jt;rw[hd];rfl
 rw[e1]at p;have p1:=p.step c;by_cases S:∃j,ds=[.int j]
 .obtain⟨j,rfl⟩:=S;obtain⟨v,vs,e2,q2,e3⟩:=q1;have p2:aF K W own F1 H1 ((if b8 j=e_ then Ec (aQ 0 j.toNat)else E3 Err.stuck:M (List A')).bind cV) Q:=p1;by_cases I:b8 j=e_
  .rw[n_ I]at p2;unfold b8 at I;simp only[A_,Dj]at I;have e4:xs=[.int j]:=by rw[e2,show v=.int j from q2,show vs=[]from e3]
   subst e4;refine⟨0,j,rfl,rfl,⟨ag,ag,I.1,I.2⟩,λr2 U=>?_⟩
   have p3:aF K W own F1 H1 (cV (aQ 0 (j-0).toNat)) Q:=by rw[Int.sub_zero];exact p2
   obtain⟨f,d⟩:=trng_end p3 c.fh U;exact⟨r2,0,j,rfl,aq,⟨ag,ag,I.1,I.2⟩,f,d⟩
  .rw[l_ I]at p2;exact(W.ns p2).elim
 .have:pq ds=.error .stuck:=by
   unfold pq;split
   .exact CQ ⟨_,rfl⟩ S
   .rfl
  rw[this]at p1;exact(W.ns p1).elim
@[simp]def e_TR{ρ:ae}:fTR fr ρ=(fr ρ).bind cV:=id rfl
end
def fn_stk{base:Du}{f:i_}:fU P w K mg base CX0 k f fd ps (spF K ro (b7 nN ps.length λ_=>stk) ps.length) where
 len:=λvs H Q E ⟨F,ds,s,q,l,p⟩=>by rw[q.length,l]
 run:=λA outer s H I us vs Q E S U Y hv ⟨F,ds,J,q,l,p⟩=>by
  have e:b7 nN ps.length (λ_=>stk) ds=stk:=by unfold b7;rw[n_ l];rfl
  rw[e]at p;exact aF.stuck p
open Classical in
abbrev ZRec(h:Du)(z p q:i_)(m k:g_):Prop:=h.get? z=a_ {cls:=.type "zip",dict:=f_,data:=.fields #[m,k,.bool c_,.ref p,.ref q],slots:=#[]}
structure Zs(z p q u v l m:i_)(r k a b:g_)(i j:Nat)(xs ys:Array g_)(h:Du):Prop where
 me:ZRec h z p q r k
 its:Iu h p (.ref u) (.ref v)
 own:Iu h q a b
 one:h.IsListIter u l i
 two:h.IsListIter v m j
 xl:h.IsList l xs
 yl:h.IsList m ys
def Off(z q u v:i_)(h h':Du):Prop:=∀c o,c≠z->c≠q->c≠u->c≠v->h.get? c=a_ o->h'.get? c=a_ o
section
variable{u v:i_}{a b:g_}{g:Du}
def Off.then(A:Off z q u v h h')(B:Off z q u v h' g):Off z q u v h g:=λc o a b d e x=>B c o a b d e (A c o a b d e x)
def Off.byZ(A:EC z h h'):Off z q u v h h':=λc o a _ _ _ x=>A c o a x
def Off.byQ(A:EC q h h'):Off z q u v h h':=λc o _ a _ _ x=>A c o a x
def Off.byU(A:EC u h h'):Off z q u v h h':=λc o _ _ a _ x=>A c o a x
def Off.byV(A:EC v h h'):Off z q u v h h':=λc o _ _ _ a x=>A c o a x
def Off.new{o:IB}:Off z q u v h (h.push o):=λ_ _ _ _ _ _ x=>d_ _ x
end
section
variable{s:k_}{p:i_}{r k:g_}
def A5{T:Unit->k_->Prop}(S:ZRec s.heap z p q r k)(Y:∃o,s.heap.get? c=a_ o/\o.cls=.type "StopIteration")(a:∀h',EC z s.heap h'->(∃o,h'.get? c=a_ o/\o.cls=.type "StopIteration")->T () {s with heap:=h'}):w_ (B_ P w) A (Js (.ref z) 0 .none) T E s:=by
 obtain⟨o,e,t⟩:=Y;have U:c≠z:=by intro I;have J:=e.symm.trans (I▸S);rw[Dl J]at t;exact CQ t ad
 exact Nh S (show 0<5 by decide) λh' _ B=>a h' B.extBut ⟨o,B.extBut _ _ U e,t⟩
end
def B4.stays{o:HO}(s:B4 F H F' H')(n:F a=f_)(h:H a=a_ o):F' a=f_:=by
 cases e:F' a with
 |none=>rfl|some u=>
  rcases s.nw a u e with z|z
  .rw[n]at z;cases z
  .rw[h]at z;cases z
structure lW(K:Fg)(F G H:Hp)(ds:List A')(vs:aB):Prop where
 len:vs.length=ds.length
 get:∀(k:Nat) (d:A'),ds[k]?=a_ d->∃a xs es,vs[k]?=a_ (.ref a)/\d=.lst es/\H a=a_ (.lst xs)/\F a=f_/\G a=f_/\ay K F es xs
 ap:∀(j k:Nat) (a:i_),vs[j]?=a_ (.ref a)->vs[k]?=a_ (.ref a)->j=k
section
variable{ds:List A'}{vs:List V}
def lW.nil:lW K F G H [] []:=⟨rfl,λk d e=>by simp at e,λj k a e=>by simp at e⟩
def lW.step(o:lW K F G H ds vs)(s:B4 F H F' H'):lW K F' G H' ds vs where
 len:=o.len
 get:=λk d e=>by obtain⟨a,xs,es,h1,h2,I,U,S,J⟩:=o.get k d e;exact⟨a,xs,es,h1,h2,s.hh _ _ I,s.stays U I,S,J.mono s.ff⟩
 ap:=o.ap
def lW.back{I:Hp}(o:lW K F G H ds vs)(s:aK I G):lW K F I H ds vs where
 len:=o.len
 get:=λk d e=>by obtain⟨a,xs,es,h1,h2,Y,U,S,J⟩:=o.get k d e;exact⟨a,xs,es,h1,h2,Y,U,s.free S,J⟩
 ap:=o.ap
theorem lW.at(o:lW K F G H ds vs){k:Nat}{a:i_}(h:vs[k]?=a_ (.ref a)):∃xs es,ds[k]?=a_ (.lst es)/\H a=a_ (.lst xs)/\F a=f_/\G a=f_/\ay K F es xs:=by
 have I:k<ds.length:=by rw[<- o.len];exact(y_.mp h).1
 obtain⟨b,xs,es,h1,h2,Y,U,S,J⟩:=o.get k ds[k] (by simp[I]);rw[h]at h1;cases h1;exact⟨xs,es,by rw[<- h2];simp[I],Y,U,S,J⟩
theorem lW.add(o:lW K F G H ds vs){es:List A'}{xs:aB}(I:∀k:Nat,vs[k]?≠a_ (.ref a))(h:H a=a_ (.lst xs))(g:F a=f_)(f:G a=f_)(c:ay K F es xs):lW K F G H (ds++[.lst es]) (vs++[.ref a]) where
 len:=by simp[o.len]
 get:=λk d e=>by
  rcases ME k ds.length with z|z|z
  .rw[DD z]at e;obtain⟨b,ys,fs,i,g2⟩:=o.get k d e;exact⟨b,ys,fs,by rw[DD (by rw[o.len];exact z)];exact i,g2⟩
  .subst z;simp at e;refine⟨a,xs,es,?_,e.symm,h,g,f,c⟩
   rw[<- o.len];simp
  .have:=(y_.mp e).1;simp at this;lia
 ap:=λj k b e1 e2=>by
  have key:∀m,(vs++[V.ref a])[m]?=a_ (.ref b)->(m<vs.length/\vs[m]?=a_ (.ref b))\/(m=vs.length/\b=a):=λm e=>by
   rcases ME m vs.length with z|z|z
   .rw[DD z]at e;exact .inl ⟨z,e⟩
   .subst z;simp at e;exact .inr ⟨rfl,e.symm⟩
   .have:=(y_.mp e).1;simp at this;lia
  rcases key j e1 with⟨_,S⟩|⟨S,Y⟩<;>rcases key k e2 with⟨_,J⟩|⟨J,U⟩
  .exact o.ap j k b S J
  .subst U;exact CQ S (I j)
  .subst Y;exact CQ J (I k)
  .lia
end
section
variable{W:cp}
theorem rd_turns{p:Pat}{R:aB->Hp->Prop}(r:jw K F σ ρ)(s:aK F H)(hL:∀ρ d,fe ρ=.ok d->∃es,d=.lst es)(C:∀e,dG fi ix p ft fe ρ=.error e->W.p e F H)(X:∀rs,dG fi ix p ft fe ρ=.ok (.lst rs)->∀ys F2 H2,B4 F H F2 H2->lW K F2 H H2 rs ys->R ys H2):iD K W fi σ H λJ H1=>ko J ix (gP K p) (tDT K W ft) (tD K W e_ fe) σ R H1:=by
 refine⟨F,ρ,r,s,?_⟩
 cases T:fi ρ with
 |error e=>exact C e (by unfold dG;rw[T];rfl)|ok ds=>
  intro J F1 H1 u G;have D:dG fi ix p ft fe ρ=if ds.length<=o_ then(aO p ft fe (dI ix ρ) ds).bind λr=>.ok (.lst r)else .error .stuck:=by unfold dG;rw[T];rfl
  by_cases Q:ds.length<=o_
  .rw[n_ Q]at D;rw[D]at C X;refine⟨λi m ys H2=>m=ds.length-i/\i<=ds.length/\∃F2 I,B4 F1 H1 F2 H2/\lW K F2 H1 H2 I ys/\I.length<=i /\
    (match aO p ft fe (dI ix ρ) (ds.drop i)with
     |.ok S=>aO p ft fe (dI ix ρ) ds=.ok (I++S)|.error e=>W.p e F H),⟨ds.length,ac,DU _,F1,[],B4.refl u.fh,lW.nil,DU _,?_⟩,?_⟩
   .rw[Ek];cases e:aO p ft fe (dI ix ρ) ds with
    |ok S=>rfl|error x=>exact C x (by rw[e];rfl)
   .rintro i m ys H2 ⟨rfl,hi,F2,I,c,E,ly,o⟩;have w:ys.length<=o_:=by rw[E.len];lia
    by_cases f:i<ds.length
    .have ed:ds.drop i=ds[i]::ds.drop (i+1):=D3 f;rw[ed]at o;refine .inr ⟨G.go i F2 H2 c.ff c.fh f,w,λq H'=>(i+1<=ds.length/\∃F2 I,B4 F1 H1 F2 H'/\lW K F2 H1 H' I q/\I.length<=i+1 /\
      (match aO p ft fe (dI ix ρ) (ds.drop (i+1))with
       |.ok S=>aO p ft fe (dI ix ρ) ds=.ok (I++S)|.error e=>W.p e F H)),λq H' n=>⟨ds.length-(i+1),ac,rfl,n⟩,λx H' y=>?_⟩
     obtain⟨F3,h,q3⟩:=G.yl i F2 H2 x H' ds[i] c.ff c.fh (by simp[f]) y;have r3:jw K F3 (Lake.inS ix σ) (dI ix ρ):=(r.mono (u.trans (c.trans h)).ff).inS ix;have t:B4 F H F3 H':=u.trans (c.trans h);have ec:aO p ft fe (dI ix ρ) (ds[i]::ds.drop (i+1))=(gE p ds[i] (dI ix ρ)).bind λU=>(ft U).bind λb=>if b=e_ then(fe U).bind λy=>(aO p ft fe (dI ix ρ) (ds.drop (i+1))).bind λr=>.ok (y::r)else aO p ft fe (dI ix ρ) (ds.drop (i+1)):=by rw[aO]
     rw[ec]at o;cases B:gE p ds[i] (dI ix ρ)with
     |error e=>rw[B]at o;have:=o7 B;subst this;exact(W.ns o).elim|ok U=>
      rw[B]at o;refine gP_run r3 h.fh q3 B λσ2 P=>?_;have g:match ((ft U).bind λb=>if b=e_ then(fe U).bind λy=>(aO p ft fe (dI ix ρ) (ds.drop (i+1))).bind λr=>.ok (y::r)else aO p ft fe (dI ix ρ) (ds.drop (i+1)))with
       |.ok S=>aO p ft fe (dI ix ρ) ds=.ok (I++S)|.error e=>W.p e F H:=o
      refine jA P h.fh (λe L=>by rw[L]at g;exact W.mono g t) λb N F5 H5 l=>?_;rw[N]at g;cases b with
      |false=>
       have Y:match aO p ft fe (dI ix ρ) (ds.drop (i+1))with
        |.ok S=>aO p ft fe (dI ix ρ) ds=.ok (I++S)|.error e=>W.p e F H:=g
       exact⟨f,F5,I,c.trans (h.trans l),E.step (h.trans l),ac,Y⟩
      |true=>
       have Y:match ((fe U).bind λy=>(aO p ft fe (dI ix ρ) (ds.drop (i+1))).bind λr=>.ok (y::r))with
        |.ok S=>aO p ft fe (dI ix ρ) ds=.ok (I++S)|.error e=>W.p e F H:=g
       refine aL (P.mono l.ff) l.fh (λe L=>by rw[L]at Y;exact W.mono Y (t.trans l)) λd hd v F6 H6 O q6=>?_;rw[hd]at Y;obtain⟨es,rfl⟩:=hL _ _ hd;obtain⟨a,xs,ev,g1,g2,Z,g4⟩:=q6;subst ev;have d5:=E.step (h.trans l);refine⟨f,F6,I++[.lst es],c.trans (h.trans (l.trans O)),(d5.step O).add (λk hk=>?_) g1 g2 ((c.trans (h.trans l)).hh.free Z) g4,by simp;lia,?_⟩
       .obtain⟨_,_,_,z,_⟩:=d5.at hk;rw[Z]at z;cases z
       .have j:match ((aO p ft fe (dI ix ρ) (ds.drop (i+1))).bind λr=>.ok (A'.lst es::r):M (List A'))with
         |.ok S=>aO p ft fe (dI ix ρ) ds=.ok (I++S)|.error e=>W.p e F H:=Y
        cases e7:aO p ft fe (dI ix ρ) (ds.drop (i+1))with
        |ok S=>rw[e7]at j;show _=Ec ((I++[A'.lst es])++S);rw[Dp];exact j|error x=>rw[e7]at j;exact j
    .have:i=ds.length:=ac
     subst this;rw[Ia]at o;have A:aO p ft fe (dI ix ρ) ds=.ok (I++[]):=o;rw[DB]at A;exact .inl ⟨G.st F2 H2 c.ff c.fh,w,X I (by rw[A];rfl) ys F2 H2 (u.trans c) (E.back u.hh)⟩
  .rw[l_ Q]at D;exact(W.ns (C .stuck D)).elim
end
def lstOf:A'->M (List A')
 |.lst ds=>.ok ds|_=>.error .stuck
def rowAt(rs:List A')(a:Int):M (Nat×List A'):=match ixN rs.length a with
 |some j=>(match rs[j]? with
  |some (.lst es)=>.ok (j,es)|_=>.error .stuck)
 |none=>.error .stuck
def pk(rs:List A')(I:Nat×List A')(b:Int)(x:A'):M (List A'):=match ixN I.2.length b with
 |some k=>.ok (rs.set I.1 (.lst (I.2.set k x)))|none=>.error .stuck
def sT(i:Nat)(rs:List A')(x:A')(J:Nat×List A')(fB:ae->M A')(ρ:ae):M C1:=(fB (ρ.set i f_)).bind λb=>(asI b).bind λb=>(pk rs J b x).bind λI=>.ok (.nx (ρ.set i (a_ (.lst I))))
def oB(i:Nat)(rs:List A')(x:A')(fA fB:ae->M A')(ρ:ae):M C1:=(fA (ρ.set i f_)).bind λa=>(asI a).bind λa=>(rowAt rs a).bind λI=>sT i rs x I fB ρ
def AB(i:Nat)(rs:List A')(fx fA fB:ae->M A')(ρ:ae):M C1:=(fx (ρ.set i f_)).bind λx=>oB i rs x fA fB ρ
def uX(i:Nat)(fc fx fA fB:ae->M A'):ae->M C1:=λρ=>(fc ρ).bind λd=>(lstOf d).bind λrs=>AB i rs fx fA fB ρ
def uq(g:ae->M C1)(m:M C1):M C1:=m.bind λfl=>match fl with
 |.nx ρ'=>g ρ'|fl=>.ok fl
def eI{m:M C1}{e:Err}(h:m=.error e):uq g m=.error e:=by rw[h];rfl
section
variable{W:cp}
def rs_rows{p:Pat}{fB:ae->M A'}(hL:∀ρ d,fe ρ=.ok d->∃es,d=.lst es)(hi:i<σ.length)(t:tS K W ro F0 H0 OL [] O' (bO (uX i (dG fi ix p ft fe) fx fA fB) g) D σ H):
  tSeq (wm i (iD K W fi) ix (gP K p) (tDT K W ft) (tD K W e_ fe)) (tSeq (tAsg (tD K W c_ fx) (gSub (tOp (rIx K) (wk i) (tD K W c_ fA)) (tD K W c_ fB) rSetL)) (tS K W ro F0 H0 OL [] O' g)) D σ H:=by
 obtain⟨FB,F,ρ,r,q⟩:=t;have rE:=r.repE;have q0:cQ K W ro F0 H0 FB OL O' D (uq g (uX i (dG fi ix p ft fe) fx fA fB ρ)):=q;refine rd_turns rE r.st.fh hL (λe O=>q0.gL r.st (eI (by unfold uX;rw[O];rfl))) λrs hrs ys F2 H2 T ow a ha=>?_;have q1:cQ K W ro F0 H0 FB OL O' D (uq g (AB i rs fx fA fB ρ)):=by unfold uX at q0;rw[hrs]at q0;exact q0
 have r2:jw K F2 (σ.set i (a_ (.ref a))) (ρ.set i f_):=⟨by rw[Dn,Dn,r.len],λj d e=>by
  by_cases N:i=j
  .subst N;rw[CK (by rw[r.len];exact hi)]at e;cases e
  .rw[v_ N]at e;obtain⟨v,h1,h2⟩:=rE.sl j d e;exact⟨v,by rw[v_ N];exact h1,h2.mono T.ff⟩⟩
 have sg:B4 F2 H2 F2 (upd H2 a (.lst ys)):=B4.grow T.fh ha;have f:=T.trans sg;refine aL r2 sg.fh (λe O=>q1.gL (r.st.trans f) (eI (by unfold AB;rw[O];rfl))) λx hx v F3 H3 U qx=>?_;have q2:cQ K W ro F0 H0 FB OL O' D (uq g (oB i rs x fA fB ρ)):=by unfold AB at q1;rw[hx]at q1;exact q1
 refine⟨.ref a,by rw[CK hi],?_⟩
 refine aL (r2.mono U.ff) U.fh (λe O=>q2.gL (r.st.trans (f.trans U)) (eI (by unfold oB;rw[O];rfl))) λda hda va F4 H4 l qa=>?_;cases da with
 |int ka=>
  have s:cQ K W ro F0 H0 FB OL O' D (uq g ((rowAt rs ka).bind λje=>sT i rs x je fB ρ)):=by unfold oB at q2;rw[hda]at q2;exact q2
  have h3a:H3 a=a_ (.lst ys):=U.hh _ _ aq;have h4a:=l.hh _ _ h3a;have Z:=((ow.step sg).step U).step l;have R:=f.trans (U.trans l);cases hj:ixN rs.length ka with
  |none=>exact s.stuck (eI (by unfold rowAt;rw[hj];rfl))|some j=>
   have G:=(vq hj).2.1;obtain⟨b,xs,es,g1,g2,g3,g4,g5,g6⟩:=Z.get j rs[j] (by simp[G]);have erj:rs[j]?=a_ (.lst es):=by rw[<- g2];simp[G]
   have X:cQ K W ro F0 H0 FB OL O' D (uq g (sT i rs x (j,es) fB ρ)):=by
    unfold rowAt at s;rw[hj]at s;have s:cQ K W ro F0 H0 FB OL O' D (uq g (((match rs[j]? with
     |some (.lst es)=>.ok (j,es)|_=>.error .stuck):M (Nat×List A')).bind λje=>sT i rs x je fB ρ)):=s
    rw[erj]at s;exact s
   refine .inl ⟨a,ys,ka,.ref b,rfl,qa,SqL.of h4a,?_,?_⟩
   .unfold atI;rw[ow.len,hj];exact g1
   refine aL (r2.mono (U.trans l).ff) l.fh (λe O=>X.gL (r.st.trans R) (eI (by unfold sT;rw[O];rfl))) λdb hdb vb J P S qb=>?_;cases db with
   |int kb=>
    have q5:cQ K W ro F0 H0 FB OL O' D (uq g ((pk rs (j,es) kb x).bind λrs'=>.ok (.nx (ρ.set i (a_ (.lst rs')))))):=by unfold sT at X;rw[hdb]at X;exact X
    cases hk:ixN es.length kb with
    |none=>exact q5.stuck (eI (by unfold pk;rw[show((j,es):Nat×List A').2=es from rfl,hk];rfl))|some k=>
     have q6:cQ K W ro F0 H0 FB OL O' D (g (ρ.set i (a_ (.lst (rs.set j (.lst (es.set k x))))))):=by unfold pk at q5;rw[show((j,es):Nat×List A').2=es from rfl,hk]at q5;exact q5
     have h5a:=S.hh _ _ h4a;have h5b:=S.hh _ _ g3;have y:=Z.step S;have st:B4 F H J P:=R.trans S;refine⟨b,xs,kb,k,rfl,qb,h5b,by rw[g6.length];exact hk,?_⟩
     have ma:H a=f_:=T.hh.free ha;have fa2:F2 a=f_:=T.fh.free ha;have f5a:J a=f_:=(U.trans (l.trans S)).stays fa2 (aq (H:=H2) (a:=a) (o:=.lst ys));have nab:a≠b:=λz=>by obtain⟨_,_,_,w,_⟩:=ow.at (k:=j) (a:=b) g1;rw[<- z,ha]at w;cases w
     have C:∀c,(c=a\/∃m:Nat,ys[m]?=a_ (.ref c))->J c=f_/\H c=f_:=λc h=>by
      rcases h with z|⟨m,z⟩
      .rw[z];exact⟨f5a,ma⟩
      .obtain⟨_,_,_,_,z1,z2,_⟩:=y.at z;exact⟨z1,z2⟩
     have Ab:b=a\/∃m:Nat,ys[m]?=a_ (.ref b):=.inr ⟨j,g1⟩;have Q:aK J (plus J (upd P b (.lst (xs.set k v))) λc=>c=a\/∃m:Nat,ys[m]?=a_ (.ref c)):=λc o h=>by
      by_cases I:c=a\/∃m:Nat,ys[m]?=a_ (.ref c)
      .rw[(C c I).1]at h;cases h
      .rw[cR I];exact h
     have fh:aK (plus J (upd P b (.lst (xs.set k v))) λc=>c=a\/∃m:Nat,ys[m]?=a_ (.ref c)) (upd P b (.lst (xs.set k v))):=λc o h=>by
      by_cases I:c=a\/∃m:Nat,ys[m]?=a_ (.ref c)
      .rw[iw I]at h;exact h
      .rw[cR I]at h;have:c≠b:=λz=>I (by rw[z];exact Ab);rw[aw this];exact S.fh c o h
     have B:aK F3 (plus J (upd P b (.lst (xs.set k v))) λc=>c=a\/∃m:Nat,ys[m]?=a_ (.ref c)):=(l.trans S).ff.trans Q;have A:aK F4 (plus J (upd P b (.lst (xs.set k v))) λc=>c=a\/∃m:Nat,ys[m]?=a_ (.ref c)):=S.ff.trans Q;refine⟨FB,plus J (upd P b (.lst (xs.set k v))) (λc=>c=a\/∃m:Nat,ys[m]?=a_ (.ref c)),ρ.set i (a_ (.lst (rs.set j (.lst (es.set k x))))),?_,q6⟩
     have Y:=r.st.trans st;refine⟨⟨Y.ff.trans Q,λc o h=>?_,fh,λc o h=>?_⟩,r.fb.trans (st.ff.trans Q),by rw[Dn,Dn,r.len],λm d e _=>?_,(λm d e h=>nomatch h),(λm n d1 d2 c h=>nomatch h)⟩
     .have:c≠b:=λz=>by
       rw[z]at h;have:=r.st.hh _ _ h;rw[(C b Ab).2]at this;cases this
      rw[aw this];exact Y.hh c o h
     .by_cases I:c=a\/∃m:Nat,ys[m]?=a_ (.ref c)
      .exact .inr (r.st.hh.free (C c I).2)
      .rw[cR I]at h;exact Y.nw c o h
     .by_cases L:i=m
      .subst L;rw[CK (by rw[r.len];exact hi)]at e;cases e;refine⟨.ref a,by rw[CK hi],a,ys,rfl,SqL.of ?_,?_⟩
       .rw[iw (.inl rfl),aw nab];exact h5a
       .refine ay.of_get (by rw[Dn];exact ow.len) λm d u e1 e2=>?_;by_cases E:j=m
        .subst E;rw[CK G]at e1;cases e1;rw[g1]at e2;cases e2;exact⟨b,xs.set k v,rfl,SqL.of (by rw[iw Ab,aq]),ay.set (aR.mono B qx) k (g6.mono A)⟩
        .rw[v_ E]at e1;obtain⟨c,ws,fs,k1,k2,k3,k4,k5,k6⟩:=y.get m d e1;rw[k1]at e2;cases e2;subst k2;have ncb:c≠b:=λz=>E (y.ap j m b g1 (by rw[<- z];exact k1));exact⟨c,ws,rfl,SqL.of (by rw[iw (.inr ⟨m,k1⟩),aw ncb];exact k3),k6.mono Q⟩
      .rw[v_ L]at e;obtain⟨u,h1,h2⟩:=rE.sl m d e;exact⟨u,by rw[v_ L];exact h1,h2.mono (st.ff.trans Q)⟩
   |_=>exact X.stuck (eI (by unfold sT;rw[hdb];rfl))
 |_=>exact q2.stuck (eI (by unfold oB;rw[hda];rfl))
end
def Bo{fr:ae->M (List A')}:∀ρ d,fL jY fr ρ=.ok d->∃es,d=.lst es:=λρ d h=>by
 unfold fL at h;cases e:fr ρ with
 |error x=>rw[e]at h;cases h|ok ds=>
  rw[e]at h;have h:jY ds=.ok d:=h;unfold jY at h;split at h
  all_goals first
   |(cases h;done)
   |(split at h<;>first|(cases h;done)|(cases h;exact⟨_,rfl⟩))
   |(cases h;exact⟨_,rfl⟩)
section
variable{W:cp}{ea eb:Em}{pt:Pat}{fB:ae->M A'}{p3 p4:IM}
def ds_rows(N':List C_)(ix:List (Option Nat))(u:X.N.Nodup)(hi:DI K W X tg iter fi)(p:∀L cs s H fp,DG K (ba X N' sc L cs s H fp) tg pt)(n:qr ix (gP K pt))(k:∀L cs s H fp,PTs (ba X N' sc L cs s H fp) ifs (tDT K W ft))(q:∀L cs s H fp,DE K W e_ (ba X N' sc L cs s H fp) elt fe)(w:∀ρ d,fe ρ=.ok d->∃es,d=.lst es)(j:DE K W c_ X ex fx)(B:DE K W c_ X ea fA)(A:DE K W c_ X eb fB)(m:DSs K W ro X OL [] O' sts g)(b: ~~~(X.N[i]?=a_ x))(h: ~~~(X.env.scope.names.lookup x=a_ .local))(r: ~~~(X.calm=e_))(y: ~~~(X.K=K))(U: ~~~(EV (.ListComp elt [⟨tg,iter,ifs,0⟩] sc pos) (a_ (.Name x py)) spos.line X.env=ER e_))(f: ~~~(br X.N X.env.scope N' sc ix=e_))(o: ~~~(sc.kind=.function))(l:autoParam (∀x,Gh iter X.env x=ER x) Jq5)(hv:autoParam (Vis X.env.scope x) Jq4)(hd:((x==("__debug__":C_))=c_)⁻¹)(e:((x==("__classdict__":C_))=c_)⁻¹)(a:autoParam (vV ea) Jq11)(t:autoParam (∀v,Hx (.Subscript (.Subscript (.Name x p1) ea p2) eb p3) X.env v=(do
   let J <- Gg [v] (Dh (.Subscript (.Name x p1) ea p2) X.env)
   let S <- Gg [v,J] (Dh eb X.env)
   IV p3
   Gg [v,J,S] (NF J S v)
   release [v,J,S] [])) Jq5)(Y: ~~~(LD [.Subscript (.Subscript (.Name x p1) ea p2) eb p3] ex p4.line X.env=ER c_))(hw: ~~~(LF [.Subscript (.Subscript (.Name x p1) ea p2) eb p3] ex X.env=ER f_))(h1: ~~~((Fe [.Subscript (.Subscript (.Name x p1) ea p2) eb p3] X.env).map (·.2)=[Hx (.Subscript (.Subscript (.Name x p1) ea p2) eb p3) X.env])):
  DSs K W ro X OL [] O' (.Assign [.Name x py] (.ListComp elt [⟨tg,iter,ifs,0⟩] sc pos) spos::.Assign [.Subscript (.Subscript (.Name x p1) ea p2) eb p3] ex p4::sts) (bO (uX i (dG fi ix pt ft fe) fx fA fB) g):=by
 subst y;intro F0 H0 B2 s σ H D I z;have c:i<σ.length:=by rw[I.len];exact(y_.mp b).1
 refine iV (yM N' ix u b h r hi p n k q U f o l) (iV (ps_asg j (pg_sub (pe_ix ix_seq (pv i b hv hd e) B a) A set_list t) Y hw h1) (m F0 H0)) B2 s σ H D I ?_;exact rs_rows w c z
end
section
variable{s:k_}
def iW{xs:Array g_}{v:g_}{Q:Vp}(st:s.heap.IsTupleIter q a i)(I:s.heap.IsTuple a xs)(hv:xs[i]?=a_ v)(k:∀h',h'.IsTupleIter q a (i+1)->FP q s.heap h'->Q v {s with heap:=h'}):w_ (B_ prog w) A (FH (.ref q)) Q E s:=by obtain⟨S,e1,e2,e3⟩:=id st;obtain⟨U,J,_,Y,f3⟩:=I;have ty:=st.typeIs;unfold FH;refine b_ (Ef (name:=FT "__next__") ty Fm (DC Fm ty I_ ?_ (IW _)));show w_ _ _ (field (.ref q) 0 >>= _) _ _ s;refine b_ (Eo e1 e3 (x:=.ref a) rfl ?_);show w_ _ _ (if (x_ a==Dw)=e_ then _ else _) _ _ s;rw[l_ (show ¬((x_ a==Dw)=e_)from Dt)];show w_ _ _ (field (.ref q) 1 >>= _) _ _ s;refine b_ (Eo e1 e3 (x:=.int i 0) rfl ?_);show w_ _ _ (seqItems? (.ref a) >>= _) _ _ s;refine b_ (E8 J f3 ?_);simp only[Fz,hv];refine b_ (E7 e1 e3 ad (h_ ⟨v,rfl,h_ (k _ ?_ (Fl ..))⟩));exact⟨_,EX _ e1 (E2 (EH e3 _)),(HJ ..).trans e2,by rw[EH e3];simp[Fd]⟩
def n8{xs:Array g_}{Q:Vp}(hh:A.handled=f_)(st:s.heap.IsTupleIter q a i)(I:s.heap.IsTuple a xs)(hv:xs[i]?=f_)(k:∀h' e,EC q s.heap h'->(∃o,h'.get? e=a_ o/\o.cls=.type "StopIteration")->E (.ref e) {s with heap:=h'}):w_ (B_ prog w) A (FH (.ref q)) Q E s:=by
 obtain⟨S,e1,e2,e3⟩:=id st;obtain⟨U,J,_,Y,f3⟩:=I;have ty:=st.typeIs;unfold FH;refine b_ (Ef (name:=FT "__next__") ty Fm (DC Fm ty I_ ?_ (IW _)));show w_ _ _ (field (.ref q) 0 >>= _) _ _ s;refine b_ (Eo e1 e3 (x:=.ref a) rfl ?_);show w_ _ _ (if (x_ a==Dw)=e_ then _ else _) _ _ s;rw[l_ (show ¬((x_ a==Dw)=e_)from Dt)];show w_ _ _ (field (.ref q) 1 >>= _) _ _ s;refine b_ (Eo e1 e3 (x:=.int i 0) rfl ?_);show w_ _ _ (seqItems? (.ref a) >>= _) _ _ s;refine b_ (E8 J f3 ?_);simp only[Fz,hv];refine b_ (Fp (b_ (E7 e1 e3 ad (b_ ?_))));simp only[Nm,newTuple];refine b_ (DN ?_ (by size_fits));refine b_ (m:=Lj _ _) (MM (a:=Dw) (by first|rfl|(simp only[firstArgMember];rfl)) ?_);refine DN ?_ (by size_fits);simp only[raiseNew];refine b_ (LB ?_);first|rw[show A.in1.handled=f_ from hh]|rw[hh]
 exact b_ (h_ (MK (k _ _ (((Fl ..).extBut.push _).push _) ⟨_,s_ _ rfl,rfl⟩)))
end
def ue(U:A.handled=f_)(q a:i_)(I:a≠q)(xs:Array g_):Draws prog w A q [q,a] xs.size (λi v=>xs[i]?=a_ v) (λi h=>h.IsTupleIter q a i/\h.IsTuple a xs) where
 live:=λ_ _ st=>let ⟨o,e,_⟩:=st.1;⟨o,e⟩
 frame:=λ_ _ _ st k=>⟨st.1.at λo e=>k q ad o e,let ⟨o,e,r⟩:=st.2;⟨o,k a ad o e,r⟩⟩
 item:=λi s Q E hi st k=>iW st.1 st.2 (v:=xs[i]) (by simp[hi]) λh' S J=>k _ h' s.toks (by simp[hi]) ⟨S,let ⟨o,e,r⟩:=st.2;⟨o,J.extBut a o I e,r⟩⟩ J
 done:=λs Q E st k=>n8 U st.1 st.2 ad k
def BE(a:i_)(xs:Array g_)(n:Nat)(dd:Option i_)(sl:Array (Option g_)):Meets (Builtin.«enumerate.__new__» ⟨[.type "enumerate",.ref a],[]⟩) (λ_ R s=>s.heap.get? a=a_ {cls:=.type "tuple",dict:=dd,data:=.seq xs n,slots:=sl}/\R (.ok (.ret (.ref (s.heap.push {cls:=.type "tuple_iterator",data:=.fields #[.ref a,.int 0 0]}).objs.size))) {s with heap:=(s.heap.push {cls:=.type "tuple_iterator",data:=.fields #[.ref a,.int 0 0]}).push {cls:=.type "enumerate",data:=.fields #[.none,.bool c_,.ref s.heap.objs.size,Fd 0,.none,.none]}}):=
 .of_wp λprog w A R s h=>by
  obtain⟨S,g,d,tk,os⟩:=s;obtain⟨ea,h⟩:=h;have I:=sub_enumerate;have J:Lc (La ⟨S,g,d,tk,os⟩) a xs:=⟨_,ea,rfl,n,rfl⟩
  wp_walk using Hr ea
  refine wpAny_stack_any λz=>h_ ?_;split
  .rename_i c _ _ _ _ _;cases(c==EB "enumerate")<;>(wp_walk using Hr ea,GL J;exact⟨_,rfl,h⟩)
  .wp_walk using Hr ea,GL J
   exact⟨_,rfl,h⟩
section
variable{s:k_}
def zM{xs:Array g_}{Q:Vp}(U:s.heap.IsTuple a xs)(k:∀h',IsEnum h' (s.heap.objs.size+1) s.heap.objs.size 0 .none->h'.IsTupleIter s.heap.objs.size a 0->h'.objs.size=s.heap.objs.size+2->(∀b o,s.heap.get? b=a_ o->h'.get? b=a_ o)->Q (.ref (s.heap.objs.size+1)) {s with heap:=h'}):w_ (B_ prog w) A (Hk (.type "enumerate") [.ref a]) Q E s:=by
 obtain⟨⟨c,dd,Y,sl⟩,e1,e2,n,e3⟩:=U;have e2:c=.type "tuple":=e2;have e3:Y=.seq xs n:=e3;subst e2 e3;refine callType_new PySem.F.called_enumerate ag (PySem.F.typeCall_enumerate_1 _) (PySem.F.newCall_enumerate_1 _) (λI=>K6 I _) PySem.F.entry_enumerate_new (BE a xs n dd sl) ⟨e1,?_⟩;have J:(s.heap.push {cls:=.type "tuple_iterator",data:=.fields #[.ref a,.int 0 0]}).objs.size=s.z+1:=D8 ..;show _/\_;rw[J];have S:IsEnum ((s.heap.push {cls:=.type "tuple_iterator",data:=.fields #[.ref a,.int 0 0]}).push {cls:=.type "enumerate",data:=.fields #[.none,.bool c_,.ref s.z,Fd 0,.none,.none]}) (s.z+1) s.z 0 .none:=by have z:=s_ (s.heap.push {cls:=.type "tuple_iterator",data:=.fields #[.ref a,.int 0 0]}) (o:={cls:=.type "enumerate",data:=.fields #[.none,.bool c_,.ref s.z,Fd 0,.none,.none]}) rfl;rw[J]at z;exact z
 exact⟨⟨_,S,rfl⟩,k _ S ⟨_,d_ _ (s_ _ rfl),rfl,rfl⟩ (by rw[D8,J]) λb o z=>d_ _ (d_ _ z)⟩
end
def IteT(K:Fg)(a:i_):It:=
 ⟨λi H=>∃xs x,SqT K H a xs/\xs[i]?=a_ x,λi H x H'=>∃T y,H T=f_/\x=.ref T/\H'=upd H T (.tup [.int i,y])/\∀xs,SqT K H a xs->xs[i]?=a_ y,λi H=>∃xs,SqT K H a xs/\xs.length=i⟩
theorem yx(a e U:i_)(l:e≠U):Turn P w K (.Tuple elts k pos) (IteT K a) [e,U] e (λi h=>(∃S,IsEnum h e U i S)/\h.IsTupleIter U a i) where
 mem:=by simp
 obj:=λi h st b Y=>by
  obtain⟨⟨S,f⟩,o,e1,c,d⟩:=st;rcases r_.mp Y with L|Y
  .subst L;exact⟨_,f,λv z=>by cases z⟩
  .have:b=U:=by simpa using Y
   subst this;exact⟨o,e1,λv z=>by rw[d]at z;cases z⟩
 keep:=λi h h' st kk=>by obtain⟨⟨S,f⟩,J⟩:=st;exact⟨⟨S,kk e ad _ f⟩,J.at λo x=>kk U ad o x⟩
 item:=by
  intro X hP hw hK hc i B2 s σ H E I G st W;subst hP hw hK;obtain⟨⟨S,f⟩,J⟩:=st;obtain⟨xs,x,F,Q⟩:=W;obtain⟨its,N,p,hz⟩:=I.tuple F;obtain⟨u,hu,ru⟩:=N.get Q;have r:s.heap.IsTuple a its.toArray:=p;have g:a≠U:=λz=>by obtain⟨o1,n,m,_⟩:=r;obtain⟨o2,c3,c4,_⟩:=J;rw[z,c3]at n;cases n;rw[c4]at m;exact CQ m ag
  have O:e≠a:=λz=>by obtain⟨o1,n,m,_⟩:=r;have C:s.heap.get? e=_:=f;rw[z,n]at C;cases C;exact CQ m ad
  have T:i<its.toArray.size:=by have:=(y_.mp hu).1;simpa using this
  refine wpAny_pyNext_enum_itemD (ue (A:=X.A.in1) (show X.A.in1.handled=f_ from I.ok.hd hc) U a g its.toArray) f ⟨J,r⟩ T l (by simp[l,O]) λv h1 tk hv ho t hT hsz hk=>?_;have R:v=u:=by have hv:its.toArray[i]?=a_ v:=hv;rw[show its.toArray[i]?=its[i]? by simp,hu]at hv;exact(Dl hv).symm
  subst R;refine⟨_,rfl,Lf ho λh2 Z j=>?_⟩
  have B:e<s.z:=t_ f;have D:s.z≠e:=E4 B;have I1:B6 X B2 σ (upd H s.z (.tup [.int i,x])) {s with heap:=h2,toks:=tk+1}:=I.uO (ch:=[e,U]) G (λb o Y q=>by have h3:=hk b o (λz=>Y (by simp[z])) (λz=>Y (by simp[z])) q;exact(j.2 b (λz=>Y (by simp[z]))).trans h3) (m_ _) ⟨by show 2<=o_;decide,[.int i tk,v],.cons ⟨_,rfl⟩ (.cons ru .nil),⟨_,(j.2 _ D).trans hT,rfl,0,rfl⟩⟩
  refine⟨.ref s.z,_,I1,rfl,⟨s.z,x,I.hok.fresh (m_ _),rfl,rfl,λys hy=>by rw[I.jO hy F];exact Q⟩,⟨⟨v,by simpa using Z⟩,t.1.at λo y=>(j.2 U l.symm).trans y⟩,λb Y=>?_⟩
  have hbn:=(G b Y).1;have:b≠s.z:=by
   rcases r_.mp Y with L|Y
   .subst L;exact D.symm
   .have:b=U:=by simpa using Y
    subst this;obtain⟨o,e1,_⟩:=J;exact De (t_ e1)
  rw[aw this];exact hbn
 done:=by
  intro X hP hw hK hc i B2 s σ H E I G st W;subst hP hw hK;obtain⟨⟨S,f⟩,J⟩:=st;obtain⟨xs,F,Q⟩:=W;obtain⟨its,N,p,hz⟩:=I.tuple F;have hl:=N.length;have r:s.heap.IsTuple a its.toArray:=p;have g:a≠U:=λz=>by obtain⟨o1,n,m,_⟩:=r;obtain⟨o2,c3,c4,_⟩:=J;rw[z,c3]at n;cases n;rw[c4]at m;exact CQ m ag
  have hn:i=its.toArray.size:=by simp;lia
  rw[hn]at J;exact wpAny_pyNext_enum_endD (ue (A:=X.A.in1) (show X.A.in1.handled=f_ from I.ok.hd hc) U a g its.toArray) f ⟨J,r⟩ λh2 eb=>⟨rfl,I.uP (t':=s.toks) (ch:=[e,U]) G λb o Y q=>eb b o (λz=>Y (by simp[z])) q⟩
 self:=λ_ _ _ _ _ st h=>by obtain⟨⟨S,f⟩,_⟩:=st;exact GX f h
def zp{xs:aB}{ds:List A'}(t:SqT K F a xs)(z:ay K F ds xs):o9 K F (IteT K a) (dr 0 ds) where
 go:=λi F' H' S I hi=>⟨xs,xs[i]'(by rw[z.length];rw[fG]at hi;exact hi),I.tup (S.tup t),by rw[fG]at hi;simp[z.length,hi]⟩
 yl:=λi F' H' x H2 d S I hd U=>by
  obtain⟨T,y,Y,ex,b,U⟩:=U;subst ex b;rw[nF]at hd;cases J:ds[i]? with
  |none=>rw[J]at hd;cases hd|some d'=>
   rw[J]at hd;simp at hd;subst hd;obtain⟨v,e1,q⟩:=z.get J;have e2:=U xs (I.tup (S.tup t));rw[e1]at e2;cases e2;refine⟨upd F' T (.tup [.int i,y]),B4.lay I Y,T,_,rfl,SqT.of aq,?_⟩
   exact⟨.int i,[y],rfl,rfl,y,[],rfl,(q.mono S).mono (aK.upd (I.free Y)),rfl⟩
 st:=λF' H' S I=>⟨xs,I.tup (S.tup t),by rw[z.length,fG]⟩
def ju(fa:ae->M A'):ae->M (List A'):=λρ=>(fa ρ).bind λd=>(k8 d).bind λds=>.ok (dr 0 ds)
@[simp]def e_enum2{fa:ae->M A'}{ρ:ae}:ju fa ρ=(fa ρ).bind λd=>(k8 d).bind λds=>.ok (dr 0 ds):=id rfl
section
variable{W:cp}{a:Em}{p:IM}
def iEnum2(K:Fg)(tl:TE):TI:=λσ H R=>tl σ H λx H1=>∃a,x=.ref a/\((∃xs,SqL K H1 a xs)/\R (Ite K a) H1\/(∃xs,SqT K H1 a xs)/\R (IteT K a) H1)
def pi_enum2{q:IM}(y:Gl X "enumerate")(v:X.mg "enumerate"=f_)(w:PE X a tl)(j: ~~~(j_ [a] X.env=[(c_,Dh a X.env)])):
  PI X (.Tuple elts k q) (.Call (.Name "enumerate" p) [a] [] pos) (iEnum2 X.K tl):=by
 intro B2 s σ H R I h;have z:PA X [a] (j9 tl wo):=aW w cK j;refine M1 (jk I y v boot_enumerate (D5 (E' (z pos B2 s σ H (λvs H1=>match vs with
  |[x]=>∃a,x=.ref a/\((∃xs,SqL X.K H1 a xs)/\R (Ite X.K a) H1\/(∃xs,SqT X.K H1 a xs)/\R (IteT X.K a) H1)
  |_=>False) I h) λus J ⟨vs,H1,U,r,q1⟩=>?_) j rfl))
 rcases vs with _|⟨x,_|⟨_,_⟩⟩
 .exact DK q1
 rotate_left
 .exact DK q1
 .obtain⟨l,e1,q⟩:=q1;subst e1;obtain⟨u,rfl,o⟩:=r.one;cases o;have d:∀b∈[J.z+1,J.z],A0 X B2 H1 b:=λb g=>by
   have c:J.z<=b:=by
    rcases r_.mp g with m|g
    .subst m;exact G6 _
    .have:b=J.z:=by simpa using g
     exact GQ this.symm
   exact U.fpOk c (U.hok.fresh c)
  rcases q with⟨⟨xs,e⟩,q⟩|⟨⟨xs,e⟩,q⟩
  .obtain⟨its,n,pl,t⟩:=U.list e;refine M5 pl.isList λh2 Y S hsz f=>?_;have i:B6 X B2 σ H1 {J with heap:=h2}:=U.kept (t':=J.toks) f;refine GX Y ?_;exact⟨J.z+1,[J.z+1,J.z],_,_,H1,rfl,i,sC l _ _ (J9 _),⟨⟨_,Y⟩,S⟩,d,q⟩
  .obtain⟨its,n,pl,t⟩:=U.tuple e;refine zM (show J.heap.IsTuple l its.toArray from pl) λh2 Y S hsz f=>?_;have i:B6 X B2 σ H1 {J with heap:=h2}:=U.kept (t':=J.toks) f;refine GX Y ?_;exact⟨J.z+1,[J.z+1,J.z],_,_,H1,rfl,i,yx l _ _ (J9 _),⟨⟨_,Y⟩,S⟩,d,q⟩
def ri_enum2{R:It->Hp->Prop}(h:iD K W (ju fa) σ H R):iEnum2 K (tD K W c_ fa) σ H R:=by
 obtain⟨F,ρ,r,s,p⟩:=h;refine aL r s (λe J=>?_) λd hd v F1 H1 I q1=>?_
 .have z:ju fa ρ=.error e:=by unfold ju;rw[J];rfl
  rw[z]at p;exact p
 .have z:ju fa ρ=(k8 d).bind λds=>.ok (dr 0 ds):=by unfold ju;rw[hd];rfl
  rw[z]at p;cases d with
  |lst ds=>obtain⟨b,xs,e,t,z⟩:=q1;exact⟨b,e,.inl ⟨⟨xs,I.fh.lst t⟩,p _ F1 H1 I (tU t z)⟩⟩
  |tup ds=>obtain⟨b,xs,e,t,z⟩:=q1;exact⟨b,e,.inr ⟨⟨xs,I.fh.tup t⟩,p _ F1 H1 I (zp t z)⟩⟩
  |_=>exact(W.ns p).elim
def rH{q:IM}(J:X.mg "enumerate"=f_)(S:DE K W c_ X a fa)(U: ~~~(Gl X "enumerate"))(I: ~~~(j_ [a] X.env=[(c_,Dh a X.env)]))(Y: ~~~(X.K=K)):
  DI K W X (.Tuple elts k q) (.Call (.Name "enumerate" p) [a] [] pos) (ju fa):=by
 subst Y;exact(pi_enum2 U J S I).imp λ_ _ _=>ri_enum2
end
def j4{u:i_}(x:h.IsTupleIter u l i)(A:EC c h h')(n:u≠c):h'.IsTupleIter u l i:=x.at λo e=>A u o n e
def iq{xs:Array g_}(x:h.IsTuple l xs)(A:EC c h h')(n:l≠c):h'.IsTuple l xs:=let ⟨o,e,r⟩:=x;⟨o,A l o n e,r⟩
structure Ys(z p q u v l m:i_)(r k a b:g_)(i j:Nat)(xs ys:Array g_)(h:Du):Prop where
 me:ZRec h z p q r k
 its:Iu h p (.ref u) (.ref v)
 own:Iu h q a b
 one:h.IsTupleIter u l i
 two:h.IsTupleIter v m j
 xl:h.IsTuple l xs
 yl:h.IsTuple m ys
section
variable{p u v m:i_}{r k a b:g_}{xs ys:Array g_}
def Ys.atZ(D:GY z p q u v l m)(Z:Ys z p q u v l m r k a b i j xs ys h)(A:EC z h h')(e:ZRec h' z p q r' k'):Ys z p q u v l m r' k' a b i j xs ys h':=
 ⟨e,A _ _ D.TIz Z.its,A _ _ D.TOz Z.own,j4 Z.one A D.i1z,j4 Z.two A D.i2z,iq Z.xl A D.l1z,iq Z.yl A D.l2z⟩
def Ys.atQ(D:GY z p q u v l m)(Z:Ys z p q u v l m r k a b i j xs ys h)(A:EC q h h')(e:Iu h' q a' b'):Ys z p q u v l m r k a' b' i j xs ys h':=
 ⟨A _ _ D.TOz.symm Z.me,A _ _ D.TITO Z.its,e,j4 Z.one A D.TOi1.symm,j4 Z.two A D.TOi2.symm,iq Z.xl A D.l1TO,iq Z.yl A D.l2TO⟩
def Ys.atU(D:GY z p q u v l m)(Z:Ys z p q u v l m r k a b i j xs ys h)(A:EC u h h')(e:h'.IsTupleIter u l n):Ys z p q u v l m r k a b n j xs ys h':=
 ⟨A _ _ D.i1z.symm Z.me,A _ _ D.TIi1 Z.its,A _ _ D.TOi1 Z.own,e,j4 Z.two A D.i12.symm,iq Z.xl A D.l1i1,iq Z.yl A D.l2i1⟩
def Ys.atV(D:GY z p q u v l m)(Z:Ys z p q u v l m r k a b i j xs ys h)(A:EC v h h')(e:h'.IsTupleIter v m n):Ys z p q u v l m r k a b i n xs ys h':=
 ⟨A _ _ D.i2z.symm Z.me,A _ _ D.TIi2 Z.its,A _ _ D.TOi2 Z.own,j4 Z.one A D.i12,e,iq Z.xl A D.l1i2,iq Z.yl A D.l2i2⟩
def Ys.new{o:IB}(Z:Ys z p q u v l m r k a b i j xs ys h):Ys z p q u v l m r k a b i j xs ys (h.push o):=
 ⟨d_ _ Z.me,d_ _ Z.its,d_ _ Z.own,Z.one.at λ_ e=>d_ _ e,Z.two.at λ_ e=>d_ _ e,(let ⟨o',e,t⟩:=Z.xl;⟨o',d_ _ e,t⟩),(let ⟨o',e,t⟩:=Z.yl;⟨o',d_ _ e,t⟩)⟩
end
section
variable{s:k_}{p u v m:i_}{r k a b x y:g_}{xs ys:Array g_}
def A8{T:Bool->k_->Prop}(Z:Ys z p q u v l m .none k a b i j xs ys s.heap)(I:T e_ s):w_ (B_ P w) A (MB (.ref z)) T E s:=
 b_ (Eo Z.me rfl (x:=.none) rfl (h_ I))
def A7{T:Unit->k_->Prop}(D:GY z p q u v l m)(Z:Ys z p q u v l m r k a b i j xs ys s.heap)(I:(#[a,b]:Array g_).setIfInBounds n x=#[a',b'])(J:∀h',EC q s.heap h'->h'.objs.size=s.heap.objs.size->Ys z p q u v l m r k a' b' i j xs ys h'->T () {s with heap:=h'}):w_ (B_ P w) A (updateSeq q (·.setIfInBounds n x)) T E s:=
 wpAny_updateSeq_pair Z.own λh' e B=>J h' B.extBut B.1 (Z.atQ D B.extBut (by rw[I]at e;exact e))
def w9{c:g_}{T:Unit->k_->Prop}(D:GY z p q u v l m)(Z:Ys z p q u v l m r k a b i j xs ys s.heap)(I:n<5)(J:(#[r,k,.bool c_,.ref p,.ref q]:Array g_).setIfInBounds n c=#[r',k',.bool c_,.ref p,.ref q])(S:∀h',EC z s.heap h'->h'.objs.size=s.heap.objs.size->Ys z p q u v l m r' k' a b i j xs ys h'->T () {s with heap:=h'}):w_ (B_ P w) A (Js (.ref z) n c) T E s:=
 Nh Z.me I λh' e B=>S h' B.extBut B.1 (Z.atZ D B.extBut (by rw[J]at e;exact e))
def ys_gives{T:Vp}(D:GY z p q u v l m)(Z:Ys z p q u v l m .none (.bool c_) a b i j xs ys s.heap)(Q:xs[i]?=a_ x)(O:ys[j]?=a_ y)(R:∀h' a' b',Ys z p q u v l m (Fd s.heap.objs.size) (.bool c_) a' b' (i+1) (j+1) xs ys h'->Iu h' s.heap.objs.size x y->Off z q u v s.heap h'->T (.ref s.heap.objs.size) {s with heap:=h'}):
  w_ (B_ P w) A (Builtin.«zip.__next__» ⟨[.ref z],[]⟩) (λf s'=>∃c,f=.done (.ret c)/\T c s') E s:=by
 have I:∀{n:Nat} {c:g_} {K:Vp} {s':k_} {r k a b:g_} {i j:Nat},Ys z p q u v l m r k a b i j xs ys s'.heap->(#[r,k,.bool c_,.ref p,.ref q]:Array g_)[n]?=a_ c->K c s'->w_ (B_ P w) A (field (.ref z) n) K E s':=
  λZ e t=>Eo Z.me rfl e t
 refine b_ (show w_ _ _ (ER (x_ z,([]:aM))) _ _ _ from h_ ?_);refine b_ (I Z (n:=2) rfl (b_ (I Z (n:=3) rfl (b_ (E8 Z.its rfl ?_)))));refine b_ (A8 Z ?_);rw[n_ rfl];refine b_ (Fp (b_ (I Z (n:=4) rfl (b_ (w9 D Z (n:=0) ag rfl λg1 B1 e1 o=>?_)))));refine b_ ?_;simp only[N_,Iz,Hu];refine b_ (b_ (Hd (b_ (iW o.one o.xl Q λg2 W C=>h_ ?_))));have H:=o.atU D C.extBut W;refine b_ (E8 H.own rfl (b_ (A7 D H (n:=0) rfl λg3 B3 e3 h=>b_ (MN (h_ ?_)))));refine b_ (b_ (Hd (b_ (iW h.two h.yl O λg4 f4 B=>h_ ?_))));have G:=h.atV D B.extBut f4;refine b_ (E8 G.own rfl (b_ (A7 D G (n:=1) rfl λU B5 e5 g=>b_ (MN (h_ (h_ ?_))))));refine b_ (E8 g.own rfl (b_ (Le ?_)));have S:U.objs.size=s.z:=e5.trans (B.1.trans (e3.trans (C.1.trans e1)));have lt:z<U.objs.size:=t_ g.me;refine b_ (b_ (w9 D g.new (n:=0) (r':=Fd U.objs.size) ag rfl λg6 N e6 X=>w9 D X (n:=1) ag rfl λd L e7 F=>?_));refine h_ (Exists.intro _ ⟨rfl,?_⟩);have J:Iu d U.objs.size x y:=L _ _ (E4 lt) (N _ _ (E4 lt) (s_ _ rfl));have Y:Off z q u v s.heap d:=(Off.byZ B1).then ((Off.byU C.extBut).then ((Off.byQ B3).then ((Off.byV B.extBut).then ((Off.byQ B5).then (Off.new.then ((Off.byZ N).then (Off.byZ L)))))))
 show T (.ref U.objs.size) _;rw[S]at J F ⊢;exact R d _ _ F J Y
def ys_ends{T:Ku->k_->Prop}(k:A.handled=f_)(D:GY z p q u v l m)(Z:Ys z p q u v l m .none (.bool c_) a b i j xs ys s.heap)(I:xs[i]?=f_\/ys[j]?=f_)(r:∀h' c,Off z q u v s.heap h'->(∃o,h'.get? c=a_ o/\o.cls=.type "StopIteration")->E (.ref c) {s with heap:=h'}):
  w_ (B_ P w) A (Builtin.«zip.__next__» ⟨[.ref z],[]⟩) T E s:=by
 refine b_ (show w_ _ _ (ER (x_ z,([]:aM))) _ _ _ from h_ ?_);refine b_ (Eo Z.me rfl (i:=2) rfl (b_ (Eo Z.me rfl (i:=3) rfl (b_ (E8 Z.its rfl ?_)))));refine b_ (A8 Z ?_);rw[n_ rfl];refine b_ (Fp (b_ (Eo Z.me rfl (i:=4) rfl (b_ (w9 D Z (n:=0) ag rfl λN C e1 J=>?_)))));refine b_ ?_;simp only[N_,Iz,Hu];cases U:xs[i]? with
 |none=>refine b_ (b_ (Hd (b_ (n8 k J.one J.xl U λg2 c S e=>?_))));exact A5 (S _ _ D.i1z.symm J.me) e λt g d=>r t c ((Off.byZ C).then ((Off.byU S).then (Off.byZ g))) d|some x=>have F:ys[j]?=f_:=I.resolve_left (by rw[U];exact λh=>nomatch h);refine b_ (b_ (Hd (b_ (iW J.one J.xl U λg2 H S=>h_ ?_))));have y:=J.atU D S.extBut H;refine b_ (E8 y.own rfl (b_ (A7 D y (n:=0) rfl λt g e3 f=>b_ (MN (h_ ?_)))));refine b_ (b_ (Hd (b_ (n8 k f.two f.yl F λL c B e=>?_))));exact A5 (B _ _ D.i2z.symm f.me) e λG K Y=>r G c ((Off.byZ C).then ((Off.byU S.extBut).then ((Off.byQ g).then ((Off.byV B).then (Off.byZ K))))) Y
def yn_gives{T:Option g_->k_->Prop}(D:GY z p q u v l m)(Z:Ys z p q u v l m .none (.bool c_) a b i j xs ys s.heap)(S:xs[i]?=a_ x)(J:ys[j]?=a_ y)(U:∀h' a' b',Ys z p q u v l m (Fd s.heap.objs.size) (.bool c_) a' b' (i+1) (j+1) xs ys h'->Iu h' s.heap.objs.size x y->Off z q u v s.heap h'->T (a_ (.ref s.heap.objs.size)) {s with heap:=h'}):
  w_ (B_ P w) A (G9 (.ref z)) T E s:=by
 have ty:s.TypeIs (.ref z) "zip":=⟨_,Z.me,rfl⟩
 have I:=ys_gives (P:=P) (w:=w) (A:=A.in1) (E:=λ_ _=>False) (T:=λc s'=>T (a_ c) s') D Z S J U;unfold G9;refine b_ (Ga (Ef (name:=FT "__next__") ty GG ?_));refine DC GG ty KQ (DX I (λf s' h=>?_) λ_ _ h=>h.elim) (Kw _);obtain⟨c,e,h⟩:=h;exact⟨c,e,h_ h⟩
def yn_ends{T:Option g_->k_->Prop}(U:A.handled=f_)(D:GY z p q u v l m)(Z:Ys z p q u v l m .none (.bool c_) a b i j xs ys s.heap)(I:xs[i]?=f_\/ys[j]?=f_)(Y:∀h',Off z q u v s.heap h'->T f_ {s with heap:=h'}):w_ (B_ P w) A (G9 (.ref z)) T E s:=by
 have ty:s.TypeIs (.ref z) "zip":=⟨_,Z.me,rfl⟩
 unfold G9;refine b_ (Ga (Ef (name:=FT "__next__") ty GG ?_));refine DC GG ty KQ (ys_ends U D Z I λh' c J S=>?_) (Kw _);obtain⟨o,e,t⟩:=S;exact b_ (Gy (T:="StopIteration") (b:=e_) ⟨o,e,t⟩ Lh (h_ (Y h' J)))
end
def ItzT(K:Fg)(a b:i_):It:=
 ⟨λi H=>∃xs ys x y,SqT K H a xs/\SqT K H b ys/\xs[i]?=a_ x/\ys[i]?=a_ y,λi H v H'=>∃T x y,H T=f_/\v=.ref T/\H'=upd H T (.tup [x,y])/\(∀xs,SqT K H a xs->xs[i]?=a_ x)/\∀ys,SqT K H b ys->ys[i]?=a_ y,λi H=>∃xs ys,SqT K H a xs/\SqT K H b ys/\(xs.length<=i\/ys.length<=i)⟩
theorem Aj{p u v m:i_}(D:GY z p q u v l m):
  Turn P w K (.Tuple elts k pos) (ItzT K l m) [z,p,q,u,v] z (λi h=>IsZip h z p q .none/\Iu h p (.ref u) (.ref v)/\(∃a b,Iu h q a b)/\h.IsTupleIter u l i/\h.IsTupleIter v m i) where
 mem:=CW
 obj:=λi h ⟨Y,its,⟨_,_,own⟩,⟨o1,e1,_,d1⟩,⟨o2,e2,_,d2⟩⟩ c O=>by
  simp only[r_,Dq,KD]at O;rcases O with e|e|e|e|e<;>subst e
  .exact⟨_,Y,λ_ t=>nomatch t⟩
  .exact⟨_,its,λ_ t=>nomatch t⟩
  .exact⟨_,own,λ_ t=>nomatch t⟩
  .exact⟨o1,e1,λ_ t=>by rw[d1]at t;cases t⟩
  .exact⟨o2,e2,λ_ t=>by rw[d2]at t;cases t⟩
 keep:=λi h h' ⟨Y,its,⟨a,b,own⟩,U,S⟩ F=>⟨F z ad _ Y,F p ad _ its,⟨a,b,F q ad _ own⟩,U.at λo x=>F u ad o x,S.at λo x=>F v ad o x⟩
 item:=by
  rintro X rfl rfl rfl f i B2 s σ H E I N ⟨Y,its,⟨a,b,own⟩,U,S⟩ ⟨xs,ys,x,y,L,G,gx,gy⟩;obtain⟨vs,T,W,_⟩:=I.tuple L;obtain⟨ws,R,py,_⟩:=I.tuple G;obtain⟨c,O,rc⟩:=T.get gx;obtain⟨d,hd,rd⟩:=R.get gy;refine yn_gives D ⟨Y,its,own,U,S,W,py⟩ (x:=c) (y:=d) (by simpa using O) (by simpa using hd) λh' a' b' Z r n=>⟨_,rfl,wpAny_letOwnedTupleGo_zip Z.me λg A B=>?_⟩
  have C:∀e∈[z,p,q,u,v],e<s.z:=by
   simp only[r_,Dq,KD];rintro e (rfl|rfl|rfl|rfl|rfl)
   .exact t_ Y
   .exact t_ its
   .exact t_ own
   .exact U.elim λ_ t=>t_ t.1
   .exact S.elim λ_ t=>t_ t.1
  have Q:=Z.atZ D B.extBut A;have nz:s.z≠z:=E4 (C z ad);have I':B6 X B2 σ (upd H s.z (.tup [x,y])) {s with heap:=g,toks:=s.toks}:=I.uO (ch:=[z,p,q,u,v]) N (λe o J t=>by simp only[r_,Dq,KD,not_or]at J;exact B.extBut e o J.1 (n e o J.1 J.2.2.1 J.2.2.2.1 J.2.2.2.2 t)) (m_ _) ⟨by show 2<=o_;decide,[c,d],.cons rc (.cons rd .nil),⟨_,B.extBut _ _ nz r,rfl,0,rfl⟩⟩
  refine⟨.ref s.z,_,I',rfl,⟨_,x,y,I.hok.fresh (m_ _),rfl,rfl,λ_ t=>by rw[I.jO t L];exact gx,λ_ t=>by rw[I.jO t G];exact gy⟩,⟨A,Q.its,⟨_,_,Q.own⟩,Q.one,Q.two⟩,λe J=>?_⟩
  rw[aw (De (C e J))];exact(N e J).1
 done:=by
  rintro X rfl rfl rfl f i B2 s σ H E I N ⟨Y,its,⟨a,b,own⟩,U,S⟩ ⟨xs,ys,L,G,j⟩;obtain⟨vs,T,W,_⟩:=I.tuple L;obtain⟨ws,R,py,_⟩:=I.tuple G;have nx:=T.length;have ny:=R.length;refine yn_ends (I.ok.hd f) D ⟨Y,its,own,U,S,W,py⟩ (j.imp (λt=>FO (by simp;lia)) λt=>FO (by simp;lia)) λh' n=>⟨rfl,I.uP (t':=s.toks) (ch:=[z,p,q,u,v]) N λe o J t=>?_⟩
  simp only[r_,Dq,KD,not_or]at J;exact n e o J.1 J.2.2.1 J.2.2.2.1 J.2.2.2.2 t
 self:=λ_ _ _ _ _ st h=>NU st.1 h
noncomputable abbrev tit(l:i_):IB:={cls:=.type "tuple_iterator",data:=.fields #[.ref l,.int 0 0]}
abbrev zA(h:Du)(l:i_):Du:=h.push (tit l)
abbrev zB(h:Du)(l m:i_):Du:=(zA h l).push (tit m)
abbrev zC(h:Du)(l m:i_):Du:=(zB h l m).push {cls:=.type "tuple",data:=.seq #[.ref h.objs.size,.ref (zA h l).objs.size]}
abbrev zD(h:Du)(l m:i_):Du:=(zC h l m).push {cls:=.type "tuple",data:=.seq #[.none,.none]}
abbrev zE(h:Du)(l m:i_):Du:=(zD h l m).push {cls:=.type "zip",data:=.fields #[.none,.bool c_,.bool c_,.ref (zB h l m).objs.size,.ref (zC h l m).objs.size]}
def zip_newT(l m:i_)(xs ys:Array g_):Meets (Builtin.«zip.__new__» ⟨[.type "zip",.ref l,.ref m],[]⟩) (λ_ R s=>s.heap.IsTuple l xs/\s.heap.IsTuple m ys/\R (.ok (.ret (.ref (zD s.heap l m).objs.size))) {s with heap:=zE s.heap l m}):=
 .of_wp λprog w A R s h=>by
  obtain⟨J,g,d,tk,os⟩:=s;obtain⟨U,S,h⟩:=h;have I:=sub_zip;have a:Lc (La ⟨J,g,d,tk,os⟩) l xs:=U;have Y:Lc (La ⟨J.push {cls:=.type "tuple_iterator",data:=.fields #[.ref l,.int 0 0]},g,d,tk,os⟩) m ys:=Heap.IsTuple.push S _
  wp_walk using GL a,GL Y
  exact⟨_,rfl,h⟩
section
variable{s:k_}
def C9{m:i_}{xs ys:Array g_}{Q:Vp}(f:s.heap.IsTuple l xs)(e:s.heap.IsTuple m ys)(k:∀h',IsZip h' (s.heap.objs.size+4) (s.heap.objs.size+2) (s.heap.objs.size+3) .none->Iu h' (s.heap.objs.size+2) (.ref s.heap.objs.size) (.ref (s.heap.objs.size+1)) ->
   Iu h' (s.heap.objs.size+3) .none .none->h'.IsTupleIter s.heap.objs.size l 0->h'.IsTupleIter (s.heap.objs.size+1) m 0->(∀c o,s.heap.get? c=a_ o->h'.get? c=a_ o)->Q (.ref (s.heap.objs.size+4)) {s with heap:=h'}):
  w_ (B_ prog w) A (Hk (.type "zip") [.ref l,.ref m]) Q E s:=by
 refine callType_new PySem.F.called_zip ag (PySem.F.typeCall_zip_2 _ _) (PySem.F.newCall_zip_2 _ _) (λI=>PySem.F.args_object_init_3 I _ _) PySem.F.entry_zip_new (zip_newT l m xs ys) ⟨f,e,?_⟩;have U:(zA s.heap l).objs.size=s.z+1:=D8 ..;have n2:(zB s.heap l m).objs.size=s.z+2:=by rw[D8,U]
 have S:(zC s.heap l m).objs.size=s.z+3:=by rw[D8,n2]
 have d:(zD s.heap l m).objs.size=s.z+4:=by rw[D8,S]
 have J:(zE s.heap l m).get? (zD s.heap l m).objs.size=a_ _:=s_ _ rfl;have Y:(zE s.heap l m).get? (zC s.heap l m).objs.size=a_ _:=d_ _ (s_ _ rfl);have a:(zE s.heap l m).get? (zB s.heap l m).objs.size=a_ _:=d_ _ (d_ _ (s_ _ rfl));have b:(zE s.heap l m).get? (zA s.heap l).objs.size=a_ _:=d_ _ (d_ _ (d_ _ (s_ _ rfl)));have g:(zE s.heap l m).get? s.z=a_ _:=d_ _ (d_ _ (d_ _ (d_ _ (s_ _ rfl))));show _/\_;rw[n2,S,d]at J;rw[U,n2]at a;rw[S]at Y;rw[U]at b;rw[d];exact⟨⟨_,J,rfl⟩,k _ J a Y ⟨_,g,rfl,rfl⟩ ⟨_,b,rfl,rfl⟩ λc o t=>d_ _ (d_ _ (d_ _ (d_ _ (d_ _ t))))⟩
end
theorem Bu{xs ys:aB}{ds es:List A'}(t:SqT K F a xs)(z:ay K F ds xs)(e:SqT K F b ys)(Y:ay K F es ys):o9 K F (ItzT K a b) (oh ds es) where
 go:=λi F' H' J I hi=>by rw[qt]at hi;exact⟨xs,ys,xs[i]'(by rw[z.length];lia),ys[i]'(by rw[Y.length];lia),I.tup (J.tup t),I.tup (J.tup e),Dk _,Dk _⟩
 yl:=λi F' H' x H2 d J I hd h=>by
  obtain⟨T,g,c,f,ex,j,h1,h2⟩:=h;subst ex j;rw[vZ]at hd;cases S:ds[i]? with
  |none=>rw[S]at hd;cases hd|some m=>
   cases U:es[i]? with
   |none=>rw[S,U]at hd;cases hd|some l=>
    rw[S,U]at hd;simp at hd;subst hd;obtain⟨v,e1,q⟩:=z.get S;obtain⟨k,e2,q2⟩:=Y.get U;have e3:=h1 xs (I.tup (J.tup t));have e4:=h2 ys (I.tup (J.tup e));rw[e1]at e3;rw[e2]at e4;cases e3;cases e4;refine⟨upd F' T (.tup [g,c]),B4.lay I f,T,_,rfl,SqT.of aq,?_⟩
    exact⟨g,[c],rfl,(q.mono J).mono (aK.upd (I.free f)),c,[],rfl,(q2.mono J).mono (aK.upd (I.free f)),rfl⟩
 st:=λF' H' J I=>⟨xs,ys,I.tup (J.tup t),I.tup (J.tup e),by rw[z.length,Y.length,qt];lia⟩
def jH:A'->M (List A')
 |.tup ds=>.ok ds|_=>.error .stuck
def nC(fa fb:ae->M A'):ae->M (List A'):=λρ=>(fa ρ).bind λa=>(fb ρ).bind λb=>(jH a).bind λds=>(jH b).bind λes=>.ok (oh ds es)
@[simp]def e_zipT{fa fb:ae->M A'}{ρ:ae}:nC fa fb ρ=(fa ρ).bind λa=>(fb ρ).bind λb=>(jH a).bind λds=>(jH b).bind λes=>.ok (oh ds es):=id rfl
@[simp]def e_itemsTD(ds:List A'):jH (.tup ds)=.ok ds:=id rfl
section
variable{W:cp}{a b:Em}{p:IM}
def iZipT(K:Fg)(ta tb:TE):TI:=λσ H R=>ta σ H λx H1=>tb σ H1 λy H2=>∃c d,x=.ref c/\y=.ref d/\(∃xs,SqT K H2 c xs)/\(∃ys,SqT K H2 d ys)/\R (ItzT K c d) H2
theorem pi_zipT{q:IM}{ta tb:TE}(L:Gl X "zip")(K:X.mg "zip"=f_)(O:PE X a ta)(N:PE X b tb)(r:j_ [a,b] X.env=[(c_,Dh a X.env),(c_,Dh b X.env)])(S:j_ [b] X.env=[(c_,Dh b X.env)]):
  PI X (.Tuple elts k q) (.Call (.Name "zip" p) [a,b] [] pos) (iZipT X.K ta tb):=by
 intro B2 s σ H R I h;have g:PA X [a,b] (j9 ta (j9 tb wo)):=aW O (aW N cK S) (by rw[r,S]);have i:=g pos B2 s σ H (λvs H1=>match vs with|[x,y]=>∃c d,x=.ref c/\y=.ref d/\(∃xs,SqT X.K H1 c xs)/\(∃ys,SqT X.K H1 d ys)/\R (ItzT X.K c d) H1|_=>False) I h;refine M1 (jk I L K boot_zip (D5 (E' i λus J G=>?_) (by rw[r,S]) (by rw[S];rfl)));obtain⟨vs,H1,j,A,q1⟩:=G;rcases vs with _|⟨x,_|⟨y,_|⟨_,_⟩⟩⟩
 .exact DK q1
 .exact DK q1
 rotate_left
 .exact DK q1
 .obtain⟨c,d,T,Q,⟨xs,F⟩,⟨ys,E⟩,P⟩:=q1;subst T Q;obtain⟨_,_,rfl,z,w⟩:=A.two;cases z;cases w;obtain⟨vs,Z,B,_⟩:=j.tuple F;obtain⟨v,W,py,_⟩:=j.tuple E;have Y:J.heap.IsTuple c vs.toArray:=B;have U:J.heap.IsTuple d v.toArray:=py;have D:c<J.z:=Y.elim λ_ t=>t_ t.1;have C:d<J.z:=U.elim λ_ t=>t_ t.1;refine C9 Y U λh' o its own m l n=>NU o ?_;have f:∀e∈[J.z+4,J.z+2,J.z+3,J.z,J.z+1],J.z<=e:=by
   simp only[r_,Dq,KD];rintro e (rfl|rfl|rfl|rfl|rfl)<;>lia
  exact⟨_,_,_,_,H1,rfl,j.kept (t':=J.toks) n,Aj (zipApart_new D C),⟨o,its,⟨_,_,own⟩,m,l⟩,λe u=>j.fpOk (f e u) (j.hok.fresh (f e u)),P⟩
def ri_zipT{R:It->Hp->Prop}(h:iD K W (nC fa fb) σ H R):iZipT K (tD K W c_ fa) (tD K W c_ fb) σ H R:=by
 obtain⟨F,ρ,r,s,p⟩:=h;refine aL r s (λe Y=>?_) λg S m F1 H1 U q1=>?_
 .have z:nC fa fb ρ=.error e:=by unfold nC;rw[Y];rfl
  rw[z]at p;exact p
 .refine aL (r.mono U.ff) U.fh (λe Y=>?_) λb a l F2 H2 J q2=>?_
  .have z:nC fa fb ρ=.error e:=by unfold nC;rw[S];show(fb ρ).bind _=_;rw[Y];rfl
   rw[z]at p;exact W.mono p U
  .have z:nC fa fb ρ=(jH g).bind λds=>(jH b).bind λes=>.ok (oh ds es):=by unfold nC;rw[S];show(fb ρ).bind _=_;rw[a];rfl
   rw[z]at p;cases g with
   |tup ds=>
    cases b with
    |tup es=>obtain⟨c,xs,e1,k,j⟩:=q1;obtain⟨d,ys,e2,f,i⟩:=q2;have I:=J.ff.tup k;exact⟨c,d,e1,e2,⟨xs,J.fh.tup I⟩,⟨ys,J.fh.tup f⟩,p _ F2 H2 (U.trans J) (Bu I (j.mono J.ff) f i)⟩
    |_=>exact(W.ns p).elim
   |_=>cases b<;>exact(W.ns p).elim
def BV{q:IM}(S:X.mg "zip"=f_)(c:DE K W c_ X a fa)(Y:DE K W c_ X b fb)(U: ~~~(Gl X "zip"))(J: ~~~(j_ [a,b] X.env=[(c_,Dh a X.env),(c_,Dh b X.env)]))(I: ~~~(j_ [b] X.env=[(c_,Dh b X.env)]))(d: ~~~(X.K=K)):
  DI K W X (.Tuple elts k q) (.Call (.Name "zip" p) [a,b] [] pos) (nC fa fb):=by
 subst d;exact(pi_zipT U S c Y J I).imp λ_ _ _=>ri_zipT
end
structure RepR(K:Fg)(F0 H0 FB:Hp)(i:Nat)(a:i_)(ys:aB)(rs:List A')(F H:Hp)(σ:St)(ρ:ae):Prop where
 r:Rep K F0 H0 FB [] F H σ ρ
 sl:σ[i]?=a_ (a_ (.ref a))
 hp:H a=a_ (.lst ys)
 fa:F a=f_
 ha:H0 a=f_
 nm:∀m:Nat,ys[m]?≠a_ (.ref a)
 ow:lW K F H0 H rs ys
section
variable{ys:List V}
theorem RepR.base{I:Hp}(h:RepR K F0 H0 FB i a ys rs F H σ ρ)(s:aK I FB):RepR K F0 H0 I i a ys rs F H σ ρ:=⟨h.r.base s,h.sl,h.hp,h.fa,h.ha,h.nm,h.ow⟩
end
section
variable{κ:Type}[FD κ]
noncomputable def dropK(I:List (κ×V))(k:κ):List (κ×V):=I.filter λJ=>CL (J.1≠k)
def vU.tV{o:Option V}{u:Option g_}(r:vU o u):o.isSome=u.isSome:=by
 cases o with
 |none=>cases u with
  |none=>rfl|some _=>exact(show False from r).elim
 |some _=>cases u with
  |none=>exact(show False from r).elim|some _=>rfl
theorem vU.getD{o:Option V}{u:Option g_}{d:V}{d':g_}(r:vU o u)(I:C' d d'):C' (o.getD d) (u.getD d'):=by
 cases o with
 |none=>cases u with
  |none=>exact I|some _=>exact(show False from r).elim
 |some _=>cases u with
  |none=>exact(show False from r).elim|some _=>exact r
def KV.drop{I:List (κ×V)}{vs:List (κ×g_)}(r:KV I vs)(k:κ):KV (dropK I k) (without vs k):=by
 unfold KV at r ⊢;unfold dropK without
 induction r with
 |nil=>exact .nil|@cons p q ps U h t J=>
  obtain⟨h1,h2⟩:=h;rw[MJ,MJ];by_cases e:p.1=k
  .have a:¬CL (p.1≠k)=e_:=by simp[e]
   have b:¬CL (q.1≠k)=e_:=by simp[h1.symm.trans e]
   rw[l_ a,l_ b];exact J
  .have S:¬q.1=k:=λz=>e (h1.trans z);have a:CL (p.1≠k)=e_:=by simp[e]
   have b:CL (q.1≠k)=e_:=by simp[S]
   rw[n_ a,n_ b];exact .cons ⟨h1,h2⟩ J
theorem KV.length{I:List (κ×V)}{vs:List (κ×g_)}(r:KV I vs):I.length=vs.length:=HB r
end
abbrev KT(H:Hp):List (List Key×V)->List (List Key×i_×g_)->Prop:=Gw λp q=>p.1=q.1/\H q.2.1=a_ (.tup (p.1.map kV))/\C' p.2 q.2.2
def KT.keeps{I:List (List Key×V)}{xs:List (List Key×i_×g_)}(r:KT H I xs)(J:∀b ys,H b=a_ (.tup ys)->H' b=a_ (.tup ys)):KT H' I xs:=
 Paired.mapP r λ_ _ z=>⟨z.1,J _ _ z.2.1,z.2.2⟩
section
variable{s:k_}
def B6.big(I:B6 X B2 σ H s):Ex<s.heap.objs.size:=by have h:DY<s.z:=(I.mod.glob.keeps I.bk).lt;exact Iy ag h
end
def Ao:List (TE×TE)->St->Hp->(List (V×V)->Hp->Prop)->Prop
 |[],_,H,Q=>Q [] H|(tk,tv)::r,σ,H,Q=>tk σ H λx H1=>tv σ H1 λy H2=>Ao r σ H2 λps I=>Q ((x,y)::ps) I
abbrev VV:List (V×V)->List (g_×g_)->Prop:=Gw λp q=>C' p.1 q.1/\C' p.2 q.2
def PPs(X:Cx)(pos:IM)(J:List (Option Em))(I:List Em)(S:List (TE×TE)):Prop:=
 ∀(B2:Pn) (s:k_) (σ:St) (H:Hp) (Q:List (V×V)->Hp->Prop),B6 X B2 σ H s->Ao S σ H Q ->
  w_ (B_ X.prog X.w) X.A (evalPairs (pairTrees J I X.env pos)) (λvs s'=>∃ps H',B6 X B2 σ H' s'/\VV ps vs/\Q ps H') X.xe s
def pps_nil:PPs X pos [] [] []:=λB2 s σ H Q I h=>pairTrees_nil_walk ⟨[],H,I,.nil,h⟩
def pps_cons{k v:Em}{ks:List (Option Em)}{vs:List Em}{tk:TE}{J:List (TE×TE)}(e:PE X k tk)(hv:PE X v tv)(d:PPs X pos ks vs J):
  PPs X pos (a_ k::ks) (v::vs) ((tk,tv)::J):=λB2 s σ H Q I h=>
 pairTrees_cons_walk (E' (e B2 s σ H _ I h) λu Y ⟨x,H1,i,b,q1⟩=>E' (hv B2 Y σ H1 _ i q1) λm U ⟨y,H2,g,a,q2⟩=>E' (d B2 U σ H2 _ g q2) λl n ⟨ps,j,f,S,c⟩=>⟨(x,y)::ps,j,f,.cons ⟨b,a⟩ S,c⟩)
structure M2(X:Cx)(o:Em)(m:C_)(apos:IM)(e f:Em)(cpos:IM):Prop where
 base:Fi o m X.env (Dh o X.env)=Dh o X.env
 few:((Eg cpos (j_ [e,f] X.env)).all (λx=> !x.1)&&(HQ cpos (Gv [] X.env)).all (λx=>x.1.isSome)
  &&CL (([e,f]:List Em).length+([]:List Ik).length+(if ([]:List Ik).isEmpty then 0 else 1)<30))=e_
 line:(apos.endLine==cpos.line)=e_
 trees:Eg cpos (j_ [e,f] X.env)=[(c_,Dh e X.env),(c_,Dh f X.env)]
structure ExA(h:Du)(e:i_)(C:g_)(dx hd:Option i_):Prop where
 ob:∃oe vs,h.get? e=a_ oe/\oe.cls=C/\oe.dict=dx/\oe.data=.fields vs/\vs[1]?=a_ (hd.elim Dw x_)
 tb:∀T,hd=a_ T->T≠e/\∃oT ts,h.get? T=a_ oT/\oT.data=.fields ts/\ts[3]?=a_ .none
def dictMapF(f:Array g_->Array g_)(o:IB):(o.mapFields f).dict=o.dict:=by obtain⟨c,d,I,sl⟩:=o;cases I<;>rfl
def size3{l:aM}(h:3<l.length):3<l.toArray.size:=by rw[CJ];exact h
section
variable{M:Kl}{s:k_}
def mkEntry{fv I:g_}{pl:aM}{Q:Vp}(J:IsPlace pl)(h:∀(o:IB) (ts:Array g_),o.data=.fields ts->3<ts.size->o.isFreed=c_->Q (.ref s.heap.objs.size) {s with heap:=s.heap.push o}):
  w_ M A (Im hv fv .none I .none pl) Q E s:=by
 unfold Im newFields;refine DN (h _ _ rfl (size3 ?_) ?_) (J.sizeOk5 _ _ _ _ _)
 .simp
 .exact E2 rfl
structure Left(fs:List i_)(e:i_)(hd:Option i_)(h h':Du):Prop where
 keep:∀b o,h.get? b=a_ o->b∉fs->b≠e->(∀T,hd=a_ T->b≠T)->h'.get? b=a_ o
 slot:∀b o,h.get? b=a_ o->b∈fs->∃sl,h'.get? b=a_ {o with slots:=sl}
 size:h.objs.size<=h'.objs.size
def entry_at{base:Du}{e:i_}{C:g_}{vs:Array g_}{Q:Unit->k_->Prop}(i:A.frames=a_ (env::outer))(w:s.heap.FunFrames base (env::outer))(N:env.frame=a_ L)(y:s.heap.get? e=a_ oe)(O:oe.cls=C)(k:oe.dict=dx)(hd:oe.data=.fields vs)(d:1<vs.size)(h:∀h' T,ExA h' e C dx (a_ T)->s.heap.objs.size<=T->Left (frs (env::outer)) e f_ s.heap h'->Q () {s with heap:=h'}):
  w_ M A (frameOf env >>=λa=>entryPlaceOf L bn >>=λpl=>Im hv a .none (Fd L) .none pl >>=λb=>Js (.ref e) 1 b) (λ_ s'=>w_ M A (JD (.ref e) f_) Q E s') E s:=by
 have S:∀b o,b∈frs (env::outer)->s.heap.get? b=a_ o->∀vs,o.data≠.fields vs:=λb o g q=>by obtain⟨_,o',I,n⟩:=w.mem g;rw[q]at I;cases I;exact n
 have J:e∉frs (env::outer):=λg=>S e oe g y vs hd;refine b_ (wpAny_frameOf_fun i w N λh1 G=>?_);obtain⟨t,r,F⟩:=G;refine b_ (wpAny_entryPlaceOf λpl K=>?_);refine b_ (mkEntry K λo ts v B j=>?_);have e1:h1.get? e=a_ oe:=by rw[r e J];exact y
 have c:h1.objs.size≠e:=λz=>CQ (t_ e1) (by rw[z];exact Ee _);have e2:(h1.push o).get? e=a_ oe:=d_ o e1;have H:(h1.push o).get? h1.objs.size=a_ o:=s_ h1 j;refine E7 e2 hd d ?_;have p:=EH hd (·.setIfInBounds 1 (x_ h1.objs.size));have e3:=EX (h:=h1.push o) (FZ (·.setIfInBounds 1 (x_ h1.objs.size))) e2 (E2 p);have u:((h1.push o).update e (FZ (·.setIfInBounds 1 (x_ h1.objs.size)))).get? h1.objs.size=a_ o:=by rw[Dd _ _ (D6 c)];exact H
 unfold JD;refine b_ (Eo e3 p (x:=.ref h1.objs.size) (by simp[d]) ?_);rw[n_ ad];refine E7 u v B ?_;have D:=EH v (·.setIfInBounds 3 ((f_:Option i_).elim Dw λf=>Fd f));refine h _ h1.objs.size ⟨⟨_,_,by rw[Dd _ _ c];exact e3,by rw[HJ];exact O,by rw[dictMapF];exact k,p,by simp[d]⟩,λT P=>?_⟩ (by rw[t];exact m_ _) ⟨λb o' q m l _=>?_,λb o' q m=>?_,?_⟩
 .cases P;exact⟨c,_,_,EX _ u (E2 D),D,by simp[B]⟩
 .have q1:h1.get? b=a_ o':=by rw[r b m];exact q
  have Y:h1.objs.size≠b:=λz=>CQ (t_ q1) (by rw[z];exact Ee _);rw[Dd _ _ Y,Dd _ _ (D6 l)];exact d_ o q1
 .obtain⟨sl,q1⟩:=F b o' q;have Y:h1.objs.size≠b:=λz=>CQ (t_ q1) (by rw[z];exact Ee _);have U:e≠b:=λz=>J (z▸m);refine⟨sl,?_⟩
  rw[Dd _ _ Y,Dd _ _ U];exact d_ o q1
 .rw[FE,FE,D8,t];exact G6 _
def leave2{base:Du}{e:i_}{C:g_}{Q:Unit->k_->Prop}(d:A.frames=a_ (env::outer))(k:s.heap.FunFrames base (env::outer))(l:env.frame=a_ L)(x:ExA s.heap e C dx hd)(h:∀h' T,ExA h' e C dx (a_ T)->s.heap.objs.size<=T->Left (frs (env::outer)) e hd s.heap h'->Q () {s with heap:=h'}):w_ M A (LS (.ref e) env) (λ_ s'=>w_ M A (JD (.ref e) f_) Q E s') E s:=by
 obtain⟨oe,vs,g,v,f,J,h1⟩:=x.ob;have u:1<vs.size:=(Ho.mp h1).1;unfold LS;simp only[l];cases hd with
 |none=>refine b_ (Eo g J h1 ?_);rw[l_ ag];exact entry_at d k l g v f J u λh' T a b c=>h h' T a b c
 |some T=>
  obtain⟨i,B,ts,r,S,w⟩:=x.tb T rfl;have j:3<ts.size:=(Ho.mp w).1;refine b_ (Eo g J h1 ?_);rw[n_ ad];refine b_ (Eo (x:=.none) r S w ?_);rw[l_ (by simp[Fd])];refine b_ (E7 r S j ?_);have I:∀b,b≠T->(s.heap.update T (FZ (·.setIfInBounds 3 Dw))).get? b=s.heap.get? b:=λb U=>Dd _ _ (D6 U);have t:∀b o,s.heap.get? b=a_ o->(∀vs,o.data≠.fields vs)->b≠T:=λb o q n z=>by subst z;rw[r]at q;cases q;exact n ts S
  refine entry_at d (k.of_keeps λb o q n=>⟨o,by rw[I b (t b o q n)];exact q,rfl⟩) l (by rw[I e (D6 i)];exact g) v f J u λh' y a b c=>?_;refine h h' y a (by rw[FE]at b;exact b) ⟨λb' o q U m p=>c.keep b' o (by rw[I b' (p T rfl)];exact q) U m (λ_ z=>nomatch z),λb' o q U=>?_,?_⟩
  .obtain⟨_,o',Y,n⟩:=k.mem U;rw[q]at Y;cases Y;exact c.slot b' o (by rw[I b' (t b' o q n)];exact q) U
  .have:=c.size;rw[FE]at this;exact this
def leave_at{base:Du}{e:i_}{C:g_}{Q:Unit->k_->Prop}(I:A.frames=a_ (env::outer))(J:s.heap.FunFrames base (env::outer))(S:env.frame=a_ L)(x:ExA s.heap e C dx hd)(h:∀h' T,ExA h' e C dx (a_ T)->s.heap.objs.size<=T->Left (frs (env::outer)) e hd s.heap h'->Q () {s with heap:=h'}):w_ M A (NH env (.ref e)) Q E s:=by unfold NH;exact b_ (leave2 I J S x h)
end
structure CXs(P:D0)(w:Ew)(outer:List KR)(H:Hp)(s:k_)(E:XK)(a T:i_)(C:g_)(dx:Option i_)(H':Hp)(s':k_):Prop where
 ex:ExA s'.heap a C dx (a_ T)
 na:s.heap.get? a=f_
 nT:s.heap.get? T=f_
 fa:H' a=f_
 fT:H' T=f_
 os:s'.os=s.os
 bare:Iq s'.gens
 un:Un (frs outer) [] H H' s.heap s'.heap
 hok:HOk P w H' s'.heap
 want:E C dx H'
def CXd(P:D0)(w:Ew):CXT:=λouter H s E e s'=>∃(a T:i_) (C:g_) (dx:Option i_) (H':Hp),e=.ref a/\CXs P w outer H s E a T C dx H' s'
def get_none(z:h.objs.size<=a):h.get? a=f_:=by
 cases e:h.get? a with
 |none=>rfl|some o=>exact CQ (t_ e) (Mw.mpr z)
def B6.jN{s:k_}(I:B6 X B2 σ H s)(J:X.ex=[])(e:s.heap.get? a=f_):X.s₀.heap.get? a=f_:=by
 cases q:X.s₀.heap.get? a with
 |none=>rfl|some o=>obtain⟨o',z⟩:=I.base.there a o q (by rw[J];exact λz=>nomatch z);rw[e]at z;cases z
def dW.is{o:HO}(x:dW P w H h a o):∃u,h.get? a=a_ u:=by
 cases o with
 |lst xs=>obtain⟨_,_,_,_,e⟩:=x;exact⟨_,e⟩
 |tup xs=>obtain⟨_,_,_,J,e,_⟩:=x;exact⟨_,e⟩
 |dK I=>obtain⟨_,_,_,_,o,_,_,e,_⟩:=x;exact⟨_,e⟩
 |dT I=>obtain⟨_,_,_,_,o,_,_,e,_⟩:=x;exact⟨_,e⟩
 |set S n=>obtain⟨o,_,_,_,e,_⟩:=x;exact⟨_,e⟩
 |ins C dx fs=>obtain⟨_,_,_,e,_⟩:=x;exact⟨_,e⟩
 |own y=>exact x|xd fs=>obtain⟨_,⟨_,_,_,e,_⟩,_⟩:=x;exact⟨_,e⟩
 |rng lo hi=>obtain⟨_,_,_,e⟩:=x;exact⟨_,e⟩
 |frz J u=>obtain⟨e,_⟩:=x;exact⟨_,e⟩
 |tbl ps=>exact⟨_,show h.get? a=a_ _ from x⟩|met f y=>exact⟨_,show h.get? a=a_ _ from x⟩|ext U=>obtain⟨_,e,_⟩:=x;exact e
def HOk.off(x:HOk P w H h)(e:h.get? a=f_):H a=f_:=by
 cases q:H a with
 |none=>rfl|some o=>obtain⟨u,z⟩:=(x a o q).is;rw[e]at z;cases z
section
variable{base:Du}{f:i_}{s:k_}{E:XK}
theorem xe_of{s':k_}{C:g_}(J:B6 (vN (CXd P w) P w K mg base N qual scope f cd A outer s H E) B2 σ H' s')(x:ExA s'.heap a C dx hd)(m:s.heap.get? a=f_)(D:∀T,hd=a_ T->s.heap.get? T=f_/\H' T=f_)(fa:H' a=f_)(q:E C dx H'):(vN (CXd P w) P w K mg base N qual scope f cd A outer s H E).xe (.ref a) s':=by
 have t:=J.env0;have r:∀b∈frs (Ge qual scope s.z f cd::outer),H' b=f_:=t.frf;have l:∀b o,s.heap.get? b=a_ o->b≠a/\(∀T,hd=a_ T->b≠T)/\b<s.z:=λb o e=>by have S:=t_ e;exact⟨λz=>(by subst z;rw[e]at m;cases m),λT g z=>(by subst z;have:=(D _ g).1;rw[e]at this;cases this),S⟩
 have h:∀b,b<s.z->b∈frs (Ge qual scope s.z f cd::outer)->b∈frs outer:=λb S p=>by
  rcases FR.mp p with⟨v,hv,e⟩
  rcases r_.mp hv with z|z
  .subst z;have:s.z=b:=by simpa[Ge] using e
   lia
  .exact FR.mpr ⟨v,z,e⟩
 have U:∀b,b∈frs outer->b∈frs (Ge qual scope s.z f cd::outer):=λb p=>by
  rcases FR.mp p with⟨v,hv,e⟩
  exact FR.mpr ⟨v,CS _ hv,e⟩
 have I:Un (frs outer) [] H H' s.heap s'.heap:=J.base;show w_ (B_ P w) (A.deeper (Ge qual scope s.z f cd)) (NH (Ge qual scope s.z f cd) (.ref a)) (λ_ Y=>CXd P w outer H s E (.ref a) Y) (λy Y=>CXd P w outer H s E y Y) s';refine leave_at (base:=base) t.frames t.tZ rfl x λh' T O g j=>⟨a,T,C,dx,H',rfl,O,m,get_none (DJ (show s.z<=s'.z from J.sz) g),fa,?_,J.os,J.bare,?_,?_,q⟩
 .exact J.hok.fresh g
 .have B:∀b o,s.heap.get? b=a_ o->∀o',s'.heap.get? b=a_ o'->b∉frs outer->h'.get? b=a_ o':=λb o e o' y S=>by
   obtain⟨L,G,F⟩:=l b o e;exact j.keep b o' y (λz=>S (h b F z)) L G
  refine⟨λb o e n S i=>B b o e o (I.keep b o e n S i) S,λb o e n S i=>?_,I.free,λb o e i=>?_,I.tups,I.frzs,I.tbls⟩
  .obtain⟨sl,e1⟩:=I.slot b o e n S i;obtain⟨k,e2⟩:=j.slot b _ e1 (U b S);exact⟨k,e2⟩
  .obtain⟨o',e1⟩:=I.there b o e i;by_cases S:b∈frs outer
   .obtain⟨sl,e2⟩:=j.slot b o' e1 (U b S);exact⟨_,e2⟩
   .exact⟨o',B b o e o' e1 S⟩
 .intro b o e;refine(J.hok b o e).wu (λc u Q e1=>?_) (λ_ z=>z) λ_ _ z=>z;have d:H' c≠f_:=by
   rcases Q with z|z
   .rw[z,e];exact λz=>nomatch z
   .rw[z];exact λz=>nomatch z
  exact j.keep c u e1 (λz=>d (r c z)) (λz=>d (by rw[z];exact fa)) λT g z=>d (by rw[z];exact(D T g).2)
def passD:Passes (CXd P w) (vN (CXd P w) P w K mg base N qual scope f cd A outer s H E) E:=by rintro B2 σ H1 U e s' I ⟨a,T,C,dx,H',rfl,z⟩;have J:=I.call' z.os z.un z.hok z.bare (λ_ h=>nomatch h);exact xe_of J z.ex (I.jN rfl z.na) (λY S=>by cases S;exact⟨I.jN rfl z.nT,z.fT⟩) z.fa z.want
end
def exc_obj(X:K.In h)(q:GS K C bmB newId=e_):
  ∃tl N nm a bs hdct sn sub ab col dd k0 k1 k2 k3 k5 mN,h.get? C=a_ (excClassObj nm a C N bs tl hdct sn sub ab col dd k0 k1 k2 k3 k5 newId)/\h.Ns N mN/\mN "__init__"=f_/\OwnTail h bmB tl:=by
 unfold GS at q;split at q
 next dd cd sl c=>
  split at q
  next Y tl k0 k1 k2 k3 n k5 d b=>
   obtain⟨o,m,J,k,j,i,g,f,e,S,I⟩:=cd;obtain⟨l⟩:=sl;simp only[A_]at q;obtain⟨⟨⟨⟨⟨z,y⟩,x⟩,w⟩,U⟩,v⟩:=q;have u:Y=C:=GJ.mp z;have t:n=newId:=GJ.mp y;have s:I=c_:=by cases I<;>first|rfl|cases x
   have r:J=x_ Y::tl:=d;have p:l=[k0,k1,k2,k3,a_ (.builtin n),k5]:=b;subst u t s r p;exact⟨tl,k,o,j,m,i,g,f,e,S,dd,k0,k1,k2,k3,k5,_,X _ _ c,.of_isNs (PySem.W.isNs_of_in X U),PySem.W.nsMap_none_of_in X U (GJ.mp v),PySem.W.tail_of_in X w⟩
  next=>cases q
 next=>cases q
def XEq(X:Cx)(E:XK)(C:i_):Prop:=∀(B2:Pn) (σ:St) (H:Hp) (s':k_) (a:i_),B6 X B2 σ H s'->ExA s'.heap a (.ref C) f_ f_->X.s₀.heap.get? a=f_->H a=f_->E (.ref C) f_ H->X.xe (.ref a) s'
noncomputable def tRaise(te:TE)(C:i_)(E:XK):TS:=λ_ σ H=>te σ H λ_ H1=>E (.ref C) f_ H1
section
variable{E:XK}
theorem ps_raise(FB:ExcBaseFacts B newId initId bmB)(l:XEq X E C)(p:PE X e te)(o:Gl X x)(S:X.mg x=a_ (.ref C))(u:GS X.K C bmB newId=e_)(n:X.A.handled=f_)(a: ~~~(X.ex=[]))(b:((x==("__debug__":C_))=c_)⁻¹)(Y: ~~~(j_ [e] X.env=[(c_,Dh e X.env)])):PS X (.Raise (a_ (.Call (.Name x np) [e] [] cpos)) f_ pos) (tRaise te C E):=by
 intro B2 s σ H D I h;obtain⟨tl,N,nm,g,bs,hdct,sn,sub,ab,col,dd,k0,k1,k2,k3,k5,mN,k,j,i,d⟩:=exc_obj I.mod.kin u;refine wpAny_Raise_call_subT FB (C:=C) (nm:=nm) (q:=g) (N:=N) (bs:=bs) (bm:=tl) (hdct:=hdct) (sn:=sn) (sub:=sub) (ab:=ab) (col:=col) (dd:=dd) (k0:=k0) (k1:=k1) (k2:=k2) (k3:=k3) (k5:=k5) (mN:=mN)
  (d.hasType FB.hasBase) n (by rw[Y];rfl) i (iE I o S ⟨rfl,?_⟩ b)
 rw[Y];refine IJ (Hl (E' (p B2 s σ H _ I h) λv c m=>?_));obtain⟨y,H1,U,A,q1⟩:=m;refine Jw ⟨rfl,?_,U.bk _ _ k,j.keeps U.bk,d.keeps U.bk,λh' e S=>?_⟩
 .have:=EK;show 1<=o_;lia
 .obtain⟨t,f,z,w⟩:=S.there;have J:B6 X B2 σ H1 {c with heap:=h'}:=U.kept (t':=c.toks) S.keeps;exact l B2 σ H1 _ e J ⟨⟨_,_,f,rfl,rfl,rfl,rfl⟩,λT r=>nomatch r⟩ (U.jN a S.new) (U.hok.off S.new) q1
end
section
variable{base:Du}{f:i_}{s:k_}{E:XK}
def xeqD:XEq (vN (CXd P w) P w K mg base N qual scope f cd A outer s H E) E C:=λ_ _ _ _ _ J x I fa q=>xe_of J x I (λT S=>nomatch S) fa q
end
def WE(K:Fg)(E:XK):cp where
 p:=λe F H=>match e with
  |.stuck=>False|.exc C fs=>∀F' H',B4 F H F' H'->match fs with
   |[]=>E (.ref C) f_ H'|fs=>∀d gs,F' d=a_ (.xd gs)->jf K F' fs gs->E (.ref C) (a_ d) H'
 mono:=λ{e F H F' H'} h s=>by
  cases e with
  |stuck=>exact h|exc C fs=>exact λF2 H2 I=>h F2 H2 (s.trans I)
 ns:=λh=>h
noncomputable def noX{α:Type}:M α->M α
 |.ok d=>.ok d|.error _=>.error .stuck
@[simp]def noX_ok{α:Type}(d:α):noX (.ok d:M α)=.ok d:=id rfl
def fNoX{α:Type}(f:ae->M α):ae->M α:=λρ=>noX (f ρ)
@[simp]def e_fNoX{α:Type}(f:ae->M α)(ρ:ae):fNoX f ρ=noX (f ρ):=id rfl
section
variable{W:cp}
def dt_lift{f:ae->M Bool}(h:DT K Hn X.nox e f):DT K W X e (fNoX f):=PT.imp (PT.nox h) λσ H Q ⟨F,ρ,r,s,p⟩=>by
 refine⟨F,ρ,r,s,?_⟩
 have p:match noX (f ρ)with
  |.ok b=>∀F' H',B4 F H F' H'->Q b H'|.error e=>W.p e F H:=p
 cases e:f ρ with
 |ok d=>rw[e]at p;exact p|error x=>rw[e]at p;exact(W.ns p).elim
def xE{st:List Ei}(h:DSs K Hn ro X.nox OL O O' st g):DSs K W ro X OL O O' st (fNoX g):=λF0 H0=>PSs.imp (PSs.nox (h F0 H0)) λD σ H ⟨FB,F,ρ,r,p⟩=>by
 refine⟨FB,F,ρ,r,?_⟩
 have p:cQ K W ro F0 H0 FB OL O' D (noX (g ρ)):=p;unfold cQ at p ⊢;cases e:g ρ with
 |ok fl=>rw[e]at p;cases fl<;>exact p
 |error x=>rw[e]at p;exact(W.ns p).elim
end
noncomputable def sExc(C:i_):ae->M C1:=λ_=>.error (.exc C [])
@[simp]def e_sExc(C:i_)(ρ:ae):sExc C ρ=.error (.exc C []):=id rfl
section
variable{E:XK}{t:C_}{j1:Nat}
def ds_raise{j1}(FB:ExcBaseFacts B newId initId bmB)(U:XEq X E C)(Y:X.mg x=a_ (.ref C))(c:GS X.K C bmB newId=e_)(a:X.A.handled=f_)(b: ~~~(Gl X x))(J: ~~~(X.ex=[]))(S:((x==("__debug__":C_))=c_)⁻¹)(I: ~~~(j_ [.Constant (.str t) j1 p1] X.env=[(c_,Dh (.Constant (.str t) j1 p1) X.env)])):
  DS K (WE K E) ro X OL O O' (.Raise (a_ (.Call (.Name x np) [.Constant (.str t) j1 p1] [] cpos)) f_ pos) (sExc C):=λF0 H0=>PS.imp (ps_raise FB U pe_str b Y c a J S I) λD σ H ⟨d,F,ρ,r,p⟩=>by
 have q:(WE K E).p (.exc C []) F0 H0:=p;exact q F H r.st
end
def spX(K:Fg)(ro:Bool)(g:List A'->M A')(n:Nat):Sp:=λvs H Q E=>∃F ds,aK F H/\ay K F ds vs/\ds.length=n/\aF K (WE K E) ro F H (g ds) Q
section
variable{fr:ae->M (List A')}{p:IM}{E:XK}
def xR(F:fU X.prog X.w X.K X.mg X.base CX k fad fd ps (spX K ro (b7 nN n g) n))(b:Passes CX X E)(c:fS k X.A)(d:X.mg x=a_ (.ref fad))(f:Gd X.K (.ref fad)=e_)(j:Binds X.K fd ps [])(l:DA K (WE K E) X (e::es) fr)(i: ~~~(Gl X x))(U:((x==("__debug__":C_))=c_)⁻¹)(J: ~~~(j_ (e::es) X.env=(c_,Dh e X.env)::j_ es X.env))(S: ~~~((Eg pos (j_ es X.env)).any (·.1)=c_)):
  DE K (WE K E) ro X (.Call (.Name x p) (e::es) [] pos) (fL (b7 nN n g) fr):=by
 refine PE.imp (mW F c i d f j .nil b l U J S) λσ H Q h=>?_;obtain⟨F,ρ,r,s,p⟩:=rd_L h;refine⟨F,ρ,r,s,?_⟩
 cases e1:fr ρ with
 |error z=>rw[e1]at p;exact p|ok ds=>
  rw[e1]at p;intro vs F' H' st q;obtain⟨F1,I,a,q1,z⟩:=p vs F' H' st q;show spX K ro (b7 nN n g) n (vs++[]) H' Q E;rw[DB];by_cases Y:I.length=n
  .exact⟨F1,I,a,q1,Y,z⟩
  .rw[jS Y]at z;exact aF.stuck z
end
section
variable{base:Du}
theorem fn_X{st:Ei}{f:i_}(F:Fun K x qual st f fd)(S:fO N ps (aE st))(ro:Bool)(g:ae->M C1)(c:∀(cdv:g_) (A:ES) (outer:List KR) (s:k_) (H:Hp) (E:XK),fS k (A.deeper (Ge qual (aE st) s.heap.objs.size f cdv)) ->
   DSs K (WE K E) ro (vN (CXd P w) P w K mg base N qual (aE st) f cdv A outer s H E) [] [] O' (bw st) g):fU P w K mg base (CXd P w) (k+1) f fd ps (spX K ro (b7 N.length ps.length g) ps.length):=by
 obtain⟨oc,od,kV,doc,pm,an,cdv,ct,osl,rfl,U,I⟩:=F.ex;refine fn_of U I S (λvs H Q E ⟨F,ds,s,q,l,p⟩=>by rw[q.length,l]) λA outer s H vs Q E Y b=>?_;obtain⟨F1,ds,J,q,l,p⟩:=b;refine⟨_,c cdv A outer s H E Y F1 H,F1,F1,ds.map a_++Di (N.length-ds.length) f_,?_,?_⟩
 .refine⟨B4.refl J,aK.refl _,?_,λi d e _=>sH q e,(λi d e h=>nomatch h),(λi j ds es a h=>nomatch h)⟩
  unfold start;rw[CM,CM,q_,q_,EZ,EZ,q.length]
 .have e1:b7 N.length ps.length g ds=(g (ds.map a_++Di (N.length-ds.length) f_)).bind λfl=>match fl with
   |.nx _=>.ok .non|.rt d=>.ok d|_=>stk:=by unfold b7;exact n_ l
  rw[e1]at p;cases e2:g (ds.map a_++Di (N.length-ds.length) f_)with
  |error z=>rw[e2]at p;exact p|ok fl=>
   rw[e2]at p;cases fl with
   |nx ρ=>exact λσ F H r=>p .non F H r.st (by cases ro<;>rfl)
   |rt d=>exact λv F H st q=>p v F H st q|bk ρ=>exact aF.stuck p|ct ρ=>exact aF.stuck p
end
section
variable{s:k_}{C:g_}
structure Apart(X:Cx)(B2:Pn)(H:Hp)(s:k_)(a:i_)(hd:Option i_):Prop where
 na:X.s₀.heap.get? a=f_
 fa:H a=f_
 pa:∀p∈X.pn++B2,p.1≠a
 nT:∀T,hd=a_ T->X.s₀.heap.get? T=f_/\H T=f_/\∀p∈X.pn++B2,p.1≠T
def B6.left(I:B6 X B2 σ H s)(hx:X.ex=[])(x:ExA s.heap a C dx hd)(f:Apart X B2 H s a hd)(U:Left (frs X.stack) a hd s.heap h'):B6 X B2 σ H {s with heap:=h'}:=by
 have W:=I.env0;obtain⟨oe,vs,P,_,_,D,_⟩:=x.ob;have A:∀b o,s.heap.get? b=a_ o->(∀vs,o.data≠.fields vs)->b≠a/\∀T,hd=a_ T->b≠T:=λb o e n=>by
  refine⟨λz=>?_,λT d z=>?_⟩
  .subst z;rw[P]at e;cases e;exact n vs D
  .subst z;obtain⟨_,oT,ts,h1,h2,_⟩:=x.tb _ d;rw[h1]at e;cases e;exact n ts h2
 have y:∀b∈frs X.stack,H b=f_:=W.frf;have w:∀b o,s.heap.get? b=a_ o->(∀vs,o.data≠.fields vs)->∃sl,h'.get? b=a_ {o with slots:=sl}:=λb o e n=>by
  obtain⟨h,g⟩:=A b o e n;by_cases S:b∈frs X.stack
  .exact U.slot b o e S
  .exact⟨o.slots,U.keep b o e S h g⟩
 have k:∀b o,X.s₀.heap.get? b=a_ o->b≠a/\∀T,hd=a_ T->b≠T:=λb o e=>⟨λz=>(by subst z;rw[f.na]at e;cases e),λT d z=>(by subst z;rw[(f.nT _ d).1]at e;cases e)⟩
 have G:s.heap.UpToSlots h':=w;have l:X.s₀.heap.get? X.env.locals=f_:=get_none I.ok.above;have out:∀b,b≠X.env.locals->b∉X.fs->b∉frs X.stack:=λb h1 h2 R=>by
  rcases r_.mp (I.p8 b R)with z|z
  .exact h1 z
  .exact h2 z
 have t:∀c v,s.heap.IsCell c v->h'.IsCell c v:=λc v ⟨o,h1,h2⟩=>by obtain⟨sl,z⟩:=w c o h1 (λvs q=>by rw[h2]at q;cases q);exact⟨_,z,h2⟩
 refine⟨I.ok,I.os,I.bare,?_,?_,λx c e=>?_,I.free,I.freeC,λp B=>?_,?_,I.len⟩
 .have E:∀b o,X.s₀.heap.get? b=a_ o->∀o',s.heap.get? b=a_ o'->∃sl,h'.get? b=a_ {o' with slots:=sl}:=λb o e o' F=>by
   obtain⟨h,g⟩:=k b o e;by_cases S:b∈frs X.stack
   .exact U.slot b o' F S
   .exact⟨o'.slots,U.keep b o' F S h g⟩
  refine⟨λb o e n S J=>?_,λb o e n S J=>?_,I.base.free,λb o e J=>?_,I.base.tups,I.base.frzs,I.base.tbls⟩
  .obtain⟨h,g⟩:=k b o e;exact U.keep b o (I.base.keep b o e n S J) (out b (λz=>by rw[z,l]at e;cases e) S) h g
  .obtain⟨sl,e1⟩:=I.base.slot b o e n S J;obtain⟨j,e2⟩:=E b o e _ e1;exact⟨j,e2⟩
  .obtain⟨o',e1⟩:=I.base.there b o e J;obtain⟨j,e2⟩:=E b o e _ e1;exact⟨_,e2⟩
 .obtain⟨m,N,O⟩:=I.loc;refine⟨m,G.ns N,λi x v e1 e2 e3=>?_⟩
  obtain⟨u,r,L⟩:=O i x v e1 e2 e3;refine⟨u,r,?_⟩
  rcases L with z|⟨z,c,c1,Z⟩
  .exact .inl z
  .exact .inr ⟨z,c,c1,t c _ Z⟩
 .obtain⟨v,z⟩:=I.cell x c e;exact⟨v,t c v z⟩
 .obtain⟨p1,p2,p3,p4,K⟩:=I.pin p B;exact⟨U.keep p.1 p.2 p1 (out p.1 p3 p4) (f.pa p B) λT d=>(f.nT T d).2.2 p B,p2,p3,p4,K⟩
 .intro b o e;refine(I.hok b o e).wu (λc u Q e1=>?_) (λ_ z=>z) λ_ _ z=>z;have Y:H c≠f_:=by
   rcases Q with z|z
   .rw[z,e];exact λz=>nomatch z
   .rw[z];exact λz=>nomatch z
  exact U.keep c u e1 (λz=>Y (y c z)) (λz=>Y (by rw[z];exact f.fa)) λT d z=>Y (by rw[z];exact(f.nT T d).2.1)
end
def PEat(X:Cx)(B2:Pn)(σ:St)(e:Em)(t:TE):Prop:=∀(s:k_) (H:Hp) (Q:VK),B6 X B2 σ H s->t σ H Q->w_ (B_ X.prog X.w) X.A (Dh e X.env) (EP X B2 σ Q) X.xe s
def PSat(X:Cx)(B2:Pn)(σ:St)(st:Ei)(t:TS):Prop:=∀(s:k_) (H:Hp) (D:Ends),B6 X B2 σ H s->t D σ H->w_ (B_ X.prog X.w) X.A (exec st X.env) (SP X B2 D) X.xe s
def CC(X:Cx)(B2:Pn)(σ:St)(st:List Ei)(t:TS):Prop:=∀(s:k_) (H:Hp) (D:Ends),B6 X B2 σ H s->t D σ H->w_ (B_ X.prog X.w) X.A (execs st X.env) (SP X B2 D) X.xe s
def ku(CX:CXT)(X:Cx)(B2:Pn)(σ:St)(E:XK):Prop:=∀(H:Hp) (s:k_) (e:g_) (s':k_),B6 X B2 σ H s->CX X.stack H s E e s'->X.xe e s'
section
variable{st:Ei}{t u:TS}
def at_one(h:PSat X B2 σ st t):CC X B2 σ [st] t:=λs H D I q=>by
 refine KG (E' (h s H D I q) λf J z=>?_);cases f with
 |next=>exact Hw z|_=>exact z
def at_if{c:Em}{a b:List Ei}{tc:TT}(Y:PT X c tc)(f:CC X B2 σ a t)(e:CC X B2 σ b u):PSat X B2 σ (.If c a b pos) (tIfS tc t u):=λs H D I q=>by
 refine wpAny_If (E' (Y B2 s σ H _ I q) λd J U=>?_);obtain⟨H1,S,q1⟩:=U;cases d with
 |true=>exact f J H1 D S q1|false=>exact e J H1 D S q1
def at_expr(S:PEat X B2 σ e te)(J: ~~~(EV e f_ pos.line X.env=ER c_)):PSat X B2 σ (.Expr e pos) (yA te):=λs H D I q=>wpAny_Expr_any (E' (S s H _ I q) λv Y ⟨x,H1,U,a,q1⟩=>⟨σ,H1,U,q1⟩) I.quiet J
end
section
variable{f:i_}{ds:List g_}{E:XK}{p:IM}{t:TA}
theorem at_run{s:k_}{vs:aB}(F:fU X.prog X.w X.K X.mg X.base CX k f fd ps sp)(Y:fS k X.A)(a:Binds X.K fd ps ds)(hd:D' dvs ds)(U:ku CX X B2 σ E)(I:B6 X B2 σ H s)(r:D' vs us)(h:sp (vs++dvs) H Q E):w_ (B_ X.prog X.w) X.A (Hk (.ref f) us) (EP X B2 σ Q) X.xe s:=by
 have S:=r.append hd;refine Nj (F7 (F.run _ _ s H ⟨us,[]⟩ _ _ Q E Y I.env0 (a s us I.kIn (S.length.symm.trans (F.len _ _ _ _ h))) S h) λz s' J=>?_);cases z with
 |error e=>exact U H s e s' I J|ok fl=>
  cases fl with
  |ret u=>exact I.after J|_=>exact DK J
def at_call(F:fU X.prog X.w X.K X.mg X.base CX k f fd ps sp)(Y:ku CX X B2 σ E)(a:fS k X.A)(b:X.mg x=a_ (.ref f))(c:Gd X.K (.ref f)=e_)(h:Binds X.K fd ps ds)(hd:D' dvs ds)(i:PA X (e::es) t)(d: ~~~(Gl X x))(S:((x==("__debug__":C_))=c_)⁻¹)(g: ~~~(j_ (e::es) X.env=(c_,Dh e X.env)::j_ es X.env))(J: ~~~((Eg pos (j_ es X.env)).any (·.1)=c_)):
  PEat X B2 σ (.Call (.Name x p) (e::es) [] pos) (tCall sp dvs E t):=λs H Q I q=>
 GN (iE I d b (J8 (h₀:=X.base) I.ok.mod.kin c (E' (i pos B2 s σ H _ I q) λus j ⟨vs,H1,U,r,q1⟩=>⟨U.kIn,at_run F a h hd Y U r q1⟩) g J) S)
end
section
variable{s:k_}
def B6.names{m:Mq}(I:B6 X B2 σ H s)(j:h'.Ns X.env.locals m)(S:FP X.env.locals s.heap h')(k:σ'.length=X.N.length)(hv:∀(i:Nat) (x:C_) (v:V),X.N[i]?=a_ x->σ'[i]?=a_ (a_ v)->Vis X.env.scope x->∃u,C' v u/\Look X.env s.heap m x u):B6 X B2 σ' H {s with heap:=h'}:=by
 have J:∀b o,X.s₀.heap.get? b=a_ o->b≠X.env.locals:=λb o e z=>by subst z;exact CQ (t_ e) (Mw.mpr I.ok.above)
 have Y:∀x c v,X.env.cells.lookup x=a_ c->s.heap.IsCell c v->h'.IsCell c v:=λx c v e z=>z.sameBut S (I.cne x c e);refine⟨I.ok,I.os,I.bare,⟨λb o e n a U=>?_,λb o e n a U=>?_,I.base.free,λb o e U=>?_,I.base.tups,I.base.frzs,I.base.tbls⟩,⟨m,j,λi x v e1 e2 e3=>?_⟩,λx c e=>?_,I.free,I.freeC,λp h=>?_,λb o e=>?_,k⟩
 .show h'.get? b=_;rw[S.2 b (J b o e)];exact I.base.keep b o e n a U
 .obtain⟨sl,z⟩:=I.base.slot b o e n a U;refine⟨sl,?_⟩
  show h'.get? b=_;rw[S.2 b (J b o e)];exact z
 .obtain⟨o',z⟩:=I.base.there b o e U;refine⟨o',?_⟩
  show h'.get? b=_;rw[S.2 b (J b o e)];exact z
 .obtain⟨u,r,g⟩:=hv i x v e1 e2 e3;refine⟨u,r,?_⟩
  rcases g with z|⟨z,c,d,q⟩
  .exact .inl z
  .exact .inr ⟨z,c,d,Y x c _ d q⟩
 .obtain⟨v,z⟩:=I.cell x c e;exact⟨v,Y x c v e z⟩
 .obtain⟨p1,p2,p3,p4,f⟩:=I.pin p h;refine⟨?_,p2,p3,p4,f⟩
  show h'.get? p.1=_;rw[S.2 p.1 p3];exact p1
 .refine(I.hok b o e).wu (λc u l e1=>?_) (λ_ z=>z) λ_ _ z=>z;show h'.get? c=_;rw[S.2 c λz=>?_]
  .exact e1
  .rcases l with y|y
   .rw[<- y,z,I.free]at e;cases e
   .rw[z,I.free]at y;cases y
def rq{M:Kl}{Q:Unit->k_->Prop}(I:B6 X B2 σ H s)(g:X.N.Nodup)(hi:X.N[i]?=a_ x)(S:X.env.scope.names.lookup x=a_ .local)(h:∀s',B6 X B2 (σ.set i f_) H s'->Q () s'):w_ M A (do bindName X.env x .none;MO X.env x pos) Q E s:=by
 have Y:(X.env.scope.kind==.class||(X.env.scope.kind==.module&&X.env.locals != X.env.globals))=c_:=by rw[I.ok.kind];rfl
 have U:i<σ.length:=by rw[I.len];exact(y_.mp hi).1
 refine b_ (wpAny_bindName (m8 I g hi (.inl S) (v:=.non) rfl (λt k=>?_) (.inr S)));unfold MO;refine Hd ?_;obtain⟨m,p,f⟩:=id k.loc;obtain⟨u,_,a⟩:=f i x .non hi (by rw[CK U]) (.inl S);have d:m x=a_ u:=by
  rcases a with z|⟨z,_⟩
  .exact z.2
  .have e:X.env.kindOf x=a_ .local:=S;rw[e]at z;rcases z with z|z<;>cases z
 refine wpAny_unbindName_local S p d Y λh' q c o=>h _ (k.names c o (by rw[Dn];exact I.len) λj y v e1 e2 e3=>?_);have J:i≠j:=λz=>by subst z;rw[CK U]at e2;cases e2
 rw[v_ J]at e2;obtain⟨w,r,a⟩:=f j y v e1 (by rw[v_ J];exact e2) e3;refine⟨w,r,?_⟩
 rcases a with⟨n,l⟩|z
 .have b:y≠x:=λz=>J (qW g hi (z▸e1));exact .inl ⟨n,by simp[b,l]⟩
 .exact .inr z
end
noncomputable abbrev Cx.hand(X:Cx)(a:i_)(oe:IB):Cx:={X with A:=X.A.mark (a_ (.ref a)),calm:=c_,xe:=λ_ _=>False,pn:=(a,oe)::X.pn}
section
variable{s:k_}{T:i_}{C:g_}
theorem B6.hand{vs:Array g_}(I:B6 X B2 σ H s)(S:s.heap.get? a=a_ oe)(hd:oe.data=.fields vs)(U:X.s₀.heap.get? a=f_)(fa:H a=f_):B6 (X.hand a oe) B2 σ H s:=by
 have J:=I.ok;refine⟨⟨J.mod,J.kind,J.glob,J.blt,J.above,J.inj,J.has,J.cab,(λz=>nomatch z),J.frames,J.stk,J.exf,J.bs,J.bsz,J.noex,J.exfs,J.tZ,J.frf⟩,I.os,I.bare,I.base,I.loc,I.cell,I.free,I.freeC,λp Y=>?_,I.hok,I.len⟩
 rcases r_.mp (show p∈(a,oe)::(X.pn++B2)from Y)with z|z
 .subst z;refine⟨S,fa,λz=>?_,λb=>?_,λv z=>?_⟩
  .obtain⟨m,⟨o,es,ep,h1,h2,_⟩,_⟩:=I.loc;have z:a=X.env.locals:=z;rw[<- z,S]at h1;cases h1;rw[hd]at h2;cases h2
  .obtain⟨_,o,h1,_⟩:=J.tZ.mem b;have h1:X.s₀.heap.get? a=a_ o:=h1;rw[U]at h1;cases h1
  .have z:oe.data=.cell v:=z;rw[hd]at z;cases z
 .exact I.pin p z
def B6.we(J:B6 (X.hand a oe) B2 σ H s)(I:X.Ok):B6 X B2 σ H s:=
 ⟨I,J.os,J.bare,J.base,J.loc,J.cell,J.free,J.freeC,λp S=>J.pin p (CS _ S),J.hok,J.len⟩
def BC{M:Kl}{base:Du}{l:List KR}{Q:Unit->k_->Prop}(p:s.heap.FunFrames base l)(x:ExA s.heap a C dx (a_ T))(h:∀h',ExA h' a C dx (a_ T)->Left (frs l) a (a_ T) s.heap h'->h'.get? a=s.heap.get? a->Q () {s with heap:=h'}):w_ M A (JD (.ref a) f_) Q E s:=by
 obtain⟨o,vs,k,r,e,Y,h1⟩:=x.ob;obtain⟨d,u,ts,j,J,t⟩:=x.tb T rfl;have S:3<ts.size:=(Ho.mp t).1;unfold JD;refine b_ (Eo k Y (x:=.ref T) h1 ?_);rw[n_ ad];refine E7 j J S ?_;have I:∀b,b≠T->(s.heap.update T (FZ (·.setIfInBounds 3 ((f_:Option i_).elim Dw λf=>Fd f)))).get? b=s.heap.get? b:=λb c=>Dd _ _ (D6 c);have m:=EH J (·.setIfInBounds 3 ((f_:Option i_).elim Dw λf=>Fd f));refine h _ ⟨⟨o,vs,by rw[I a (D6 d)];exact k,r,e,Y,h1⟩,λw i=>?_⟩ ⟨λb o' q _ _ c=>by rw[I b (c T rfl)];exact q,λb o' q c=>?_,?_⟩ (I a (D6 d))
 .cases i;exact⟨d,_,_,EX _ j (E2 m),m,by simp[S]⟩
 .obtain⟨_,v,U,n⟩:=p.mem c;have g:b≠T:=λz=>by
   subst z;rw[j]at U;cases U;exact n ts J
  exact⟨o'.slots,by rw[I b g];exact q⟩
 .rw[FE];exact m_ _
end
def Ends.less(D:Ends)(i:Nat):Ends:={nx:=λσ H=>D.nx (σ.set i f_) H,rt:=D.rt,bk:=λσ H=>D.bk (σ.set i f_) H,ct:=λσ H=>D.ct (σ.set i f_) H}
section
open PySem.W
variable{g:Array MX}{d:Drawn}{t:Nat}{od:Option IB}{K:N0}
def xcls_by{tk:Tok}{Q:Vp}(FB:Il B bmB)(J:K.In h)(I:GU h a oe C od)(e1:Dm K (.ref C) "__getattribute__"=a_ (a_ (.builtin "BaseException.__getattribute__")))(e3:Dm K (.ref C) "__getattr__"=a_ f_)(Y:∀R:Mp->k_->Prop,R (.ok (.ret (.ref C))) ⟨h,g,d,t,os⟩->He (B_ prog w) A (.call (.builtin "BaseException.__getattribute__") ⟨[.ref a,.str "__class__" tk],[]⟩) R ⟨h,g,d,t,os⟩)(q:Q (.ref C) ⟨h,g,d,t,os⟩):
  w_ (B_ prog w) A (NX (.ref a) (.str "__class__" tk) c_) Q E ⟨h,g,d,t,os⟩:=by
 have U:=I.type (M:=B_ prog w);have S:=Jj (M:=B_ prog w) J e1;have b:=Jj (M:=B_ prog w) J e3;have e:=FB.ga.bind (.ref a);have c:(I9 "BaseException.__getattribute__"==I9 "object.__getattribute__")=c_:=by decide +kernel
 unfold NX
 repeat (any_goals (first|assumption|with_reducible refine U.at ?_|with_reducible refine S.at ?_|with_reducible refine b.at ?_|wp_step))
 all_goals (refine Y _ ?_)
 repeat (any_goals (first|wp_step|assumption))
theorem yp{M:Kl}{J:g_}{Q:Unit->k_->Prop}(b:K.In h)(I:GU h a oe C od)(f:E5 K C (.type "BaseException")=a_ e_)(e:Q () ⟨h,g,d,t,os⟩):
  w_ M A (NY "BaseException.__getattribute__" ⟨[.ref a,J],[]⟩) Q E ⟨h,g,d,t,os⟩:=by
 have Y:builtinKind "BaseException.__getattribute__"=a_ .slot:=by decide +kernel
 have c:splitId "BaseException.__getattribute__"=a_ ("BaseException","__getattribute__"):=by decide +kernel
 have U:=I.type (M:=M);have S:=MV (M:=M) b f;have i:=F.args_bexc_ga (.ref a) J;simp only[NY,c,Y];refine b_ ?_;unfold Li
 repeat (first|with_reducible refine U.at ?_|with_reducible refine S.at ?_|wp_step)
 exact e
theorem yo{tk:Tok}{Q:Ku->k_->Prop}(J:K.In h)(I:GU h a oe C od)(e2:Dm K (.ref C) "__class__"=a_ (a_ (.builtin "object.__class__")))(Y:E5 K C (.type "object")=a_ e_)(f:Q (.done (.ret (.ref C))) ⟨h,g,d,t,os⟩):
  w_ (B_ prog w) A (Builtin.«object.__getattribute__» ⟨[.ref a,.str "__class__" tk],[]⟩) Q E ⟨h,g,d,t,os⟩:=by
 have tc:HA ⟨h,g,d,t,os⟩ (.builtin "object.__class__") "getset_descriptor":=L5;have U:=I.type (M:=B_ prog w);have S:=Jj (M:=B_ prog w) J e2;have e:=L5;have c:=F.slot_gs_get.lookup;have b:=F.slot_gs_set.lookup
 repeat (any_goals (first|assumption|with_reducible refine U.at ?_|with_reducible refine S.at ?_|wp_step))
 refine W.class_get (s:=⟨h,g,d,t,os⟩) J I Y ?_
 repeat (any_goals (first|wp_step|assumption))
theorem A9{Q:Option g_->k_->Prop}(FB:Il B bmB)(J:K.In h)(I:GU h a oe C od)(e1:Dm K (.ref C) "__getattribute__"=a_ (a_ (.builtin "BaseException.__getattribute__")))(e2:Dm K (.ref C) "__class__"=a_ (a_ (.builtin "object.__class__")))(e3:Dm K (.ref C) "__getattr__"=a_ f_)(Y:E5 K C (.type "BaseException")=a_ e_)(U:E5 K C (.type "object")=a_ e_)(S:Q (a_ (.ref C)) ⟨h,g,d,t+1,os⟩):w_ (B_ prog w) A (MT (.ref a) "__class__") Q E ⟨h,g,d,t,os⟩:=by unfold MT getAttrBy?;refine b_ (wpAny_mkText (b_ (Ga (xcls_by FB J I e1 e3 (λR b=>codeAny_call_builtin FB.ga.plain F.entry_bexc_ga (yp J I Y (yo J I e2 U b))) ?_))));exact h_ S
structure XIsi(K:N0)(C:i_):Prop where
 ga:Dm K (.ref C) "__getattribute__"=a_ (a_ (.builtin "BaseException.__getattribute__"))
 cl:Dm K (.ref C) "__class__"=a_ (a_ (.builtin "object.__class__"))
 gt:Dm K (.ref C) "__getattr__"=a_ f_
 bs:E5 K C (.type "BaseException")=a_ e_
 ob:E5 K C (.type "object")=a_ e_
 is:∃cd,Mn K C=a_ cd
def mx(FB:Il B bmB)(Z:XIsi K C):KitX K (.ref a) (.ref C) (λh=>GU h a oe C od) where
 ty:=λ_ _ _ I=>I.type
 it:=λ_ _ X _=>by
  obtain⟨cd,J⟩:=Z.is;unfold Mn at J;split at J
  .next U=>intro m j l s' k q;unfold isType loadHead;refine b_ (wpAny_loadPart (k C _ (X C _ U)) ?_);exact h_ q
  .cases J
 ne:=λf Y i is c b X S=>by
  obtain⟨cd,J⟩:=Z.is;refine Bool.eq_false_iff.mpr (λq=>?_);have e:C=Y:=Value.ref.inj (GJ.mp q);subst e;unfold Mn at J;split at J
  .next U=>cases(X C _ U).symm.trans S
  .cases J
 ca:=λ{_ _ _ _ _ s} X I k=>by obtain⟨h,g,d,t,os⟩:=s;exact A9 FB X I Z.ga Z.cl Z.gt Z.bs Z.ob k
end
theorem qK:∀{ys:List i_} {its:aM},D' (ys.map V.ref) its->its=ys.map x_
 |[],_,.nil=>rfl|y::ys,_,.cons r rs=>by rw[qK rs,show _=x_ y from r];rfl
def c_isiX(FB:Il B bmB)(Z:XIsi X.K C)(D:oe.cls=.ref C)(hd:∃vs,oe.data=.fields vs)(A:oe.dict=f_):cH (X.hand a oe) (.builtin "isinstance") (λxs H Q=>∃v b,xs=[.ref a,v] /\
  ((∃c,C' v c/\(∀u,C' v u->u=c)/\Ed X.K (.ref C) c=a_ b)\/∃(S:i_) (ys:List i_),v=.ref S/\H S=a_ (.tup (ys.map V.ref))/\Nu X.K (.ref C) (ys.map x_)=a_ b)/\Q (.bl b) H):=by
 intro B2 s σ H xs us Q I r h;obtain⟨v,b,rfl,h1,q⟩:=h;obtain⟨u,w,rfl,p,Y⟩:=r.two;cases(show u=x_ a from p);have pa:=(I.pin (a,oe) (CW ..)).1;obtain⟨vs,f⟩:=hd;have J:GU s.heap a oe C f_:=⟨pa,D,by unfold Mj;rw[f],by rw[A];trivial⟩
 rcases h1 with⟨c,F,U,e⟩|⟨S,ys,rfl,y,e⟩
 .cases U w Y;exact JG (mx FB Z) I.kIn J e (λz=>nomatch z) λtk=>⟨.bl b,H,I.tok tk,rfl,q⟩
 .cases(show w=x_ S from Y);obtain⟨_,its,o,x,m,l⟩:=(show dW X.prog X.w H s.heap S (.tup (ys.map V.ref))from I.hok S _ y)
  obtain⟨k,n,j⟩:=l;have E:its=ys.map x_:=qK o;subst E;obtain⟨oc,t,d,osl⟩:=x;have i:oc=EB "tuple":=k;have g:d=.seq (ys.map x_).toArray n:=j;subst i g;exact L3 (mx FB Z) I.kIn J m e (λz=>nomatch z) λtk=>⟨.bl b,H,I.tok tk,rfl,q⟩
noncomputable def tRefs(ys:List i_):TA:=λ_ H Q=>Q (ys.map V.ref) H
section
variable{D:i_}{y:C_}{p:IM}
def pa_refs0:PA X [] (tRefs []):=cK
def jF(S:PA X es (tRefs ys))(Y:X.mg y=a_ (.ref D))(U: ~~~(Gl X y))(hd:((y==("__debug__":C_))=c_)⁻¹)(J: ~~~(j_ (.Name y p::es) X.env=(c_,Dh (.Name y p) X.env)::j_ es X.env)):PA X (.Name y p::es) (tRefs (D::ys)):=
 λps B2 s σ H Q I h=>aW (AR (v:=.ref D) U Y rfl hd) S J ps B2 s σ H Q I h
end
def DEat(K:Fg)(E:XK)(own:Bool)(X:Cx)(B2:Pn)(σ:St)(e:Em)(f:ae->M A'):Prop:=PEat X B2 σ e (tD K (WE K E) own f)
def DSat(K:Fg)(E:XK)(ro:Bool)(X:Cx)(OL O O':aC)(B2:Pn)(σ:St)(st:List Ei)(g:ae->M C1):Prop:=∀F0 H0,CC X B2 σ st (tS K (WE K E) ro F0 H0 OL O O' g)
def PEat.imp{t u:TE}(h:PEat X B2 σ e t)(k:∀H Q,u σ H Q->t σ H Q):PEat X B2 σ e u:=λs H Q I q=>h s H Q I (k H Q q)
def PSat.imp{st:Ei}{t u:TS}(h:PSat X B2 σ st t)(k:∀D H,u D σ H->t D σ H):PSat X B2 σ st u:=λs H D I q=>h s H D I (k D H q)
section
variable{fr:ae->M (List A')}{p:IM}{E:XK}
def xP(F:fU X.prog X.w X.K X.mg X.base CX k fad fd ps (spX K ro (b7 nN n g) n))(b:ku CX X B2 σ E)(c:fS k X.A)(d:X.mg x=a_ (.ref fad))(f:Gd X.K (.ref fad)=e_)(j:Binds X.K fd ps [])(l:DA K (WE K E) X (e::es) fr)(i: ~~~(Gl X x))(U:((x==("__debug__":C_))=c_)⁻¹)(J: ~~~(j_ (e::es) X.env=(c_,Dh e X.env)::j_ es X.env))(S: ~~~((Eg pos (j_ es X.env)).any (·.1)=c_)):
  DEat K E ro X B2 σ (.Call (.Name x p) (e::es) [] pos) (fL (b7 nN n g) fr):=by
 refine PEat.imp (at_call F b c d f j .nil l i U J S) λH Q h=>?_;obtain⟨F,ρ,r,s,p⟩:=rd_L h;refine⟨F,ρ,r,s,?_⟩
 cases e1:fr ρ with
 |error z=>rw[e1]at p;exact p|ok ds=>
  rw[e1]at p;intro vs F' H' st q;obtain⟨F1,I,a,q1,z⟩:=p vs F' H' st q;show spX K ro (b7 nN n g) n (vs++[]) H' Q E;rw[DB];by_cases Y:I.length=n
  .exact⟨F1,I,a,q1,Y,z⟩
  .rw[jS Y]at z;exact aF.stuck z
end
def gG(O:aC)(f:ae->M A'):ae->M C1:=λρ=>(f (erase O ρ)).bind λ_=>.ok (.nx ρ)
@[simp]def e_dropB(O:aC)(f:ae->M A')(ρ:ae):gG O f ρ=(f (erase O ρ)).bind λ_=>.ok (.nx ρ):=id rfl
section
variable{own:Bool}{E:XK}{f:ae->M A'}
def xG(h:DEat K E own X B2 σ e f)(J: ~~~(EV e f_ pos.line X.env=ER c_)):DSat K E ro X OL O O B2 σ [.Expr e pos] (gG O f):=λF0 H0=>at_one (PSat.imp (at_expr h J) λD H ⟨FB,F,ρ,r,p⟩=>by
 refine aL r.iT r.st.fh (λe S=>p.gL r.st (by unfold gG;rw[S];rfl)) λd hd v F1 H1 I q=>?_;have z:gG O f ρ=.ok (.nx ρ):=by unfold gG;rw[hd];rfl
 rw[z]at p;exact p σ F1 H1 (r.step I))
def dsa_if{c:Em}{a b:List Ei}{k:ae->M C1}(I:DT K (WE K E) X c ft)(S:DSat K E ro X OL O O' B2 σ a g)(J:DSat K E ro X OL O O' B2 σ b k):DSat K E ro X OL O O' B2 σ [.If c a b pos] (sIf ft g k):=λF0 H0=>at_one (PSat.imp (at_if I (S F0 H0) (J F0 H0)) λD H z=>rs_if z)
end
theorem Rep.back{K:Fg}{F0 H0 F1 H1 FB F H:Hp}{O:aC}{σ:St}{ρ:ae}(r:Rep K F1 H1 FB O F H σ ρ)(s:B4 F0 H0 F1 H1):Rep K F0 H0 FB O F H σ ρ:=
 ⟨s.trans r.st,r.fb,r.len,r.fz,λi d e h=>let ⟨v,z,q⟩:=r.ow i d e h;⟨v,z,q.back s.hh⟩,r.ap⟩
section
open PySem.W
end
section
variable{fr:ae->M (List A')}{p:IM}{W:cp}
def noM(g:List A'->M A'):List A'->M A':=λds=>noX (g ds)
@[simp]def e_noM(g:List A'->M A')(ds:List A'):noM g ds=noX (g ds):=id rfl
def passN:Passes (CXd X.prog X.w) X (λ_ _ _=>False):=by rintro B2 σ H1 J e s' I ⟨a,T,C,dx,H',rfl,z⟩;exact z.want.elim
def xS(F:fU X.prog X.w X.K X.mg X.base (CXd X.prog X.w) k fad fd ps (spX K ro (b7 nN n g) n))(c:fS k X.A)(f:X.mg x=a_ (.ref fad))(i:Gd X.K (.ref fad)=e_)(l:Binds X.K fd ps [])(m:DA K W X (e::es) fr)(j: ~~~(Gl X x))(Y:((x==("__debug__":C_))=c_)⁻¹)(S: ~~~(j_ (e::es) X.env=(c_,Dh e X.env)::j_ es X.env))(U: ~~~((Eg pos (j_ es X.env)).any (·.1)=c_)):
  DE K W ro X (.Call (.Name x p) (e::es) [] pos) (fL (noM (b7 nN n g)) fr):=by
 refine PE.imp (mW F c j f i l .nil passN m Y S U) λσ H Q h=>?_;obtain⟨F,ρ,r,s,p⟩:=rd_L h;refine⟨F,ρ,r,s,?_⟩
 cases e1:fr ρ with
 |error z=>rw[e1]at p;exact p|ok ds=>
  rw[e1]at p;intro vs F' H' st q;obtain⟨F1,I,b,q1,z⟩:=p vs F' H' st q;show spX K ro (b7 nN n g) n (vs++[]) H' Q (λ_ _ _=>False);rw[DB];have z:aF K W ro F1 H' (noX (b7 nN n g I)) Q:=z;by_cases a:I.length=n
  .refine⟨F1,I,b,q1,a,?_⟩
   cases J:b7 nN n g I with
   |ok d=>rw[J]at z;exact z|error x=>rw[J]at z;exact(W.ns z).elim
  .rw[jS a]at z;exact(W.ns z).elim
end
def rIsi(K:Fg)(C a:i_)(R:Hp->Prop):aB->Hp->VK->Prop:=λxs H Q=>R H/\∃v b,xs=[.ref a,v] /\
  ((∃c,C' v c/\(∀u,C' v u->u=c)/\Ed K (.ref C) c=a_ b)\/∃(I:i_) (ys:List i_),v=.ref I/\H I=a_ (.tup (ys.map V.ref))/\Nu K (.ref C) (ys.map x_)=a_ b)/\Q (.bl b) H
def XDk(d:i_):Hp->Prop:=λH=>∃gs,H d=a_ (.xd gs)
noncomputable def yz(i:Nat)(a:i_)(R:Hp->Prop)(b:Bool):TE:=λσ H Q=>σ[i]?=a_ (a_ (.ref a))/\R H/\Q (.bl b) H
def Aq(i:Nat)(a:i_)(R:Hp->Prop)(ys:List i_)(b:Bool):TE:=λσ H Q=>σ[i]?=a_ (a_ (.ref a))/\∀p,H p=f_->R (upd H p (.tup (ys.map V.ref)))/\Q (.bl b) (upd H p (.tup (ys.map V.ref)))
section
variable{d:i_}
def c_isiD(FB:Il B bmB)(Z:XIsi X.K C)(K:oe.cls=.ref C)(hd:∃vs,oe.data=.fields vs)(D:oe.dict=a_ d):cH (X.hand a oe) (.builtin "isinstance") (rIsi X.K C a (XDk d)):=by
 intro B2 s σ H xs us Q I r h;obtain⟨⟨gs,G⟩,v,b,rfl,h1,q⟩:=h;obtain⟨u,w,rfl,x,U⟩:=r.two;cases(show u=x_ a from x);have pa:=(I.pin (a,oe) (CW ..)).1;obtain⟨vs,i⟩:=hd;obtain⟨mA,⟨od,es,ep,F,g⟩,_⟩:=(show dW X.prog X.w H s.heap d (.xd gs)from I.hok d _ G)
 have J:GU s.heap a oe C (a_ od):=⟨pa,K,by unfold Mj;rw[i],by rw[D];exact F⟩
 rcases h1 with⟨c,N,S,e⟩|⟨Y,ys,rfl,E,e⟩
 .cases S w U;exact JG (mx FB Z) I.kIn J e (λz=>nomatch z) λtk=>⟨.bl b,H,I.tok tk,rfl,q⟩
 .cases(show w=x_ Y from U);obtain⟨_,its,t,A,p,o⟩:=(show dW X.prog X.w H s.heap Y (.tup (ys.map V.ref))from I.hok Y _ E)
  obtain⟨m,n,l⟩:=o;have L:its=ys.map x_:=qK t;subst L;obtain⟨oc,y,f,osl⟩:=A;have k:oc=EB "tuple":=m;have j:f=.seq (ys.map x_).toArray n:=l;subst k j;exact L3 (mx FB Z) I.kIn J p e (λz=>nomatch z) λtk=>⟨.bl b,H,I.tok tk,rfl,q⟩
end
section
variable{D:i_}{R:Hp->Prop}{n y:C_}{p:IM}{b:Bool}
def pe_isO(f:cH (X.hand a oe) (.builtin "isinstance") (rIsi X.K C a R))(k:X.mg "isinstance"=f_)(t:X.mg y=a_ (.ref D))(m:Ed X.K (.ref C) (.ref D)=a_ b)(r: ~~~(X.N[i]?=a_ n))(hv:autoParam (Vis X.env.scope n) Jq4)(e:((n==("__debug__":C_))=c_)⁻¹)(d:((n==("__classdict__":C_))=c_)⁻¹)(l: ~~~(Gl (X.hand a oe) "isinstance"))(Y: ~~~(Gl (X.hand a oe) y))(c:((y==("__debug__":C_))=c_)⁻¹)(S: ~~~(j_ [.Name n p1,.Name y p2] X.env=[(c_,Dh (.Name n p1) X.env),(c_,Dh (.Name y p2) X.env)]))(J: ~~~(j_ [.Name y p2] X.env=[(c_,Dh (.Name y p2) X.env)]))(U: ~~~((Eg pos (j_ [.Name y p2] X.env)).any (·.1)=c_)):
  PE (X.hand a oe) (.Call (.Name "isinstance" p) [.Name n p1,.Name y p2] [] pos) (yz i a R b):=by
 have g:PE (X.hand a oe) (.Name y p2) (tC (.ref D)):=λB2 s σ H Q I h=>iE I Y t ⟨.ref D,H,I,rfl,h⟩ c;refine PE.imp (fZ (X:=X.hand a oe) f l k Jc (aW (pv i r hv e d) (aW g cK J) (by rw[S,J])) ag ag (by rw[S,J]) U) λσ H Q h=>?_;obtain⟨e1,o,q⟩:=h;exact⟨.ref a,e1,o,.ref D,b,rfl,.inl ⟨.ref D,rfl,λu j=>j,m⟩,q⟩
def pe_isB(g:cH (X.hand a oe) (.builtin "isinstance") (rIsi X.K C a R))(l:X.mg "isinstance"=f_)(Y:X.mg y=f_)(S:E6 y=a_ (.type T))(o:Ed X.K (.ref C) (.type T)=a_ b)(s: ~~~(X.N[i]?=a_ n))(hv:autoParam (Vis X.env.scope n) Jq4)(f:((n==("__debug__":C_))=c_)⁻¹)(e:((n==("__classdict__":C_))=c_)⁻¹)(m: ~~~(Gl (X.hand a oe) "isinstance"))(c: ~~~(Gl (X.hand a oe) y))(j:(y≠"__name__")⁻¹)(d:((y==("__debug__":C_))=c_)⁻¹)(J: ~~~(j_ [.Name n p1,.Name y p2] X.env=[(c_,Dh (.Name n p1) X.env),(c_,Dh (.Name y p2) X.env)]))(I: ~~~(j_ [.Name y p2] X.env=[(c_,Dh (.Name y p2) X.env)]))(U: ~~~((Eg pos (j_ [.Name y p2] X.env)).any (·.1)=c_)):
  PE (X.hand a oe) (.Call (.Name "isinstance" p) [.Name n p1,.Name y p2] [] pos) (yz i a R b):=by
 refine PE.imp (fZ (X:=X.hand a oe) g m l Jc (aW (pv i s hv f e) (aW (pe_tyN (X:=X.hand a oe) (pos:=p2) c Y S j d) cK I) (by rw[J,I])) ag ag (by rw[J,I]) U) λσ H Q h=>?_;obtain⟨e1,r,q⟩:=h;exact⟨.ref a,e1,r,.ty T,b,rfl,.inl ⟨.type T,rfl,λu k=>k,o⟩,q⟩
def pe_isT{j}(e:cH (X.hand a oe) (.builtin "isinstance") (rIsi X.K C a R))(f:X.mg "isinstance"=f_)(m:PA (X.hand a oe) es (tRefs ys))(g:ys.length<=o_)(l:Nu X.K (.ref C) (ys.map x_)=a_ b)(o: ~~~(X.N[i]?=a_ n))(hv:autoParam (Vis X.env.scope n) Jq4)(d:((n==("__debug__":C_))=c_)⁻¹)(c:((n==("__classdict__":C_))=c_)⁻¹)(k: ~~~(Gl (X.hand a oe) "isinstance"))(S: ~~~(j_ [.Name n p1,.Tuple es j p2] X.env=[(c_,Dh (.Name n p1) X.env),(c_,Dh (.Tuple es j p2) X.env)]))(I: ~~~(j_ [.Tuple es j p2] X.env=[(c_,Dh (.Tuple es j p2) X.env)]))(Y: ~~~((Eg pos (j_ [.Tuple es j p2] X.env)).any (·.1)=c_)):
  PE (X.hand a oe) (.Call (.Name "isinstance" p) [.Name n p1,.Tuple es j p2] [] pos) (Aq i a R ys b):=by
 refine PE.imp (fZ (X:=X.hand a oe) e k f Jc (aW (pv i o hv d c) (aW (pe_tup m) cK I) (by rw[S,I])) ag ag (by rw[S,I]) Y) λσ H Q h=>?_;obtain⟨e1,q⟩:=h;exact⟨.ref a,e1,by rw[q_];exact g,λU J=>⟨(q U J).1,.ref U,b,rfl,.inr ⟨U,ys,rfl,aq,l⟩,(q U J).2⟩⟩
end
def Rep.toldG{ds:List A'}{vs:aB}(r:Rep K F0 H0 FB O F H σ ρ)(k:i≠j)(hi:i<σ.length)(d:j<σ.length)(U:i∉O)(S:j∉O)(st:B4 F H (upd F l (.lst vs)) H')(h:F l=f_)(p:ay K F ds vs):
  Rep K F0 H0 FB O (upd F l (.lst vs)) H' (((σ.set i (a_ (.ref a))).set j (a_ (.ref l))).set i f_) ((ρ.set j (a_ (.lst ds))).set i f_):=by
 have o:aK F (upd F l (.lst vs)):=aK.upd h;have r2:=r.step st;have out:∀m,m≠i->m≠j->(((σ.set i (a_ (.ref a))).set j (a_ (.ref l))).set i f_)[m]?=σ[m]?:=λm h1 h2=>by rw[v_ (D6 h1),v_ (D6 h2),v_ (D6 h1)]
 have I:∀m,m≠i->m≠j->((ρ.set j (a_ (.lst ds))).set i f_)[m]?=ρ[m]?:=λm h1 h2=>by rw[v_ (D6 h1),v_ (D6 h2)]
 have Y:∀dd,((ρ.set j (a_ (.lst ds))).set i f_)[i]?≠a_ (a_ dd):=λdd e=>by rw[CK (by rw[Dn,r.len];exact hi)]at e;cases e
 refine⟨r2.st,r2.fb,by simp only[Dn];exact r.len,λm dd e J=>?_,λm dd e J=>?_,λm n s q c J b e1 e2 e3 e4=>?_⟩
 .by_cases h1:m=i
  .subst h1;exact(Y _ e).elim
  .by_cases h2:m=j
   .subst h2;rw[v_ (D6 h1),CK (by rw[r.len];exact d)]at e;cases e;refine⟨.ref l,by rw[v_ (D6 h1),CK (by rw[Dn];exact d)],l,vs,rfl,SqL.of aq,ay.mono o p⟩
   .rw[I m h1 h2]at e;rw[out m h1 h2];exact r2.fz m dd e J
 .have h1:m≠i:=λz=>U (z▸J);have h2:m≠j:=λz=>S (z▸J);rw[I m h1 h2]at e;rw[out m h1 h2];exact r2.ow m dd e J
 .have h1:m≠i:=λz=>U (z▸J);have h2:m≠j:=λz=>S (z▸J);have g:n≠i:=λz=>U (z▸b);have f:n≠j:=λz=>S (z▸b);rw[I m h1 h2]at e1;rw[I n g f]at e2;rw[out m h1 h2]at e3;rw[out n g f]at e4;exact r2.ap m n s q c J b e1 e2 e3 e4
def step_app{p:i_}{xs:aB}{S:HO}(Y:aK F H)(J:H l=f_)(a:H p=f_)(b:p≠l):B4 F H (upd F l (.lst (xs++[y]))) (upd (upd (upd H l (.lst xs)) p S) l (.lst (xs++[y]))):=by
 have U:aK H (upd (upd (upd H l (.lst xs)) p S) l (.lst (xs++[y]))):=λc o e=>by rw[aw (aA e J),aw (aA e a),aw (aA e J)];exact e
 refine⟨aK.upd (Y.free J),U,λc o e=>?_,λc o e=>?_⟩
 .by_cases I:c=l
  .subst I;rw[aq]at e ⊢;exact e
  .rw[aw I]at e;exact U c o (Y c o e)
 .by_cases I:c=l
  .subst I;exact .inr J
  .rw[aw I]at e;exact .inl e
structure Yd(P:D0)(w:Ew)(K:Fg)(mg:Mq)(base:Du)(CX:CXT)(k:Nat)(x:C_)(st:Ei)(ps:List C_)(sp:Sp)(f:i_)(fd:Fh):Prop where
 d:Def K mg x st ps f fd
 o:fU P w K mg base CX k f fd ps sp
section
open PySem.W
variable{M:Kl}{g:Array MX}{d:Drawn}{t:Nat}{K:N0}
def Aa{Q:Bool->k_->Prop}(U:K.In h)(m:h.get? a=a_ oe)(n:oe.cls=.ref C)(J:KI K (.ref Cb)=a_ (.type "type"))(I:E5 K Cb (.type "BaseException")=a_ e_)(p:E5 K C (.ref Cb)=a_ e_)(l:Q e_ ⟨h,g,d,t,os⟩):
  w_ M A (excMatches (.ref a) (.ref Cb)) Q E ⟨h,g,d,t,os⟩:=by
 have f:=tc_notTuple;have k:=MV (M:=M) U I;have j:=MV (M:=M) U p;have i:=looks_typeIn (M:=M) U J;obtain⟨S,c,b⟩:∃S,h.get? Cb=a_ S/\S.cls=.type "type":=by
  unfold KI at J;cases q:K.lookup Cb with
  |none=>simp only[q]at J;cases J|some o=>simp only[q]at J;exact⟨o,U _ _ q,by simpa using J⟩
 have r:∃cd,S.data=.cls cd:=by
  unfold E5 Mn at I;cases q:K.lookup Cb with
  |none=>simp only[q]at I;cases I|some o=>
   have:=U _ _ q;rw[c]at this;cases this;simp only[q]at I;split at I
   .next z=>cases z;exact⟨_,rfl⟩
   .cases I
 obtain⟨cd,Y⟩:=r;obtain⟨oc,od,e,osl⟩:=S;dsimp only at b Y;subst b Y;unfold excMatches
 repeat (first|(with_reducible refine NA m ?_;rw[n])|with_reducible refine NA c ?_|with_reducible refine k.at ?_|with_reducible refine j.at ?_|with_reducible refine i.at ?_|wp_step)
 exact l
end
structure uF(K:Fg)(C Cb:i_):Prop where
 sub:E5 K C (.ref Cb)=a_ e_
 isi:XIsi K C
structure XBase(K:Fg)(mg:Mq)(x:C_)(Cb:i_):Prop where
 mg:mg x=a_ (.ref Cb)
 ty:KI K (.ref Cb)=a_ (.type "type")
 bs:E5 K Cb (.type "BaseException")=a_ e_
section
variable{s:k_}{T:i_}{c n:C_}{ts:TS}
def zV(I:B6 X B2 σ H s)(x:ExA s.heap a (.ref C) dx (a_ T))(j:Apart X B2 H s a (a_ T))(m:X.ex=[])(K:uF X.K C Cb)(y:XBase X.K X.mg c Cb)(G:Gl X c)(h:X.N.Nodup)(hi:X.N[i]?=a_ n)(e:X.env.scope.names.lookup n=a_ .local)(F:∀oe:IB,oe.cls=.ref C->oe.dict=dx->(∃vs,oe.data=.fields vs)->PSs (X.hand a oe) (b₀::suite) ts)(q:ts (D.less i) (σ.set i (a_ (.ref a))) H)(w:((c==("__debug__":C_))=c_)⁻¹):
  w_ (B_ X.prog X.w) X.A (handleBy (.ref a) X.env [.ExceptHandler (a_ (.Name c np)) (a_ n) (b₀::suite) pos]) (SP X B2 D) X.xe s:=by
 obtain⟨oe,vs,p,g,t,U,h1⟩:=x.ob;have J:=I.hand p U j.na j.fa;refine wpAny_handleBy_cons (codeAny_handlers_test (iE (X:=X.hand a oe) J G y.mg ?_ w)) (by intro z;cases z);have L:=I.env0;have E:=I.kIn;obtain⟨W,Z,d,tk,os⟩:=s;refine Aa E p g y.ty y.bs K.sub (codeAny_handlers_suite_as ?_);refine BC (base:=X.base) (l:=X.stack) L.tZ x λh' Q B ea=>?_;have P:=I.left m x j B;have o:h'.get? a=a_ oe:=by rw[ea];exact p
 have O:=P.hand o U j.na j.fa;refine m8 (X:=X.hand a oe) O h hi (.inl e) (v:=.ref a) rfl (λA N=>?_) (.inr e);refine DX (F oe g t ⟨vs,U⟩ B2 A _ H (D.less i) N q) (λf R z=>?_) λ_ _ z=>z.elim;cases f with
 |next=>obtain⟨σ',H',Y,S⟩:=z;exact rq (Y.we I.ok) h hi e λk b=>⟨_,H',b,S⟩
 |brk=>obtain⟨σ',H',Y,S⟩:=z;exact rq (Y.we I.ok) h hi e λk b=>⟨_,H',b,S⟩
 |cont=>obtain⟨σ',H',Y,S⟩:=z;exact rq (Y.we I.ok) h hi e λk b=>⟨_,H',b,S⟩
 |ret u=>obtain⟨v,σ',H',Y,r,S⟩:=z;exact rq (Y.we I.ok) h hi e λk b=>⟨v,_,H',b,r,S⟩
end
def EHB(K:Fg)(i:Nat)(Cb:i_)(ts:i_->i_->Option i_->TS)(D:Ends)(σ:St):XK:=λI dx H'=>∃C,I=.ref C/\uF K C Cb/\∀a,H' a=f_->ts a C dx (D.less i) (σ.set i (a_ (.ref a))) H'
section
variable{c n:C_}{ts:i_->i_->Option i_->TS}{tb:XK->TS}
theorem ps_tryB(R:∀(B2:Pn) (σ:St) (E:XK) (y:Vp),ku (CXd X.prog X.w) (X.uK y) B2 σ E->CC (X.uK y) B2 σ body (tb E))(O:∀(a C:i_) (oe:IB),oe.cls=.ref C->XIsi X.K C->(∃vs,oe.data=.fields vs)->PSs (X.hand a oe) (b₀::suite) (ts a C oe.dict))(Z:XBase X.K X.mg c Cb)(W:X.N.Nodup)(hi: ~~~(X.N[i]?=a_ n))(P: ~~~(X.env.scope.names.lookup n=a_ .local))(Q: ~~~(Gl X c))(S: ~~~(X.ex=[]))(U: ~~~(X.stack=X.env::X.outer))(r: ~~~(X.env.frame=a_ X.env.locals))(t:((c==("__debug__":C_))=c_)⁻¹):
  PS X (.Try body [.ExceptHandler (a_ (.Name c np)) (a_ n) (b₀::suite) hpos] [] [] pos) (λD σ H=>tb (EHB X.K i Cb ts D σ) D σ H):=by
 intro B2 s σ H D I h;refine wpAny_Try_except (E' (R B2 σ (EHB X.K i Cb ts D σ) (λe g=>w_ (B_ X.prog X.w) X.A (LS e X.env) (λ_ d=>w_ (B_ X.prog X.w) X.A (JD e f_) (λ_ Y=>w_ (B_ X.prog X.w) X.A (handleBy e X.env [.ExceptHandler (a_ (.Name c np)) (a_ n) (b₀::suite) hpos]) (SP X B2 D) X.xe Y) X.xe d) X.xe g) ?_ s H D (I.uK _) h) λf A z=>?_)
 .rintro H1 A e s' x ⟨a,T,Cv,dx,H',rfl,z⟩;have m:=x.ip;obtain⟨C,rfl,F,q⟩:=z.want;have J:B6 X B2 σ H' s':=m.call' z.os z.un z.hok z.bare (λ_ h=>nomatch h);have j:∀b,A.heap.get? b=f_->∀p∈X.pn++B2,p.1≠b:=λb e p o w=>by
   have:=(m.pin p o).1;rw[w,e]at this;cases this
  have l:Apart X B2 H' s' a (a_ T):=⟨m.jN S z.na,z.fa,j a z.na,λT' k=>by cases k;exact⟨m.jN S z.nT,z.fT,j T z.nT⟩⟩
  have L:=J.env0;have K:=L.frames;have G:=L.tZ;rw[U]at K G;refine leave2 (base:=X.base) K G r z.ex λh' T2 N k B=>?_;rw[<- U]at B;have I2:=J.left S z.ex l B;have v:Apart X B2 H' {s' with heap:=h'} a (a_ T2):=⟨l.na,l.fa,l.pa,λT' u=>by
   cases u;refine⟨get_none (DJ J.sz k),J.hok.fresh k,λp o w=>?_⟩
   have:=t_ (J.pin p o).1;rw[w]at this;exact CQ this (Mw.mpr k)⟩
  exact zV I2 N v S F Z Q W hi P (λoe h1 h2 h3=>by rw[<- h2];exact O a C oe h1 F.isi h3) (q a z.fa) t
 .have z:=SP.ip z;cases f with
  |next=>exact Hw z|_=>exact z
end
def XR:Option i_->Hp->Prop
 |none=>λ_=>True|some d=>XDk d
def c_isiA(FB:Il B bmB)(Z:XIsi X.K C)(S:oe.cls=.ref C)(hd:∃vs,oe.data=.fields vs):cH (X.hand a oe) (.builtin "isinstance") (rIsi X.K C a (XR oe.dict)):=by
 cases J:oe.dict with
 |none=>exact λB2 s σ H xs us Q I r h=>c_isiX FB Z S hd J B2 s σ H xs us Q I r h.2|some d=>exact c_isiD FB Z S hd J
def qI(i j:Nat)(tb:List (i_×List Bool))(fb:ae->M C1):ae->M C1:=λρ=>match fb ρ with
 |.ok fl=>.ok fl|.error (.exc C _)=>match tb.lookup C with
  |some bs=>.ok (.nx ((ρ.set j (a_ (.lst (bs.map A'.bl)))).set i f_))|none=>.error .stuck
 |.error _=>.error .stuck
def BJ{fb:ae->M C1}{fl:C1}(h:fb ρ=.ok fl):qI i j tb fb ρ=.ok fl:=by unfold qI;rw[h]
def qc{fb:ae->M C1}{fs:List (C_×A')}{bs:List Bool}(h:fb ρ=.error (.exc C fs))(I:tb.lookup C=a_ bs):qI i j tb fb ρ=.ok (.nx ((ρ.set j (a_ (.lst (bs.map A'.bl)))).set i f_)):=by unfold qI;rw[h];simp only[I]
structure XTxt(K:Fg)(mg:Mq)(x:C_)(C:i_):Prop where
 mg:mg x=a_ (.ref C)
 ex:GS K C [.type "ValueError",.type "Exception",.type "BaseException",.type "object"] "ValueError.__new__"=e_
section
open PySem.W
end
section
open PySem.SetTable
end
section
open PySem
end
section
open PySem.W
end
structure Abt(p:i_)(F H F' H':Hp):Prop where
 ff:aK F F'
 fh:aK F' H'
 fp:F' p=f_
 nw:∀b o,F' b=a_ o->F b=a_ o\/H b=f_
 hh:∀c o,H c=a_ o->c≠p->H' c=a_ o
noncomputable abbrev Ap(P:D0)(w:Ew):Km P w am:=tupleKind (K_ P w)
theorem sF{P:D0}{w:Ew}:∀{k:am} {us:aM},D' (k.map V.int) us->ItemsAre (K_ P w) k us
 |[],_,.nil=>.nil|i::k,_,.cons r t=>by
  obtain⟨t',rfl⟩:=(show ∃t,_=IL i t from r)
  exact .cons (by simp[K_,NM]) (sF t)
def oX.at{xs:List j8}(z:oX h a xs ep)(e:∀o,h.get? a=a_ o->h'.get? a=a_ o):oX h' a xs ep:=
 let ⟨vs,r,hd,J,I,o,es,h1,h2⟩:=z;⟨vs,r,hd,J,I,o,es,e o h1,h2⟩
def vG{xs:List j8}(z:oX h a xs ep):dW P w H h a (lY a xs ep):=
 ⟨z,let ⟨_,_,_,_,_,o,_,e,_⟩:=z;⟨o,e⟩,λ_ _ z e=>z.at e⟩
def kx(K:Fg)(H:Hp)(xs:List j8):Prop:=∀x∈xs,SqT K H x.2.1 (x.1.map V.int)
def kx.mono{xs:List j8}(z:kx K H xs)(s:aK H H'):kx K H' xs:=λx I=>s.tup (z x I)
theorem bP.key{K:Fg}{F:Hp}:∀{ks:List (am×A')} {xs:List j8},bP K F ks xs->kx K F xs
 |[],_,h,x,I=>by rw[show _=[]from h]at I;cases I|(k,d)::ks,_,⟨b,v,r,e,t,q,z⟩,x,I=>by
  subst e;rcases r_.mp I with rfl|I
  .exact t
  .exact bP.key z x I
theorem bP.length{K:Fg}{F:Hp}:∀{ks:List (am×A')} {xs:List j8},bP K F ks xs->xs.length=ks.length
 |[],_,h=>by rw[show _=[]from h];rfl|(k,d)::ks,_,⟨b,v,r,e,t,q,z⟩=>by rw[e,CG,CG,bP.length z]
noncomputable def jm(ks:List (am×A'))(k:am):Option A':=(ks.find? λp=>CL (p.1=k)).map (·.2)
def sj(xs:List j8)(k:am):Option V:=(xs.find? λp=>CL (p.1=k)).map (·.2.2)
def ig(ks:List (am×A'))(k:am)(d:A'):List (am×A'):=if (jm ks k).isSome=e_ then ks.map (λp=>if p.1=k then(p.1,d)else p)else ks++[(k,d)]
def putR(xs:List j8)(k:am)(b:i_)(v:V):List j8:=if (sj xs k).isSome=e_ then xs.map (λx=>if x.1=k then(x.1,x.2.1,v)else x)else xs++[(k,b,v)]
theorem nh(xs:List j8)(k:am)(b:i_)(v:V):(putR xs k b v).length<=xs.length+1:=by
 unfold putR;split
 .rw[q_];lia
 .rw[CM];exact m_ _
theorem jT{k:am}:∀{xs:List j8} {vs:List (am×i_×g_)},Gw ic xs vs->vU (sj xs k) ((LY vs k).map (·.2))
 |_,_,.nil=>Gz|x::xs,q::vs,.cons h t=>by
  obtain⟨h1,h2,J⟩:=h;by_cases e:x.1=k
  .have I:q.1=k:=h1.symm.trans e;simp only[sj,LY,EF,e,I,decide_true,G2];exact J
  .have I:¬q.1=k:=λz=>e (h1.trans z);have:=jT (k:=k) t;simpa only[sj,LY,EF,e,I,IF] using this
theorem bP.at{K:Fg}{F:Hp}{k:am}:∀{ks:List (am×A')} {xs:List j8},bP K F ks xs->(jm ks k=f_/\sj xs k=f_)\/∃d v,jm ks k=a_ d/\sj xs k=a_ v/\aR K F d v
 |[],_,h=>by rw[show _=[]from h];exact .inl ⟨rfl,rfl⟩|(k',d)::ks,_,⟨b,v,r,e,t,q,z⟩=>by
  subst e;by_cases e:k'=k
  .exact .inr ⟨d,v,by simp[jm,e],by simp[sj,e],q⟩
  .have:=bP.at (k:=k) z;simpa only[jm,sj,EF,e,IF] using this
theorem bP.isSome{K:Fg}{F:Hp}{k:am}{ks:List (am×A')}{xs:List j8}(z:bP K F ks xs):(sj xs k).isSome=(jm ks k).isSome:=by rcases z.at (k:=k)with⟨e1,e2⟩|⟨d,v,e1,e2,_⟩<;>rw[e1,e2]<;>rfl
theorem bP.repl{K:Fg}{F:Hp}{k:am}{d:A'}{v:V}(q:aR K F d v):∀{ks:List (am×A')} {xs:List j8},bP K F ks xs->bP K F (ks.map λp=>if p.1=k then(p.1,d)else p) (xs.map λx=>if x.1=k then(x.1,x.2.1,v)else x)
 |[],_,h=>by rw[show _=[]from h];rfl|(k',d')::ks,_,⟨b,I,r,e,t,J,z⟩=>by
  subst e;rw[u_,u_];by_cases e:k'=k
  .rw[n_ e,n_ e];exact⟨b,v,_,rfl,t,q,bP.repl q z⟩
  .rw[l_ e,l_ e];exact⟨b,I,_,rfl,t,J,bP.repl q z⟩
theorem bP.snoc{K:Fg}{F:Hp}{k:am}{b:i_}{d:A'}{v:V}(t:SqT K F b (k.map V.int))(q:aR K F d v):∀{ks:List (am×A')} {xs:List j8},bP K F ks xs->bP K F (ks++[(k,d)]) (xs++[(k,b,v)])
 |[],_,h=>by rw[show _=[]from h];exact⟨b,v,[],rfl,t,q,rfl⟩|(k',d')::ks,_,⟨b',I,r,e,t',J,z⟩=>by subst e;exact⟨b',I,_,rfl,t',J,bP.snoc t q z⟩
def bP.put{k:am}{xs:List j8}(z:bP K F ks xs)(t:SqT K F b (k.map V.int))(q:aR K F d v):bP K F (ig ks k d) (putR xs k b v):=by
 unfold ig putR;rw[z.isSome];by_cases h:(jm ks k).isSome=e_
 .rw[n_ h,n_ h];exact z.repl q
 .rw[l_ h,l_ h];exact z.snoc t q
theorem sS{k:am}{v:V}{u:g_}(I:C' v u):∀{xs:List j8} {vs:List (am×i_×g_)},Gw ic xs vs->Gw ic (xs.map λx=>if x.1=k then(x.1,x.2.1,v)else x) (vs.map (putAt k u))
 |_,_,.nil=>.nil|x::xs,q::vs,.cons h t=>by
  rw[u_,u_];refine .cons ?_ (sS I t);obtain⟨h1,h2,J⟩:=h;unfold putAt;by_cases e:x.1=k
  .rw[n_ e,n_ (h1.symm.trans e)];exact⟨h1,h2,I⟩
  .rw[l_ e,l_ (λz=>e (h1.trans z))];exact⟨h1,h2,J⟩
def mf{k:am}(I:C' v u){xs:List j8}{vs:List (am×i_×g_)}(r:Gw ic xs vs):Gw ic (putR xs k b v) (JC vs k b u):=by
 have e:(sj xs k).isSome=(LY vs k).isSome:=by rw[(jT r).tV,Jp]
 unfold putR JC;rw[e];by_cases h:(LY vs k).isSome=e_
 .rw[n_ h,n_ h];exact sS I r
 .rw[l_ h,l_ h];exact Paired.snoc r ⟨rfl,rfl,I⟩
theorem wB:∀{xs:List j8} {vs:List (am×i_×g_)},Gw ic xs vs->∀q∈vs,∃x∈xs,x.1=q.1/\x.2.1=q.2.1
 |_,_,.nil,_,h=>nomatch h
 |x::xs,q::vs,.cons h t,y,I=>by
  rcases r_.mp I with rfl|I
  .exact⟨x,ad,h.1,h.2.1⟩
  .obtain⟨J,h1,h2⟩:=wB t y I;exact⟨J,by simp[h1],h2⟩
section
variable{s:k_}{xs:List j8}{k:List Int}
def kE(I:B6 X B2 σ H s)(h:SqT X.K H b (k.map V.int)):(Ap X.prog X.w).is s.heap k b:=by obtain⟨its,r,⟨o,h1,h2,n,J⟩,_⟩:=I.tuple h;exact⟨o,its.toArray,n,h1,h2,J,by simpa using sF r⟩
def BU(I:B6 X B2 σ H s)(e:H a=a_ (lY a xs ep)):oX s.heap a xs ep:=(show oX s.heap a xs ep/\_ from I.hok a _ e).1
def uh(I:B6 X B2 σ H s)(e:H a=a_ (lY a xs ep))(z:kx X.K H xs):∃vs,Gw ic xs vs/\(a==Ex)=c_/\xs.length<=o_/\s.heap.DictOfH (Ap X.prog X.w) a vs:=by
 obtain⟨vs,r,hd,Y,U,o,es,h1,h2,c,b⟩:=BU I e;refine⟨vs,r,hd,Y,o,es,ep,h1,h2,c,b,λq S=>?_,U⟩
 obtain⟨x,J,e1,e2⟩:=wB r q S;rw[<- e1,<- e2];exact kE I (z x J)
def dic_ty(I:B6 X B2 σ H s)(e:H a=a_ (lY a xs ep)):s.TypeIs (.ref a) "dict"/\(∀b,x_ a=.ref b->∃J,s.heap.get? b=a_ J/\J.dict=f_):=by obtain⟨_,_,_,_,_,o,_,h1,h2,_⟩:=BU I e;exact⟨⟨o,h1,h2.1⟩,λc q=>by cases q;exact⟨o,h1,h2.2.1⟩⟩
def xO{vs:List (am×i_×g_)}(dd:h.DictOfH (Ap P w) a vs)(r:Gw ic xs vs)(hd:(a==Ex)=c_)(I:xs.length<=o_):∃ep,oX h a xs ep:=by obtain⟨o,es,ep,h1,h2,U,S,_,J⟩:=dd;exact⟨ep,vs,r,hd,I,J,o,es,h1,h2,U,S⟩
end
def sPut(K:Fg)(td ty tv:TE):TS:=λD σ H=>tv σ H λv H1=>td σ H1 λx H2=>ty σ H2 λy I=>∃a b k xs ep,x=.ref a/\y=.ref b/\I a=a_ (lY a xs ep)/\kx K I xs/\SqT K I b (k.map V.int)/\xs.length<o_/\∀ep',D.nx σ (upd I a (lY a (putR xs k b v) ep'))
def tGet2(K:Fg)(td ty tx:TE):TE:=λσ H Q=>td σ H λx H1=>∃a xs ep,x=.ref a/\H1 a=a_ (lY a xs ep)/\ty σ H1 λy H2=>tx σ H2 λz I=>∃b k,y=.ref b/\I a=a_ (lY a xs ep)/\kx K I xs/\SqT K I b (k.map V.int)/\Q ((sj xs k).getD z) I
def rInK(K:Fg)(neg:Bool):R2:=λy x H Q=>∃a b k xs ep,x=.ref a/\y=.ref b/\H a=a_ (lY a xs ep)/\kx K H xs/\SqT K H b (k.map V.int)/\Q (.bl (if neg=e_ then !(sj xs k).isSome else(sj xs k).isSome)) H
def tNewK:TE:=λ_ H Q=>∀p,H p=f_->Q (.ref p) (upd H p (lY p [] 0))
section
variable{o i f:Em}{ty tx:TE}
def ug(h:Du)(I:Ex<h.objs.size):oX (h.push {cls:=.type "dict",data:=.dict #[]}) h.objs.size [] 0:=
 ⟨[],.nil,Fw.mpr (D6 (De I)),DU _,Kz,_,#[],s_ _ rfl,⟨rfl,rfl,rfl⟩,rfl,rfl⟩
def pe_newK:PE X (.Dict [] [] pos) tNewK:=λB2 s σ H Q I h=>NV ⟨.ref s.heap.objs.size,_,I.laid (a:=s.heap.objs.size) (o:=lY s.heap.objs.size [] 0) (t':=s.toks) (λ_ _ q=>d_ _ q) (m_ _) (vG (ug s.heap I.big)),rfl,h _ (I.hok.fresh (m_ _))⟩
def B6.dic{s:k_}{xs ys:List j8}{t':Nat}(I:B6 X B2 σ H s)(e:H a=a_ (lY a xs ep))(J:FP a s.heap h')(z:oX h' a ys ep'):B6 X B2 σ (upd H a (lY a ys ep')) {s with heap:=h',toks:=t'}:=
 I.write (x:=a) (e:=a) (by rw[e];exact Gz) (.inl rfl) (λc q S w=>(J.2 c S).trans w) (let ⟨_,_,_,_,_,o,_,w,_⟩:=z;⟨o,w⟩) (vG z)
theorem ps_put(q:X.A.units+1<DV)(A:PE X o td)(hi:PE X i ty)(hv:PE X value tv)(w:EV value (a_ (.Subscript o i pos')) pos.line X.env=ER c_):PS X (.Assign [.Subscript o i pos'] value pos) (sPut X.K td ty tv):=by
 intro B2 s σ H D I h;refine Mf (E' (hv B2 s σ H _ I h) λr f J=>?_) w;obtain⟨v,H1,F,l,q1⟩:=J;refine E' (A B2 f σ H1 _ F q1) λu e J=>?_;obtain⟨x,H2,E,j,q2⟩:=J;refine E' (hi B2 e σ H2 _ E q2) λn G J=>?_;obtain⟨y,L,c,g,a,b,k,xs,ep,ex,C,ea,B,t,K,m⟩:=J;subst ex C;cases(show u=x_ a from j);cases(show n=x_ b from g);obtain⟨vs,d,hd,p,dd⟩:=uh c ea B;have S:vs.length<=o_:=by rw[<- HB d];exact p
 refine Ng (hsz:=S) (HN q) (kE c t) dd λh' Y U=>?_;obtain⟨ep',z⟩:=xO Y (mf l d) hd (by have:=nh xs k b v;lia);exact⟨σ,_,c.dic ea U z,m ep'⟩
def pe_get2(r:X.A.units+1<DV)(w:PE X o td)(C:PE X e ty)(B:PE X f tx)(m:M2 X o "get" apos e f cpos):PE X (.Call (.Attribute o "get" apos) [e,f] [] cpos) (tGet2 X.K td ty tx):=by
 intro B2 s σ H Q I h;refine wpAny_Call_method m.base m.few m.line Kv KW PySem.F.type_dict_get (E' (w B2 s σ H _ I h) λu g v=>?_);obtain⟨x,H1,U,l,a,xs,ep,ex,ea,q1⟩:=v;subst ex;cases(show u=x_ a from l);obtain⟨c,Y⟩:=dic_ty U ea;refine⟨c,Y,?_⟩
 rw[m.trees];refine Ii rfl (IJ (Hl (E' (C B2 g σ H1 _ U q1) λq d ⟨y,H2,E,j,q2⟩=>Hl (E' (B B2 d σ H2 _ E q2) λfv G ⟨z,F,S,i,b,k,D,J,A,t,p⟩=>Jw ?_))))
 subst D;cases(show q=x_ b from j);obtain⟨vs,n,hd,K,dd⟩:=uh S J A;exact call_meetsIn KW dd.typeIs PySem.F.entry_dict_get (PySem.F.args_dict_get_3 _ _ _) (meetsH_dict_get_default (Ap X.prog X.w) a b hd fv) ⟨HN r,k,vs,kE S t,dd,_,F,S.tok _,(jT n).getD i,p⟩
def AW(Y:X.A.units+1<DV):OpR X (DQ .NotIn) (rInK X.K e_):=by intro B2 s σ H y x u v Q I J S h;obtain⟨a,b,k,xs,ep,rfl,rfl,ea,c,t,q⟩:=h;cases(show v=x_ a from S);cases(show u=x_ b from J);obtain⟨vs,U,hd,d,dd⟩:=uh I ea c;refine N7 (HN Y) (kE I t) hd dd ?_;have e:=(jT (k:=k) U).tV;rw[Jp]at e;exact⟨_,H,I.tok _,by rw[<- e];exact rfl,q⟩
end
def il:A'->M am
 |.tup ds=>cA ds|_=>stk
noncomputable def ik(ρ:ae)(i:Nat):M (List (am×A')):=match ρ[i]? with
 |some (a_ (.dic ks))=>.ok ks|_=>.error .stuck
def uY(i:Nat)(fk fv:ae->M A'):ae->M C1:=λρ=>(fv ρ).bind λd=>(ik ρ i).bind λks=>(fk ρ).bind λI=>(il I).bind λk=>if (gz d&&CL (ks.length<o_))=e_ then .ok (.nx (ρ.set i (a_ (.dic (ig ks k d)))))else .error .stuck
noncomputable def zv:A'->Bool
 |.dic _=>e_|_=>c_
def zx:A'->A'->A'->M A'
 |.dic ks,I,x=>(il I).bind λk=>.ok ((jm ks k).getD x)|_,_,_=>stk
def rD(fd fk fx:ae->M A'):ae->M A':=λρ=>(fd ρ).bind λd=>if zv d=e_ then(fk ρ).bind λk=>(fx ρ).bind λx=>zx d k x else stk
def kO:A'->A'->M A'
 |I,.dic ks=>(il I).bind λk=>.ok (.bl (!(jm ks k).isSome))|_,_=>stk
def j3{e:Err}(h:il d=.error e):e=.stuck:=by
 cases d with
 |tup ds=>exact fy h|_=>cases h;rfl
def kT{k:am}(h:il d=.ok k)(q:aR K F d v):∃b,v=.ref b/\SqT K F b (k.map V.int):=by
 cases d with
 |tup ds=>obtain⟨b,xs,e,t,z⟩:=q;have:=eE z h;subst this;exact⟨b,e,t⟩
 |_=>cases h
section
variable{W:cp}{fd:ae->M A'}
def kl(h:ik ρ i=.ok ks):ρ[i]?=a_ (a_ (.dic ks)):=by
 unfold ik at h;split at h
 .cases h;assumption
 .cases h
def ui{e:Err}(h:ik ρ i=.error e):e=.stuck:=by
 unfold ik at h;split at h
 .cases h
 .cases h;rfl
def rs_putD(hi:i∈O)(t:tS K W ro F0 H0 OL O O (uY i fk fv) D σ H):sPut K (wk i) (tD K W c_ fk) (tD K W c_ fv) D σ H:=by
 obtain⟨FB,F,ρ,r,p⟩:=t;refine aL r.jg r.fq (λe f=>p.gL (r.freeze (O2:=[]) ad).st (by unfold uY;rw[f];rfl)) λd hd v F1 H1 j q=>?_;have s:uY i fk fv ρ=(ik ρ i).bind λks=>(fk ρ).bind λS=>(il S).bind λk=>if (gz d&&CL (ks.length<o_))=e_ then .ok (.nx (ρ.set i (a_ (.dic (ig ks k d)))))else .error .stuck:=by unfold uY;rw[hd];rfl
 rw[s]at p;cases Y:ik ρ i with
 |error e=>have:=ui Y;subst this;exact p.stuck (by rw[Y];rfl)|ok ks=>
  rw[Y]at p;have p:cQ K W ro F0 H0 FB OL O D ((fk ρ).bind λS=>(il S).bind λk=>if (gz d&&CL (ks.length<o_))=e_ then .ok (.nx (ρ.set i (a_ (.dic (ig ks k d)))))else .error .stuck):=p;have J:=r.gu j;obtain⟨u,e2,a,xs,ev,⟨ep,n⟩,_,_,z⟩:=J.ow i _ (kl Y) hi;subst ev;refine⟨.ref a,e2,?_⟩
  refine aL J.jg J.fq (λe f=>p.gL (J.freeze (O2:=[]) ad).st (by rw[f];rfl)) λS m w F2 H2 U q2=>?_;rw[m]at p;have p:cQ K W ro F0 H0 FB OL O D ((il S).bind λk=>if (gz d&&CL (ks.length<o_))=e_ then .ok (.nx (ρ.set i (a_ (.dic (ig ks k d)))))else .error .stuck):=p;cases I:il S with
  |error e=>have:=j3 I;subst this;exact p.stuck (by rw[I];rfl)|ok k=>
   rw[I]at p;have p:cQ K W ro F0 H0 FB OL O D (if (gz d&&CL (ks.length<o_))=e_ then .ok (.nx (ρ.set i (a_ (.dic (ig ks k d)))))else .error .stuck):=p;by_cases c:(gz d&&CL (ks.length<o_))=e_
   .rw[n_ c]at p;simp only[A_,Dj]at c;obtain⟨b,rfl,t⟩:=kT I q2;have r2:=J.gu U;have l:aR K (minus F1 (jM O [] σ ρ)) d v:=aR.flat (r.pI j) c.1 q;have g:=z.mono (J.dM U);have h:=J.pI U b _ t;exact⟨a,b,k,xs,ep,rfl,rfl,U.hh _ _ n,g.key.mono r2.st.fh,r2.st.fh.tup h,by rw[z.length];exact c.2,λep'=>p σ _ _ (r2.wc hi (kl Y) rfl e2 λo h0=>⟨a,_,rfl,⟨ep',aq⟩,o,h0,g.put h (l.mono (J.dM U))⟩)⟩
   .rw[l_ c]at p;exact p.stuck rfl
def rd_getD(h:tD K W c_ (rD fd fk fx) σ H Q):tGet2 K (tD K W c_ fd) (tD K W c_ fk) (tD K W c_ fx) σ H Q:=by
 obtain⟨F,ρ,r,s,p⟩:=h;refine aL r s (λe f=>p.err (by unfold rD;rw[f];rfl)) λd hd x F1 H1 U q1=>?_;have A:rD fd fk fx ρ=if zv d=e_ then(fk ρ).bind λk=>(fx ρ).bind λx=>zx d k x else stk:=by unfold rD;rw[hd];rfl
 rw[A]at p;cases d with
 |dic ks=>
  have p:aF K W c_ F H ((fk ρ).bind λk=>(fx ρ).bind λx=>zx (.dic ks) k x) Q:=p;obtain⟨a,xs,e,⟨ep,l⟩,z⟩:=q1;refine⟨a,xs,ep,e,U.fh _ _ l,?_⟩
  refine aL (r.mono U.ff) U.fh (λe f=>(p.step U).err (by rw[f];rfl)) λi o y F2 H2 g q2=>?_;rw[o]at p;have p:aF K W c_ F H ((fx ρ).bind λx=>zx (.dic ks) i x) Q:=p;have I:=U.trans g;refine aL (r.mono I.ff) I.fh (λe f=>(p.step I).err (by rw[f];rfl)) λc u w m B S n=>?_;rw[u]at p;have p:aF K W c_ F H ((il i).bind λk=>.ok ((jm ks k).getD c)) Q:=p;cases J:il i with
  |error e=>rw[J]at p;have:=j3 J;subst this;exact aF.stuck p|ok k=>
   rw[J]at p;obtain⟨b,rfl,t⟩:=kT J q2;have Y:=I.trans S;have j:=(z.mono g.ff).mono S.ff;refine⟨b,k,rfl,S.hh _ _ (g.hh _ _ (U.fh _ _ l)),j.key.mono S.fh,S.fh.tup (S.ff.tup t),p _ m B Y ?_⟩
   show aR K m _ _;rcases j.at (k:=k)with⟨e1,e2⟩|⟨d,v,e1,e2,q⟩
   .rw[e1,e2];exact n
   .rw[e1,e2];exact q
 |_=>exact aF.stuck p
end
def rInK_D{W:cp}{neg:Bool}{g:A'->A'->M A'}(i:∀S ks,g S (.dic ks)=(il S).bind λk=>.ok (.bl (if neg=e_ then !(jm ks k).isSome else(jm ks k).isSome)))(f:∀a b,zv b=c_->g a b=stk){x:V}(h:rD2 K W c_ g x y H Q):rInK K neg x y H Q:=by
 obtain⟨F,a,b,J,Y,U,p⟩:=h;cases b with
 |dic ks=>
  rw[i]at p;cases I:il a with
  |error e=>rw[I]at p;have:=j3 I;subst this;exact aF.stuck p|ok k=>
   rw[I]at p;obtain⟨c,rfl,t⟩:=kT I Y;obtain⟨d,xs,rfl,⟨ep,j⟩,z⟩:=U;refine⟨d,c,k,xs,ep,rfl,rfl,J _ _ j,z.key.mono J,J.tup t,?_⟩
   rw[z.isSome];exact p _ F H (B4.refl J) rfl
 |_=>rw[f _ _ rfl]at p;exact aF.stuck p
section
variable{W:cp}{o:Em}{fd:ae->M A'}{p:IM}
def vH:DE K W e_ X (.Dict [] [] pos) (fC (.dic [])):=pe_newK.imp λσ H Q h=>by obtain⟨F,ρ,r,s,q⟩:=h;exact λa I=>q (.ref a) F _ (B4.grow s I) ⟨a,[],rfl,⟨0,aq⟩,s.free I,I,rfl⟩
theorem C0(c:X.A.units+64<DV)(J:DE K W c_ X o fd)(Y:DE K W c_ X ek fk)(U:DE K W c_ X ex fx)(b: ~~~(X.K=K))(a: ~~~(Fi o "get" X.env (Dh o X.env)=Dh o X.env))(hw: ~~~(((Eg cpos (j_ [ek,ex] X.env)).all (λx=> !x.1)&&(HQ cpos (Gv [] X.env)).all (λx=>x.1.isSome)&&CL (([ek,ex]:List Em).length+([]:List Ik).length+(if ([]:List Ik).isEmpty then 0 else 1)<30))=e_))(S: ~~~((apos.endLine==cpos.line)=e_))(I: ~~~(Eg cpos (j_ [ek,ex] X.env)=[(c_,Dh ek X.env),(c_,Dh ex X.env)])):DE K W c_ X (.Call (.Attribute o "get" apos) [ek,ex] [] cpos) (rD fd fk fx):=by subst b;exact(pe_get2 ac J Y U ⟨a,hw,S,I⟩).imp λ_ _ _=>rd_getD
theorem wW(J:X.A.units+64<DV)(I: ~~~(X.K=K)):Op2 K W c_ X (DQ .NotIn) kO:=by subst I;exact(AW ac).imp λx y H Q h=>rInK_D (neg:=e_) (λ_ _=>rfl) (λa b e=>by cases b<;>first|rfl|cases e) h
theorem ds_putD(c:X.A.units+64<DV)(U:DE K W c_ X ek fk)(Y:DE K W c_ X ev fv)(S:(i∈O)⁻¹)(a: ~~~(X.N[i]?=a_ x))(hv:autoParam (Vis X.env.scope x) Jq4)(hd:((x==("__debug__":C_))=c_)⁻¹)(I:((x==("__classdict__":C_))=c_)⁻¹)(b: ~~~(X.K=K))(J: ~~~(EV ev (a_ (.Subscript (.Name x p) ek pos')) pos.line X.env=ER c_)):DS K W ro X OL O O (.Assign [.Subscript (.Name x p) ek pos'] ev pos) (uY i fk fv):=λF0 H0=>by subst b;exact PS.imp (ps_put ac (pv i a hv hd I) U Y J) λ_ _ _=>rs_putD S
end
def tDisp1(K:Fg)(ty tv:TE):TE:=λσ H Q=>∀p,H p=f_->Ao [(ty,tv)] σ (upd H p (lY p [] 0)) λps H2=>∃b k v,ps=[(.ref b,v)]/\H2 p=a_ (lY p [] 0)/\SqT K H2 b (k.map V.int)/\∀ep,Q (.ref p) (upd H2 p (lY p [(k,b,v)] ep))
section
variable{f:Em}{ty:TE}
def pe_disp1(j:X.A.units<DV)(n:PE X e ty)(hv:PE X f tv):PE X (.Dict [a_ e] [f] pos) (tDisp1 X.K ty tv):=by
 intro B2 s σ H Q I q;have m:=I.hok.fresh (m_ s.z);have p:=I.laid (a:=s.z) (o:=lY s.z [] 0) (h':=s.heap.push {cls:=.type "dict",data:=.dict #[]}) (t':=s.toks) (λ_ _ q=>d_ _ q) (m_ _) (vG (ug s.heap I.big));refine wpAny_Dict_any rfl rfl ad ad (E' (pps_cons n hv pps_nil B2 _ σ _ _ p (q _ m)) λu A l=>?_);obtain⟨ps,H2,Y,J,b,k,v,ep,e2,t,q2⟩:=l;subst ep;cases J with
 |@cons x y xs ys r rs=>cases rs;obtain⟨c,w⟩:=y;obtain⟨g,d⟩:=r;cases(show c=x_ b from g);obtain⟨vs,h,hd,B,dd⟩:=uh Y e2 (λx i=>nomatch i);cases h;unfold storeAll;rw[Iz];refine b_ (b_ (Ni (hsz:=DU _) (knd:=Ap X.prog X.w) j (kE Y t) dd λh' U S=>h_ ?_));show w_ _ _ (Mb [] PUnit.unit _) _ _ _;rw[Hu];obtain⟨ep',z⟩:=xO U (mf (xs:=[]) d .nil) hd (DJ (nh _ _ _ _) (show 1<=o_ by decide));exact h_ ⟨.ref s.z,_,Y.dic e2 S z,rfl,q2 ep'⟩
end
def mkD1(I d:A'):M A':=(il I).bind λk=>.ok (.dic [(k,d)])
def rd_disp1{W:cp}(h:tD K W e_ (f2 mkD1 fa fb) σ H Q):tDisp1 K (tD K W c_ fa) (tD K W c_ fb) σ H Q:=by
 obtain⟨F,ρ,r,s,p⟩:=h;intro a U;have Y:B4 F H F (upd H a (lY a [] 0)):=B4.grow s U;refine aL r Y.fh (λe g=>(p.step Y).err (by unfold f2;rw[g];rfl)) λi j x F1 H1 J q1=>?_;have f:=Y.trans J;refine aL (r.mono J.ff) J.fh (λe g=>(p.step f).err (by unfold f2;rw[j];show(fb ρ).bind _=_;rw[g];rfl)) λd hd v F2 H2 I q2=>?_;have e:f2 mkD1 fa fb ρ=(il i).bind λk=>.ok (.dic [(k,d)]):=by unfold f2;rw[j];show(fb ρ).bind _=_;rw[hd];rfl
 rw[e]at p;cases S:il i with
 |error e=>rw[S]at p;have:=j3 S;subst this;exact aF.stuck p|ok k=>
  rw[S]at p;obtain⟨b,rfl,t⟩:=kT S q1;have h2:H2 a=a_ (lY a [] 0):=I.hh _ _ (J.hh _ _ aq);have f2:F2 a=f_:=by
   cases e2:F2 a with
   |none=>rfl|some o=>
    rcases I.nw a o e2 with z|z
    .rcases J.nw a o z with z|z
     .rw[s.free U]at z;cases z
     .rw[aq]at z;cases z
    .rw[J.hh _ _ aq]at z;cases z
  refine⟨b,k,v,rfl,h2,I.fh.tup (I.ff.tup t),λep=>p (.ref a) F2 _ ⟨J.ff.trans I.ff,λc o z=>?_,λc o z=>?_,λc o z=>?_⟩ ⟨a,_,rfl,⟨ep,aq⟩,f2,U,b,v,[],rfl,I.ff.tup t,q2,rfl⟩⟩
  .rw[aw (aA z U)];exact I.hh _ _ (J.hh _ _ (by rw[aw (aA z U)];exact z))
  .rw[aw (aA z f2)];exact I.fh _ _ z
  .exact(Y.trans (J.trans I)).nw c o z
theorem de_disp1{W:cp}{f:Em}(U:X.A.units+64<DV)(J:DE K W c_ X e fa)(I:DE K W c_ X f fb)(S: ~~~(X.K=K)):DE K W e_ X (.Dict [a_ e] [f] pos) (f2 mkD1 fa fb):=by subst S;exact(pe_disp1 ac J I).imp λ_ _ _=>rd_disp1
def se(h:Du)(d:i_)(es:Array EG)(ep:Nat):Prop:=∃o,h.get? d=a_ o/\o.ExactDict/\o.data=.dict es ep
def se.ty{s:k_}{d:i_}{es:Array EG}(z:se s.heap d es ep):s.TypeIs (.ref d) "dict":=let ⟨o,h,c,_⟩:=z;⟨o,h,c.1⟩
def se.at{d:i_}{es:Array EG}(z:se h d es ep)(e:∀o,h.get? d=a_ o->h'.get? d=a_ o):se h' d es ep:=let ⟨o,h,c⟩:=z;⟨o,e o h,c⟩
section
variable{s:k_}{d v:i_}{es:Array EG}
def yW(d:i_)(es:Array EG)(ep:Nat)(hd:(d==Ex)=c_):MeetsIn prog w (Builtin.«dict.values» ⟨[.ref d],[]⟩) (λ_ R s=>se s.heap d es ep/\R (.ok (.ret (.ref s.heap.objs.size))) {s with heap:=s.heap.push {cls:=.type "dict_values",data:=.fields #[.ref d]}}):=
 .of_wp λA R s ⟨z,h⟩=>by
  have I:E9 d=ER ():=by unfold E9;rw[hd];rfl
  refine b_ ?_;unfold Builtin.Dict.noArgs;refine b_ (Jf z.ty ?_);show w_ _ _ (ER d) _ _ s;refine h_ ?_;show w_ _ _ (E9 d >>= _) _ _ s;rw[I];exact b_ (h_ (b_ (DN (h_ ⟨_,rfl,h⟩))))
def zo{Q:Vp}(hv:s.heap.IsValuesView v d)(z:se s.heap d es ep)(k:Q (.ref s.heap.objs.size) {s with heap:=s.heap.push {cls:=.type "dict_valueiterator",data:=.fields #[.ref d,.int 0 0,.int es.size 0,.int ep 0]}}):w_ (B_ prog w) A (Nl (.ref v)) Q E s:=by obtain⟨a,U,Y,S⟩:=id hv;obtain⟨od,J,b,I⟩:=z;refine Nz hv.typeIs JI (DC JI hv.typeIs PySem.F.entry_dict_values_iter ?_ (PySem.F.args_dict_values_iter_1 _));unfold Builtin.«dict_values.__iter__»;refine b_ (h_ (b_ ?_));unfold MD;refine b_ (Eo U S (x:=.ref d) rfl (h_ (b_ ?_)));unfold MC;refine b_ (Gf J I (b_ (GD J I ?_)));simp only[show EO "dict_valueiterator"=c_ by decide,CY,En];exact DN (h_ ⟨_,rfl,"dict_valueiterator",_,⟨_,s_ _ rfl,rfl⟩,Ey.lookup,by simpa[Fd] using k⟩)
theorem yV{e:EG}{Q:Option g_->k_->Prop}(I:s.heap.IsValIter q d i es.size ep)(z:se s.heap d es ep)(b:es[i]?=a_ e)(k:∀h',h'.IsValIter q d (i+1) es.size ep->FP q s.heap h'->Q (a_ e.val) {s with heap:=h'}):w_ (B_ prog w) A (G9 (.ref q)) Q E s:=by
 obtain⟨c,q1,q2,J⟩:=id I;obtain⟨od,a,f,Y⟩:=z;unfold G9;refine b_ (Ga (Ef (name:=FT "__next__") I.typeIs Ey (DC Ey I.typeIs IC ?_ (Iv _))));refine b_ (h_ (b_ (b_ (b_ (FX I.typeIs (h_ ?_))))));refine b_ (Jr q1 J ?_);simp only[show EO "dict_valueiterator"=c_ by decide,CY,En];show w_ _ _ (if (x_ d==Dw)=e_ then _ else _) _ _ s;rw[l_ (show ¬((x_ d==Dw)=e_)from Dt)];refine b_ (h_ (b_ (Gf a Y ?_)));rw[l_ ad];refine b_ (h_ (b_ (GD a Y ?_)));rw[l_ ad];refine h_ ?_;simp only[show ¬((i:Int)<0)from by lia,En,Fz,b];refine b_ (b_ (FX I.typeIs (h_ (b_ (Jg I.typeIs ?_)))));show w_ _ _ (Js (.ref q) 1 (Fd ((i:Int)+1)) >>= _) _ _ s;refine b_ (E7 q1 J ad ?_);have U:(s.heap.update q (FZ (·.setIfInBounds 1 (Fd ((i:Int)+1))))).IsValIter q d (i+1) es.size ep:=⟨_,EX _ q1 (E2 (EH J _)),(HJ ..).trans q2,by rw[EH J];simp[Fd]⟩
 have S:HA {s with heap:=s.heap.update q (FZ (·.setIfInBounds 1 (Fd ((i:Int)+1))))} (.ref q) "dict_valueiterator":=U.typeIs;refine b_ (Ez (b_ (Jg S (b_ (Jg S ?_)))));show w_ _ _ (ER e.val) _ _ _;exact h_ (h_ ⟨_,rfl,h_ (k _ U (Fl ..))⟩)
theorem BG{Q:Option g_->k_->Prop}(hh:A.handled=f_)(I:s.heap.IsValIter q d i es.size ep)(z:se s.heap d es ep)(Y:es.size<=i)(k:∀h',EC q s.heap h'->Q f_ {s with heap:=h'}):w_ (B_ prog w) A (G9 (.ref q)) Q E s:=by
 obtain⟨c,q1,q2,J⟩:=id I;obtain⟨od,U,e,S⟩:=z;unfold G9;refine b_ (Ga (Ef (name:=FT "__next__") I.typeIs Ey (DC Ey I.typeIs IC ?_ (Iv _))));refine b_ (h_ (b_ (b_ (b_ (FX I.typeIs (h_ ?_))))));refine b_ (Jr q1 J ?_);simp only[show EO "dict_valueiterator"=c_ by decide,CY,En];show w_ _ _ (if (x_ d==Dw)=e_ then _ else _) _ _ s;rw[l_ (show ¬((x_ d==Dw)=e_)from Dt)];refine b_ (h_ (b_ (Gf U S ?_)));rw[l_ ad];refine b_ (h_ (b_ (GD U S ?_)));rw[l_ ad];refine h_ ?_;simp only[show ¬((i:Int)<0)from by lia,En,Fz,FO Y];refine b_ (b_ (FX I.typeIs (h_ ?_)));show w_ _ _ (Js (.ref q) 0 .none >>= _) _ _ s;refine b_ (E7 q1 J ad ?_);show w_ _ _ (Nm (.type "StopIteration") [] >>= _) _ _ _;refine b_ ?_;simp only[Nm,newTuple];refine b_ (DN (b_ (m:=Lj _ _) (MM (a:=Dw) (by first|rfl|(simp only[firstArgMember];rfl)) (DN ?_ (by size_fits)))) (by size_fits));simp only[raiseNew];refine b_ (LB ?_);first|rw[show A.in1.handled=f_ from hh]|rw[hh]
 refine b_ (h_ (MK ?_));refine b_ (Gy (T:="StopIteration") (b:=e_) ⟨_,s_ _ rfl,rfl⟩ Lh ?_);exact h_ (k _ (((Fl ..).extBut.push _).push _))
end
def VwO(T:String)(p d:i_):HO:=.ext λh=>∃o,h.get? p=a_ o/\o.cls=.type T/\o.data=.fields #[.ref d]
def vw_obj{p d:i_}(z:∃o,h.get? p=a_ o/\o.cls=.type T/\o.data=.fields #[.ref d]):dW P w H h p (VwO T p d):=⟨z,let ⟨o,e,_⟩:=z;⟨o,e⟩,λ_ _ ⟨o,e,r⟩ k=>⟨o,k o e,r⟩⟩
def tView(T:String)(td:TE):TE:=λσ H Q=>td σ H λx H1=>∃a xs ep,x=.ref a/\H1 a=a_ (lY a xs ep)/\∀p,H1 p=f_->Q (.ref p) (upd H1 p (VwO T p a))
def rSumV:aB->Hp->VK->Prop:=λvs H Q=>∃(p a:i_) (xs:List j8) (ep:Nat) (is:am),vs=[.ref p]/\H p=a_ (VwO "dict_values" p a)/\H a=a_ (lY a xs ep)/\xs.map (·.2.2)=is.map V.int/\Q (.int is.sum) H
theorem AA:∀{xs:List j8} {vs:List (am×i_×g_)} {i:Nat} {e:EG},Gw ic xs vs->(vs.map rowE)[i]?=a_ e->∃x,xs[i]?=a_ x/\e.key=.ref x.2.1/\C' x.2.2 e.val
 |_,_,_,_,.nil,h=>by simp at h|x::_,q::_,0,e,.cons r _,h=>by simp only[u_,HZ,FN]at h;subst h;exact⟨x,rfl,by rw[r.2.1];rfl,r.2.2⟩|_::_,_::_,i+1,e,.cons _ t,h=>by obtain⟨x,h1,h2⟩:=AA (i:=i) (e:=e) t (by simpa using h);exact⟨x,by simpa using h1,h2⟩
def pre_sum:∀is:am,preSum (λi=>(is[i]?).getD 0) is.length=is.sum:=by
 have key:∀(is:am) (n:Nat),n<=is.length->preSum (λi=>(is[i]?).getD 0) n=(is.take n).sum:=by
  intro is n
  induction n with
  |zero=>intro _;rfl|succ n I=>intro h;have J:n<is.length:=h;rw[preSum,I (Nat.le_of_succ_le h),M8,List.sum_append];simp[Dk J]
 intro is;rw[key is _ (m_ _),Gi]
def yu(U:A.handled=f_)(q d:i_)(I:d≠q)(es:Array EG)(ep:Nat):Walks prog w A q [q,d] [q] es.size (λi v=>∃e,es[i]?=a_ e/\v=e.val) (λi h=>h.IsValIter q d i es.size ep/\se h d es ep) where
 sub:=λb S=>by simp at S;simp[S]
 frame:=λ_ _ _ st k=>⟨let ⟨o,e,r⟩:=st.1;⟨o,k q ad o e,r⟩,st.2.at λo e=>k d ad o e⟩
 item:=λi s Q E hi st k=>yV st.1 st.2 (e:=es[i]) (by simp[hi]) λh' z b=>k _ h' s.toks ⟨_,by simp[hi],rfl⟩ ⟨z,st.2.at λo e=>(b.2 d I).trans e⟩ λc o J e=>b.extBut c o (λz=>J (by simp[z])) e
 done:=λs Q E st k=>BG U st.1 st.2 (m_ _) λh' b=>k h' s.toks λc o J e=>b c o (λz=>J (by simp[z])) e
 self:=λ_ _ _ _ st k=>wpAny_pyIter_valiter st.1 k
section
variable{s:k_}{xs:List j8}{o:Em}
def AE(I:B6 X B2 σ H s)(e:H a=a_ (lY a xs ep)):∃(vs:List (am×i_×g_)) (es:Array EG),Gw ic xs vs/\(a==Ex)=c_/\xs.length<=o_/\se s.heap a es ep/\es.toList=vs.map rowE/\es.size=xs.length:=by obtain⟨vs,r,hd,S,Y,u,es,h1,h2,U,J⟩:=BU I e;exact⟨vs,es,r,hd,S,⟨u,h1,h2,U⟩,J,by rw[<- DF,J,q_,HB r]⟩
def pe_vals(d:PE X o td)(f: ~~~(Fi o "values" X.env (Dh o X.env)=Dh o X.env))(e: ~~~((apos.endLine==cpos.line)=e_)):PE X (.Call (.Attribute o "values" apos) [] [] cpos) (tView "dict_values" td):=by
 intro B2 s σ H Q I h;refine wpAny_Call_method0_late f e (E' (d B2 s σ H _ I h) λv J c=>?_);obtain⟨x,H1,S,b,a,xs,ep,ex,ea,q1⟩:=c;subst ex;cases(show v=x_ a from b);obtain⟨U,Y⟩:=dic_ty S ea;obtain⟨vs,es,_,hd,_,z,_⟩:=AE S ea;exact⟨"dict","dict.values",Kv,Ko,PySem.F.type_dict_values,U,Y,Ii rfl (PySem.evalArgs_none (call_meetsIn Ko U PySem.F.entry_dict_values (PySem.F.args_dict_values_1 _) (yW a es ep hd)
  ⟨z,.ref J.z,_,S.laid (a:=J.z) (o:=VwO "dict_values" J.z a) (t':=J.toks) (λ_ _ q=>d_ _ q) (m_ _) (vw_obj ⟨_,s_ _ rfl,rfl,rfl⟩),rfl,q1 _ (S.hok.fresh (m_ _))⟩))⟩
def Ca(B:X.calm=e_):cH X (.builtin "sum") rSumV:=by
 intro B2 s σ H vs us Q I r h;obtain⟨p,a,xs,ep,is,rfl,n,C,hi,q⟩:=h;obtain⟨u,rfl,k⟩:=r.one;cases(show u=x_ p from k);obtain⟨vs,es,l,hd,E,z,y,hsz⟩:=AE I C;have hv:s.heap.IsValuesView p a:=(show(∃o,s.heap.get? p=a_ o/\o.cls=.type "dict_values"/\o.data=.fields #[.ref a])/\_ from I.hok p _ n).1;have d:a<s.z:=let ⟨o,e,_⟩:=z;t_ e;have w:is.length=es.size:=by rw[hsz,<- q_ (f:=λx:j8=>x.2.2),hi,q_]
 refine NK (zo hv z ⟨_,_,_,_,_,_,_,λi=>(is[i]?).getD 0,rfl,(yu (A:=X.A.in1) (I.ok.hd B) s.z a (De d) es ep).toS,⟨⟨_,s_ _ rfl,rfl,rfl⟩,z.at λo e=>d_ _ e⟩,λb U=>?_,λi v D=>?_,λs' t' S=>?_⟩)
 .show b<(s.heap.push _).objs.size;rw[D8];simp only[r_,Dq,KD]at U;rcases U with rfl|rfl
  .exact Gq _
  .exact GP d
 .obtain⟨e,h1,rfl⟩:=D;obtain⟨x,h2,_,g⟩:=AA (i:=i) (e:=e) l (by rw[<- y];simpa using h1);have J:(xs.map (·.2.2))[i]?=a_ x.2.2:=by rw[Dz,h2];rfl
  rw[hi,Dz]at J;cases c:is[i]? with
  |none=>rw[c]at J;cases J|some j=>
   rw[c]at J;have e4:V.int j=x.2.2:=by simpa using J
   rw[<- e4]at g;obtain⟨t,e⟩:=(show ∃t,e.val=IL j t from g)
   exact⟨t,by simp only[c];exact e⟩
 .obtain⟨h',g',d',Y,m⟩:=s';have e1:=S.gens;have e2:=S.drawn;have e3:=S.os;have e4:=S.heap;simp only at e1 e2 e3;subst e1 e2 e3;refine⟨.int _,H,I.kept (t':=Y) λb o e=>e4 b o (λU=>?_) (d_ _ e),⟨t',rfl⟩,?_⟩
  .have:b=s.z:=by simpa using U
   exact CQ (t_ e) (by rw[this];exact Ee _)
  .rw[<- w,pre_sum];exact q
end
def yB:A'->M A'
 |.dic ks=>(cA (ks.map (·.2))).bind λis=>.ok (.int is.sum)|_=>stk
theorem bP.vals{K:Fg}{F:Hp}:∀{ks:List (am×A')} {xs:List j8},bP K F ks xs->ay K F (ks.map (·.2)) (xs.map (·.2.2))
 |[],_,h=>by rw[show _=[]from h];rfl|(k,d)::ks,_,⟨b,v,r,e,t,q,z⟩=>by subst e;exact⟨v,_,rfl,q,bP.vals z⟩
section
variable{W:cp}{fd:ae->M A'}
def rd_sumV(h:tD K W c_ (f1 yB fd) σ H Q):tCB rSumV (j9 (tView "dict_values" (tD K W c_ fd)) wo) σ H Q:=by
 obtain⟨F,ρ,r,s,p⟩:=h;refine aL r s (λe U=>p.err (by unfold f1;rw[U];rfl)) λd hd x F1 H1 I q1=>?_;have z:f1 yB fd ρ=yB d:=by unfold f1;rw[hd];rfl
 rw[z]at p;cases d with
 |dic ks=>
  obtain⟨a,xs,e,⟨ep,J⟩,S⟩:=q1;have p:aF K W c_ F H ((cA (ks.map (·.2))).bind λis=>.ok (.int is.sum)) Q:=p;cases hi:cA (ks.map (·.2))with
  |error e=>rw[hi]at p;have:=fy hi;subst this;exact aF.stuck p|ok is=>rw[hi]at p;exact⟨a,xs,ep,e,I.fh _ _ J,λv hv=>⟨v,a,xs,ep,is,rfl,aq,by rw[aw (aA (I.fh _ _ J) hv)];exact I.fh _ _ J,eE S.vals hi,p (.int is.sum) F1 _ (I.trans (B4.grow I.fh hv)) rfl⟩⟩
 |_=>exact aF.stuck p
end
section
variable{W:cp}{o:Em}{fd:ae->M A'}{p:IM}
def de_sumV(b:X.calm=e_)(U:X.mg "sum"=f_)(Y:DE K W c_ X o fd)(c: ~~~(Fi o "values" X.env (Dh o X.env)=Dh o X.env))(S: ~~~((apos.endLine==cpos.line)=e_))(a: ~~~(Gl X "sum"))(I: ~~~(j_ [.Call (.Attribute o "values" apos) [] [] cpos] X.env=(c_,Dh (.Call (.Attribute o "values" apos) [] [] cpos) X.env)::j_ [] X.env))(J: ~~~((Eg pos (j_ [] X.env)).any (·.1)=c_)):
  DE K W c_ X (.Call (.Name "sum" p) [.Call (.Attribute o "values" apos) [] [] cpos] [] pos) (f1 yB fd):=
 (fZ (Ca b) a U boot_sum (aW (pe_vals Y c S) cK I) ag ag I J).imp λ_ _ _=>rd_sumV
end
section
variable{fd:ae->M A'}
@[simp]def e_getD:rD fd fk fx ρ=(fd ρ).bind λd=>if zv d=e_ then(fk ρ).bind λk=>(fx ρ).bind λx=>zx d k x else stk:=id rfl
@[simp]def e_isDic(ks:List (am×A')):zv (.dic ks)=e_:=id rfl
@[simp]def e_getDD(ks:List (am×A'))(I x:A'):zx (.dic ks) I x=(il I).bind λk=>.ok ((jm ks k).getD x):=id rfl
@[simp]def e_keyD(k:am):il (.tup (k.map .int))=.ok k:=di k
@[simp]def e_keyD0:il (.tup [])=.ok []:=id rfl
@[simp]def nG(I:A')(ks:List (am×A')):kO I (.dic ks)=(il I).bind λk=>.ok (.bl (!(jm ks k).isSome)):=id rfl
@[simp]def e_putD(i:Nat):uY i fk fv ρ=(fv ρ).bind λd=>(ik ρ i).bind λks=>(fk ρ).bind λI=>(il I).bind λk=>if (gz d&&CL (ks.length<o_))=e_ then .ok (.nx (ρ.set i (a_ (.dic (ig ks k d)))))else .error .stuck:=id rfl
@[simp]def e_dicAt0(ks:List (am×A'))(r:ae):ik (a_ (.dic ks)::r) 0=.ok ks:=id rfl
@[simp]def e_dicAtS(o:Option A')(r:ae)(i:Nat):ik (o::r) (i+1)=ik r i:=by simp[ik]
@[simp]def e_sumVD(ks:List (am×A')):yB (.dic ks)=(cA (ks.map (·.2))).bind λis=>.ok (.int is.sum):=id rfl
@[simp]def e_mkD1(I d:A'):mkD1 I d=(il I).bind λk=>.ok (.dic [(k,d)]):=id rfl
end
section
open PySem
def Be:typeLookup (.type "list") "keys"=ER f_:=am_miss_of_fast (by kernel_rfl)
theorem no_keys{I:Du}{g:Array MX}{d:Drawn}{tk:Nat}{xs:Array g_}{Q:Option g_->k_->Prop}(U:I.get? a=a_ {cls:=.type "list",dict:=f_,data:=.seq xs n,slots:=sl})(Y:A.handled=f_)(k:∀h' J,(∀b S,I.get? b=a_ S->h'.get? b=a_ S)->Q f_ ⟨h',g,d,J,os⟩):w_ (B_ prog w) A (MT (.ref a) "keys") Q E ⟨I,g,d,tk,os⟩:=by
 have ty:∀t,(⟨I,g,d,t,os⟩:k_).TypeIs (.ref a) "list":=λ_=>⟨_,U,rfl⟩
 have q1:=sub_AttributeError;have q2:=Ig.lookup;have i:=Ig.bind (.ref a);have h:=am_list_getattr_none;unfold MT getAttrBy? NX
 repeat (any_goals (first|assumption|exact ty _|((with_reducible show w_ _ _ (Hk (I9 "list.__getattribute__") _ _) _ _ _);refine Nr Ig (ty _) am_entry_list_getattribute (F.args_list_getattribute_2 _ _) (meets_getattribute_miss_list a xs n sl "keys" _ Be ag (by size_fits)) ⟨U,Y,λh' t' e z=>?_⟩)|wp_step))
 obtain⟨f,c,j⟩:=z.there;show w_ _ _ (Np _ _ _ _ _ _ _) _ _ _;unfold Np
 repeat (any_goals (first|assumption|wp_step))
 exact k _ _ z.keeps
variable{R:Mp->k_->Prop}{κ:Type}[FD κ]{knd:Km prog w κ}
def pK:entryFor table "dict.update.loop"=a_ Builtin.«dict.update.loop»:=entryFor_of_tree (by kernel_rfl)
def j0:plainId "dict.update.loop"=e_:=by decide +kernel
noncomputable def stR(I:List (κ×i_×g_))(x:κ×i_×g_):List (κ×i_×g_):=JC I x.1 x.2.1 x.2.2
abbrev Keep(h0 h:Du):Prop:=∀c o,h0.get? c=a_ o->h.get? c=a_ o
def KKeep(knd:Km prog w κ):Prop:=∀{h0 h:Du} {k:κ} {b:i_},knd.is h0 k b->Keep h0 h->knd.is h k b
def xI{D:i_}{rows:List (κ×i_×g_)}(z:h.DictOfH knd D rows)(e:∀o,h.get? D=a_ o->h'.get? D=a_ o)(k:∀x∈rows,knd.is h' x.1 x.2.1):h'.DictOfH knd D rows:=
 let ⟨o,es,ep,h1,h2,S,J,_,I⟩:=z;⟨o,es,ep,e o h1,h2,S,J,k,I⟩
theorem Ax{L:List (κ×i_×g_)}:∀(M I:List (κ×i_×g_)),(∀x∈M,x∈L)->(∀x∈I,∃y∈L,x.1=y.1/\x.2.1=y.2.1)->∀x∈M.foldl stR I,∃y∈L,x.1=y.1/\x.2.1=y.2.1
 |[],I,_,h=>h|m::M,I,S,h=>Ax M (stR I m) (λx J=>S x (by simp[J])) λx J=>by
  rcases PyProof.Rows.mem_storedH J with⟨y,Y,e1,e2⟩|⟨e1,e2⟩
  .obtain⟨z,U,b,a⟩:=h y Y;exact⟨z,U,e1.trans b,e2.trans a⟩
  .exact⟨m,S m ad,e1,e2⟩
theorem Ay:∀(M I:List (κ×i_×g_)),(M.foldl stR I).length<=I.length+M.length
 |[],I=>m_ _|m::M,I=>by
  have h1:=Ay M (stR I m);have h2:(stR I m).length<=I.length+1:=by unfold stR JC;split<;>simp
  rw[Dy,CG];lia
theorem dic_loop{h0:Du}{D I:i_}(hh:A.handled=f_)(G:KKeep knd)(Z:knd.room A.in1)(hl:h0.IsList l items)(hD:h0.get? D=f_)(H:h0.get? I=f_)(b:D≠I)(L:List (κ×i_×g_))(p:items.size=L.length)(hsz:L.length<=o_)(q:∀(j:Nat) (x:κ×i_×g_),L[j]?=a_ x->∃T,items[j]?=a_ (.ref T)/\Lp h0 T #[.ref x.2.1,x.2.2]/\knd.is h0 x.1 x.2.1):
  ∀(m i:Nat) (s:k_),L.length-i=m->i<=L.length->s.heap.IsListIter I l i->Keep h0 s.heap->s.heap.DictOfH knd D ((L.take i).foldl stR []) ->
   (∀h' Y,Keep h0 h'->h'.DictOfH knd D (L.foldl stR [])->R (.ok (.ret .none)) {s with heap:=h',toks:=Y})->He (B_ prog w) A (.builtin "dict.update.loop" ⟨[.ref D,.ref I,Fd i,.none],[]⟩) R s:=by
 have S:∀{h:Du},Keep h0 h->∀(i:Nat),∀x∈(L.take i).foldl stR [],knd.is h x.1 x.2.1:=λ{h} U i x a=>by obtain⟨y,X,e1,e2⟩:=Ax (L:=L) (L.take i) [] (λx a=>Fv a) (λx a=>nomatch a) x a;obtain⟨j,hj⟩:=List.mem_iff_getElem?.mp X;obtain⟨T,_,_,z⟩:=q j y hj;rw[e1,e2];exact G z U
 have f:∀{h:Du},Keep h0 h->h.IsList l items:=λ{h} U=>let ⟨o,e,r⟩:=hl;⟨o,U _ _ e,r⟩;intro m
 induction m with
 |zero=>
  intro i s hm hi st U dd fin;obtain rfl:i=L.length:=ac
  refine GF pK ?_;rw[Fn j0 _];refine b_ (Mz (show A.in1.handled=f_ from hh) st (f U) (by simp[p]) λh' eb=>?_);have g:Keep h0 h':=λc o e=>eb c o (λz=>by rw[z,H]at e;cases e) (U c o e);show w_ _ _ (Builtin.Dict.addKeywords D [] >>= _) _ _ _;rw[Gi]at dd;refine b_ (h_ (h_ (fin h' s.toks g (xI dd (λo e=>eb D o b e) λx a=>?_))));exact S g L.length x (by rw[Gi];exact a)
 |succ m W=>
  intro i s hm hi st U dd fin;have k:i<L.length:=ac
  obtain⟨T,e1,K,Q⟩:=q i L[i] (by simp[k]);refine GF pK ?_;rw[Fn j0 _];refine b_ (Me st (f U) e1 λh1 t F=>?_);have J:Keep h0 h1:=λc o e=>F.extBut c o (λz=>by rw[z,H]at e;cases e) (U c o e);have C:h1.DictOfH knd D ((L.take i).foldl stR []):=xI dd (λo e=>F.extBut D o b e) (S J i);obtain⟨P,E,O,n,N⟩:=K;have hT:HA {s with heap:=h1} (.ref T) "tuple":=⟨P,J _ _ E,O⟩
  refine b_ (Ez ?_);refine b_ (wpAny_tryCatch ?_);unfold Builtin.Dict.pairItems;refine b_ (Kg hT ?_);show w_ _ _ (if (EB "tuple"==EB "list"||EB "tuple"==EB "tuple")=e_ then _ else _) _ _ _;rw[n_ ag];refine b_ (E8 (J _ _ E) N (h_ ?_));show w_ _ _ (Gg [.ref L[i].2.1,L[i].2.2] (dictSet D (.ref L[i].2.1) L[i].2.2)) _ _ _;have v:((L.take i).foldl stR []).length<=o_:=by have:=Ay (L.take i) [];rw[Ke,FF]at this;lia
  refine Ez (Ni (hsz:=v) (knd:=knd) Z (G Q J) C λh2 B d=>?_);have u:Keep h0 h2:=λc o e=>(d.2 c (λz=>by rw[z,hD]at e;cases e)).trans (J c o e);have ei:Fd ((i:Int)+1)=Fd ((i+1:Nat):Int):=by congr 1
  have et:(L.take (i+1)).foldl stR []=JC ((L.take i).foldl stR []) L[i].1 L[i].2.1 L[i].2.2:=by rw[M8,List.foldl_append];simp[k,stR]
  refine h_ ⟨JX j0 _,?_⟩;show He _ _ (.builtin "dict.update.loop" ⟨[.ref D,.ref I,Fd ((i:Int)+1),.none],[]⟩) _ _;rw[ei];refine W (i+1) _ ac ac ?_ u (by rw[et];exact B) λh' Y k' d'=>fin h' Y k' d';exact t.at λo e=>(d.2 I b.symm).trans e
end
section
open PySem
variable{s:k_}{κ:Type}[FD κ]{knd:Km prog w κ}
theorem zN{f:Nat}{Q:Vp}(r:A.handled=f_)(B:KKeep knd)(z:knd.room A.in1.in1)(i:s.heap.get? l=a_ {cls:=.type "list",dict:=f_,data:=.seq items f,slots:=sl})(L:List (κ×i_×g_))(a:items.size=L.length)(hsz:L.length<=o_)(m:∀(j:Nat) (x:κ×i_×g_),L[j]?=a_ x->∃T,items[j]?=a_ (.ref T)/\Lp s.heap T #[.ref x.2.1,x.2.2]/\knd.is s.heap x.1 x.2.1)(k:∀h' J,Keep s.heap h'->h'.DictOfH knd s.heap.objs.size (L.foldl stR [])->Q (.ref s.heap.objs.size) {s with heap:=h',toks:=J}):w_ (B_ prog w) A (Hk (.type "dict") [.ref l]) Q E s:=by
 obtain⟨I,g,d,tk,os⟩:=s;refine callType_codes (Q₁:=λu t=>u=.ref I.objs.size/\t=⟨I.push {cls:=.type "dict",data:=.dict #[]},g,d,tk,os⟩) F.kt_called_dict (F.kt_typeCall_dict_1 _) F.entry_dict_init (kt_code_dict_new _ ⟨rfl,rfl⟩) ?_;rintro u t ⟨rfl,rfl⟩;have n:(I.push {cls:=.type "dict",data:=.dict #[]}).DictOfH knd I.objs.size []:=⟨_,#[],0,s_ _ rfl,⟨rfl,rfl,rfl⟩,rfl,rfl,λx Y=>(nomatch Y),Kz⟩
 have ty:(⟨I.push {cls:=.type "dict",data:=.dict #[]},g,d,tk,os⟩:k_).TypeIs (.ref I.objs.size) "dict":=n.typeIs;have b:(I.push {cls:=.type "dict",data:=.dict #[]}).get? l=a_ {cls:=.type "list",dict:=f_,data:=.seq items f,slots:=sl}:=d_ _ i;have tl:(⟨I.push {cls:=.type "dict",data:=.dict #[]},g,d,tk,os⟩:k_).TypeIs (.ref l) "list":=⟨_,b,rfl⟩
 refine⟨ty,F.args_dict_init_2 _ _,?_⟩;unfold Builtin.«dict.__init__»;refine b_ ?_;unfold Builtin.Dict.selfAndRest;refine b_ (Jf ty ?_);show w_ _ _ (ER (I.objs.size,[x_ l])) _ _ _;refine h_ ?_;show w_ _ _ (JU "dict.__init__" I.objs.size (.ref l) [] .none) _ _ _;unfold JU;refine b_ (Kg tl ?_);rw[n_ ag];refine b_ (no_keys b (show A.in1.in1.handled=f_ from r) λh1 h U=>?_);rw[n_ (show(f_:Option g_).isNone=e_ from rfl)];have q:Keep I h1:=λc o e=>U c o (d_ _ e);have C:I.get? I.objs.size=f_:=IP (m_ _);have v:h1.DictOfH knd I.objs.size []:=xI n (λo e=>U _ o e) λx Y=>(nomatch Y)
 have p:I.objs.size<h1.objs.size:=let ⟨o,_,_,e,_⟩:=v;t_ e;have S:I.IsList l items:=⟨_,i,rfl,f,rfl⟩
 have y:h1.IsList l items:=⟨_,q _ _ i,rfl,f,rfl⟩
 refine b_ (Fp (b_ (Ij (s:=⟨h1,g,d,h,os⟩) y (h_ ⟨JX j0 _,?_⟩))));refine dic_loop (A:=A.in1) (h0:=I) (l:=l) (items:=items) (show A.in1.handled=f_ from r) B z S C (IP (Gr p)) (De p) L a hsz m (L.length-0) 0 _ rfl (DU _) ⟨_,s_ _ rfl,rfl,rfl⟩ (λc o e=>d_ _ (q c o e)) (xI v (λo e=>d_ _ e) λx Y=>(nomatch Y)) λh' J k' dd=>⟨rfl,k h' J k' dd⟩
end
def zR:E6 "dict"=a_ (.type "dict"):=by rfl
section
variable{s:k_}{d:i_}{es:Array EG}
def pO{Q:Vp}(hd:(d==Ex)=c_)(z:se s.heap d es ep)(k:Q (.ref s.heap.objs.size) {s with heap:=s.heap.push {cls:=.type "dict_keyiterator",data:=.fields #[.ref d,.int 0 0,.int es.size 0,.int ep 0]}}):w_ (B_ prog w) A (Nl (.ref d)) Q E s:=by
 have ty:=z.ty;have S:E9 d=ER ():=by unfold E9;rw[hd];rfl
 obtain⟨od,J,U,I⟩:=z;refine Nz ty KP (DC KP ty PySem.F.entry_dict_iter ?_ (PySem.F.args_dict_iter_1 _));unfold Builtin.«dict.__iter__»;refine b_ ?_;unfold Builtin.Dict.dictSlotNone;refine b_ (Jf ty ?_);show w_ _ _ (ER (x_ d)) _ _ s;refine h_ ?_;show w_ _ _ (E9 d >>= _) _ _ s;rw[S];refine b_ (h_ (b_ (Gf J I (b_ (GD J I ?_)))));exact b_ (DN (h_ ⟨_,rfl,"dict_keyiterator",_,⟨_,s_ _ rfl,rfl⟩,ED.lookup,by simpa[Fd] using k⟩))
theorem pH{e:EG}{Q:Option g_->k_->Prop}(I:s.heap.IsKeyIter q d i es.size ep)(z:se s.heap d es ep)(b:es[i]?=a_ e)(k:∀h',h'.IsKeyIter q d (i+1) es.size ep->FP q s.heap h'->Q (a_ e.key) {s with heap:=h'}):w_ (B_ prog w) A (G9 (.ref q)) Q E s:=by
 obtain⟨c,q1,q2,J⟩:=id I;obtain⟨od,Y,f,U⟩:=z;unfold G9;refine b_ (Ga (Ef (name:=FT "__next__") I.typeIs ED (DC ED I.typeIs IQ ?_ (II _))));refine b_ (h_ (b_ (b_ (b_ (FY I.typeIs (h_ ?_))))));refine b_ (Jr q1 J ?_);simp only[show EO "dict_keyiterator"=c_ by decide,CY,En];show w_ _ _ (if (x_ d==Dw)=e_ then _ else _) _ _ s;rw[l_ (show ¬((x_ d==Dw)=e_)from Dt)];refine b_ (h_ (b_ (Gf Y U ?_)));rw[l_ ad];refine b_ (h_ (b_ (GD Y U ?_)));rw[l_ ad];refine h_ ?_;simp only[show ¬((i:Int)<0)from by lia,En,Fz,b];refine b_ (b_ (FY I.typeIs (h_ (b_ (MA I.typeIs ?_)))));show w_ _ _ (Js (.ref q) 1 (Fd ((i:Int)+1)) >>= _) _ _ s;refine b_ (E7 q1 J ad ?_);have S:(s.heap.update q (FZ (·.setIfInBounds 1 (Fd ((i:Int)+1))))).IsKeyIter q d (i+1) es.size ep:=⟨_,EX _ q1 (E2 (EH J _)),(HJ ..).trans q2,by rw[EH J];simp[Fd]⟩
 have a:HA {s with heap:=s.heap.update q (FZ (·.setIfInBounds 1 (Fd ((i:Int)+1))))} (.ref q) "dict_keyiterator":=S.typeIs;refine b_ (Ez (b_ (MA a ?_)));show w_ _ _ (ER e.key) _ _ _;exact h_ (h_ ⟨_,rfl,h_ (k _ S (Fl ..))⟩)
theorem uc{Q:Option g_->k_->Prop}(hh:A.handled=f_)(I:s.heap.IsKeyIter q d i es.size ep)(z:se s.heap d es ep)(Y:es.size<=i)(k:∀h',EC q s.heap h'->Q f_ {s with heap:=h'}):w_ (B_ prog w) A (G9 (.ref q)) Q E s:=by
 obtain⟨c,q1,q2,J⟩:=id I;obtain⟨od,U,e,S⟩:=z;unfold G9;refine b_ (Ga (Ef (name:=FT "__next__") I.typeIs ED (DC ED I.typeIs IQ ?_ (II _))));refine b_ (h_ (b_ (b_ (b_ (FY I.typeIs (h_ ?_))))));refine b_ (Jr q1 J ?_);simp only[show EO "dict_keyiterator"=c_ by decide,CY,En];show w_ _ _ (if (x_ d==Dw)=e_ then _ else _) _ _ s;rw[l_ (show ¬((x_ d==Dw)=e_)from Dt)];refine b_ (h_ (b_ (Gf U S ?_)));rw[l_ ad];refine b_ (h_ (b_ (GD U S ?_)));rw[l_ ad];refine h_ ?_;simp only[show ¬((i:Int)<0)from by lia,En,Fz,FO Y];refine b_ (b_ (FY I.typeIs (h_ ?_)));show w_ _ _ (Js (.ref q) 0 .none >>= _) _ _ s;refine b_ (E7 q1 J ad ?_);show w_ _ _ (Nm (.type "StopIteration") [] >>= _) _ _ _;refine b_ ?_;simp only[Nm,newTuple];refine b_ (DN (b_ (m:=Lj _ _) (MM (a:=Dw) (by first|rfl|(simp only[firstArgMember];rfl)) (DN ?_ (by size_fits)))) (by size_fits));simp only[raiseNew];refine b_ (LB ?_);first|rw[show A.in1.handled=f_ from hh]|rw[hh]
 refine b_ (h_ (MK ?_));refine b_ (Gy (T:="StopIteration") (b:=e_) ⟨_,s_ _ rfl,rfl⟩ Lh ?_);exact h_ (k _ (((Fl ..).extBut.push _).push _))
end
section
open PySem.W hiding kindOf
noncomputable def rB:Bool->E_->Array E_->Nat->Nat->Nat->Md Eb Lb (Option Nat):=sortPriv% PySem.Builtin.gallop
noncomputable def mergeLo':Array E_->Array E_->Md Eb Lb (Array E_):=sortPriv% PySem.Builtin.mergeLo
noncomputable def mergeHi':Array E_->Array E_->Md Eb Lb (Array E_):=sortPriv% PySem.Builtin.mergeHi
variable{s:k_}{f:Nat->E_}{key:Nat->Int}
def zY(prog:D0)(w:Ew)(A:ES)(E:Vp)(s:k_)(κ:Kq)(f:Nat->E_)(key:Nat->Int)(n:Nat):Prop:=
 ∀i j (Q:Option Bool->Eb->Prop) st,i<n->j<n->GB st=κ->Q (a_ (ltK key i j)) st->Ja (B_ prog w) A E s (lt' (f i) (f j)) Q st
def InN(n:Nat)(p:aC):Prop:=∀x∈p,x<n
def aT{l:aC}{x:Nat}{Q:E_->Eb->Prop}(I:l[i]?=a_ x)(h:Q (f x) st):Ja (B_ prog w) A E s (elem' (l.map f).toArray i) Q st:=by
 rw[elem'_eq];have e:(l.map f).toArray[i]?=a_ (f x):=by simp[I]
 rw[e];exact CI h
theorem Ac(L:zY prog w A E s κ f key n){Y:Bool}{q:Nat}{base:Nat}{Q:Option Nat->Eb->Prop}(hq:q<n)(hp:InN n p)(hb:base+m<=p.length)(hh:hint<m)(hk:GB st=κ)(hs:∀i j,i<=j->j<m->key (p.getD (base+i) 0)<=key (p.getD (base+j) 0))(h:∀k,k<=m->(∀i,i<k->(if Y=e_ then ltK key (p.getD (base+i) 0) q else !ltK key q (p.getD (base+i) 0))=e_)->(∀i,k<=i->i<m->(if Y=e_ then ltK key (p.getD (base+i) 0) q else !ltK key q (p.getD (base+i) 0))=c_)->Q (a_ k) st):
  Ja (B_ prog w) A E s (rB Y (f q) (p.map f).toArray base m hint) Q st:=by
 obtain⟨U,D⟩:∃U:Nat->Bool,U=λi=>if Y=e_ then ltK key (p.getD (base+i) 0) q else !ltK key q (p.getD (base+i) 0):=⟨_,rfl⟩
 have h':∀k,k<=m->(∀i,i<k->U i=e_)->(∀i,k<=i->i<m->U i=c_)->Q (a_ k) st:=by rw[D];exact h
 have r:∀i j,i<=j->j<m->U j=e_->U i=e_:=λi j C hj e=>by have:=hs i j C hj;rw[D]at e ⊢;dsimp only at e ⊢;unfold ltK at e ⊢;cases Y<;>simp[-CH]at e ⊢<;>lia
 have g:∀i j,i<=j->j<m->U i=c_->U j=c_:=λi j C hj e=>by
  cases ej:U j with
  |false=>rfl|true=>rw[r i j C hj ej]at e;exact e
 have y:∀(i:Nat) (R:Option Bool->Eb->Prop),i<m->R (a_ (U i)) st->Ja (B_ prog w) A E s (do
   let x <- elem' (p.map f).toArray (base+i)
   if Y=e_ then lt' x (f q)else do
    let l <- lt' (f q) x
    ER (Option.map (λb=> !b) l)) R st:=λi R hi z=>by
  have Z:base+i<p.length:=ac
  have O:p[base+i]?=a_ (p.getD (base+i) 0):=by simp[Z]
  have G:p.getD (base+i) 0<n:=hp _ (by rw[show p.getD (base+i) 0=p[base+i] by simp[Z]];exact D7 Z);refine z_ (aT O ?_);rw[D]at z;dsimp only at z;cases Y with
  |true=>exact L _ _ _ _ G hq hk z|false=>exact z_ (L _ _ _ _ hq G hk (CI z))
 refine z_ (y hint _ hh ?_);dsimp only;have N:∀lo hi,lo<=hi->hi<=m->(∀i,i<lo->U i=e_)->(∀i,hi<=i->i<m->U i=c_)->∀{F:Nat->Option (Option Nat)×Nat×Nat->Md Eb Lb (Hi (Option (Option Nat)×Nat×Nat))},(∀x lo hi (R:Hi (Option (Option Nat)×Nat×Nat)->Eb->Prop),lo<=hi->hi<=m->(lo>=hi->R (.done (f_,lo,hi)) st)->(lo<hi->U (lo+(hi-lo)/2)=e_->R (.yield (f_,lo+(hi-lo)/2+1,hi)) st)->(lo<hi->U (lo+(hi-lo)/2)=c_->R (.yield (f_,lo,lo+(hi-lo)/2)) st)->Ja (B_ prog w) A E s (F x (f_,lo,hi)) R st) ->
   Ja (B_ prog w) A E s (Mb [0:m] (f_,lo,hi) F) (λc J=>J=st/\∃lo k,c=(f_,lo,k)/\Q (a_ k) st) st:=λlo hi h1 h2 h3 h4 F hF=>by
  refine Er (I:=λx c J=>J=st/\∃lo hi,c=(f_,lo,hi)/\lo<=hi/\hi<=m/\hi-lo+x<=m/\(∀i,i<lo->U i=e_)/\(∀i,hi<=i->i<m->U i=c_)) ?step ?fin ⟨rfl,lo,hi,rfl,h1,h2,ac,h3,h4⟩
  case fin=>
   rintro c J ⟨rfl,lo,hi,rfl,d,a,t,u,T⟩;have:lo=hi:=ac
   subst this;exact⟨rfl,_,_,rfl,h' lo a u T⟩
  case step=>
   rintro x c J _ O ⟨rfl,lo,hi,rfl,d,a,t,u,T⟩;refine hF x lo hi _ d a (λe=>?_) (λe eb=>?_) (λe eb=>?_)
   .have:lo=hi:=ac
    subst this;exact⟨rfl,_,_,rfl,h' lo a u T⟩
   .exact⟨rfl,_,_,rfl,ac,a,ac,λi hi'=>r i _ ac ac eb,T⟩
   .exact⟨rfl,_,_,rfl,ac,ac,ac,u,λi P K=>g _ i P K eb⟩
 cases z:U hint with
 |true=>
  simp only[FK];refine z_ (ET (Er (I:=λx c J=>J=st/\∃S o,c=(f_,S,o)/\U (hint+S)=e_/\S<o/\S<m-hint/\x+1<=o)
   (Q:=λc J=>J=st/\∃S o,c=(f_,S,o)/\U (hint+S)=e_/\S<o/\S<m-hint/\(o<m-hint->U (hint+o)=c_)) ?step ?fin ⟨rfl,0,1,rfl,z,ac,ac,ac⟩) ?post)
  case fin=>rintro c J ⟨rfl,S,o,rfl,d,a,t,u⟩;exact⟨rfl,S,o,rfl,d,a,t,λe=>by lia⟩
  case step=>
   rintro x c J _ O ⟨rfl,S,o,rfl,d,a,t,u⟩;dsimp only;by_cases H:o>=m-hint
   .rw[n_ H];exact CI ⟨rfl,S,o,rfl,d,a,t,λe=>by lia⟩
   .rw[l_ H];refine z_ (y (hint+o) _ ac ?_);dsimp only;cases v:U (hint+o)with
    |false=>exact CI ⟨rfl,S,o,rfl,d,a,t,λ_=>v⟩|true=>exact CI ⟨rfl,o,2*o+1,rfl,v,ac,ac,ac⟩
  case post=>
   rintro c J ⟨rfl,S,o,rfl,d,a,t,u⟩;dsimp only;refine z_ (ET (N _ _ ac ac (λi hi=>r i _ ac ac d) (λi P K=>?_) ?body) ?post2)
   .have B:o<m-hint:=ac
    exact g (hint+o) i ac K (u B)
   case post2=>rintro c J ⟨rfl,lo,k,rfl,hQ⟩;exact CI hQ
   case body=>
    intro x lo hi R b1 b2 X r2 W;dsimp only;by_cases e:lo>=hi
    .rw[n_ e];exact CI (X e)
    .rw[l_ e];refine z_ (y _ _ ac ?_);cases v:U (lo+(hi-lo)/2)with
     |true=>exact CI (r2 ac v)|false=>exact CI (W ac v)
 |false=>
  simp only[CY,En];refine z_ (ET (Er (I:=λx c J=>J=st/\∃S o,c=(f_,S,o)/\U (hint-S)=c_/\S<o/\S<hint+1/\x+1<=o)
   (Q:=λc J=>J=st/\∃S o,c=(f_,S,o)/\U (hint-S)=c_/\S<o/\S<hint+1/\(o<hint+1->U (hint-o)=e_)) ?step ?fin ⟨rfl,0,1,rfl,z,ac,ac,ac⟩) ?post)
  case fin=>rintro c J ⟨rfl,S,o,rfl,d,a,t,u⟩;exact⟨rfl,S,o,rfl,d,a,t,λe=>by lia⟩
  case step=>
   rintro x c J _ O ⟨rfl,S,o,rfl,d,a,t,u⟩;dsimp only;by_cases H:o>=hint+1
   .rw[n_ H];exact CI ⟨rfl,S,o,rfl,d,a,t,λe=>by lia⟩
   .rw[l_ H];refine z_ (y (hint-o) _ ac ?_);dsimp only;cases v:U (hint-o)with
    |true=>exact CI ⟨rfl,S,o,rfl,d,a,t,λ_=>v⟩|false=>exact CI ⟨rfl,o,2*o+1,rfl,v,ac,ac,ac⟩
  case post=>
   rintro c J ⟨rfl,S,o,rfl,d,a,t,u⟩;dsimp only;refine z_ (ET (N _ _ ac ac (λi hi=>?_) (λi P K=>g _ i P K d) ?body) ?post2)
   .have B:o<hint+1:=ac
    exact r i (hint-o) ac ac (u B)
   case post2=>rintro c J ⟨rfl,lo,k,rfl,hQ⟩;exact CI hQ
   case body=>
    intro x lo hi R b1 b2 X r2 W;dsimp only;by_cases e:lo>=hi
    .rw[n_ e];exact CI (X e)
    .rw[l_ e];refine z_ (y _ _ ac ?_);cases v:U (lo+(hi-lo)/2)with
     |true=>exact CI (r2 ac v)|false=>exact CI (W ac v)
end
section
open PySem.W hiding kindOf
variable{s:k_}{f:Nat->E_}{key:Nat->Int}
def Srt(key:Nat->Int)(l:aC):Prop:=l.Pairwise λx y=>key x<=key y
def Srt.sub{l r:aC}(h:Srt key l)(I:r.Sublist l):Srt key r:=J5 I h
theorem wd(L:zY prog w A E s κ f key n){I:Bool}{q:Nat}{base:Nat}{Q:Option Nat->Eb->Prop}(g:q<n)(l:InN n p)(y:base+m<=p.length)(u:hint<m)(o:GB st=κ)(e:Srt key ((p.drop base).take m))(h:∀k,k<=m->(∀x∈((p.drop base).take m).take k,(if I=e_ then ltK key x q else !ltK key q x)=e_)->(∀x∈((p.drop base).take m).drop k,(if I=e_ then ltK key x q else !ltK key q x)=c_)->Q (a_ k) st):
  Ja (B_ prog w) A E s (rB I (f q) (p.map f).toArray base m hint) Q st:=by
 have U:∀i (hi:i<m),((p.drop base).take m)[i]?=a_ (p.getD (base+i) 0):=λi hi=>by
  rw[K0 hi,Ma];have:base+i<p.length:=ac
  simp[this]
 refine Ac L g l y u o (λi j t r=>?_) λk b h1 h2=>h k b (λx Y=>?_) (λx Y=>?_)
 .rcases Lr i j with a|v
  .obtain⟨d,S⟩:=y_.mp (U i ac);obtain⟨c,z⟩:=y_.mp (U j r);rw[<- S,<- z];exact HC.mp e i j d c a
  .rw[show i=j by lia];exact Eu _
 .obtain⟨i,hi,S⟩:=Hb Y;have J:i<k:=by simp at hi;lia
  have:=U i ac;rw[HG]at S;obtain⟨_,e2⟩:=y_.mp this;rw[<- S,e2];exact h1 i J
 .obtain⟨i,hi,S⟩:=Hb Y;have J:k+i<m:=by simp at hi;lia
  have:=U (k+i) J;rw[JO]at S;obtain⟨_,e2⟩:=y_.mp this;rw[<- S,e2];exact h2 (k+i) ac J
theorem Ae(L:zY prog w A E s κ f key n){I:Bool}{q:Nat}{base:Nat}{Q:Option Nat->Eb->Prop}(S:q<n)(U:InN n p)(b:hint<p.length-base)(a:GB st=κ)(J:Srt key (p.drop base))(h:∀k,base+k<=p.length->(∀x∈(p.drop base).take k,(if I=e_ then ltK key x q else !ltK key q x)=e_)->(∀x∈p.drop (base+k),(if I=e_ then ltK key x q else !ltK key q x)=c_)->Q (a_ k) st):
  Ja (B_ prog w) A E s (rB I (f q) (p.map f).toArray base (p.length-base) hint) Q st:=by
 have e:(p.drop base).take (p.length-base)=p.drop base:=Fb ad;refine wd L S U ac b a (by rw[e];exact J) λk Y h1 h2=>h k ac ?_ ?_
 .rwa [e]at h1
 .rwa [e,GI]at h2
structure MI(key:Nat->Int)(all out xs ys:aC):Prop where
 perm:(out++(xs++ys)).Perm all
 so:Srt key out
 sx:Srt key xs
 sy:Srt key ys
 ox:∀x∈out,∀y∈xs,key x<=key y
 oy:∀x∈out,∀y∈ys,key x<=key y
def MI.left{S u xs ys:aC}(h:MI key S out (u++xs) ys)(b:∀a∈u,∀y∈ys,key a<=key y):MI key S (out++u) xs ys:=by
 obtain⟨h1,h2,U,d,Y,c⟩:=h;unfold Srt at *;rw[Eh]at U;refine⟨by rw[Dp,<- Dp u];exact h1,?_,U.2.1,d,λx J y I=>?_,λx J y I=>?_⟩
 .exact Eh.mpr ⟨h2,U.1,λx J y I=>Y x J y (Et _ I)⟩
 .rcases DM.mp J with e|e
  .exact Y x e y (Dc _ I)
  .exact U.2.2 x e y I
 .rcases DM.mp J with e|e
  .exact c x e y I
  .exact b x e y I
def MI.right{S u xs ys:aC}(h:MI key S out xs (u++ys))(b:∀a∈u,∀y∈xs,key a<=key y):MI key S (out++u) xs ys:=by
 obtain⟨h1,h2,d,U,c,Y⟩:=h;unfold Srt at *;rw[Eh]at U;refine⟨?_,?_,d,U.2.1,λx J y I=>?_,λx J y I=>?_⟩
 .refine Lz ?_ h1;rw[Dp];refine List.Perm.append_left _ ?_;rw[<- Dp,<- Dp];exact List.Perm.append_right _ List.perm_append_comm
 .exact Eh.mpr ⟨h2,U.1,λx J y I=>Y x J y (Et _ I)⟩
 .rcases DM.mp J with e|e
  .exact c x e y I
  .exact b x e y I
 .rcases DM.mp J with e|e
  .exact Y x e y (Dc _ I)
  .exact U.2.2 x e y I
def MI.done{I xs ys:aC}(h:MI key I out xs ys)(S:∀a∈xs,∀y∈ys,key a<=key y):(out++xs++ys).Perm I/\Srt key (out++xs++ys):=by have h1:=MI.left (xs:=[]) (u:=xs) (by rw[DB];exact h) S;have h2:=MI.right (ys:=[]) (u:=ys) (by rw[DB];exact h1) (λ_ _ _ J=>CQ J Dq);exact⟨by have:=h2.perm;simpa using this,h2.so⟩
def MI.done2{I xs ys:aC}(h:MI key I out xs ys)(S:∀a∈ys,∀y∈xs,key a<=key y):(out++ys++xs).Perm I/\Srt key (out++ys++xs):=by have h1:=MI.right (ys:=[]) (u:=ys) (by rw[DB];exact h) S;have h2:=MI.left (xs:=[]) (u:=xs) (by rw[DB];exact h1) (λ_ _ _ J=>CQ J Dq);exact⟨by have:=h2.perm;simpa using this,h2.so⟩
def bu(st I:Eb):Prop:=∃g,I=Hh (GB st) (JY st) (Df st) g (HU st)
def bu.refl(st:Eb):bu st st:=⟨gallopOf st,rfl⟩
def bu.trans{a b c:Eb}(h:bu a b)(k:bu b c):bu a c:=by obtain⟨g,rfl⟩:=h;obtain⟨g',rfl⟩:=k;exact⟨g',rfl⟩
def bu.kind{a b:Eb}(h:bu a b):GB b=GB a:=by obtain⟨g,rfl⟩:=h;rfl
noncomputable def qB:Nat->Md Eb Lb Unit:=sortPriv% PySem.Builtin.setMinGallop
def Ag{g:Nat}{Q:Unit->Eb->Prop}(h:∀I,bu st I->Q () I):Ja (B_ prog w) A E s (qB g) Q st:=GO (h _ ⟨_,rfl⟩)
def gm(o:aC)(x:Nat):(o.map f).toArray.push (f x)=((o++[x]).map f).toArray:=by simp
def Cz(p:aC)(i:Nat):(p.map f).toArray.extract i (p.map f).toArray.size=((p.drop i).map f).toArray:=by simp[KS,KZ];rw[Fb];simp
def iS(p:aC)(i j:Nat):(p.map f).toArray.extract i j=(((p.drop i).take (j-i)).map f).toArray:=by simp[KS,KZ,Nw]
def gF(o p:aC):(o.map f).toArray++(p.map f).toArray=((o++p).map f).toArray:=by simp
end
section
open PySem.W hiding kindOf
variable{s:k_}{f:Nat->E_}{key:Nat->Int}
def uL(f:Nat->E_)(key:Nat->Int)(I:aC)(r:Array E_):Prop:=∃o:aC,r=(o.map f).toArray/\o.Perm I/\Srt key o
structure JL(f:Nat->E_)(key:Nat->Int)(pa pb:aC)(r:Array E_)(ia ib:Nat)(o:aC):Prop where
 arr:r=(o.map f).toArray
 mi:MI key (pa++pb) o (pa.drop ia) (pb.drop ib)
 la:ia+1<pa.length
 lb:ib<pb.length
 len:o.length=ia+ib
def GR(f:Nat->E_)(key:Nat->Int)(pa pb:aC)(st:Eb)(l:Nat)(r:Hi (Option (Array E_)×Array E_×Nat×Nat×Nat×Nat×Nat))(S:Eb):Prop:=
 bu st S/\(match r with
  |.done c=>(∃r,c.1=a_ r/\uL f key (pa++pb) r)\/∃r J I g Y U o,c=(f_,r,J,I,g,Y,U)/\JL f key pa pb r J I o/\l<=o.length
  |.yield c=>∃r J I g Y U o,c=(f_,r,J,I,g,Y,U)/\JL f key pa pb r J I o/\l+1<=o.length)
def Ah{M:Kl}{jp:Unit->Nat->Md Eb Lb α}{Q:α->Eb->Prop}{c:Prop}[Decidable c]{a b:Nat}(h:∀g,Ja M A E s (jp () g) Q st):Ja M A E s (if c then jp () a else jp () b) Q st:=by
 split
 .exact h _
 .exact h _
theorem yq(L:zY prog w A E s κ f key n){Q:Array E_->Eb->Prop}(na:InN n pa)(nb:InN n pb)(hk:GB st=κ)(sa:Srt key pa)(sb:Srt key pb)(la:0<pa.length)(lb:0<pb.length)(hf:∀y∈pa,key (pb.getD 0 0)<=key y)(hl:∀y∈pb,key y<=key (pa.getD (pa.length-1) 0))(h:∀r Y,bu st Y->uL f key (pa++pb) r->Q r Y):Ja (B_ prog w) A E s (mergeLo' (pa.map f).toArray (pb.map f).toArray) Q st:=by
 have zA:(pa.map f).toArray.size=pa.length:=by simp
 have zB:(pb.map f).toArray.size=pb.length:=by simp
 have eA:∀i,(pa.map f).toArray.extract i pa.length=((pa.drop i).map f).toArray:=λi=>by rw[<- Cz (f:=f),zA]
 have eB:∀i,(pb.map f).toArray.extract i pb.length=((pb.drop i).map f).toArray:=λi=>by rw[<- Cz (f:=f),zB]
 have gA:∀i,i<pa.length->pa[i]?=a_ (pa.getD i 0):=λi hi=>by simp[hi]
 have gB:∀i,i<pb.length->pb[i]?=a_ (pb.getD i 0):=λi hi=>by simp[hi]
 have dA:∀i,i<pa.length->pa.drop i=pa.getD i 0::pa.drop (i+1):=λi hi=>by rw[D3 hi];simp[hi]
 have dB:∀i,i<pb.length->pb.drop i=pb.getD i 0::pb.drop (i+1):=λi hi=>by rw[D3 hi];simp[hi]
 have mA:∀i,i<pa.length->pa.getD i 0<n:=λi hi=>na _ (DR (gA i hi));have mB:∀i,i<pb.length->pb.getD i 0<n:=λi hi=>nb _ (DR (gB i hi));have hd:∀{l:aC} {x:Nat} {r:aC},Srt key l->l=x::r->∀y∈l,key x<=key y:=λ{l x r} hs e y v=>by
  subst e;rcases r_.mp v with e|e
  .rw[e];exact Eu _
  .exact(D_.mp hs).1 y e
 have K:∀{o j p},MI key (pa++pb) o (pa.drop j) (pb.drop p)->j+1=pa.length->uL f key (pa++pb) ((o.map f).toArray++((pb.drop p).map f).toArray++((pa.drop j).map f).toArray):=λ{o j p} m e=>by
  rw[gF,gF];refine⟨_,rfl,MI.done2 m λx z y v=>?_⟩
  rw[dA j ac,EN ac]at v;rw[CO.mp v];have:=hl x (G3 z)
  rwa [show pa.length-1=j by lia]at this
 have fin:∀{o j p},MI key (pa++pb) o (pa.drop j) (pb.drop p)->(j=pa.length\/p=pb.length)->uL f key (pa++pb) ((o.map f).toArray++((pa.drop j).map f).toArray++((pb.drop p).map f).toArray):=λ{o j p} m e=>by
  rw[gF,gF];refine⟨_,rfl,MI.done m λx z y v=>?_⟩
  rcases e with e|e
  .rw[EN ac]at z;exact CQ z Dq
  .rw[EN ac]at v;exact CQ v Dq
 refine z_ (Jx (Fp ⟨rfl,?_⟩));refine z_ (aT (gB 0 lb) ?_);show Ja _ _ _ _ (ite _ _ _) _ _;have m0:MI key (pa++pb) [pb.getD 0 0] (pa.drop 0) (pb.drop 1):=by
  have m:MI key (pa++pb) [] pa pb:=⟨Fy _,E1,sa,sb,λ_ h=>CQ h Dq,λ_ h=>CQ h Dq⟩
  have:=MI.right (u:=[pb.getD 0 0]) (ys:=pb.drop 1) (by have e:=dB 0 lb;rw[Ek]at e;rw[D2,<- e];exact m) (λa ha y v=>by rw[CO.mp ha];exact hf y v);exact this
 have a0:(#[f (pb.getD 0 0)]:Array E_)=([pb.getD 0 0].map f).toArray:=rfl;rw[zA,zB,a0];by_cases c1:1=pb.length
 .rw[n_ (by simpa using c1)];dsimp only;rw[eA,eB];exact CI (h _ _ (bu.refl _) (fin m0 (.inr c1)))
 rw[l_ (by simpa using c1)];by_cases c2:0+1=pa.length
 .rw[n_ (by simpa using c2)];dsimp only;rw[eA,eB];exact CI (h _ _ (bu.refl _) (K m0 c2))
 rw[l_ (by simpa using c2)];refine z_ (Io ?_);refine z_ (ET (Er (I:=λx c Y=>bu st Y/\∃r j p g o,c=(f_,r,j,p,g)/\JL f key pa pb r j p o/\1+x<=o.length)
  (Q:=λc Y=>bu st Y/\∃r,c.1=a_ r/\uL f key (pa++pb) r) ?step ?fin ⟨bu.refl _,_,0,1,_,[pb.getD 0 0],rfl,⟨rfl,m0,ac,ac,rfl⟩,ad⟩) ?post)
 case post=>rintro c Y ⟨hs,r,e,hm⟩;obtain⟨c1,c2⟩:=c;cases e;exact CI (h _ _ hs hm)
 case fin=>rintro c Y ⟨hs,r,j,p,g,o,rfl,J,z⟩;have:=J.la;have:=J.lb;have:=J.len;lia
 case step=>
  rintro x c st1 _ z ⟨hs,r,j,p,g,o,rfl,J,hlen⟩;have hk1:GB st1=κ:=hs.kind.trans hk;refine z_ (ET (Er (I:=λy c Y=>Y=st1/\∃r j p G F q,c=(f_,r,j,p,G,F)/\JL f key pa pb r j p q/\o.length+y<=q.length)
   (Q:=λc Y=>Y=st1/\((∃r,c.1=a_ r/\uL f key (pa++pb) r)\/∃r j p G F q,c=(f_,r,j,p,G,F)/\JL f key pa pb r j p q/\o.length+1<=q.length)) ?step1 ?fin1 ⟨rfl,r,j,p,_,_,o,rfl,J,ac⟩) ?post1)
  case fin1=>rintro c Y ⟨rfl,r,j,p,G,F,q,rfl,J1,hx1⟩;have:=J1.la;have:=J1.lb;have:=J1.len;lia
  case step1=>
   rintro y c Y _ v ⟨rfl,r1,d,b,G,F,q,rfl,J1,hx1⟩;dsimp only;obtain⟨rfl,m1,la1,W,len1⟩:=J1;refine z_ (aT (gB b W) (z_ (aT (gA d ac) (z_ (L _ _ _ _ (mB b W) (mA d ac) hk1 ?_)))));dsimp only;cases hw:ltK key (pb.getD b 0) (pa.getD d 0)with
   |true=>
    simp only[FK];have hw':key (pb.getD b 0)<key (pa.getD d 0):=Jn hw;have m2:MI key (pa++pb) (q++[pb.getD b 0]) (pa.drop d) (pb.drop (b+1)):=by refine MI.right (by rw[D2,<- dB b W];exact m1) λx z y v=>?_;rw[CO.mp z];have:=hd m1.sx (dA d ac) y v;lia
    refine z_ (aT (gB b W) ?_);rw[gm];by_cases Z:b+1=pb.length
    .rw[n_ (by simpa using Z),eA,eB];exact CI ⟨rfl,.inl ⟨_,rfl,fin m2 (.inr Z)⟩⟩
    .rw[l_ (by simpa using Z)];have O:JL f key pa pb ((q++[pb.getD b 0]).map f).toArray d (b+1) (q++[pb.getD b 0]):=⟨rfl,m2,la1,ac,by simp;lia⟩
     split
     .exact CI ⟨rfl,.inr ⟨_,_,_,_,_,_,rfl,O,by simp;lia⟩⟩
     .exact CI ⟨rfl,_,_,_,_,_,_,rfl,O,by simp;lia⟩
   |false=>
    simp only[CY,En];have hw':¬key (pb.getD b 0)<key (pa.getD d 0):=of_decide_eq_false hw;have m2:MI key (pa++pb) (q++[pa.getD d 0]) (pa.drop (d+1)) (pb.drop b):=by refine MI.left (by rw[D2,<- dA d ac];exact m1) λx z y v=>?_;rw[CO.mp z];have:=hd m1.sy (dB b ac) y v;lia
    refine z_ (aT (gA d ac) ?_);rw[gm];by_cases Z:d+1+1=pa.length
    .rw[n_ (by simpa using Z),eA,eB];exact CI ⟨rfl,.inl ⟨_,rfl,K m2 Z⟩⟩
    .rw[l_ (by simpa using Z)];have O:JL f key pa pb ((q++[pa.getD d 0]).map f).toArray (d+1) b (q++[pa.getD d 0]):=⟨rfl,m2,ac,W,by simp;lia⟩
     split
     .exact CI ⟨rfl,.inr ⟨_,_,_,_,_,_,rfl,O,by simp;lia⟩⟩
     .exact CI ⟨rfl,_,_,_,_,_,_,rfl,O,by simp;lia⟩
  case post1=>
   rintro c Y ⟨rfl,hc⟩;rcases hc with⟨r1,e,hm⟩|⟨r1,d,b,G,F,q,rfl,J1,hx1⟩
   .obtain⟨c1,c2⟩:=c;cases e;exact CI ⟨hs,r1,rfl,hm⟩
   refine z_ (Jx (Fp ⟨rfl,?_⟩));refine z_ (ET (Er (I:=λy c Y=>bu st Y/\∃r j p g G F C,c=(f_,r,j,p,g,G,F)/\JL f key pa pb r j p C/\q.length+y<=C.length)
    (Q:=λc Y=>bu st Y/\((∃r,c.1=a_ r/\uL f key (pa++pb) r)\/∃r j p g G F C,c=(f_,r,j,p,g,G,F)/\JL f key pa pb r j p C/\q.length<=C.length)) ?step2 ?fin2 ⟨hs,r1,d,b,_,_,_,q,rfl,J1,ac⟩) ?post2)
   case fin2=>rintro c Y ⟨N,r,j,p,g,G,F,C,rfl,O,hx2⟩;have:=O.la;have:=O.lb;have:=O.len;lia
   case post2=>
    rintro c Y ⟨N,hc⟩;rcases hc with⟨r2,e,hm⟩|⟨r2,ia2,ib2,g2,G,F,C,rfl,O,hx2⟩
    .obtain⟨c1,c2⟩:=c;cases e;exact CI ⟨N,r2,rfl,hm⟩
    .refine z_ (GO (CI ⟨N.trans ⟨_,rfl⟩,_,_,_,_,C,rfl,O,ac⟩))
   case step2=>
    rintro y c st2 _ v ⟨N,r2,ia2,ib2,g2,G,F,C,rfl,O,hx2⟩;have hk2:GB st2=κ:=N.kind.trans hk;obtain⟨rfl,m2,la2,T,len2⟩:=O;refine ET (Q:=GR f key pa pb st (q.length+y)) ?_ ?conv
    case conv=>
     rintro r Y ⟨hs',hr⟩;cases r with
     |done c=>
      refine⟨hs',?_⟩
      rcases hr with hr|⟨r,j,p,g,G,F,C,e,J,hl⟩
      .exact .inl hr
      .exact .inr ⟨r,j,p,g,G,F,C,e,J,ac⟩
     |yield c=>exact⟨hs',hr⟩
    extract_lets s1 out s2 t s3 S s4 g3 s5 ac3 bc3 ib4 jp
    have e1:out=(C.map f).toArray:=rfl;have e2:t=ia2:=rfl;have e3:S=ib2:=rfl;have e4:ib4=S+1:=rfl
    clear_value ib4 out t S g3 ac3 bc3
    clear s1 s2 s3 s4 s5;subst e1 e2 e3 e4;refine Ah (jp:=jp) λg'=>?_;refine z_ (Ag λst3 hs3=>?_);have hk3:GB st3=κ:=hs3.kind.trans hk2;have D:bu st st3:=N.trans hs3;clear jp;refine z_ (aT (gB S T) (z_ (Ae L (mB S T) na ac hk3 m2.sx λk hkl t1 t2=>?_)));have m3:MI key (pa++pb) (C++(pa.drop t).take k) (pa.drop (t+k)) (pb.drop S):=by refine MI.left (by rw[<- GI,D1];exact m2) λx z y v=>?_;have e1:=t1 x z;have e2:=hd m2.sy (dB S T) y v;simp[ltK,-CH]at e1;lia
    have X:∀x∈pa.drop (t+k),key (pb.getD S 0)<=key x:=λx z=>by have e1:=t2 x z;simp[ltK,-CH]at e1;lia
    clear t1 t2;have H:(C++(pa.drop t).take k).length=t+k+S:=by simp;lia
    dsimp -zeta only
    extract_lets ak jp out j
    have eo:out=((C++(pa.drop t).take k).map f).toArray:=by show _++_=_;rw[iS,gF,FJ]
    have ei:j=t+k:=rfl
    clear_value out j ak
    subst eo ei;have hj:∀o3 U,MI key (pa++pb) o3 (pa.drop U) (pb.drop S)->(∀x∈pa.drop U,key (pb.getD S 0)<=key x)->o3.length=U+S->U+1<pa.length->q.length+y<=o3.length->Ja (B_ prog w) A E s (jp () (o3.map f).toArray U) (GR f key pa pb st (q.length+y)) st3:=by
     intro o3 U m3 X H la4 hl3;refine z_ (aT (gB S T) ?_);clear jp;rw[gm];have m4:MI key (pa++pb) (o3++[pb.getD S 0]) (pa.drop U) (pb.drop (S+1)):=by refine MI.right (by rw[D2,<- dB S T];exact m3) λx z y v=>?_;rw[CO.mp z];exact X y v
     have R:(o3++[pb.getD S 0]).length=U+(S+1):=by simp;lia
     have hl4:q.length+y+1<=(o3++[pb.getD S 0]).length:=by rw[R];lia
     generalize o3++[pb.getD S 0]=o4 at m4 R hl4 ⊢;clear m3 X H hl3
     extract_lets out ia5
     have eo:out=(o4.map f).toArray:=rfl;have ei:ia5=U+1:=rfl
     clear_value out ia5
     subst eo ei;by_cases c6:S+1=pb.length
     .rw[n_ (by simpa using c6),eA,eB];exact CI ⟨D,.inl ⟨_,rfl,fin m4 (.inr c6)⟩⟩
     rw[l_ (by simpa using c6)];refine z_ (aT (gA U ac) (z_ (Ae L (mA U ac) nb ac hk3 m4.sy λk2 hkl2 t1 t2=>?_)));have m5:MI key (pa++pb) (o4++(pb.drop (S+1)).take k2) (pa.drop U) (pb.drop (S+1+k2)):=by refine MI.right (by rw[<- GI (i:=k2),D1];exact m4) λx z y v=>?_;have e1:=t1 x z;have e2:=hd m4.sx (dA U ac) y v;simp[ltK,-CH]at e1;lia
     have X:∀x∈pb.drop (S+1+k2),key (pa.getD U 0)<=key x:=λx z=>by have e1:=t2 x z;simp[ltK,-CH]at e1;lia
     clear t1 t2;have P:(o4++(pb.drop (S+1)).take k2).length=U+(S+1+k2):=by simp;lia
     dsimp -zeta only
     extract_lets bk jp out p
     have eo:out=((o4++(pb.drop (S+1)).take k2).map f).toArray:=by show _++_=_;rw[iS,gF,FJ]
     have ei:p=S+1+k2:=rfl
     clear_value out p bk
     subst eo ei;have hj:∀o5 B,MI key (pa++pb) o5 (pa.drop U) (pb.drop B)->(∀x∈pb.drop B,key (pa.getD U 0)<=key x)->o5.length=U+B->B<pb.length->q.length+y+1<=o5.length->Ja (B_ prog w) A E s (jp () (o5.map f).toArray B) (GR f key pa pb st (q.length+y)) st3:=by
      intro o5 B m5 X P lb5 hl5;refine z_ (aT (gA U ac) ?_);clear jp;rw[gm];have m6:MI key (pa++pb) (o5++[pa.getD U 0]) (pa.drop (U+1)) (pb.drop B):=by refine MI.left (by rw[D2,<- dA U ac];exact m5) λx z y v=>?_;rw[CO.mp z];exact X y v
      have len6:(o5++[pa.getD U 0]).length=U+1+B:=by simp;lia
      generalize o5++[pa.getD U 0]=o6 at m6 len6 ⊢
      extract_lets out
      by_cases c7:U+1+1=pa.length
      .rw[n_ (by simpa using c7),eA,eB];exact CI ⟨D,.inl ⟨_,rfl,K m6 c7⟩⟩
      rw[l_ (by simpa using c7)];have J6:JL f key pa pb (o6.map f).toArray (U+1) B o6:=⟨rfl,m6,ac,lb5,len6⟩
      split
      .exact CI ⟨D,.inr ⟨_,_,_,_,_,_,o6,rfl,J6,ac⟩⟩
      .exact CI ⟨D,_,_,_,_,_,_,o6,rfl,J6,ac⟩
     by_cases c7:k2>0
     .rw[n_ c7];by_cases c8:S+1+k2=pb.length
      .rw[n_ (by simpa using c8),eA,eB];exact CI ⟨D,.inl ⟨_,rfl,fin m5 (.inr c8)⟩⟩
      rw[l_ (by simpa using c8)];exact hj _ _ m5 X P ac (by rw[P];lia)
     .rw[l_ c7];have ek:k2=0:=ac
      subst ek;rw[Ht,DB]at m5;exact hj _ _ m5 X R ac hl4
    by_cases Z:k>0
    .rw[n_ Z];by_cases c4:t+k+1=pa.length
     .rw[n_ (by simpa using c4),eA,eB];exact CI ⟨D,.inl ⟨_,rfl,K m3 c4⟩⟩
     rw[l_ (by simpa using c4)];by_cases c5:t+k=pa.length
     .rw[n_ (by simpa using c5),eA,eB];exact CI ⟨D,.inl ⟨_,rfl,fin m3 (.inl c5)⟩⟩
     rw[l_ (by simpa using c5)];exact hj _ _ m3 X H ac (by rw[H];lia)
    .rw[l_ Z];have ek:k=0:=ac
     subst ek;rw[Ht,DB]at m3;exact hj _ _ m3 X len2 la2 hx2
end
section
open PySem.W hiding kindOf
variable{s:k_}{f:Nat->E_}{key:Nat->Int}
theorem Ad(L:zY prog w A E s κ f key n){I:Bool}{q:Nat}{Q:Option Nat->Eb->Prop}(U:q<n)(Y:InN n p)(c:m<=p.length)(b:hint<m)(a:GB st=κ)(S:Srt key (p.take m))(h:∀k,k<=m->(∀x∈p.take k,(if I=e_ then ltK key x q else !ltK key q x)=e_)->(∀x∈(p.take m).drop k,(if I=e_ then ltK key x q else !ltK key q x)=c_)->Q (a_ k) st):
  Ja (B_ prog w) A E s (rB I (f q) (p.map f).toArray 0 m hint) Q st:=by
 refine wd L U Y ac b a (by rw[Ek];exact S) λk J h1 h2=>h k J ?_ ?_
 .rwa [Ek,Kx,GA J]at h1
 .rwa [Ek]at h2
noncomputable def neg(key:Nat->Int)(x:Nat):Int:= -key x
theorem uQ{l:aC}:Srt (neg key) l↔Srt key l.reverse:=by
 unfold Srt;rw[List.pairwise_reverse];constructor
 .exact λh=>h.imp λ{a b} h=>by unfold neg at h;lia
 .exact λh=>h.imp λ{a b} h=>by unfold neg;lia
structure JH(f:Nat->E_)(key:Nat->Int)(pa pb:aC)(r:Array E_)(na nb:Nat)(o:aC):Prop where
 arr:r=(o.map f).toArray
 mi:MI (neg key) (pa++pb) o (pa.take na).reverse (pb.take nb).reverse
 la:0<na
 lb:1<nb
 za:na<=pa.length
 zb:nb<=pb.length
 len:o.length+na+nb=pa.length+pb.length
def GH(f:Nat->E_)(key:Nat->Int)(pa pb:aC)(st:Eb)(l:Nat)(r:Hi (Option (Array E_)×Nat×Nat×Array E_×Nat×Nat×Nat))(S:Eb):Prop:=
 bu st S/\(match r with
  |.done c=>(∃r,c.1=a_ r/\uL f key (pa++pb) r)\/∃r J I g Y U o,c=(f_,J,I,r,g,Y,U)/\JH f key pa pb r J I o/\l<=o.length
  |.yield c=>∃r J I g Y U o,c=(f_,J,I,r,g,Y,U)/\JH f key pa pb r J I o/\l+1<=o.length)
theorem yr(L:zY prog w A E s κ f key n){Q:Array E_->Eb->Prop}(na:InN n pa)(nb:InN n pb)(hk:GB st=κ)(sa:Srt key pa)(sb:Srt key pb)(la:0<pa.length)(lb:0<pb.length)(hf:∀y∈pa,key (pb.getD 0 0)<=key y)(hl:∀y∈pb,key y<=key (pa.getD (pa.length-1) 0))(h:∀r Y,bu st Y->uL f key (pa++pb) r->Q r Y):Ja (B_ prog w) A E s (mergeHi' (pa.map f).toArray (pb.map f).toArray) Q st:=by
 have zA:(pa.map f).toArray.size=pa.length:=by simp
 have zB:(pb.map f).toArray.size=pb.length:=by simp
 have eA:∀i,(pa.map f).toArray.extract 0 i=((pa.take i).map f).toArray:=λi=>by rw[iS,Ek,Iw]
 have eB:∀i,(pb.map f).toArray.extract 0 i=((pb.take i).map f).toArray:=λi=>by rw[iS,Ek,Iw]
 have eR:∀q:aC,(q.map f).toArray.reverse=(q.reverse.map f).toArray:=λq=>by simp
 have gA:∀i,i<pa.length->pa[i]?=a_ (pa.getD i 0):=λi hi=>by simp[hi]
 have gB:∀i,i<pb.length->pb[i]?=a_ (pb.getD i 0):=λi hi=>by simp[hi]
 have dA:∀i,0<i->i<=pa.length->(pa.take i).reverse=pa.getD (i-1) 0::(pa.take (i-1)).reverse:=λi h0 hi=>by
  obtain⟨j,rfl⟩:∃j,i=j+1:=⟨i-1,ac⟩
  rw[JK ac,Ha];have:j<pa.length:=ac
  simp[this]
 have dB:∀i,0<i->i<=pb.length->(pb.take i).reverse=pb.getD (i-1) 0::(pb.take (i-1)).reverse:=λi h0 hi=>by
  obtain⟨j,rfl⟩:∃j,i=j+1:=⟨i-1,ac⟩
  rw[JK ac,Ha];have:j<pb.length:=ac
  simp[this]
 have mA:∀i,i<pa.length->pa.getD i 0<n:=λi hi=>na _ (DR (gA i hi));have mB:∀i,i<pb.length->pb.getD i 0<n:=λi hi=>nb _ (DR (gB i hi));have hd:∀{l:aC} {x:Nat} {r:aC},Srt (neg key) l->l=x::r->∀y∈l,key y<=key x:=λ{l x r} hs e y D=>by
  subst e;rcases r_.mp D with e|e
  .rw[e];exact Eu _
  .have:=(D_.mp hs).1 y e;unfold neg at this;lia
 have out:∀{q u v:aC},(q++u.reverse++v.reverse).Perm (pa++pb)/\Srt (neg key) (q++u.reverse++v.reverse)->uL f key (pa++pb) ((v.map f).toArray++(u.map f).toArray++(q.map f).toArray.reverse):=λ{q u v} hh=>by
  have e:(q++u.reverse++v.reverse).reverse=v++u++q.reverse:=by simp
  rw[eR,gF,gF];refine⟨_,rfl,?_,?_⟩
  .rw[<- e];exact(JM _).trans hh.1
  .rw[<- e];exact uQ.mp hh.2
 have first:∀{o t d},MI (neg key) (pa++pb) o (pa.take t).reverse (pb.take d).reverse->d=1->uL f key (pa++pb) (((pb.take d).map f).toArray++((pa.take t).map f).toArray++(o.map f).toArray.reverse):=λ{o t d} m e=>by refine out (MI.done m λx F y D=>?_);subst e;rw[dB 1 ac ac,Ht]at D;rw[CO.mp D];have:=hf x (Fv (Gj.mp F));unfold neg;rw[Hm];lia
 have fin:∀{o t d},MI (neg key) (pa++pb) o (pa.take t).reverse (pb.take d).reverse->(t=0\/d=0)->uL f key (pa++pb) (((pa.take t).map f).toArray++((pb.take d).map f).toArray++(o.map f).toArray.reverse):=λ{o t d} m e=>by
  refine out (MI.done2 m λx F y D=>?_);rcases e with e|e
  .subst e;rw[Ht]at D;exact CQ D Dq
  .subst e;rw[Ht]at F;exact CQ F Dq
 refine z_ (Jx (Fp ⟨rfl,?_⟩));rw[zA,zB];refine z_ (aT (gA (pa.length-1) ac) ?_);show Ja _ _ _ _ (ite _ _ _) _ _;have m0:MI (neg key) (pa++pb) [pa.getD (pa.length-1) 0] (pa.take (pa.length-1)).reverse (pb.take pb.length).reverse:=by
  have m:MI (neg key) (pa++pb) [] (pa.take pa.length).reverse (pb.take pb.length).reverse:=by rw[Gi,Gi];refine⟨by rw[Fs];exact List.Perm.append (JM _) (JM _),E1,uQ.mpr (by rw[Ly];exact sa),uQ.mpr (by rw[Ly];exact sb),λ_ h=>CQ h Dq,λ_ h=>CQ h Dq⟩
  have:=MI.left (u:=[pa.getD (pa.length-1) 0]) (xs:=(pa.take (pa.length-1)).reverse) (by have e:=dA pa.length la (m_ _);rw[D2,<- e];exact m) (λa ha y D=>by rw[CO.mp ha];have:=hl y (Fv (Gj.mp D));unfold neg;lia)
  exact this
 have a0:(#[f (pa.getD (pa.length-1) 0)]:Array E_)=([pa.getD (pa.length-1) 0].map f).toArray:=rfl;rw[a0];by_cases c1:pa.length-1=0
 .rw[n_ (by simpa using c1)];dsimp only;rw[eA,eB];exact CI (h _ _ (bu.refl _) (fin m0 (.inl c1)))
 rw[l_ (by simpa using c1)];by_cases c2:pb.length=1
 .rw[n_ (by simpa using c2)];dsimp only;rw[eA,eB];exact CI (h _ _ (bu.refl _) (first m0 c2))
 rw[l_ (by simpa using c2)];refine z_ (Io ?_);refine z_ (ET (Er (I:=λx c Y=>bu st Y/\∃r t d g o,c=(f_,t,d,r,g)/\JH f key pa pb r t d o/\1+x<=o.length)
  (Q:=λc Y=>bu st Y/\∃r,c.1=a_ r/\uL f key (pa++pb) r) ?step ?fin ⟨bu.refl _,_,_,_,_,[pa.getD (pa.length-1) 0],rfl,⟨rfl,m0,ac,ac,ac,ac,by simp;lia⟩,ad⟩) ?post)
 case post=>rintro c Y ⟨hs,r,e,hm⟩;obtain⟨c1,c2⟩:=c;cases e;exact CI (h _ _ hs hm)
 case fin=>rintro c Y ⟨hs,r,t,d,g,o,rfl,J,F⟩;have:=J.la;have:=J.lb;have:=J.len;lia
 case step=>
  rintro x c st1 _ F ⟨hs,r,t,d,g,o,rfl,J,hlen⟩;have hk1:GB st1=κ:=hs.kind.trans hk;refine z_ (ET (Er (I:=λy c Y=>Y=st1/\∃r t d O N C,c=(f_,t,d,r,O,N)/\JH f key pa pb r t d C/\o.length+y<=C.length)
   (Q:=λc Y=>Y=st1/\((∃r,c.1=a_ r/\uL f key (pa++pb) r)\/∃r t d O N C,c=(f_,t,d,r,O,N)/\JH f key pa pb r t d C/\o.length+1<=C.length)) ?step1 ?fin1 ⟨rfl,r,t,d,_,_,o,rfl,J,ac⟩) ?post1)
  case fin1=>rintro c Y ⟨rfl,r,t,d,O,N,C,rfl,J1,hx1⟩;have:=J1.la;have:=J1.lb;have:=J1.len;lia
  case step1=>
   rintro y c Y _ D ⟨rfl,r1,p,b,O,N,C,rfl,J1,hx1⟩;dsimp only;obtain⟨rfl,m1,la1,lb1,za1,zb1,len1⟩:=J1;refine z_ (aT (gB (b-1) ac) (z_ (aT (gA (p-1) ac) (z_ (L _ _ _ _ (mB (b-1) ac) (mA (p-1) ac) hk1 ?_)))));dsimp only;cases hw:ltK key (pb.getD (b-1) 0) (pa.getD (p-1) 0)with
   |true=>
    simp only[FK];have hw':key (pb.getD (b-1) 0)<key (pa.getD (p-1) 0):=Jn hw;have m2:MI (neg key) (pa++pb) (C++[pa.getD (p-1) 0]) (pa.take (p-1)).reverse (pb.take b).reverse:=by refine MI.left (by rw[D2,<- dA p la1 za1];exact m1) λx F y D=>?_;rw[CO.mp F];have:=hd m1.sy (dB b ac zb1) y D;unfold neg;lia
    refine z_ (aT (gA (p-1) ac) ?_);rw[gm];by_cases X:p-1=0
    .rw[n_ (by simpa using X),eA,eB];exact CI ⟨rfl,.inl ⟨_,rfl,fin m2 (.inl X)⟩⟩
    .rw[l_ (by simpa using X)];have R:JH f key pa pb ((C++[pa.getD (p-1) 0]).map f).toArray (p-1) b (C++[pa.getD (p-1) 0]):=⟨rfl,m2,ac,lb1,ac,zb1,by simp;lia⟩
     split
     .exact CI ⟨rfl,.inr ⟨_,_,_,_,_,_,rfl,R,by simp;lia⟩⟩
     .exact CI ⟨rfl,_,_,_,_,_,_,rfl,R,by simp;lia⟩
   |false=>
    simp only[CY,En];have hw':¬key (pb.getD (b-1) 0)<key (pa.getD (p-1) 0):=of_decide_eq_false hw;have m2:MI (neg key) (pa++pb) (C++[pb.getD (b-1) 0]) (pa.take p).reverse (pb.take (b-1)).reverse:=by refine MI.right (by rw[D2,<- dB b ac zb1];exact m1) λx F y D=>?_;rw[CO.mp F];have:=hd m1.sx (dA p la1 za1) y D;unfold neg;lia
    refine z_ (aT (gB (b-1) ac) ?_);rw[gm];by_cases X:b-1=1
    .rw[n_ (by simpa using X),eA,eB];exact CI ⟨rfl,.inl ⟨_,rfl,first m2 X⟩⟩
    .rw[l_ (by simpa using X)];have R:JH f key pa pb ((C++[pb.getD (b-1) 0]).map f).toArray p (b-1) (C++[pb.getD (b-1) 0]):=⟨rfl,m2,la1,ac,za1,ac,by simp;lia⟩
     split
     .exact CI ⟨rfl,.inr ⟨_,_,_,_,_,_,rfl,R,by simp;lia⟩⟩
     .exact CI ⟨rfl,_,_,_,_,_,_,rfl,R,by simp;lia⟩
  case post1=>
   rintro c Y ⟨rfl,hc⟩;rcases hc with⟨r1,e,hm⟩|⟨r1,p,b,O,N,C,rfl,J1,hx1⟩
   .obtain⟨c1,c2⟩:=c;cases e;exact CI ⟨hs,r1,rfl,hm⟩
   refine z_ (Jx (Fp ⟨rfl,?_⟩));refine z_ (ET (Er (I:=λy c Y=>bu st Y/\∃r t d g O N H,c=(f_,t,d,r,g,O,N)/\JH f key pa pb r t d H/\C.length+y<=H.length)
    (Q:=λc Y=>bu st Y/\((∃r,c.1=a_ r/\uL f key (pa++pb) r)\/∃r t d g O N H,c=(f_,t,d,r,g,O,N)/\JH f key pa pb r t d H/\C.length<=H.length)) ?step2 ?fin2 ⟨hs,r1,p,b,_,_,_,C,rfl,J1,ac⟩) ?post2)
   case fin2=>rintro c Y ⟨P,r,t,d,g,O,N,H,rfl,R,hx2⟩;have:=R.la;have:=R.lb;have:=R.len;lia
   case post2=>
    rintro c Y ⟨P,hc⟩;rcases hc with⟨r2,e,hm⟩|⟨r2,ia2,ib2,g2,O,N,H,rfl,R,hx2⟩
    .obtain⟨c1,c2⟩:=c;cases e;exact CI ⟨P,r2,rfl,hm⟩
    .refine z_ (GO (CI ⟨P.trans ⟨_,rfl⟩,_,_,_,_,H,rfl,R,ac⟩))
   case step2=>
    rintro y c st2 _ D ⟨P,r2,ia2,ib2,g2,O,N,H,rfl,R,hx2⟩;have hk2:GB st2=κ:=P.kind.trans hk;obtain⟨rfl,m2,la2,lb2,za2,zb2,len2⟩:=R;refine ET (Q:=GH f key pa pb st (C.length+y)) ?_ ?conv
    case conv=>
     rintro r Y ⟨hs',hr⟩;cases r with
     |done c=>
      refine⟨hs',?_⟩
      rcases hr with hr|⟨r,t,d,g,O,N,H,e,J,hl⟩
      .exact .inl hr
      .exact .inr ⟨r,t,d,g,O,N,H,e,J,ac⟩
     |yield c=>exact⟨hs',hr⟩
    extract_lets s1 B s2 U s3 out2 s4 g3 s5 ac3 bc3 z jp
    have e1:out2=(H.map f).toArray:=rfl;have e2:B=ia2:=rfl;have e3:U=ib2:=rfl;have e4:z=U-1:=rfl
    clear_value z out2 B U g3 ac3 bc3
    clear s1 s2 s3 s4 s5;subst e1 e2 e3 e4;refine Ah (jp:=jp) λg'=>?_;refine z_ (Ag λZ hs3=>?_);have hk3:GB Z=κ:=hs3.kind.trans hk2;have K:bu st Z:=P.trans hs3;clear jp;have sxA:Srt key (pa.take B):=sa.sub (F8 _ _);refine z_ (aT (gB (U-1) ac) (z_ (Ad L (mB (U-1) ac) na za2 ac hk3 sxA λk hkl t1 t2=>?_)));have m3:MI (neg key) (pa++pb) (H++((pa.take B).drop k).reverse) (pa.take k).reverse (pb.take U).reverse:=by
     refine MI.left (by
      rw[<- Ha];have:pa.take k++(pa.take B).drop k=pa.take B:=by
       have e:=D1 k (pa.take B)
       rwa [Kx,GA hkl]at e
      rw[this];exact m2) λx F y D=>?_
     have e1:=t2 x (Gj.mp F);have e2:=hd m2.sy (dB U ac zb2) y D;simp[ltK,-CH]at e1;unfold neg;lia
    have t3:∀x∈(pa.take k).reverse,neg key (pb.getD (U-1) 0)<=neg key x:=λx F=>by have e1:=t1 x (Gj.mp F);simp[ltK,-CH]at e1;unfold neg;lia
    clear t1 t2;have T:(H++((pa.take B).drop k).reverse).length+k+U=pa.length+pb.length:=by simp;lia
    have lo3:H.length<=(H++((pa.take B).drop k).reverse).length:=by simp
    dsimp -zeta only
    extract_lets kk ak jp out3 t
    have eo:out3=((H++((pa.take B).drop k).reverse).map f).toArray:=by show _++_=_;rw[iS,eR,gF,M_]
    have ei:t=k:=rfl;have ekk:kk=B-k:=rfl
    clear_value out3 t ak kk
    subst eo ei;have hj:∀o3 S,MI (neg key) (pa++pb) o3 (pa.take S).reverse (pb.take U).reverse->(∀x∈(pa.take S).reverse,neg key (pb.getD (U-1) 0)<=neg key x)->o3.length+S+U=pa.length+pb.length->0<S->S<=pa.length->C.length+y<=o3.length->Ja (B_ prog w) A E s (jp () S (o3.map f).toArray) (GH f key pa pb st (C.length+y)) Z:=by
     intro o3 S m3 t3 T la4 za4 hl3;refine z_ (aT (gB (U-1) ac) ?_);clear jp;rw[gm];have m4:MI (neg key) (pa++pb) (o3++[pb.getD (U-1) 0]) (pa.take S).reverse (pb.take (U-1)).reverse:=by refine MI.right (by rw[D2,<- dB U ac zb2];exact m3) λx F y D=>?_;rw[CO.mp F];exact t3 y D
     have len4:(o3++[pb.getD (U-1) 0]).length+S+(U-1)=pa.length+pb.length:=by simp;lia
     have hl4:C.length+y+1<=(o3++[pb.getD (U-1) 0]).length:=by simp;lia
     generalize o3++[pb.getD (U-1) 0]=o4 at m4 len4 hl4 ⊢;clear m3 t3 T hl3;have lb4:0<U-1:=ac
     have zb4:U-1<=pb.length:=ac
     generalize U-1=z at *
     extract_lets out4 ia5
     have eo:out4=(o4.map f).toArray:=rfl;have ei:ia5=S-1:=rfl
     clear_value out4 ia5
     subst eo ei;by_cases c6:z=1
     .rw[n_ (by simpa using c6),eA,eB];exact CI ⟨K,.inl ⟨_,rfl,first m4 c6⟩⟩
     rw[l_ (by simpa using c6)];have sxB:Srt key (pb.take z):=sb.sub (F8 _ _);refine z_ (aT (gA (S-1) ac) (z_ (Ad L (mA (S-1) ac) nb zb4 ac hk3 sxB λk2 hkl2 t1 t2=>?_)));have m5:MI (neg key) (pa++pb) (o4++((pb.take z).drop k2).reverse) (pa.take S).reverse (pb.take k2).reverse:=by
      refine MI.right (by
       rw[<- Ha];have:pb.take k2++(pb.take z).drop k2=pb.take z:=by
        have e:=D1 k2 (pb.take z)
        rwa [Kx,GA hkl2]at e
       rw[this];exact m4) λx F y D=>?_
      have e1:=t2 x (Gj.mp F);have e2:=hd m4.sx (dA S ac za4) y D;simp[ltK,-CH]at e1;unfold neg;lia
     have t7:∀x∈(pb.take k2).reverse,neg key (pa.getD (S-1) 0)<=neg key x:=λx F=>by have e1:=t1 x (Gj.mp F);simp[ltK,-CH]at e1;unfold neg;lia
     clear t1 t2;have len5:(o4++((pb.take z).drop k2).reverse).length+S+k2=pa.length+pb.length:=by simp;lia
     have lo5:o4.length<=(o4++((pb.take z).drop k2).reverse).length:=by simp
     dsimp -zeta only
     extract_lets k3 bk jp out5 d
     have eo:out5=((o4++((pb.take z).drop k2).reverse).map f).toArray:=by show _++_=_;rw[iS,eR,gF,M_]
     have ei:d=k2:=rfl;have ekk:k3=z-k2:=rfl
     clear_value out5 d bk k3
     subst eo ei;have hj:∀W G,MI (neg key) (pa++pb) W (pa.take S).reverse (pb.take G).reverse->(∀x∈(pb.take G).reverse,neg key (pa.getD (S-1) 0)<=neg key x)->W.length+S+G=pa.length+pb.length->1<G->G<=pb.length->C.length+y+1<=W.length->Ja (B_ prog w) A E s (jp () G (W.map f).toArray) (GH f key pa pb st (C.length+y)) Z:=by
      intro W G m5 t7 len5 lb5 zb5 hl5;refine z_ (aT (gA (S-1) ac) ?_);clear jp;rw[gm];have m6:MI (neg key) (pa++pb) (W++[pa.getD (S-1) 0]) (pa.take (S-1)).reverse (pb.take G).reverse:=by refine MI.left (by rw[D2,<- dA S la4 za4];exact m5) λx F y D=>?_;rw[CO.mp F];exact t7 y D
      have len6:(W++[pa.getD (S-1) 0]).length+(S-1)+G=pa.length+pb.length:=by simp;lia
      have hl6:W.length<=(W++[pa.getD (S-1) 0]).length:=by simp
      generalize W++[pa.getD (S-1) 0]=o6 at m6 len6 hl6 ⊢
      extract_lets out6
      by_cases c7:S-1=0
      .rw[n_ (by simpa using c7),eA,eB];exact CI ⟨K,.inl ⟨_,rfl,fin m6 (.inl c7)⟩⟩
      rw[l_ (by simpa using c7)];have J6:JH f key pa pb (o6.map f).toArray (S-1) G o6:=⟨rfl,m6,ac,lb5,ac,zb5,len6⟩
      split
      .exact CI ⟨K,.inr ⟨_,_,_,_,_,_,o6,rfl,J6,ac⟩⟩
      .exact CI ⟨K,_,_,_,_,_,_,o6,rfl,J6,ac⟩
     by_cases c7:k3>0
     .rw[n_ c7];by_cases c8:d=1
      .rw[n_ (by simpa using c8),eA,eB];exact CI ⟨K,.inl ⟨_,rfl,first m5 c8⟩⟩
      rw[l_ (by simpa using c8)];by_cases c9:d=0
      .rw[n_ (by simpa using c9),eA,eB];exact CI ⟨K,.inl ⟨_,rfl,fin m5 (.inr c9)⟩⟩
      rw[l_ (by simpa using c9)];exact hj _ _ m5 t7 len5 ac ac ac
     .rw[l_ c7];have ek:d=z:=ac
      subst ek;rw[EN (by simp;lia),MF,DB]at m5;exact hj _ _ m5 t7 len4 ac zb4 hl4
    by_cases X:kk>0
    .rw[n_ X];by_cases c4:t=0
     .rw[n_ (by simpa using c4),eA,eB];exact CI ⟨K,.inl ⟨_,rfl,fin m3 (.inl c4)⟩⟩
     rw[l_ (by simpa using c4)];exact hj _ _ m3 t3 T ac ac ac
    .rw[l_ X];have ek:t=B:=ac
     subst ek;rw[EN (by simp;lia),MF,DB]at m3;exact hj _ _ m3 t3 len2 la2 za2 hx2
end
section
open PySem.W hiding kindOf
variable{s:k_}{f:Nat->E_}{key:Nat->Int}
structure SS(κ:Kq)(f:Nat->E_)(n:Nat)(st:Eb)(p:aC):Prop where
 kind:GB st=κ
 ok:HU st=f_
 arr:JY st=(p.map f).toArray
 perm:p.Perm (CU n)
def SS.inN(h:SS κ f n st p):InN n p:=λx I=>DH.mp (h.perm.mem_iff.mp I)
def SS.len(h:SS κ f n st p):p.length=n:=by rw[h.perm.length_eq,F9]
theorem u0{β:Type}:∀(o v u t:List β),v.length=o.length->(o.zipIdx u.length).foldl (λa (p:β×Nat)=>a.setIfInBounds p.2 p.1) (u++(v++t)).toArray=(u++(o++t)).toArray
 |[],[],u,t,_=>rfl|x::o,y::v,u,t,h=>by
  rw[List.zipIdx_cons,Dy];have e:((u++(y::v++t)).toArray.setIfInBounds u.length x)=((u++[x])++(v++t)).toArray:=by
   rw[Ky]
   congr 1
   rw[Lu _ _ (m_ _),Hm];simp
  show List.foldl _ ((u++(y::v++t)).toArray.setIfInBounds u.length x) _=_;rw[e];have:=u0 o v (u++[x]) t (by simpa using h);rw[CM,ID]at this;rw[this];simp
def zy(o v u t:List β)(h:v.length=o.length):o.zipIdx.foldl (λa (p:β×Nat)=>a.setIfInBounds (u.length+p.2) p.1) (u++(v++t)).toArray=(u++(o++t)).toArray:=by rw[<- u0 o v u t h];rw[List.zipIdx_eq_map_add (l:=o) (i:=u.length),List.foldl_map]
theorem yt(L:zY prog w A E s κ f key n){u a b t:aC}{O:Array (Nat×Nat×Nat)}{Q:Bool->Eb->Prop}(S:SS κ f n st (u++(a++(b++t))))(hp:Df st=O)(h1:O[i]?=a_ (u.length,a.length,wa))(h2:O[i+1]?=a_ (u.length+a.length,b.length,wb))(z:Srt key a)(v:Srt key b)(la:0<a.length)(lb:0<b.length)(h:∀I m,m.Perm (a++b)->Srt key m->SS κ f n I (u++(m++t))->Df I=(O.setIfInBounds i (u.length,a.length+b.length,wa)).eraseIdxIfInBounds (i+1)->Q e_ I):
  Ja (B_ prog w) A E s (mergeAt' i) Q st:=by
 obtain⟨kd,ar,Z,g,fl⟩:=st;obtain⟨S1,S2,S3,S4⟩:=S;have S1:kd=κ:=S1;have S2:fl=f_:=S2;have S3:ar=((u++(a++(b++t))).map f).toArray:=S3;have hp:Z=O:=hp;subst S1 S2 S3 hp;refine z_ (Io ?_);have D:InN n (u++(a++(b++t))):=λx J=>DH.mp (S4.mem_iff.mp J);have T:(u++(a++(b++t)))[u.length+a.length]?=a_ (b.getD 0 0):=by
  rw[DZ ac,DZ ac,DD ac];have:u.length+a.length-u.length-a.length=0:=ac
  rw[this];simp[lb]
 have bN:b.getD 0 0<n:=D _ (DR T);have ds:(u++(a++(b++t))).drop u.length=a++(b++t):=Na;have db:(u++(a++(b++t))).drop (u.length+a.length)=b++t:=by rw[<- GI,ds,Na]
 have B:b=b.getD 0 0::b.drop 1:=by have e:=D3 (l:=b) (i:=0) lb;rw[Ek]at e;rw[show b.getD 0 0=b[0] by simp[lb]];exact e
 have C:∀y∈b,key (b.getD 0 0)<=key y:=λy U=>by
  have N:=v;rw[B]at N;rw[B]at U;rcases r_.mp U with e|e
  .rw[e];exact Eu _
  .exact(D_.mp N).1 y e
 have P:(u++(a++(b++t)))[u.length+a.length-1]?=a_ (a.getD (a.length-1) 0):=by
  rw[DZ ac,DD ac];rw[show u.length+a.length-1-u.length=a.length-1 by lia];have:a.length-1<a.length:=ac
  simp[this]
 have aN:a.getD (a.length-1) 0<n:=D _ (DR P);have W:∀y∈a,key y<=key (a.getD (a.length-1) 0):=λy U=>by
  obtain⟨j,hj,ej⟩:=Hb U;have hz:a.length-1<a.length:=ac
  rw[<- ej,show a.getD (a.length-1) 0=a[a.length-1] by simp[hz]];rcases Lr j (a.length-1)with e|e
  .exact HC.mp z j (a.length-1) hj ac e
  .have:j=a.length-1:=ac
   subst this;exact Eu _
 dsimp -zeta only;rw[h1,h2];dsimp -zeta only;refine z_ (GO ?_);have c:((u++(a++(b++t))).drop u.length).take a.length=a:=by rw[ds,M9]
 have Y:((u++(a++(b++t))).drop (u.length+a.length)).take b.length=b:=by rw[db,M9]
 have d:∀I,GB I=kd->HU I=f_->JY I=((u++(a++(b++t))).map f).toArray->Df I=(Z.setIfInBounds i (u.length,a.length+b.length,wa)).eraseIdxIfInBounds (i+1)->Srt key (a++b)->Q e_ I:=λI q1 q2 q3 q4 q5=>h I (a++b) (Fy _) q5 ⟨q1,q2,by rw[q3,Dp],by rw[Dp];exact S4⟩ q4
 refine z_ (aT T (z_ (wd L bN D ad la rfl (by rw[c];exact z) λk hk q p=>?_)));rw[c]at q p;have K:∀x∈a.take k,key x<=key (b.getD 0 0):=λx J=>by have e1:=q x J;simp[ltK,-CH]at e1;lia
 have H:∀x∈a.drop k,key (b.getD 0 0)<key x:=λx J=>by have e1:=p x J;simp[ltK,-CH]at e1;lia
 clear q p;dsimp -zeta only;by_cases c1:a.length-k=0
 .rw[n_ (by simpa using c1)];refine CI (d _ rfl rfl rfl rfl (Eh.mpr ⟨z,v,λx J y U=>?_⟩));have:=K x (by rw[Fb ac];exact J);have:=C y U;lia
 rw[l_ (by simpa using c1)];have ek:u.length+k+(a.length-k)-1=u.length+a.length-1:=ac
 rw[ek];refine z_ (aT P (z_ (wd L aN D (by simp;lia) ac rfl (by rw[Y];exact v) λm hm q p=>?_)));rw[Y]at q p;have G:∀x∈b.take m,key x<key (a.getD (a.length-1) 0):=λx J=>by have e1:=q x J;simp[ltK,-CH]at e1;lia
 have F:∀x∈b.drop m,key (a.getD (a.length-1) 0)<=key x:=λx J=>by have e1:=p x J;simp[ltK,-CH]at e1;lia
 clear q p;dsimp -zeta only;by_cases c2:m=0
 .rw[n_ (by simpa using c2)];refine CI (d _ rfl rfl rfl rfl (Eh.mpr ⟨z,v,λx J y U=>?_⟩));have:=F y (by rw[c2,Ek];exact U);have:=W x J;lia
 rw[l_ (by simpa using c2)]
 extract_lets xx yy jp
 have ex:xx=((a.drop k).map f).toArray:=by
  show Nf _ _ _=_;rw[iS,<- GI,ds]
  congr 2
  rw[List.drop_append_of_le_length hk,List.take_left' (by simp;lia)]
 have ey:yy=((b.take m).map f).toArray:=by
  show Nf _ _ _=_;rw[iS,db]
  congr 2
  rw[FJ,List.take_append_of_le_length hm]
 clear_value xx yy
 subst ex ey;have R:∀r I,bu (Hh kd ((u++(a++(b++t))).map f).toArray ((Z.setIfInBounds i (u.length,a.length+b.length,wa)).eraseIdxIfInBounds (i+1)) g f_) I->uL f key (a.drop k++b.take m) r->Ja (B_ prog w) A E s (jp r) Q I:=by
  rintro r I ⟨g',rfl⟩ ⟨o,rfl,X,so⟩;refine z_ (GO (z_ (Io (CI ?_))));have pm:(a.take k++(o++b.drop m)).Perm (a++b):=by refine((Fy _).append (X.append_right _)).trans ?_;rw[Dp,D1,<- Dp,D1]
  refine h _ (a.take k++(o++b.drop m)) pm ?_ ⟨rfl,rfl,?_,?_⟩ rfl
  .have mo:∀x∈o,x∈a.drop k\/x∈b.take m:=λx J=>DM.mp (X.mem_iff.mp J);refine Eh.mpr ⟨z.sub (F8 _ _),Eh.mpr ⟨so,v.sub (JP _ _),λx J y U=>?_⟩,λx J y U=>?_⟩
   .have e4:=F y U;rcases mo x J with e|e
    .have:=W x (G3 e);lia
    .have:=G x e;lia
   .have e1:=K x J;rcases DM.mp U with e|e
    .rcases mo y e with e|e
     .have:=H y e;lia
     .have:=C y (Fv e);lia
    .have:=C y (G3 e);lia
  .show List.foldl _ ((u++(a++(b++t))).map f).toArray ((o.map f).toArray.toList.zipIdx)=_;have e0:(u++(a++(b++t))).map f=((u++a.take k).map f)++(((a.drop k++b.take m).map f)++((b.drop m++t).map f)):=by
    rw[<- Kd,<- Kd]
    congr 1
    rw[Dp,Dp]
    congr 1
    rw[<- Dp (b.take m),D1,<- Dp (a.take k),D1]
   have el:u.length+k=((u++a.take k).map f).length:=by simp;lia
   rw[e0,el];have:=zy (o.map f) ((a.drop k++b.take m).map f) ((u++a.take k).map f) ((b.drop m++t).map f) (by simp[X.length_eq]);refine this.trans ?_;simp
  .refine Lz ?_ S4;rw[<- Dp a b t];exact(pm.append_right _).append_left _
 clear_value jp
 have nA:InN n (a.drop k):=λx J=>D x (Dc _ (Et _ (G3 J)));have nB:InN n (b.take m):=λx J=>D x (Dc _ (Dc _ (Et _ (Fv J))));have f1:∀y∈a.drop k,key ((b.take m).getD 0 0)<=key y:=λy U=>by
  have e:(b.take m).getD 0 0=b.getD 0 0:=by
   obtain⟨m',rfl⟩:∃m',m=m'+1:=⟨m-1,ac⟩
   rw[B];rfl
  rw[e];exact Od (H y U)
 have f2:∀y∈b.take m,key y<=key ((a.drop k).getD ((a.drop k).length-1) 0):=λy U=>by
  have e:(a.drop k).getD ((a.drop k).length-1) 0=a.getD (a.length-1) 0:=by
   rw[Gk,CH,CH,Ma]
   congr 2
   lia
  rw[e];exact Od (G y U)
 split
 .exact z_ (yq L nA nB rfl (z.sub (JP _ _)) (v.sub (F8 _ _)) (by simp;lia) (by simp;lia) f1 f2 λr I q1 q2=>R r I q1 q2)
 .exact z_ (yr L nA nB rfl (z.sub (JP _ _)) (v.sub (F8 _ _)) (by simp;lia) (by simp;lia) f1 f2 λr I q1 q2=>R r I q1 q2)
end
section
open PySem.W hiding kindOf
variable{s:k_}{f:Nat->E_}{key:Nat->Int}
noncomputable def kG(key:Nat->Int)(p:aC)(i:Nat):Int:=key (p.getD i 0)
def Sg(key:Nat->Int)(p:aC)(lo hi:Nat):Prop:=∀i j,lo<=i->i<=j->j<hi->kG key p i<=kG key p j
def Dg(key:Nat->Int)(p:aC)(lo hi:Nat):Prop:=∀i j,lo<=i->i<=j->j<hi->kG key p j<=kG key p i
def Fx(lo:Nat)(p I:aC):Prop:=∀i,i<lo->I.getD i 0=p.getD i 0
def Fx.refl(p:aC):Fx lo p p:=λ_ _=>rfl
theorem Fx.trans{lo:Nat}{p q r:aC}(h:Fx lo p q)(k:Fx lo q r):Fx lo p r:=λi hi=>(k i hi).trans (h i hi)
noncomputable def rv(p:aC)(i j:Nat):aC:=(kas_rev p.toArray i j).toList
noncomputable def bb(p:aC)(src d:Nat):aC:=(bubble p.toArray src d).toList
def wy(I:j<=p.length)(k:Nat):(rv p i j).getD k 0=if i<=k/\k<j then p.getD (i+j-1-k) 0 else p.getD k 0:=by have e:=getElem?_mirror_all (xs:=p.toArray) (i:=i) (j:=j) (by simpa using I) k;unfold rv kas_rev;rw[CH,FW,e];split<;>simp
def bb_get{src d:Nat}(I:src<p.length)(hd:d<=src)(k:Nat):(bb p src d).getD k 0=if k=src-d then p.getD src 0 else if src-d<k/\k<=src then p.getD (k-1) 0 else p.getD k 0:=by
 have e:=getElem?_bubble (xs:=p.toArray) (src:=src) (by simpa using I) d hd k;unfold bb;rw[CH,FW,e];split
 .simp
 .split<;>simp
def rv_perm:(rv p i j).Perm p:=Kt.mp (mirror_perm p.toArray i j _)
def bb_perm:(bb p i j).Perm p:=Kt.mp (bubble_perm p.toArray i j)
theorem rv_fx(I:j<=p.length)(hi:lo<=i):Fx lo p (rv p i j):=λk J=>by rw[wy I,l_ ac]
def m7{Q:Unit->Eb->Prop}(S:SS κ f n st p)(h:∀I,SS κ f n I (rv p i j)->Df I=Df st->Q () I):Ja (B_ prog w) A E s (reverseSlice' i j) Q st:=by
 rw[reverseSlice'_eq];refine GO (h _ ⟨S.kind,S.ok,?_,rv_perm.trans S.perm⟩ rfl);show mirror (JY st) i j ((j-i)/2)=_;rw[S.arr];have e1:mirror (p.toArray.map f) i j ((j-i)/2)=(mirror p.toArray i j ((j-i)/2)).map f:=kas_swaps_map f (λk=>i+k) (λk=>j-1-k) _ p.toArray;have e2:(p.map f).toArray=p.toArray.map f:=by simp
 rw[e2,e1];unfold rv kas_rev;apply GW.mp;simp
def wpS_movS{l:Nat}{Q:Unit->Eb->Prop}(S:SS κ f n st p)(h:∀I,SS κ f n I (bb p k (k-l))->Df I=Df st->Q () I):Ja (B_ prog w) A E s (moveDown' k l) Q st:=by
 rw[moveDown'_eq];refine GO (h _ ⟨S.kind,S.ok,?_,bb_perm.trans S.perm⟩ rfl);show bubble (JY st) k (k-l)=_;rw[S.arr];have e1:bubble (p.toArray.map f) k (k-l)=(bubble p.toArray k (k-l)).map f:=kas_swaps_map f (λi=>k-i) (λi=>k-i-1) _ p.toArray;have e2:(p.map f).toArray=p.toArray.map f:=by simp
 rw[e2,e1];unfold bb;apply GW.mp;simp
theorem kC(L:zY prog w A E s κ f key n){Q:Option Bool->Eb->Prop}(S:SS κ f n st p)(hi:i<n)(Y:j<n)(h:Q (a_ (CL (kG key p i<kG key p j))) st):Ja (B_ prog w) A E s (ltAt' i j) Q st:=by
 have U:=S.len;have J:p[i]?=a_ (p.getD i 0):=by have:i<p.length:=ac;simp[this]
 have I:p[j]?=a_ (p.getD j 0):=by have:j<p.length:=ac;simp[this]
 rw[ltAt'_eq];refine z_ (Io ?_);rw[S.arr];refine z_ (aT J (z_ (aT I ?_)));exact L _ _ _ _ (S.inN _ (DR J)) (S.inN _ (DR I)) S.kind h
theorem Sg.step(h:Sg key p lo (lo+m))(h1:1<=m)(Y:¬kG key p (lo+m)<kG key p (lo+m-1)):Sg key p lo (lo+(m+1)):=λi j hi J a=>by
 by_cases I:j<lo+m
 .exact h i j hi J I
 .have U:j=lo+m:=ac
  subst U;by_cases S:i=lo+m
  .subst S;exact Eu _
  .have:=h i (lo+m-1) hi ac ac;lia
theorem Dg.step(h:Dg key p lo (lo+m))(h1:1<=m)(Y:kG key p (lo+m)<=kG key p (lo+m-1)):Dg key p lo (lo+(m+1)):=λi j hi J a=>by
 by_cases I:j<lo+m
 .exact h i j hi J I
 .have U:j=lo+m:=ac
  subst U;by_cases S:i=lo+m
  .subst S;exact Eu _
  .have:=h i (lo+m-1) hi ac ac;lia
theorem Cy{a:Nat}(S:SS κ f n st p)(i:lo+nrem<=n)(j:1<=a)(b:a<=nrem)(g:Sg key p lo (lo+a)){F:Nat->Option (Option Nat)×Nat->Md Eb Lb (Hi (Option (Option Nat)×Nat))}(h:∀x m (R:Hi (Option (Option Nat)×Nat)->Eb->Prop),1<=m->lo+m<n->(kG key p (lo+m)<kG key p (lo+m-1)->R (.done (f_,m)) st)->(¬kG key p (lo+m)<kG key p (lo+m-1)->R (.yield (f_,m+1)) st)->Ja (B_ prog w) A E s (F x (f_,m)) R st):
  Ja (B_ prog w) A E s (Mb [a:nrem] (f_,a) F) (λc J=>J=st/\∃m,c=(f_,m)/\a<=m/\m<=nrem/\Sg key p lo (lo+m)/\(m=nrem\/kG key p (lo+m)<kG key p (lo+m-1))) st:=by
 refine Er (I:=λx c J=>J=st/\c=(f_,x)/\Sg key p lo (lo+x)) ?step ?fin ⟨rfl,rfl,g⟩
 case fin=>rintro c J ⟨rfl,rfl,U⟩;rw[show max a nrem=nrem by lia]at U ⊢;exact⟨rfl,nrem,rfl,b,m_ _,U,.inl rfl⟩
 case step=>rintro x c J Y d ⟨rfl,rfl,U⟩;exact h x x _ ac ac (λe=>⟨rfl,x,rfl,Y,ac,U,.inr e⟩) λe=>⟨rfl,rfl,U.step ac e⟩
def Al(key:Nat->Int)(p:aC)(m q:Nat):Prop:=∀i,m-(q+1)<=i->i<m->kG key p i=kG key p (m-1)
theorem uZ{q:Nat}(J:m<=p.length)(I:Al key p m q)(k:Nat):kG key (rv p (m-(q+1)) m) k=kG key p k:=by
 show key _=key _;rw[wy J];split
 .exact(I _ ac ac).trans (I k ac ac).symm
 .rfl
theorem desc_gen{a:Nat}(S:SS κ f n st p)(y:lo+nrem<=n)(B:1<=a)(e:a<=nrem)(o:Dg key p lo (lo+a)){F:Nat->Option (Option Nat)×Nat×Nat->Md Eb Lb (Hi (Option (Option Nat)×Nat×Nat))}(r:∀x m q st p (R:Hi (Option (Option Nat)×Nat×Nat)->Eb->Prop),SS κ f n st p->1<=m->lo+m<n ->
   (kG key p (lo+m)<kG key p (lo+m-1)->q>0->∀J,SS κ f n J (rv p (lo+m-(q+1)) (lo+m))->Df J=Df st->R (.yield (f_,m+1,0)) J) ->
   (kG key p (lo+m)<kG key p (lo+m-1)->¬q>0->R (.yield (f_,m+1,0)) st) ->
   (¬kG key p (lo+m)<kG key p (lo+m-1)->kG key p (lo+m-1)<kG key p (lo+m)->R (.done (f_,m,q)) st) ->
   (¬kG key p (lo+m)<kG key p (lo+m-1)->¬kG key p (lo+m-1)<kG key p (lo+m)->R (.yield (f_,m+1,q+1)) st)->Ja (B_ prog w) A E s (F x (f_,m,q)) R st):
  Ja (B_ prog w) A E s (Mb [a:nrem] (f_,a,0) F) (λc J=>∃m q U,c=(f_,m,q)/\SS κ f n J U/\Df J=Df st/\Fx lo p U/\a<=m/\m<=nrem/\Dg key U lo (lo+m)/\q+1<=m/\Al key U (lo+m) q) st:=by
 refine Er (I:=λx c J=>∃q U,c=(f_,x,q)/\SS κ f n J U/\Df J=Df st/\Fx lo p U/\Dg key U lo (lo+x)/\q+1<=x/\Al key U (lo+x) q) ?step ?fin ⟨0,p,rfl,S,rfl,Fx.refl _,o,ac,λi h1 h2=>by rw[show i=lo+a-1 by lia]⟩
 case fin=>rintro c J ⟨q,U,rfl,Y,e1,e2,e3,e4,e5⟩;rw[show max a nrem=nrem by lia]at *;exact⟨nrem,q,U,rfl,Y,e1,e2,e,m_ _,e3,e4,e5⟩
 case step=>
  rintro x c J d l ⟨q,U,rfl,Y,e1,e2,e3,e4,e5⟩;have z:=Y.len;have b:∀p,Al key p (lo+(x+1)) 0:=λp i h1 h2=>by rw[show i=lo+(x+1)-1 by lia]
  refine r x x q J U _ Y ac ac (λh g k v q2=>?_) (λh g=>?_) (λh g=>?_) (λh g=>?_)
  .refine⟨0,_,rfl,v,q2.trans e1,e2.trans (rv_fx ac ac),?_,ac,b _⟩
   have hd:Dg key (rv U (lo+x-(q+1)) (lo+x)) lo (lo+x):=λi j h1 h2 t=>by rw[uZ ac e5,uZ ac e5];exact e3 i j h1 h2 t
   refine hd.step ac ?_;rw[uZ ac e5,uZ ac e5];lia
  .exact⟨0,U,rfl,Y,e1,e2,e3.step ac ac,ac,b _⟩
  .exact⟨x,q,U,rfl,Y,e1,e2,d,ac,e3,e4,e5⟩
  .refine⟨q+1,U,rfl,Y,e1,e2,e3.step ac ac,ac,λi h1 h2=>?_⟩
   have u:kG key U (lo+x)=kG key U (lo+x-1):=ac
   rw[show lo+(x+1)-1=lo+x by lia];by_cases hi:i=lo+x
   .rw[hi]
   .rw[u];exact e5 i ac ac
theorem uN(L:zY prog w A E s κ f key n){Q:Option Nat->Eb->Prop}(S:SS κ f n st p)(B:lo+nrem<=n)(h1:1<=nrem)(h:∀m I y,SS κ f n I y->Df I=Df st->1<=m->m<=nrem->Sg key y lo (lo+m)->Fx lo p y->Q (a_ m) I):Ja (B_ prog w) A E s (countRun' lo nrem) Q st:=by
 rw[countRun'_eq];dsimp only;have hl:=S.len;refine z_ (ET (Cy (key:=key) S B (m_ 1) h1 (λi j U d e=>by rw[show i=j by lia];exact Eu _) ?body) ?post)
 case body=>
  intro x m R Z X l r2;refine z_ (kC L S ac ac ?_);by_cases c:kG key p (lo+m)<kG key p (lo+m-1)
  .rw[El c];exact CI (l c)
  .rw[Dx c];exact CI (r2 c)
 case post=>
  rintro c I ⟨rfl,m,rfl,Y,o,u,z⟩;dsimp only;by_cases D:m=nrem
  .rw[n_ (by simpa using D)];exact CI (h m I p S rfl Y o u (Fx.refl _))
  rw[l_ (by simpa using D)];have hlt:=z.resolve_left D;by_cases W:m>1
  case' pos=>
   rw[n_ W];refine z_ (kC L S ac ac ?_);by_cases T:kG key p lo<kG key p (lo+m-1)
   .rw[El T];exact CI (h m I p S rfl Y o u (Fx.refl _))
   rw[Dx T];simp only[CY,En];have al:∀i,lo<=i->i<lo+m->kG key p i=kG key p (lo+m-1):=λi U d=>by have:=u lo i (m_ _) U d;have:=u i (lo+m-1) U ac ac;lia
   refine z_ (m7 S λst1 S1 q1=>?_);have K:Fx lo p (rv p lo (lo+m)):=rv_fx ac (m_ _);have ek:∀k,kG key (rv p lo (lo+m)) k=kG key p k:=λk=>by
    have:=uZ (key:=key) (p:=p) (m:=lo+m) (q:=m-1) ac (λi U d=>al i ac d) k
    rwa [show lo+m-(m-1+1)=lo by lia]at this
   have O:Dg key (rv p lo (lo+m)) lo (lo+(m+1)):=by
    refine Dg.step (λi j U d e=>?_) Y ?_
    .rw[ek,ek,al i U ac,al j ac e];exact Eu _
    .rw[ek,ek];lia
  case' neg=>
   rw[l_ W];have K:Fx lo p p:=Fx.refl _;have S1:=S;have q1:Df I=Df I:=rfl;have O:Dg key p lo (lo+(m+1)):=by refine Dg.step (λi j U d e=>by rw[show i=j by lia];exact Eu _) Y ac
  all_goals
   refine z_ (Jx (Fp ⟨rfl,?_⟩));refine z_ (ET (desc_gen (key:=key) S1 B ac ac O ?body2) ?post2)
   case body2=>
    intro x m q st p R S Z X l r2 r3 r4;dsimp only;refine z_ (kC L S ac ac ?_);by_cases c:kG key p (lo+m)<kG key p (lo+m-1)
    .rw[El c];simp only[FK];by_cases b:q>0
     .rw[n_ b];exact z_ (m7 S λI S' e'=>CI (l c b I S' e'))
     .rw[l_ b];exact CI (r2 c b)
    .rw[Dx c];simp only[CY,En];refine z_ (kC L S ac ac ?_);by_cases b:kG key p (lo+m-1)<kG key p (lo+m)
     .rw[El b];exact CI (r3 c b)
     .rw[Dx b];exact CI (r4 c b)
   case post2=>
    rintro c g ⟨J,q2,p2,rfl,G,e2,H,g1,g2,N,g3,r⟩;have hl2:=G.len;dsimp only;by_cases P:q2>0
    case' pos=>
     rw[n_ P];refine z_ (m7 G λst3 t e3=>?_);have f3:=H.trans (rv_fx (p:=p2) (i:=lo+J-(q2+1)) (j:=lo+J) (lo:=lo) ac ac);have v:Dg key (rv p2 (lo+J-(q2+1)) (lo+J)) lo (lo+J):=λi j U d e=>by rw[uZ ac r,uZ ac r];exact N i j U d e
     generalize rv p2 (lo+J-(q2+1)) (lo+J)=p3 at t f3 v
    case' neg=>rw[l_ P];have t:=G;have e3:Df g=Df g:=rfl;have f3:=H;have v:=N;generalize p2=p3 at t f3 v
    all_goals
     have hl3:=t.len;refine z_ (m7 t λst4 F e4=>?_);have f4:=f3.trans (rv_fx (i:=lo) (j:=lo+J) (lo:=lo) ac (m_ _));refine z_ (ET (Cy (key:=key) F B (a:=J) ac g2 (λi j U d e=>?_) ?body3) ?post3)
     .show key _<=key _;rw[wy ac,wy ac,n_ ac,n_ ac];exact v _ _ ac ac ac
     case body3=>
      intro x m R Z X l r2;refine z_ (kC L F ac ac ?_);by_cases c:kG key (rv p3 lo (lo+J)) (lo+m)<kG key (rv p3 lo (lo+J)) (lo+m-1)
      .rw[El c];exact CI (l c)
      .rw[Dx c];exact CI (r2 c)
     case post3=>rintro c st5 ⟨rfl,m5,rfl,h51,C,s5,_⟩;exact CI (h m5 _ _ F (e4.trans (e3.trans (e2.trans q1))) ac C s5 (K.trans f4))
end
section
open PySem.W hiding kindOf
variable{s:k_}{f:Nat->E_}{key:Nat->Int}
theorem Af(L:zY prog w A E s κ f key n){d:Nat}{Q:Bool->Eb->Prop}(S:SS κ f n st p)(X:lo+m<=n)(h1:1<=d)(G:d<=m)(F:Sg key p lo (lo+d))(h:∀J U,SS κ f n J U->Df J=Df st->Sg key U lo (lo+m)->Fx lo p U->Q e_ J):Ja (B_ prog w) A E s (binarySort' lo m d) Q st:=by
 unfold binarySort';refine z_ (ET (Er (I:=λk c J=>c=(f_,())/\∃U,SS κ f n J U/\Df J=Df st/\Sg key U lo (lo+k)/\Fx lo p U)
  (Q:=λc J=>c=(f_,())/\∃U,SS κ f n J U/\Df J=Df st/\Sg key U lo (lo+m)/\Fx lo p U) ?step ?fin ⟨rfl,p,S,rfl,by rw[Nat.max_eq_left h1];exact F,Fx.refl _⟩) ?post)
 case fin=>rintro c J ⟨rfl,U,e⟩;rw[show max (max d 1) m=m by lia]at e;exact⟨rfl,U,e⟩
 case post=>rintro c J ⟨rfl,U,T,e1,e2,e3⟩;exact CI (h _ _ T e1 e2 e3)
 case step=>
  rintro k c a N K ⟨rfl,p1,v,e1,b,P⟩;dsimp only;have H:=v.len;have O:1<=k:=ac
  refine z_ (ET (Er (I:=λx c J=>J=a/\∃l r,c=(f_,l,r)/\l<=r/\r<=k/\r-l+x<=k/\(∀i,i<l->kG key p1 (lo+i)<=kG key p1 (lo+k))/\(∀i,r<=i->i<k->kG key p1 (lo+k)<kG key p1 (lo+i)))
   (Q:=λc J=>J=a/\∃l r,c=(f_,l,r)/\l<=k/\(∀i,i<l->kG key p1 (lo+i)<=kG key p1 (lo+k))/\(∀i,l<=i->i<k->kG key p1 (lo+k)<kG key p1 (lo+i))) ?step1 ?fin1 ⟨rfl,0,k,rfl,ac,ac,ac,λi hi=>by lia,λi h1 h2=>by lia⟩) ?post1)
  case fin1=>
   rintro c J ⟨rfl,l,r,rfl,C,o,u,t,q⟩;have:l=r:=ac
   subst this;exact⟨rfl,l,l,rfl,o,t,q⟩
  case step1=>
   rintro x c J _ W ⟨rfl,l,r,rfl,C,o,u,t,q⟩;dsimp only;by_cases g:l>=r
   .rw[n_ g];have:l=r:=ac
    subst this;exact CI ⟨rfl,l,l,rfl,o,t,q⟩
   rw[l_ g];refine z_ (kC L v ac ac ?_);by_cases Y:kG key p1 (lo+k)<kG key p1 (lo+(l+r)/2)
   .rw[El Y];refine CI ⟨rfl,l,(l+r)/2,rfl,ac,ac,ac,t,λi q1 q2=>?_⟩;have:=b (lo+(l+r)/2) (lo+i) ac ac ac;lia
   .rw[Dx Y];refine CI ⟨rfl,(l+r)/2+1,r,rfl,ac,ac,ac,λi q1=>?_,q⟩;have:=b (lo+i) (lo+(l+r)/2) ac ac ac;lia
  case post1=>
   rintro c J ⟨rfl,l,r,rfl,C,o,u⟩;dsimp only;refine z_ (wpS_movS v λD R e2=>CI ⟨rfl,_,R,e2.trans e1,?_,P.trans ?_⟩)
   .have ek:lo+k-(lo+k-(lo+l))=lo+l:=ac
    have y:∀i,kG key (bb p1 (lo+k) (lo+k-(lo+l))) i=if i=lo+l then kG key p1 (lo+k)else if lo+l<i/\i<=lo+k then kG key p1 (i-1)else kG key p1 i:=λi=>by
     show key _=_;rw[bb_get ac ac,ek];split
     .rfl
     .split<;>rfl
    intro i j b1 b2 Z;rw[y,y];by_cases g:i=lo+l
    .rw[n_ g];by_cases Y:j=lo+l
     .rw[n_ Y];exact Eu _
     .rw[l_ Y,n_ ac];have:=u (j-1-lo) ac ac;rw[show lo+(j-1-lo)=j-1 by lia]at this;lia
    .rw[l_ g];by_cases Y:j=lo+l
     .rw[n_ Y,l_ ac];have:=o (i-lo) ac
      rwa [show lo+(i-lo)=i by lia]at this
     .rw[l_ Y];by_cases B:lo+l<i/\i<=lo+k
      .rw[n_ B,n_ ac];exact b _ _ ac ac ac
      .rw[l_ B];by_cases z:lo+l<j/\j<=lo+k
       .rw[n_ z];exact b _ _ ac ac ac
       .rw[l_ z];exact b _ _ ac ac ac
   .intro i hi;rw[bb_get ac ac,l_ ac,l_ ac]
end
section
open PySem.W hiding kindOf
variable{s:k_}{f:Nat->E_}{key:Nat->Int}
noncomputable def mkP:Nat->List (aC×Nat)->List (Nat×Nat×Nat)
 |_,[]=>[]|a,(l,w)::r=>(a,l.length,w)::mkP (a+l.length) r
noncomputable def flt(gs:List (aC×Nat)):aC:=(gs.map EY).flatten
def iM(x y:List (aC×Nat)):flt (x++y)=flt x++flt y:=by simp[flt]
def ck(g:aC×Nat)(y:List (aC×Nat)):flt (g::y)=g.1++flt y:=by simp[flt]
theorem kQ:∀(x:List (aC×Nat)) (a:Nat) (y:List (aC×Nat)),mkP a (x++y)=mkP a x++mkP (a+(flt x).length) y
 |[],a,y=>by simp[mkP,flt]|(l,w)::x,a,y=>by
  show(a,l.length,w)::mkP (a+l.length) (x++y)=(a,l.length,w)::(mkP (a+l.length) x++_)
  rw[kQ x,ck,CM,HV]
theorem qX:∀(x:List (aC×Nat)) (a:Nat),(mkP a x).length=x.length
 |[],_=>rfl|(l,w)::x,a=>by simp[mkP,qX x]
structure RI(κ:Kq)(f:Nat->E_)(key:Nat->Int)(n:Nat)(st:Eb)(gs:List (aC×Nat))(rest:aC):Prop where
 ss:SS κ f n st (flt gs++rest)
 pd:Df st=(mkP 0 gs).toArray
 ok:∀g∈gs,Srt key g.1/\0<g.1.length
theorem RI.size{st:Eb}{gs:List (aC×Nat)}{rest:aC}(h:RI κ f key n st gs rest):(Df st).size=gs.length:=by rw[h.pd];simp[qX]
theorem RI.few:∀{gs:List (aC×Nat)},(∀g∈gs,Srt key g.1/\0<g.1.length)->gs.length<=(flt gs).length
 |[],_=>DU _|g::gs,h=>by have h1:=(h g CW).2;have h2:=RI.few (gs:=gs) λx I=>h x (CS _ I);rw[ck,CM,CG];lia
theorem wY(L:zY prog w A E s κ f key n){I post:List (aC×Nat)}{a b:aC}{Q:Bool->Eb->Prop}(R:RI κ f key n st (I++(a,wa)::(b,wb)::post) rest)(hi:i=I.length)(h:∀J m,m.length=a.length+b.length->RI κ f key n J (I++(m,wa)::post) rest->Q e_ J):Ja (B_ prog w) A E s (mergeAt' i) Q st:=by
 subst hi;have U:=R.ok (a,wa) ad;have Y:=R.ok (b,wb) ad;have q:flt (I++(a,wa)::(b,wb)::post)++rest=flt I++(a++(b++(flt post++rest))):=by rw[iM,ck,ck];simp
 have p:mkP 0 (I++(a,wa)::(b,wb)::post)=mkP 0 I++((flt I).length,a.length,wa)::((flt I).length+a.length,b.length,wb)::mkP ((flt I).length+a.length+b.length) post:=by rw[kQ];simp[mkP]
 have S:=R.ss;rw[q]at S;have d:=R.pd;rw[p]at d;have c:=qX I 0;refine yt L S d (wa:=wa) (wb:=wb) ?_ ?_ U.1 Y.1 U.2 Y.2 λJ m pm j r k=>h J m (by rw[pm.length_eq,CM]) ⟨?_,?_,?_⟩
 .rw[IE,DZ ac,c,Hm];rfl
 .rw[IE,DZ ac,c,FJ];rfl
 .have e:flt (I++(m,wa)::post)++rest=flt I++(m++(flt post++rest)):=by rw[iM,ck];simp
  rw[e];exact r
 .rw[k,kQ];have l:m.length=a.length+b.length:=by rw[pm.length_eq,CM]
  show _=(mkP 0 I++(0+(flt I).length,m.length,wa)::mkP (0+(flt I).length+m.length) post).toArray;rw[Lq,l,Ky,<- c,Lu _ _ (m_ _),Hm,DL,List.eraseIdxIfInBounds_toArray,Jy ac,FJ,<- HV];rfl
 .intro g o;rcases DM.mp o with e|e
  .exact R.ok g (Et _ e)
  .rcases r_.mp e with e|e
   .subst e;have t:0<a.length:=U.2;exact⟨j,by show 0<m.length;rw[pm.length_eq,CM];lia⟩
   .exact R.ok g (Dc _ (CS _ (CS _ e)))
theorem split2{l:List α}(h:i+1<l.length):∃I a b post,l=I++a::b::post/\I.length=i:=by
 refine⟨l.take i,l[i],l[i+1],l.drop (i+2),?_,by simp;lia⟩
 rw[<- D3,<- D3,D1]
def rePw(pw:Nat):Nat×Nat×Nat->Nat×Nat×Nat
 |(s,l,_)=>(s,l,pw)
theorem RI.last{pw:Nat}(h:RI κ f key n st gs rest):∃J,J.length=gs.length/\flt J=flt gs/\RI κ f key n (setPending st ((Df st).modify ((Df st).size-1) (rePw pw))) J rest:=by
 by_cases e:gs=[]
 .subst e;refine⟨[],rfl,rfl,⟨h.ss.kind,h.ss.ok,h.ss.arr,h.ss.perm⟩,?_,h.ok⟩
  show(Df st).modify ((Df st).size-1) (rePw pw)=_;rw[h.pd];rfl
 .obtain⟨I,b,eb⟩:∃I b,gs=I++[b]:=⟨gs.dropLast,gs.getLast e,(List.dropLast_concat_getLast e).symm⟩
  subst eb;obtain⟨b,wb⟩:=b;have S:flt (I++[(b,pw)])=flt (I++[(b,wb)]):=by simp[flt]
  refine⟨I++[(b,pw)],ad,S,⟨h.ss.kind,h.ss.ok,?_,?_⟩,?_,λg Y=>?_⟩
  .rw[S];exact h.ss.arr
  .rw[S];exact h.ss.perm
  .show(Df st).modify ((Df st).size-1) (rePw pw)=_;rw[h.size,h.pd,kQ,kQ];have U:=qX I 0;apply Array.ext_getElem?;intro i;rw[Array.getElem?_modify];simp only[CM,ID,Nat.add_sub_cancel,IE,mkP];by_cases c:I.length=i
   .subst c;rw[n_ rfl,<- U,DZ (m_ _),DZ (m_ _),Hm];rfl
   .rw[l_ c];rcases Lr i I.length with d|d
    .rw[DD ac,DD ac]
    .rw[GV (by simp;lia),GV (by simp;lia)]
  .rcases DM.mp Y with e|e
   .exact h.ok g (Et _ e)
   .have:=CO.mp e;subst this;exact h.ok (b,wb) ad
theorem RI.push{st:Eb}{gs:List (aC×Nat)}{I rest:aC}(h:RI κ f key n st gs (I++rest))(S:Srt key I)(U:0<I.length):RI κ f key n (setPending st ((Df st).push ((flt gs).length,I.length,0))) (gs++[(I,0)]) rest:=by
 have J:flt (gs++[(I,0)])++rest=flt gs++(I++rest):=by simp[flt]
 refine⟨⟨h.ss.kind,h.ss.ok,?_,?_⟩,?_,λg Y=>?_⟩
 .rw[J];exact h.ss.arr
 .rw[J];exact h.ss.perm
 .show(Df st).push _=_;rw[h.pd,kQ];simp[mkP]
 .rcases DM.mp Y with e|e
  .exact h.ok g e
  .rw[CO.mp e];exact⟨S,U⟩
theorem cut_run{J:Eb}{I:aC}(R:RI κ f key n st gs rest)(Y:SS κ f n J I)(b:Df J=Df st)(h:(flt gs).length+m<=n)(a:Sg key I (flt gs).length ((flt gs).length+m))(g:Fx (flt gs).length (flt gs++rest) I):
  ∃S U,S.length=m/\Srt key S/\RI κ f key n J gs (S++U):=by
 have k:=Y.len;refine⟨(I.drop (flt gs).length).take m,(I.drop (flt gs).length).drop m,by simp;lia,?_,?_⟩
 .refine HC.mpr λi j hi c d=>?_;simp only[FF,Gk]at hi c;rw[HG,HG,JO,JO];have:=a ((flt gs).length+i) ((flt gs).length+j) ac ac ac;unfold kG at this;rw[show I.getD ((flt gs).length+i) 0=I[(flt gs).length+i]'(by omega) by simp[show(flt gs).length+i<I.length by lia],show I.getD ((flt gs).length+j) 0=I[(flt gs).length+j]'(by omega) by simp[show(flt gs).length+j<I.length by lia]]at this;exact this
 .have e:flt gs++((I.drop (flt gs).length).take m++(I.drop (flt gs).length).drop m)=I:=by
   rw[D1];have:I.take (flt gs).length=flt gs:=by
    apply H_
    .simp;lia
    .intro i h1 h2;have:=g i h2;rw[HG];rw[show I.getD i 0=I[i]'(by simp at h1;lia) by simp[show i<I.length by simp at h1;lia],show(flt gs++rest).getD i 0=(flt gs)[i] by rw[CH,DD h2,Dk h2];rfl]at this;exact this
   have e2:=D1 (flt gs).length I
   rwa [this]at e2
  refine⟨by rw[e];exact Y,by rw[b];exact R.pd,R.ok⟩
def SR(κ:Kq)(f:Nat->E_)(key:Nat->Int)(n x:Nat)(r:Hi (Option Unit×Nat))(I:Eb):Prop:=match r with
 |.done c=>∃gs rest,RI κ f key n I gs rest/\c=(f_,(flt gs).length)/\(flt gs).length=n
 |.yield c=>∃gs rest,RI κ f key n I gs rest/\c=(f_,(flt gs).length)/\(x+1<=(flt gs).length\/(flt gs).length=n)
theorem uM(L:zY prog w A E s κ f key n){Q:Unit->Eb->Prop}(S:SS κ f n st (CU n))(hp:Df st=#[])(h1:1<=n)(h:∀U p,SS κ f n U p->Srt key p->Q () U):Ja (B_ prog w) A E s sortRuns' Q st:=by
 rw[sortRuns'_eq];refine z_ (Io ?_);have hz:(JY st).size=n:=by rw[S.arr];simp
 rw[hz]
 extract_lets d mr D
 have ez:d=n:=rfl;have el:D=0:=rfl
 clear_value mr D d
 subst ez el;refine z_ (ET (Er (I:=λx c U=>∃gs rest,RI κ f key d U gs rest/\c=(f_,(flt gs).length)/\(x<=(flt gs).length\/(flt gs).length=d))
  (Q:=λc U=>∃gs rest,RI κ f key d U gs rest/\c=(f_,(flt gs).length)/\(flt gs).length=d) ?step ?fin ⟨[],CU d,⟨S,hp,λ_ h=>CQ h Dq⟩,rfl,.inl (DU _)⟩) ?post)
 case fin=>rintro c U ⟨gs,rest,R,rfl,hx⟩;have:=R.ss.len;rw[CM]at this;exact⟨gs,rest,R,rfl,ac⟩
 case step=>
  rintro x c B _ hx ⟨gs,rest,R,rfl,F⟩;have u:=R.ss.len;rw[CM]at u;refine ET (Q:=SR κ f key d x) ?_ (λr U hr=>by cases r<;>exact hr);show Ja _ _ _ _ (ite _ _ _) _ _;by_cases c1:(flt gs).length>=d
  .rw[n_ c1];exact CI ⟨gs,rest,R,rfl,ac⟩
  rw[l_ c1];refine z_ (uN L R.ss ac ac λm q p2 Z q2 m1 m2 P X=>?_);dsimp -zeta only
  extract_lets nn jp fo C
  have en:m=nn:=rfl;have eo:fo=J_ (d-(flt gs).length) mr:=rfl;have en2:C=fo:=rfl
  clear_value C fo nn
  subst en en2 eo;have G:∀m q p2,SS κ f d q p2->Df q=Df B->1<=m->m<=d-(flt gs).length->Sg key p2 (flt gs).length ((flt gs).length+m)->Fx (flt gs).length (flt gs++rest) p2->Ja (B_ prog w) A E s (jp () m) (SR κ f key d x) q:=by
   intro m q p2 Z q2 m1 m2 P X;obtain⟨t,j,lr,sr,R2⟩:=cut_run R Z q2 ac P X;refine z_ (Io ?_);clear jp
   extract_lets lo2 jp
   have H:∀Y J,RI κ f key d Y J (t++j)->(flt J).length=(flt gs).length->Ja (B_ prog w) A E s (jp ()) (SR κ f key d x) Y:=by
    intro Y J k o;refine z_ (GO (CI ⟨J++[(t,0)],j,?_,?_,?_⟩))
    .have:=k.push sr ac;rw[o,lr]at this;exact this
    .have e:(flt (J++[(t,0)])).length=(flt gs).length+m:=by rw[iM,CM,o,ck,<- lr];simp[flt]
     rw[e]
    .have e:(flt (J++[(t,0)])).length=(flt gs).length+m:=by rw[iM,CM,o,ck,<- lr];simp[flt]
     rw[e];lia
   clear_value jp
   split
   .rename_i s1 n1 o1 hb
    extract_lets pw
    refine z_ (ET (Er (I:=λy c U=>c=(f_,())/\∃J,RI κ f key d U J (t++j)/\(flt J).length=(flt gs).length)
     (Q:=λc U=>c=(f_,())/\∃J,RI κ f key d U J (t++j)/\(flt J).length=(flt gs).length) ?step1 (λ_ _ hh=>hh) ⟨rfl,gs,R2,rfl⟩) ?post1)
    case post1=>rintro c Y ⟨rfl,J,k,o⟩;obtain⟨gs4,a1,a2,O⟩:=k.last (pw:=pw);exact z_ (GO (H _ gs4 O (by rw[a2,o])))
    case step1=>
     rintro y c Y _ hy ⟨rfl,J,k,o⟩;refine z_ (Io ?_);show Ja _ _ _ _ (match if (Df Y).size>1 then(Df Y)[(Df Y).size-2]? else f_ with|some (_,_,z)=>_|_=>_) _ _;rw[k.size];split
     .rename_i o1 o2 z ho;have K:J.length>1:=by
       by_cases c:J.length>1
       .exact c
       .rw[l_ c]at ho;cases ho
      split
      .exact CI ⟨rfl,J,k,o⟩
      .obtain⟨pre,a,b,post,e,lp⟩:=split2 (l:=J) (i:=J.length-2) ac;obtain⟨a,wa⟩:=a;obtain⟨b,wb⟩:=b;rw[e]at k;refine z_ (wY L k lp.symm λst4 m4 lm O=>?_);refine CI ⟨rfl,_,O,?_⟩;rw[<- o,e,iM,iM,ck,ck,ck];simp[lm];lia
     .exact CI ⟨rfl,J,k,o⟩
   .exact H _ gs R2 rfl
  clear_value jp
  by_cases c2:m<mr
  .rw[n_ c2];refine z_ (Jx (Fp ⟨rfl,?_⟩));refine z_ (Af L Z ac m1 ac P λY p3 S3 q3 s3 f3=>?_);exact G _ Y p3 S3 (q3.trans q2) ac ac s3 (X.trans f3)
  .rw[l_ c2];exact G _ q p2 Z q2 m1 m2 P X
 case post=>
  rintro c B ⟨gs,rest,R,rfl,F⟩;have u:=R.ss.len;rw[CM]at u;have er:rest=[]:=GC.mp ac;subst er;have hfew:=RI.few R.ok;show Ja _ _ _ _ (_ >>= _) _ _;refine z_ (ET (Er (I:=λy c U=>c=(f_,())/\∃J,RI κ f key d U J []/\(flt J).length=d/\(J.length+y<=d\/J.length<=1))
   (Q:=λc U=>c=(f_,())/\∃J,RI κ f key d U J []/\(flt J).length=d/\J.length<=1) ?step1 ?fin1 ⟨rfl,gs,R,F,.inl ac⟩) ?post1)
  case fin1=>rintro c Y ⟨rfl,J,k,o,hy⟩;exact⟨rfl,J,k,o,ac⟩
  case post1=>
   rintro c Y ⟨rfl,J,k,o,K⟩;refine CI (h Y (flt J) (by have:=k.ss;rwa [DB]at this) ?_)
   match J,K,k.ok with
   |[],_,_=>exact E1|[g],_,ok=>rw[ck];simpa[flt] using (ok g CW).1
  case step1=>
   rintro y c Y _ hy ⟨rfl,J,k,o,K⟩;refine z_ (Io ?_);show Ja _ _ _ _ (ite _ _ _) _ _;rw[k.size];by_cases N:J.length<=1
   .rw[n_ N];exact CI ⟨rfl,J,k,o,N⟩
   rw[l_ N]
   extract_lets W v T
   have e1:T=W-1\/T=W:=by
    show ite _ _ _=_\/ite _ _ _=_;split
    .exact .inl rfl
    .exact .inr rfl
   have e0:W=J.length-2:=rfl
   clear_value T v W
   have hi:T+1<J.length:=ac
   obtain⟨pre,a,b,post,e,lp⟩:=split2 hi;obtain⟨a,wa⟩:=a;obtain⟨b,wb⟩:=b;rw[e]at k;refine z_ (wY L k lp.symm λst4 m4 lm O=>?_);refine CI ⟨rfl,_,O,?_,?_⟩
   .rw[<- o,e,iM,iM,ck,ck,ck];simp[lm];lia
   .rw[e]at K N;simp at K N ⊢;lia
end
section
open PySem.W hiding kindOf
variable{s:k_}{key:Nat->Int}
def zZ(key:Nat->Int)(vs out:aM):Prop:=∃ps:aC,ps.Perm (CU vs.length)/\Srt key ps/\out=ps.map λi=>vs.getD i Dw
def ltOk_of(I:∀i j (C:Bool->k_->Prop),i<vs.length->j<vs.length->C (ltK key i j) s->Mm prog w A κ vs i j C s):zY prog w A E s κ (λi=>(vs.getD i Dw,vs.getD i Dw)) key vs.length:=by intro i j Q st hi S J h;rw[lt'_eq];refine z_ (Io ?_);rw[J];refine z_ (Jx (Ga (DX (I i j (λb s'=>s'=s/\b=ltK key i j) hi S ⟨rfl,rfl⟩) (λb s' U=>?_) λ_ _ x=>x.elim)));obtain⟨rfl,rfl⟩:=U;exact⟨rfl,CI h⟩
theorem tL{P:Ku->k_->Prop}(Y:s.heap.get? a=a_ (Ea "list" vs.toArray n))(F:vs.length<=o_)(C:2<=vs.length->∀h1:Du,(∀b o,b≠a->s.heap.get? b=a_ o->h1.get? b=a_ o)->Asks prog w A key vs {s with heap:=h1})(h:∀(h':Du) (c:Nat) (out:aM),zZ key vs out->(∀b o,b≠a->s.heap.get? b=a_ o->h'.get? b=a_ o)->h'.get? a=a_ (Ea "list" out.toArray c)->P (.done (.ret .none)) {s with heap:=h'}):
  w_ (B_ prog w) A (Builtin.«list.sort» ⟨[.ref a],[]⟩) P E s:=by
 have B:a<s.z:=t_ Y;obtain⟨e1,g⟩:∃e1,(s.heap.update a (D4 λ_=>(#[]:Array g_))).get? a=a_ (Ea "list" #[] e1):=⟨_,Jb Y λ_=>#[]⟩
 rw[list_sort_plain];refine b_ (Ms Y rfl (b_ (Hg Y rfl (b_ (Ip g rfl (b_ (Le (b_ (Ir (Ez ?_) (DU _))) (by show vs.length<=_;lia))))) (by rw[CJ];lia) (DU _))));have U:∀b o,b≠a->s.heap.get? b=a_ o->(((s.heap.update a (D4 λ_=>(#[]:Array g_))).push (Ea "tuple" vs.toArray 0)).push (Ea "list" #[] 0)).get? b=a_ o:=λb o j q=>d_ _ (d_ _ ((Dd _ _ (D6 j)).trans q))
 have J:(((s.heap.update a (D4 λ_=>(#[]:Array g_))).push (Ea "tuple" vs.toArray 0)).push (Ea "list" #[] 0)).get? a=a_ (Ea "list" #[] e1):=d_ _ (d_ _ g);show w_ (B_ prog w) A _ P E {s with heap:=((s.heap.update a (D4 λ_=>(#[]:Array g_))).push (Ea "tuple" vs.toArray 0)).push (Ea "list" #[] 0)};dsimp only;have fin:∀(out:aM),zZ key vs out->P (.done (.ret .none)) {s with heap:=(((s.heap.update a (D4 λ_=>(#[]:Array g_))).push (Ea "tuple" vs.toArray 0)).push (Ea "list" #[] 0)).update a (D4 λ_=>out.toArray)}:=λout e=>h _ _ out e (λb o j q=>(Dd _ _ (D6 j)).trans (U b o j q)) (Jb J λ_=>out.toArray)
 have k:(CU vs.length).map (λi=>vs.getD i Dw)=vs:=by
  apply H_
  .simp
  .intro i l u;simp[u]
 by_cases h2:vs.toArray.size<2
 .rw[n_ h2,n_ h2];refine b_ (h_ ?_);rw[Mc];refine b_ (h_ ?_);dsimp only;have d:vs.length<2:=by simpa using h2
  have e:(JY (Hh MZ (vs.toArray.zip vs.toArray) #[] 7 f_)).map (·.2)=vs.toArray:=by show(vs.toArray.zip vs.toArray).map (·.2)=vs.toArray;apply GW.mp;simp only[My,JW];exact MH (m_ _)
  rw[e];refine b_ (Ip J rfl (b_ (Hg J rfl ?_ (DU _) (by show vs.length<=_;lia))));have e3:HU (Hh MZ (vs.toArray.zip vs.toArray) #[] 7 f_)=f_:=rfl;simp only[e3,Jo,CY,En];refine h_ (fin vs ⟨CU vs.length,Fy _,?_,k.symm⟩)
  match vs,d with
  |[],_=>exact E1|[x],_=>exact List.pairwise_singleton _ _
 .rw[l_ h2,l_ h2];have d:2<=vs.length:=by rw[CJ]at h2;lia
  refine b_ (DX (C d _ U) (fun κ D y=>?_) λ_ _ x=>x.elim);obtain⟨es,t⟩:=y;subst es;have ea:vs.toArray.zip vs.toArray=((CU vs.length).map λi=>(vs.getD i Dw,vs.getD i Dw)).toArray:=by
   apply GW.mp;simp only[JW];apply H_
   .simp
   .intro i l u;simp at l;simp[l]
  have f:=uM (E:=E) (ltOk_of (E:=E) t) (st:=Hh κ (vs.toArray.zip vs.toArray) #[] 7 f_) (Q:=λ_ I=>HU I=f_/\∃out,zZ key vs out/\(JY I).map (·.2)=out.toArray) ⟨rfl,rfl,ea,Fy _⟩ rfl ac (λI p S sp=>⟨S.ok,_,⟨p,S.perm,sp,rfl⟩,by rw[S.arr];simp⟩);unfold Ja at f;refine b_ (DX f (λr s' v=>?_) λ_ _ x=>x);obtain⟨⟨⟩,I⟩:=r;obtain⟨es,m,out,Y,e⟩:=v;subst es;have m:HU I=f_:=m;have e:(JY I).map (·.2)=out.toArray:=e;dsimp only;rw[e];have z:out.length=vs.length:=by obtain⟨ps,h1,_,rfl⟩:=Y;rw[q_,h1.length_eq,F9]
  refine b_ (Ip J rfl (b_ (Hg J rfl ?_ (DU _) (by show out.length<=_;lia))));simp only[m,Jo,CY,En];exact h_ (fin _ Y)
theorem p9{Q:Vp}(e:s.heap.IsList l vs.toArray)(S:vs.length<=o_)(f:2<=vs.length->∀h1:Du,(∀b o,s.heap.get? b=a_ o->h1.get? b=a_ o)->Asks prog w A.in1.in1 key vs {s with heap:=h1})(h:∀(h':Du) (D:i_) (c:Nat) (out:aM),zZ key vs out->s.heap.objs.size<=D->(∀b o,s.heap.get? b=a_ o->h'.get? b=a_ o)->h'.get? D=a_ (Ea "list" out.toArray c)->Q (.ref D) {s with heap:=h'}):
  w_ (B_ prog w) A (Hk (.builtin "sorted") [.ref l]) Q E s:=by
 refine Hz MY Mr Mt (Mu _) ?_;unfold Builtin.«sorted»;refine b_ (m:=Nq "sorted" 1 1 _) (h_ (b_ (collect_list e (b_ (Ir ?_ ac)) ac)));have Y:((s.heap.push (Ea "list" #[] 0)).update s.z (D4 (·++vs.toArray))).objs.size=s.z+1:=by rw[FE,size_push']
 have a:(((s.heap.push (Ea "list" #[] 0)).update s.z (D4 (·++vs.toArray))).push (Ea "list" vs.toArray 0)).get? (s.z+1)=a_ (Ea "list" vs.toArray 0):=by rw[<- Y];exact s_ _ rfl
 have I:∀b o,s.heap.get? b=a_ o->(((s.heap.push (Ea "list" #[] 0)).update s.z (D4 (·++vs.toArray))).push (Ea "list" vs.toArray 0)).get? b=a_ o:=λb o q=>d_ _ ((Dd _ _ (E4 (t_ q))).trans (d_ _ q))
 show w_ _ _ _ _ _ {s with heap:=((s.heap.push (Ea "list" #[] 0)).update s.z (D4 (·++vs.toArray))).push (Ea "list" vs.toArray 0)};rw[Y];have J:∀b o,s.heap.get? b=a_ o->b≠s.z+1:=λb o q=>De (GP (t_ q));refine b_ (Ez (DC Ll ⟨_,a,rfl⟩ K7 (tL a S (λh2 h1 U=>f h2 h1 λb o q=>U b o (J b o q) (I b o q)) λh' c out d k' g=>⟨_,rfl,?_⟩) (Lo _)));exact h_ ⟨_,rfl,h h' _ c out d (G6 _) (λb o q=>k' b o (J b o q) (I b o q)) g⟩
end
section
open PySem.W hiding kindOf
variable{lt:α->α->Bool}
theorem AU(o:Ord lt)(I:List α)(d:α){ps:aC}(h1:ps.Perm (CU I.length))(h2:Srt (rk lt I d) ps):ps.map (λi=>I.getD i d)=fQ lt I:=by
 refine mU o ?_ ?_ (iH o I)
 .refine(h1.map _).trans ?_;have:(CU I.length).map (λi=>I.getD i d)=I:=by
   apply H_
   .simp
   .intro i c Y;simp[Y]
  rw[this];exact(gK I).symm
 .rw[JN];refine Jz (λ{a b} U J S=>?_) h2;rw[<- rk_lt o (d:=d) (DH.mp (h1.mem_iff.mp J)) (DH.mp (h1.mem_iff.mp U))];exact Dx ac
end
section
open PySem SetTable
end
section
open PySem
end
section
open PySem SetTable
end
section
open PySem.W
end
section
open PySem
structure IK(prog:D0)(w:Ew)(κ:Type)[FD κ] where
 is:Du->κ->g_->Prop
 hash:κ->Int
 draws:κ->Nat
 up:Nat
 fuel:Nat
 inj:∀{h:Du} {v:g_} {x y:κ},is h x v->is h y v->x=y
 keeps:∀{h h':Du} {k:κ} {v:g_},is h k v->(∀(a:i_) (o:IB) (us:Array g_) (n:Nat),h.get? a=a_ o->o.data=.seq us n->h'.get? a=a_ o)->is h' k v
 pyHash:∀{A:ES} {E:Vp} {s:k_} {k:κ} {v:g_} {Q:Int->k_->Prop},A.units+up<DV->is s.heap k v->Q (hash k) {s with toks:=s.toks+draws k}->w_ (B_ prog w) A (Jt v) Q E s
 eqBool:∀{A:ES} {E:Vp} {s:k_} {x y:κ} {u v:g_} {Q:Bool->k_->Prop},A.units+up<DV->is s.heap x u->is s.heap y v->Q (CL (x=y)) s->w_ (B_ prog w) A (G_ u v) Q E s
 quiet:∀{A:ES} {E:Vp} {s:k_} {k:κ} {v:g_} {Q:Bool->k_->Prop} (n:Nat),fuel<=n->is s.heap k v->Q e_ s->w_ (B_ prog w) A (LV n v) Q E s
variable{s:k_}
def TupAt(h:Du)(a:i_)(us:aM):Prop:=∃o n,h.get? a=a_ o/\o.cls=.type "tuple"/\o.data=.seq us.toArray n
def TupAt.ty(h:TupAt s.heap a us):s.TypeIs (.ref a) "tuple":=let ⟨o,_,I,J,_⟩:=h;⟨o,I,J⟩
def TupAt.inj{h:Du}{a:i_}{us vs:aM}(x:TupAt h a us)(y:TupAt h a vs):us=vs:=by
 obtain⟨o,n,S,_,hd⟩:=x;obtain⟨o',U,J,_,I⟩:=y;have e:=Dl (S.symm.trans J);subst e;rw[hd]at I;injection I with h1 _
 simpa using h1
def TupAt.keep(x:TupAt h a us)(k:∀(a:i_) (o:IB) (us:Array g_) (n:Nat),h.get? a=a_ o->o.data=.seq us n->h'.get? a=a_ o):TupAt h' a us:=
 let ⟨o,n,I,J,hd⟩:=x;⟨o,n,k _ _ _ _ I hd,J,hd⟩
inductive Hs(prog:D0)(w:Ew)(A:ES)(h:Du):List g_->List Int->Nat->Prop
 |nil:Hs prog w A h [] [] 0
 |cons {v:g_} {vs:List g_} {i:Int} {is:List Int} {d n:Nat} (hv:∀(E:Vp) (s:k_) (Q:Int->k_->Prop),s.heap=h->Q i {s with toks:=s.toks+d}->w_ (B_ prog w) A (Jt v) Q E s) (r:Hs prog w A h vs is n):Hs prog w A h (v::vs) (i::is) (d+n)
theorem xo{is:am}{Q:Int->k_->Prop}(j:A.units<DV)(e:TupAt s.heap a us)(hi:Hs prog w A.in1 s.heap us is n)(h:Q (HP (Ds is)) {s with toks:=s.toks+(n+1)}):
  w_ (B_ prog w) A (Jt (.ref a)) Q E s:=by
 have S:=e.ty;obtain⟨o,m,l,_,hd⟩:=e;unfold Jt
 first|unfold pyHashByItsType|skip
 first|refine b_ (wpAny_cRoomFor_or (.inr j) ?_)|skip
 refine b_ (K1 S HW.lookup ?_);show w_ _ _ (ite ((a_ (I9 "tuple.__hash__")==a_ Dw)=e_) _ _) Q E s;rw[l_ (by rw[beq_builtin_none];exact Dt)];refine b_ (K1 S HW.lookup ?_);show w_ _ _ (callSpecialIfBoundUnlessNone? (.ref a) "__hash__" _ >>= _) Q E s;refine b_ (wpAny_callSpecialIfBoundUnlessNone?_slot S HW (DC HW S F.entry_tuple_hash ?_ (F.args_tuple_hash_1 _)));show w_ _ _ (Jl (.ref a) >>= _) _ _ s;refine b_ (GK l hd ?_);refine b_ ?_;rw[<- LQ];refine IG _ (λrest (b:Array Int) s'=>∃I m k,Hs prog w A.in1 s.heap rest I m/\b.toList++I=is/\k+m=n/\s'={s with toks:=s.toks+k}) _ ?_ ?_ _ _ ⟨is,n,0,hi,rfl,ac,rfl⟩
 .rintro x rest b s' ⟨I,m,k,Y,J,p,rfl⟩;cases Y with
  |@cons _ _ i U d g hv r=>refine b_ (hv _ _ _ rfl (h_ ⟨U,g,k+d,r,by rw[<- J];simp,ac,?_⟩));simp[HV]
 .rintro b s' ⟨I,m,k,Y,J,p,rfl⟩;cases Y;rw[DB]at J;have c:k=n:=ac
  subst c;show w_ _ _ (retInt (Ds b.toList)) _ _ _;rw[J];refine wpAny_ret_mkInt ?_;refine(?_:w_ _ _ (ite ((CL (-(2:Int)^63<=Ds is)&&CL (Ds is<2^63))=e_) _ _) Q E _)
  unfold HP at h;by_cases f:(CL (-(2:Int)^63<=Ds is)&&CL (Ds is<2^63))=e_
  .rw[n_ f]at h ⊢;exact h_ (by simpa[HV] using h)
  .rw[l_ f]at h ⊢;exact b_ (Fp (h_ (by simpa[HV] using h)))
inductive Es(prog:D0)(w:Ew)(A:ES)(h:Du):List g_->List g_->Bool->Prop
 |nil {us vs:List g_} (e:us=[]\/vs=[]):Es prog w A h us vs e_
 |cons {u v:g_} {us vs:List g_} {b c:Bool} (hv:∀(E:Vp) (s:k_) (Q:Bool->k_->Prop),s.heap=h->Q b s->w_ (B_ prog w) A (G_ u v) Q E s) (r:Es prog w A h us vs c):Es prog w A h (u::us) (v::vs) (b&&c)
def vB{c:Bool}{P:Ku->k_->Prop}(q:TupAt s.heap a us)(p:TupAt s.heap b vs)(y:Es prog w A s.heap us vs c)(h:P (.done (.ret (.bool (c&&us.length==vs.length)))) s):
  w_ (B_ prog w) A (Builtin.«tuple.__eq__» ⟨[.ref a,.ref b],[]⟩) P E s:=by
 have n:=p.ty;obtain⟨G,K,k,_,m⟩:=q;obtain⟨F,H,j,_,l⟩:=p;show w_ _ _ (Li (.ref b) (.type "tuple") >>= _) _ _ s;refine b_ (Gy n Jh ?_);simp only[G1,CY,En];refine b_ (GK k m (b_ (GK j l (b_ ?_))));refine IG _ (λrest r s'=>r.1=f_/\s'=s/\∃J I d,rest=List.zip J I/\Es prog w A s.heap J I d/\d=c) _ ?_ ?_ _ _ ⟨rfl,rfl,us,vs,c,ad,y,rfl⟩
 .rintro⟨u,v⟩ rest r s' ⟨i,rfl,J,I,d,U,S,Y⟩;cases S with
  |nil e=>
   rcases e with e|e
   .subst e;simp at U
   .subst e;simp at U
  |@cons D C g f B z hv o=>
   simp only[Jq,Gm,IS]at U;obtain⟨⟨rfl,rfl⟩,rfl⟩:=U;refine b_ (hv _ _ _ rfl ?_);cases B with
   |true=>simp only[G1,CY,En];exact h_ ⟨rfl,rfl,g,f,z,rfl,o,by rw[<- Y,HM]⟩|false=>
    simp only[Nd,FK];have x:c=c_:=by rw[<- Y];rfl
    rw[x,KA]at h;exact b_ (h_ (h_ (h_ h)))
 .rintro⟨o,r2⟩ s' ⟨i,rfl,J,I,d,U,S,Y⟩;simp only at i;subst i;have t:c=e_:=by
   cases S with
   |nil e=>exact Y.symm|cons _ _=>simp at U
  rw[t,HM]at h;refine h_ ?_;show P (.done (.ret (.bool (us.toArray.size==vs.toArray.size)))) s';exact h
theorem eq_tup{c:Bool}{Q:Bool->k_->Prop}(U:A.units<DV)(J:TupAt s.heap a us)(S:TupAt s.heap b vs)(d:Es prog w A.in1 s.heap us vs c)(Y:a=b->(c&&us.length==vs.length)=e_)(h:Q (c&&us.length==vs.length) s):
  w_ (B_ prog w) A (G_ (.ref a) (.ref b)) Q E s:=by
 unfold G_
 try with_reducible refine Ez ?_
 show w_ _ _ (ite ((x_ a==x_ b)=e_) _ _) Q E s;by_cases I:(x_ a==x_ b)=e_
 .rw[n_ I];have e:a=b:=by have:=Fc I;injection this
  rw[Y e]at h;exact b_ (Fp (h_ h))
 .rw[l_ I];exact b_ (K9 (op:=.Eq) J.ty S.ty KO (DC KO J.ty F.entry_tuple_eq (vB J S d ⟨_,rfl,(λe=>nomatch e),Ep h⟩) (F.args_tuple_eq_2 _ _)) U)
def sV{Q:Bool->k_->Prop}(n:Nat)(U:TupAt s.heap a us)(b:∀v∈us,∀(E:Vp) (Q:Bool->k_->Prop),Q e_ s->w_ (B_ prog w) A (LV n v) Q E s)(h:Q e_ s):w_ (B_ prog w) A (LV (n+1) (.ref a)) Q E s:=by
 have Y:=U.ty;obtain⟨o,m,c,_,hd⟩:=U;unfold LV;refine b_ (K1 Y KO.lookup ?_);show w_ _ _ (Li (.ref a) (.type "tuple") >>= _) _ _ s;refine b_ (Gy Y Jh ?_);simp only[G1,CY,En];refine b_ (E8 c hd (b_ ?_));show w_ _ _ (Mb us.toArray _ _) _ _ s;rw[<- LQ];refine IG _ (λrest r s'=>r.1=f_/\s'=s/\∀v∈rest,v∈us) _ ?_ ?_ _ _ ⟨rfl,rfl,λv hv=>by simpa using hv⟩
 .rintro v rest r s' ⟨S,rfl,I⟩;refine b_ (b v (I v CW) _ _ ?_);simp only[G1,CY,En];exact h_ ⟨rfl,rfl,λu J=>I u (CS _ J)⟩
 .rintro⟨d,r2⟩ s' ⟨S,rfl,_⟩;simp only at S;subst S;exact h_ h
end
section
open PySem
variable{κ μ:Type}[FD κ][FD μ]
inductive og{α β:Type}(R:α->β->Prop):List α->List β->Prop
 |nil:og R [] []
 |cons {x:α} {y:β} {xs:List α} {ys:List β} (h:R x y) (t:og R xs ys):og R (x::xs) (y::ys)
def og.imp{R S:α->β->Prop}(f:∀x y,R x y->S x y){xs:List α}{ys:List β}(h:og R xs ys):og S xs ys:=by
 induction h with
 |nil=>exact .nil|cons h _ I=>exact .cons (f _ _ h) I
def og.mem{R:α->β->Prop}{xs:List α}{ys:List β}(h:og R xs ys):∀y∈ys,∃x,R x y:=by
 induction h with
 |nil=>intro y I;simp at I|cons h _ J=>
  intro y I;rcases r_.mp I with e|e
  .subst e;exact⟨_,h⟩
  .exact J y e
def vt(prog:D0)(w:Ew):IK prog w Int where
 is:=λ_ k v=>∃t,v=.int k t
 hash:=NI
 draws:=λ_=>1
 up:=0
 fuel:=0
 inj:=λ⟨t,e⟩ ⟨u,f⟩=>by rw[e]at f;cases f;rfl
 keeps:=λh _=>h
 pyHash:=λ_ ⟨t,e⟩ h=>by subst e;exact(K_ prog w).pyHash (Nn _ _ _ _) h
 eqBool:=λ_ ⟨t,e⟩ ⟨u,f⟩ h=>by subst e f;exact(K_ prog w).eqBool (Nn _ _ _ _) (Nn _ _ _ _) h
 quiet:=λn _ ⟨t,e⟩ h=>by subst e;rw[eqIsQuiet_byValue n rfl];exact h_ h
theorem hs_all(I:IK prog w κ){A:ES}{h:Du}(J:A.units+I.up<DV):∀{ks:List κ} {us:aM},og (I.is h) ks us->Hs prog w A h us (ks.map I.hash) ((ks.map I.draws).sum)
 |_,_,.nil=>.nil|_,_,.cons q t=>.cons (λE s Q e S=>I.pyHash J (by rw[e];exact q) S) (hs_all I J t)
theorem es_all(I:IK prog w κ){A:ES}{h:Du}(J:A.units+I.up<DV):∀{ks ls:List κ} {us vs:aM},og (I.is h) ks us->og (I.is h) ls vs->∃c,Es prog w A h us vs c/\(c&&us.length==vs.length)=CL (ks=ls)
 |_,_,_,_,.nil,.nil=>⟨e_,.nil (.inl rfl),ad⟩|_,_,_,_,.nil,.cons q t=>⟨e_,.nil (.inl rfl),ad⟩|_,_,_,_,.cons q t,.nil=>⟨e_,.nil (.inr rfl),ad⟩|k::ks,l::ls,_,_,.cons q t,.cons U t'=>by
  obtain⟨c,e,a⟩:=es_all I J t t';refine⟨CL (k=l)&&c,.cons (λE s Q e Y=>I.eqBool J (by rw[e];exact q) (by rw[e];exact U) Y) e,?_⟩
  by_cases S:k=l
  .subst S;simp only[decide_true,HM,CG];rw[show(∀m n:Nat,(m+1==n+1)=(m==n))from λm n=>by simp,a];simp
  .simp[S]
theorem vT(I:IK prog w κ){h:Du}:∀{ks ls:List κ} {us:aM},og (I.is h) ks us->og (I.is h) ls us->ks=ls
 |_,_,_,.nil,.nil=>rfl|_,_,_,.cons q t,.cons J t'=>by rw[I.inj q J,vT I t t']
def tupI(I:IK prog w κ):IK prog w (List κ) where
 is:=λh ks v=>∃a us,v=.ref a/\TupAt h a us/\og (I.is h) ks us
 hash:=λks=>HP (Ds (ks.map I.hash))
 draws:=λks=>(ks.map I.draws).sum+1
 up:=I.up+1
 fuel:=I.fuel+1
 inj:=λ⟨a,us,e,t,q⟩ ⟨b,vs,f,t',J⟩=>by rw[e]at f;cases f;have:=t.inj t';subst this;exact vT I q J
 keeps:=λ⟨a,us,e,t,q⟩ k=>⟨a,us,e,t.keep k,q.imp λ_ _ z=>I.keeps z k⟩
 pyHash:=λ{A E s k v Q} Y ⟨a,us,e,t,q⟩ h=>by subst e;exact xo ac t (hs_all I (A:=A.in1) (by show A.units+1+I.up<DV;lia) q) h
 eqBool:=λ{A E s x y u v Q} Y ⟨a,us,e,t,q⟩ ⟨b,vs,f,t',J⟩ h=>by subst e f;obtain⟨c,es,U⟩:=es_all I (A:=A.in1) (by show A.units+1+I.up<DV;lia) q J;rw[<- U]at h;refine eq_tup ac t t' es (λe=>?_) h;subst e;have:=t.inj t';subst this;rw[U,vT I q J];simp
 quiet:=λ{A E s k v Q} n g ⟨a,us,e,t,q⟩ h=>by
  subst e;obtain⟨m,rfl⟩:∃m,n=m+1:=⟨n-1,ac⟩
  refine sV m t (λv hv E Q d=>?_) h;obtain⟨k',S⟩:=q.mem v hv;exact I.quiet m ac S d
def pairI(I:IK prog w κ)(J:IK prog w μ):IK prog w (κ×μ) where
 is:=λh k v=>∃a Y U,v=.ref a/\TupAt h a [Y,U]/\I.is h k.1 Y/\J.is h k.2 U
 hash:=λk=>HP (Ds [I.hash k.1,J.hash k.2])
 draws:=λk=>I.draws k.1+(J.draws k.2+0)+1
 up:=max I.up J.up+1
 fuel:=max I.fuel J.fuel+1
 inj:=λ{h v x y} ⟨a,Y,U,e,t,q1,q2⟩ ⟨b,d,c,f,t',p1,p2⟩=>by rw[e]at f;cases f;have:=t.inj t';simp only[Gm,and_true]at this;obtain⟨rfl,rfl⟩:=this;exact Lx (I.inj q1 p1) (J.inj q2 p2)
 keeps:=λ⟨a,Y,U,e,t,q1,q2⟩ k=>⟨a,Y,U,e,t.keep k,I.keeps q1 k,J.keeps q2 k⟩
 pyHash:=λ{A E s k v Q} i ⟨a,Y,U,e,t,q1,q2⟩ h=>by subst e;exact xo ac t (.cons (λE s' Q e S=>I.pyHash (A:=A.in1) (by show A.units+1+I.up<DV;lia) (by rw[e];exact q1) S) (.cons (λE s' Q e S=>J.pyHash (A:=A.in1) (by show A.units+1+J.up<DV;lia) (by rw[e];exact q2) S) .nil)) h
 eqBool:=λ{A E s x y u v Q} i ⟨a,Y,U,e,t,q1,q2⟩ ⟨b,d,c,f,t',p1,p2⟩ h=>by
  subst e f;have g:((CL (x.1=y.1)&&(CL (x.2=y.2)&&e_))&&[Y,U].length==[d,c].length)=CL (x=y):=by obtain⟨p,o⟩:=x;obtain⟨l,j⟩:=y;simp[IS]
  rw[<- g]at h;refine eq_tup ac t t' (.cons (λE s' Q e S=>I.eqBool (A:=A.in1) (by show A.units+1+I.up<DV;lia) (by rw[e];exact q1) (by rw[e];exact p1) S) (.cons (λE s' Q e S=>J.eqBool (A:=A.in1) (by show A.units+1+J.up<DV;lia) (by rw[e];exact q2) (by rw[e];exact p2) S) (.nil (.inl rfl)))) (λe=>?_) h;subst e;have:=t.inj t';simp only[Gm,and_true]at this;obtain⟨rfl,rfl⟩:=this;rw[g,Lx (I.inj q1 p1) (J.inj q2 p2)];simp
 quiet:=λ{A E s k v Q} n q ⟨a,Y,U,e,t,q1,q2⟩ h=>by
  subst e;obtain⟨m,rfl⟩:∃m,n=m+1:=⟨n-1,ac⟩
  refine sV m t (λv hv E Q S=>?_) h;simp only[r_,Dq,KD]at hv;rcases hv with e|e
  .subst e;exact I.quiet m ac q1 S
  .subst e;exact J.quiet m ac q2 S
def heapI(I:IK prog w κ)(j:I.fuel<=8):Km prog w κ where
 is:=λh k a=>I.is h k (.ref a)
 hash:=I.hash
 draws:=I.draws
 room:=λA=>A.units+I.up<DV
 inj:=λS J=>I.inj S J
 keeps:=λ{h h' k a d o es ep} x i hd g=>I.keeps x λb l us n c f=>by
  rw[g.2 b λe=>?_]
  .exact c
  .subst e;rw[i]at c;cases c;rw[hd]at f;cases f
 pyHash:=λU Y h=>I.pyHash U Y h
 eqBool:=λU S J h=>I.eqBool U S J h
 quiet:=λY h=>I.quiet 8 j Y h
def labI(prog:D0)(w:Ew):IK prog w LK:=pairI (vt prog w) (tupI (tupI (vt prog w)))
end
abbrev vp(P:D0)(w:Ew):Km P w LK:=heapI (labI P w) (by show max 0 (0+1+1)+1<=8;decide)
def jd.map(s:∀b xs,SqT K F b xs->SqT K F' b xs){k:LK}(h:jd K F b k):jd K F' b k:=
 let ⟨r,bs,U,S,l,J⟩:=h;⟨r,bs,s _ _ U,s _ _ S,l,λj I c e1 e2=>s _ _ (J j I c e1 e2)⟩
noncomputable def putL(ks:a5)(k:LK):a5:=if k∈ks then ks else ks++[k]
def jU(xs:List (LK×i_))(k:LK)(b:i_):List (LK×i_):=if k∈xs.map (·.1)then xs else xs++[(k,b)]
def pC(xs:List (LK×i_))(k:LK)(b:i_):(jU xs k b).map (·.1)=putL (xs.map (·.1)) k:=by unfold jU putL;split<;>simp
def sZ{xs:List (LK×i_)}{k:LK}{x:LK×i_}(h:x∈jU xs k b):x∈xs\/x=(k,b):=by
 unfold jU at h;split at h
 .exact .inl h
 .simpa using h
def tf(xs:List (LK×i_))(k:LK)(b:i_):(jU xs k b).length<=xs.length+1:=by unfold jU;split<;>simp
noncomputable def enL(x:LK×i_):LK×i_×g_:=(x.1,x.2,.bool e_)
def xB(xs:List (LK×i_)):(xs.map enL).map (·.1)=xs.map (·.1):=by rw[Dv];rfl
def atL(xs:List (LK×i_))(k:LK):(LY (xs.map enL) k).isSome=CL (k∈xs.map (·.1)):=by
 unfold LY;rw[Jp,G8,List.find?_isSome,Dj];simp only[DO,Dj];constructor
 .rintro⟨x,⟨y,I,rfl⟩,e⟩;exact⟨y,I,e⟩
 .rintro⟨y,I,e⟩;exact⟨enL y,⟨y,I,rfl⟩,e⟩
def Av(xs:List (LK×i_))(k:LK)(b:i_):JC (xs.map enL) k b (.bool e_)=(jU xs k b).map enL:=by
 unfold JC jU;rw[atL];by_cases h:k∈xs.map (·.1)
 .rw[El h,n_ rfl,n_ h];rw[Dv];refine Gu λx _=>?_;show putAt k (.bool e_) (enL x)=enL x;unfold putAt;split<;>rfl
 .rw[Dx h,l_ ad,l_ h];simp[enL]
section
variable{s:k_}{xs:List (LK×i_)}{k:LK}
def Am(I:B6 X B2 σ H s){vs:aB}(h:SqT X.K H b vs):∃us,D' vs us/\TupAt s.heap b us:=by obtain⟨its,r,⟨o,h1,h2,n,J⟩,_⟩:=I.tuple h;exact⟨its,r,o,n,h1,h2,J⟩
theorem xm:∀{I:am} {us:aM} {h:Du},D' (I.map V.int) us->og ((vt X.prog X.w).is h) I us
 |[],_,_,.nil=>.nil|i::I,_,_,.cons r t=>.cons r (xm t)
def row_at(I:B6 X B2 σ H s){J:am}(h:SqT X.K H b (J.map V.int)):(tupI (vt X.prog X.w)).is s.heap J (.ref b):=by obtain⟨us,r,t⟩:=Am I h;exact⟨b,us,rfl,t,xm r⟩
theorem wC(I:B6 X B2 σ H s):∀{rows:List am} {bs:List i_} {us:aM},D' (bs.map V.ref) us->bs.length=rows.length->(∀(j:Nat) (J:am) (c:i_),rows[j]?=a_ J->bs[j]?=a_ c->SqT X.K H c (J.map V.int))->og ((tupI (vt X.prog X.w)).is s.heap) rows us
 |[],[],_,.nil,_,_=>.nil|[],_::_,_,_,l,_=>by simp at l|_::_,[],_,_,l,_=>by simp at l|J::rows,c::bs,_,.cons r t,l,h=>by cases(show _=x_ c from r);exact .cons (row_at I (h 0 J c rfl rfl)) (wC I t (by simpa using l) λj J c e1 e2=>h (j+1) J c e1 e2)
def kS(I:B6 X B2 σ H s)(h:jd X.K H b k):(vp X.prog X.w).is s.heap k b:=by obtain⟨r,bs,e,d,l,c⟩:=h;obtain⟨us,f,a⟩:=Am I e;obtain⟨vs,S,J⟩:=Am I d;obtain⟨Y,U,rfl,g,r2⟩:=f.two;cases(show U=x_ r from r2);exact⟨b,Y,.ref r,rfl,a,g,r,vs,rfl,J,wC I S l c⟩
def CD(K:Fg)(H:Hp)(xs:List (LK×i_)):Prop:=∀x∈xs,jd K H x.2 x.1
def vF{xs:List (LK×i_)}(z:vX h a xs ep):dW P w H h a (uJ a xs ep):=by
 have J:=z;obtain⟨h1,h2,g,o,es,U,f⟩:=z;refine⟨J,⟨o,U⟩,λ_ _ S e=>?_⟩
 obtain⟨d,g2,c,o',I,b,Y⟩:=S;exact⟨d,g2,c,o',I,e _ b,Y⟩
def BP(I:B6 X B2 σ H s)(e:H a=a_ (uJ a xs ep)):vX s.heap a xs ep:=(show vX s.heap a xs ep/\_ from I.hok a _ e).1
def BR(I:B6 X B2 σ H s)(e:H a=a_ (uJ a xs ep))(z:CD X.K H xs):(a==Ex)=c_/\xs.length<=o_/\s.heap.DictOfH (vp X.prog X.w) a (xs.map enL):=by
 obtain⟨hd,Y,U,o,es,h1,h2,c,b⟩:=BP I e;refine⟨hd,Y,o,es,ep,h1,h2,c,?_,λq S=>?_,by rw[xB];exact U⟩
 .rw[b,Dv];rfl
 .obtain⟨x,J,rfl⟩:=DO.mp S;exact kS I (z x J)
def xJ(dd:h.DictOfH (vp P w) a (xs.map enL))(hd:(a==Ex)=c_)(J:xs.length<=o_):∃ep,vX h a xs ep:=by
 obtain⟨o,es,ep,h1,h2,U,S,_,I⟩:=dd;rw[xB]at I;refine⟨ep,hd,J,I,o,es,h1,h2,U,?_⟩
 rw[S,Dv];rfl
def B6.dil{ys:List (LK×i_)}{t':Nat}(I:B6 X B2 σ H s)(e:H a=a_ (uJ a xs ep))(J:FP a s.heap h')(z:vX h' a ys ep'):B6 X B2 σ (upd H a (uJ a ys ep')) {s with heap:=h',toks:=t'}:=
 I.write (x:=a) (e:=a) (by rw[e];exact Gz) (.inl rfl) (λc q S w=>(J.2 c S).trans w) (let ⟨_,_,_,o,_,w,_⟩:=z;⟨o,w⟩) (vF z)
theorem lroom(I:A.units+64<DV):(vp X.prog X.w).room A.in1:=by show A.units+1+3<DV;lia
end
def tNewL:TE:=λ_ H Q=>∀p,H p=f_->Q (.ref p) (upd H p (uJ p [] 0))
def sPutT(K:Fg)(td ty tv:TE):TS:=λD σ H=>tv σ H λv H1=>td σ H1 λx H2=>ty σ H2 λy I=>∃a b k xs ep,v=.bl e_/\x=.ref a/\y=.ref b/\I a=a_ (uJ a xs ep)/\CD K I xs/\jd K I b k/\xs.length<o_/\∀ep',D.nx σ (upd I a (uJ a (jU xs k b) ep'))
def rInL(K:Fg)(neg:Bool):R2:=λy x H Q=>∃a b k xs ep,x=.ref a/\y=.ref b/\H a=a_ (uJ a xs ep)/\CD K H xs/\jd K H b k/\Q (.bl (if neg=e_ then !decide (k∈xs.map (·.1))else CL (k∈xs.map (·.1)))) H
section
variable{o i:Em}{ty:TE}
def BQ(h:Du)(I:Ex<h.objs.size):vX (h.push {cls:=.type "dict",data:=.dict #[]}) h.objs.size [] 0:=
 ⟨Fw.mpr (D6 (De I)),DU _,Kz,_,#[],s_ _ rfl,⟨rfl,rfl,rfl⟩,rfl,rfl⟩
def pe_newL:PE X (.Dict [] [] pos) tNewL:=λB2 s σ H Q I h=>NV ⟨.ref s.heap.objs.size,_,I.laid (a:=s.heap.objs.size) (o:=uJ s.heap.objs.size [] 0) (t':=s.toks) (λ_ _ q=>d_ _ q) (m_ _) (vF (BQ s.heap I.big)),rfl,h _ (I.hok.fresh (m_ _))⟩
theorem ps_putT(n:X.A.units+64<DV)(q:PE X o td)(hi:PE X i ty)(hv:PE X value tv)(p:EV value (a_ (.Subscript o i pos')) pos.line X.env=ER c_):PS X (.Assign [.Subscript o i pos'] value pos) (sPutT X.K td ty tv):=by intro B2 s σ H D I h;refine Mf (E' (hv B2 s σ H _ I h) λr d J=>?_) p;obtain⟨v,H1,C,g,q1⟩:=J;refine E' (q B2 d σ H1 _ C q1) λu c J=>?_;obtain⟨x,H2,B,f,q2⟩:=J;refine E' (hi B2 c σ H2 _ B q2) λl E J=>?_;obtain⟨y,G,Y,e,a,b,k,xs,ep,ev,ex,A,ea,w,t,F,j⟩:=J;subst ev ex A;cases(show u=x_ a from f);cases(show l=x_ b from e);cases(show r=Jk e_ from g);obtain⟨hd,m,dd⟩:=BR Y ea w;refine Ng (hsz:=by rw[q_];exact m) (lroom n) (kS Y t) dd λh' S U=>?_;rw[Av]at S;obtain⟨ep',z⟩:=xJ S hd (by have:=tf xs k b;lia);exact⟨σ,_,Y.dil ea U z,j ep'⟩
def op_inL(U:X.A.units+64<DV):OpR X (DQ .In) (rInL X.K c_):=by intro B2 s σ H y x u v Q I J S h;obtain⟨a,b,k,xs,ep,rfl,rfl,ea,Y,t,q⟩:=h;cases(show v=x_ a from S);cases(show u=x_ b from J);obtain⟨hd,c,dd⟩:=BR I ea Y;refine wpAny_in_heap (lroom U) (kS I t) hd dd ?_;rw[atL];exact⟨.bl _,H,I.tok _,rfl,q⟩
def AV(U:X.A.units+64<DV):OpR X (DQ .NotIn) (rInL X.K e_):=by intro B2 s σ H y x u v Q I J S h;obtain⟨a,b,k,xs,ep,rfl,rfl,ea,Y,t,q⟩:=h;cases(show v=x_ a from S);cases(show u=x_ b from J);obtain⟨hd,c,dd⟩:=BR I ea Y;refine N7 (lroom U) (kS I t) hd dd ?_;rw[atL];exact⟨.bl _,H,I.tok _,rfl,q⟩
end
def mv:A'->M LK
 |.tup [.int c,.tup rs]=>(gq rs).bind λrows=>.ok (c,rows)|_=>stk
def bD(k:LK):A':=.tup [.int k.1,.tup (k.2.map aZ)]
def Br{k:LK}(h:mv d=.ok k):d=bD k:=by
 unfold mv at h;split at h
 .rename_i c rs;cases e:gq rs with
  |error x=>rw[e]at h;cases h|ok rows=>rw[e]at h;cases h;rw[mI e];rfl
 .cases h
def mq{e:Err}(h:mv d=.error e):e=.stuck:=by
 unfold mv at h;split at h
 .rename_i c rs;cases e1:gq rs with
  |error x=>rw[e1]at h;cases h;exact mJ e1|ok rows=>rw[e1]at h;cases h
 .cases h;rfl
theorem sE{K:Fg}{F:Hp}:∀{rows:List am} {ys:aB},ay K F (rows.map aZ) ys->∃bs:List i_,ys=bs.map V.ref/\bs.length=rows.length/\∀(j:Nat) (I:am) (c:i_),rows[j]?=a_ I->bs[j]?=a_ c->SqT K F c (I.map V.int)
 |[],_,h=>⟨[],h,rfl,λj I c e=>by simp at e⟩|I::rows,_,⟨v,vs,e,⟨b,xs,ev,t,z⟩,r⟩=>by
  obtain⟨bs,e1,l,h⟩:=sE r;have S:=eE z (di _);subst S;refine⟨b::bs,by rw[e,ev,e1];rfl,by simp[l],λj J c q1 q2=>?_⟩
  cases j with
  |zero=>cases q1;cases q2;exact t|succ j=>exact h j J c q1 q2
def rj{k:LK}(h:mv d=.ok k)(q:aR K F d v):∃b,v=.ref b/\jd K F b k:=by have:=Br h;subst this;obtain⟨b,xs,e,t,U,S,e1,q1,f,I,e2,⟨r,ys,c,Y,J⟩,e3⟩:=q;cases(show U=V.int k.1 from q1);subst c;cases(show I=[]from e3);subst e2 e1;obtain⟨bs,eb,l,a⟩:=sE J;subst eb;exact⟨b,e,r,bs,t,Y,l,a⟩
noncomputable def uf(ρ:ae)(i:Nat):M a5:=match ρ[i]? with
 |some (a_ (.dil ks))=>.ok ks|_=>.error .stuck
def xK{ks:a5}(h:uf ρ i=.ok ks):ρ[i]?=a_ (a_ (.dil ks)):=by
 unfold uf at h;split at h
 .cases h;assumption
 .cases h
def BS{e:Err}(h:uf ρ i=.error e):e=.stuck:=by
 unfold uf at h;split at h
 .cases h
 .cases h;rfl
noncomputable def isTr:A'->Bool
 |.bl e_=>e_|_=>c_
def mO(i:Nat)(fk fv:ae->M A'):ae->M C1:=λρ=>(fv ρ).bind λd=>(uf ρ i).bind λks=>(fk ρ).bind λI=>(mv I).bind λk=>if (isTr d&&CL (ks.length<o_))=e_ then .ok (.nx (ρ.set i (a_ (.dil (putL ks k)))))else .error .stuck
def inLD:A'->A'->M A'
 |I,.dil ks=>(mv I).bind λk=>.ok (.bl (CL (k∈ks)))|_,_=>stk
def qV:A'->A'->M A'
 |I,.dil ks=>(mv I).bind λk=>.ok (.bl (!decide (k∈ks)))|_,_=>stk
section
variable{W:cp}
def rs_putT(hi:i∈O)(t:tS K W ro F0 H0 OL O O (mO i fk fv) D σ H):sPutT K (wk i) (tD K W c_ fk) (tD K W c_ fv) D σ H:=by
 obtain⟨FB,F,ρ,r,p⟩:=t;refine aL r.jg r.fq (λe h=>p.gL (r.freeze (O2:=[]) ad).st (by unfold mO;rw[h];rfl)) λd hd v F1 H1 m q=>?_;have u:mO i fk fv ρ=(uf ρ i).bind λks=>(fk ρ).bind λS=>(mv S).bind λk=>if (isTr d&&CL (ks.length<o_))=e_ then .ok (.nx (ρ.set i (a_ (.dil (putL ks k)))))else .error .stuck:=by unfold mO;rw[hd];rfl
 rw[u]at p;cases Y:uf ρ i with
 |error e=>have:=BS Y;subst this;exact p.stuck (by rw[Y];rfl)|ok ks=>
  rw[Y]at p;have p1:cQ K W ro F0 H0 FB OL O D ((fk ρ).bind λS=>(mv S).bind λk=>if (isTr d&&CL (ks.length<o_))=e_ then .ok (.nx (ρ.set i (a_ (.dil (putL ks k)))))else .error .stuck):=p;have J:=r.gu m;obtain⟨A,e2,a,xs,ev,⟨ep,o⟩,_,_,z⟩:=J.ow i _ (xK Y) hi;subst ev;refine⟨.ref a,e2,?_⟩
  refine aL J.jg J.fq (λe h=>p1.gL (J.freeze (O2:=[]) ad).st (by rw[h];rfl)) λS n w F2 H2 f q2=>?_;rw[n]at p1;have p2:cQ K W ro F0 H0 FB OL O D ((mv S).bind λk=>if (isTr d&&CL (ks.length<o_))=e_ then .ok (.nx (ρ.set i (a_ (.dil (putL ks k)))))else .error .stuck):=p1;cases I:mv S with
  |error e=>have:=mq I;subst this;exact p2.stuck (by rw[I];rfl)|ok k=>
   rw[I]at p2;have p3:cQ K W ro F0 H0 FB OL O D (if (isTr d&&CL (ks.length<o_))=e_ then .ok (.nx (ρ.set i (a_ (.dil (putL ks k)))))else .error .stuck):=p2;by_cases c:(isTr d&&CL (ks.length<o_))=e_
   .rw[n_ c]at p3;simp only[A_,Dj]at c;have y:d=.bl e_:=by
     have h1:=c.1;unfold isTr at h1;split at h1
     .rfl
     .cases h1
    subst y;cases(show v=V.bl e_ from q);obtain⟨b,rfl,t⟩:=rj I q2;have r2:=J.gu f;have j:=z.mono (J.dM f);have l:=t.map (J.pI f);have U:xs.length=ks.length:=by rw[<- z.1,q_]
    refine⟨a,b,k,xs,ep,rfl,rfl,rfl,f.hh _ _ o,λx g=>(j.2 x g).mono r2.st.fh,l.mono r2.st.fh,by rw[U];exact c.2,λep'=>p3 σ _ _ (r2.wc hi (xK Y) rfl e2 λs h0=>⟨a,_,rfl,⟨ep',aq⟩,s,h0,?_,λx g=>?_⟩)⟩
    .rw[pC,z.1]
    .rcases sZ g with e|e
     .exact j.2 x e
     .subst e;exact l
   .rw[l_ c]at p3;exact p3.stuck rfl
end
noncomputable def isDil:A'->Bool
 |.dil _=>e_|_=>c_
def rInL_D{W:cp}{neg:Bool}{g:A'->A'->M A'}(j:∀S ks,g S (.dil ks)=(mv S).bind λk=>.ok (.bl (if neg=e_ then !decide (k∈ks)else CL (k∈ks))))(i:∀a b,isDil b=c_->g a b=stk){x:V}(h:rD2 K W c_ g x y H Q):rInL K neg x y H Q:=by
 obtain⟨F,a,b,J,Y,U,p⟩:=h;cases b with
 |dil ks=>
  rw[j]at p;cases I:mv a with
  |error e=>rw[I]at p;have:=mq I;subst this;exact aF.stuck p|ok k=>
   rw[I]at p;obtain⟨c,rfl,t⟩:=rj I Y;obtain⟨d,xs,rfl,⟨ep,l⟩,z⟩:=U;refine⟨d,c,k,xs,ep,rfl,rfl,J _ _ l,λx f=>(z.2 x f).mono J,t.mono J,?_⟩
   rw[z.1];exact p _ F H (B4.refl J) rfl
 |_=>rw[i _ _ rfl]at p;exact aF.stuck p
section
variable{W:cp}{p:IM}
def de_newL:DE K W e_ X (.Dict [] [] pos) (fC (.dil [])):=pe_newL.imp λσ H Q h=>by obtain⟨F,ρ,r,s,q⟩:=h;exact λa I=>q (.ref a) F _ (B4.grow s I) ⟨a,[],rfl,⟨0,aq⟩,s.free I,I,rfl,λx J=>CQ J Dq⟩
def o_inL(I:X.A.units+64<DV)(J: ~~~(X.K=K)):Op2 K W c_ X (DQ .In) inLD:=by subst J;exact(op_inL I).imp λx y H Q h=>rInL_D (neg:=c_) (λ_ _=>rfl) (λa b e=>by cases b<;>first|rfl|cases e) h
def o_notInL(I:X.A.units+64<DV)(J: ~~~(X.K=K)):Op2 K W c_ X (DQ .NotIn) qV:=by subst J;exact(AV I).imp λx y H Q h=>rInL_D (neg:=e_) (λ_ _=>rfl) (λa b e=>by cases b<;>first|rfl|cases e) h
def ds_putT(J:X.A.units+64<DV)(Y:DE K W c_ X ek fk)(a:DE K W c_ X ev fv)(U:(i∈O)⁻¹)(b: ~~~(X.N[i]?=a_ x))(hv:autoParam (Vis X.env.scope x) Jq4)(hd:((x==("__debug__":C_))=c_)⁻¹)(I:((x==("__classdict__":C_))=c_)⁻¹)(c: ~~~(X.K=K))(S: ~~~(EV ev (a_ (.Subscript (.Name x p) ek pos')) pos.line X.env=ER c_)):DS K W ro X OL O O (.Assign [.Subscript (.Name x p) ek pos'] ev pos) (mO i fk fv):=λF0 H0=>by subst c;exact PS.imp (ps_putT J (pv i b hv hd I) Y a S) λ_ _ _=>rs_putT U
end
section
open PySem
variable{s:k_}
inductive Ls(prog:D0)(w:Ew)(A:ES)(h:Du):List g_->List g_->Bool->Prop
 |nil {us vs:List g_} (e:us=[]\/vs=[]):Ls prog w A h us vs (CL (us.length<vs.length))
 |eq {u v:g_} {us vs:List g_} {c:Bool} (hv:∀(E:Vp) (s:k_) (Q:Bool->k_->Prop),s.heap=h->Q e_ s->w_ (B_ prog w) A (G_ u v) Q E s) (r:Ls prog w A h us vs c):Ls prog w A h (u::us) (v::vs) c
 |ne {u v:g_} {us vs:List g_} {c:Bool} (hv:∀(E:Vp) (s:k_) (Q:Bool->k_->Prop),s.heap=h->Q c_ s->w_ (B_ prog w) A (G_ u v) Q E s) (hl:∀(E:Vp) (s:k_) (Q:Vp),s.heap=h->Q (.bool c) s->w_ (B_ prog w) A (MQ .Lt u v) Q E s):Ls prog w A h (u::us) (v::vs) c
theorem n9{c:Bool}{P:Ku->k_->Prop}(n:TupAt s.heap a us)(l:TupAt s.heap b vs)(p:Ls prog w A s.heap us vs c)(h:P (.done (.ret (.bool c))) s):
  w_ (B_ prog w) A (Builtin.«tuple.__lt__» ⟨[.ref a,.ref b],[]⟩) P E s:=by
 have j:=l.ty;obtain⟨x,B,f,_,i⟩:=n;obtain⟨t,y,d,_,g⟩:=l;show w_ _ _ (Li (.ref b) (.type "tuple") >>= _) _ _ s;refine b_ (Gy j Jh ?_);simp only[G1,CY,En];refine b_ (GK f i (b_ (GK d g (b_ ?_))));refine IG _ (λrest r s'=>r.1=f_/\s'=s/\∃J I,rest=List.zip J I/\Ls prog w A s.heap J I c/\J.length+vs.length=us.length+I.length) _ ?_ ?_ _ _ ⟨rfl,rfl,us,vs,ad,p,rfl⟩
 .rintro⟨u,v⟩ rest r s' ⟨Y,rfl,J,I,S,U,m⟩;cases U with
  |nil e=>
   rcases e with e|e
   .subst e;simp at S
   .subst e;simp at S
  |eq hv k=>simp only[Jq,Gm,IS]at S;obtain⟨⟨rfl,rfl⟩,rfl⟩:=S;refine b_ (hv _ _ _ rfl ?_);simp only[G1,CY,En];exact h_ ⟨rfl,rfl,_,_,rfl,k,by simp only[CG]at m;lia⟩
  |ne hv q=>simp only[Jq,Gm,IS]at S;obtain⟨⟨rfl,rfl⟩,rfl⟩:=S;refine b_ (hv _ _ _ rfl ?_);simp only[Nd,FK];show w_ _ _ (rule _ >>=λ_=>_) _ _ _;refine b_ (Fp (b_ (q _ _ _ rfl ?_)));exact b_ (h_ (h_ (h_ h)))
 .rintro⟨k,r2⟩ s' ⟨Y,rfl,J,I,S,U,m⟩;simp only at Y;subst Y;have o:c=CL (us.length<vs.length):=by
   cases U with
   |nil e=>exact decide_eq_decide.mpr ⟨λz=>by lia,λz=>by lia⟩|eq _ _=>simp at S|ne _ _=>simp at S
  rw[o]at h;refine h_ ?_;show P (.done (.ret (.bool (CL (us.toArray.size<vs.toArray.size))))) s';exact h
def lt_tup{c:Bool}{Q:Vp}(S:A.units<DV)(I:TupAt s.heap a us)(J:TupAt s.heap b vs)(U:Ls prog w A.in1 s.heap us vs c)(h:Q (.bool c) s):
  w_ (B_ prog w) A (MQ .Lt (.ref a) (.ref b)) Q E s:=
 K9 (op:=.Lt) I.ty J.ty Hq (DC Hq I.ty LO (n9 I J U ⟨_,rfl,(λe=>nomatch e),h⟩) (Lw _ _)) S
def LtI{κ:Type}[FD κ](I:IK prog w κ)(lt:κ->κ->Bool):Prop:=∀{A:ES} {E:Vp} {s:k_} {x y:κ} {u v:g_} {Q:Vp},A.units+I.up<DV->I.is s.heap x u->I.is s.heap y v->Q (.bool (lt x y)) s->w_ (B_ prog w) A (MQ .Lt u v) Q E s
def oj{κ:Type}[FD κ](lt:κ->κ->Bool):List κ->List κ->Bool
 |x::xs,y::ys=>if x=y then oj lt xs ys else lt x y
 |xs,ys=>CL (xs.length<ys.length)
def int_lt:LtI (vt prog w) λx y=>CL (x<y):=λ_ ⟨t,e⟩ ⟨u,f⟩ h=>by subst e f;exact M7 h
theorem Bi{κ:Type}[FD κ](I:IK prog w κ){lt:κ->κ->Bool}(Y:LtI I lt){h:Du}(U:A.units+I.up<DV):∀{ks ls:List κ} {us vs:aM},og (I.is h) ks us->og (I.is h) ls vs->Ls prog w A h us vs (oj lt ks ls)
 |_,_,_,_,.nil,.nil=>.nil (.inl rfl)|_,_,_,_,.nil,@og.cons _ _ _ y v ys vs q t=>by
  have e:oj lt [] (y::ys)=CL (([]:aM).length<(v::vs).length):=by simp[oj]
  rw[e];exact .nil (.inl rfl)
 |_,_,_,_,@og.cons _ _ _ x u xs us q t,.nil=>by
  have e:oj lt (x::xs) []=CL ((u::us).length<([]:aM).length):=by simp[oj]
  rw[e];exact .nil (.inr rfl)
 |_,_,_,_,@og.cons _ _ _ x u xs us q t,@og.cons _ _ _ y v ys vs q2 a=>by
  show Ls prog w A h _ _ (if x=y then oj lt xs ys else lt x y);by_cases e:x=y
  .rw[n_ e];exact .eq (λE s Q J S=>I.eqBool U (by rw[J];exact q) (by rw[J];exact q2) (by rw[El e];exact S)) (Bi I Y U t a)
  .rw[l_ e];exact .ne (λE s Q J S=>I.eqBool U (by rw[J];exact q) (by rw[J];exact q2) (by rw[Dx e];exact S)) λE s Q J S=>Y U (by rw[J];exact q) (by rw[J];exact q2) S
theorem tup_lt{κ:Type}[FD κ]{I:IK prog w κ}{lt:κ->κ->Bool}(d:LtI I lt):LtI (tupI I) (oj lt):=λ{A E s x y u v Q} J ⟨a,us,e1,c,U⟩ ⟨b,vs,e2,Y,S⟩ h=>by subst e1 e2;have J:A.units+(I.up+1)<DV:=J;exact lt_tup ac c Y (Bi I d (by show A.units+1+I.up<DV;lia) U S) h
end
def vh{κ:Type}[FD κ]{lt:κ->κ->Bool}(o:Ord lt):Ord (oj lt):=by
 refine⟨λa=>?_,λa b c=>?_,λa b=>?_⟩
 .induction a with
  |nil=>rfl|cons x xs I=>simp[oj,I]
 .induction a generalizing b c with
  |nil=>
   cases b with
   |nil=>intro h;simp[oj]at h|cons y ys=>
    intro _ h2;cases c with
    |nil=>simp[oj]at h2|cons z S=>simp[oj]
  |cons x xs I=>
   intro h1 h2;cases b with
   |nil=>simp[oj]at h1|cons y ys=>
    cases c with
    |nil=>simp[oj]at h2|cons z S=>
     simp only[oj]at h1 h2 ⊢;by_cases e1:x=y
     .subst e1;rw[n_ rfl]at h1;by_cases e2:x=z
      .rw[n_ e2]at h2 ⊢;exact I _ _ h1 h2
      .rw[l_ e2]at h2 ⊢;exact h2
     .rw[l_ e1]at h1;by_cases e2:y=z
      .subst e2;rw[l_ e1];exact h1
      .rw[l_ e2]at h2;have J:=o.tr _ _ _ h1 h2;by_cases e3:x=z
       .subst e3;rw[o.irr]at J;cases J
       .rw[l_ e3];exact J
 .induction a generalizing b with
  |nil=>
   cases b with
   |nil=>intros;rfl|cons y ys=>intro h;simp[oj]at h
  |cons x xs I=>
   cases b with
   |nil=>intro _ h;simp[oj]at h|cons y ys=>
    simp only[oj];by_cases e:x=y
    .subst e;rw[n_ rfl,n_ rfl];intro h1 h2;rw[I _ h1 h2]
    .rw[l_ e,l_ (D6 e)];intro h1 h2;exact CQ (o.tot _ _ h1 h2) e
abbrev ltR:List am->List am->Bool:=oj (oj λx y=>CL (x<y))
theorem ordR:Ord ltR:=vh (vh ⟨λa=>by simp,λa b c h1 h2=>by simp at *;lia,λa b h1 h2=>by simp at *;lia⟩)
def ltL(k l:LK):Bool:=if k.1=l.1 then ltR k.2 l.2 else CL (k.1<l.1)
theorem ordL:Ord ltL:=by
 refine⟨λa=>?_,λa b c h1 h2=>?_,λa b h1 h2=>?_⟩
 .unfold ltL;rw[n_ rfl];exact ordR.irr _
 .unfold ltL at h1 h2 ⊢;by_cases e1:a.1=b.1
  .rw[n_ e1]at h1;by_cases e2:b.1=c.1
   .rw[n_ e2]at h2;rw[n_ (e1.trans e2)];exact ordR.tr _ _ _ h1 h2
   .rw[l_ e2]at h2;rw[l_ (by rw[e1];exact e2),e1];exact h2
  .rw[l_ e1,Dj]at h1;by_cases e2:b.1=c.1
   .rw[l_ (by rw[<- e2];exact e1),Dj,<- e2];exact h1
   .rw[l_ e2,Dj]at h2;rw[l_ ac,Dj];lia
 .unfold ltL at h1 h2;by_cases e:a.1=b.1
  .rw[n_ e]at h1;rw[n_ e.symm]at h2;exact Lx e (ordR.tot _ _ h1 h2)
  .rw[l_ e,JQ]at h1;rw[l_ (D6 e),JQ]at h2;lia
section
open PySem.W
variable{s:k_}
def LKeys(prog:D0)(w:Ew)(h:Du)(rs:List (LK×i_)):Prop:=∀r∈rs,(labI prog w).is h r.1 (.ref r.2)
theorem asks_L{rs:List (LK×i_)}(R:A.units+8<DV)(y:LKeys prog w s.heap rs)(h2:2<=rs.length):Asks prog w A (rk ltL (rs.map EY) (0,[])) (rs.map λr=>x_ r.2) s:=by
 have U:∀i,i<rs.length->∃(l:i_) (S J:g_),(rs.map λr=>x_ r.2).getD i Dw=.ref l/\TupAt s.heap l [S,J]/\(vt prog w).is s.heap ((rs.map EY).getD i (0,[])).1 S/\(tupI (tupI (vt prog w))).is s.heap ((rs.map EY).getD i (0,[])).2 J:=λi hi=>by obtain⟨a,S,J,e,t,q1,q2⟩:=y rs[i] (D7 hi);cases e;exact⟨rs[i].2,S,J,by simp[hi],t,by simpa[hi] using q1,by simpa[hi] using q2⟩
 have Y:∀(k:Nat),k<=rs.length->∃fs,KatTups s.heap ((rs.map λr=>x_ r.2).drop (rs.length-k)) fs/\fs.length=k/\∀v∈fs,∃i t,v=IL i t:=by
  intro k
  induction k with
  |zero=>intro _;exact⟨[],by rw[Iw,EN ad];exact KatTups.nil,rfl,λ_ h=>nomatch h⟩
  |succ k x=>
   intro W;obtain⟨fs,q1,q2,c⟩:=x ac;have hi:rs.length-(k+1)<rs.length:=ac
   obtain⟨l,S,J,e1,⟨N,n,e2,e3,e4⟩,⟨t,e5⟩,_⟩:=U _ hi;refine⟨S::fs,?_,by simp[q2],λv hv=>?_⟩
   .have b:rs.length-(k+1)<(rs.map λr=>x_ r.2).length:=by rw[q_];exact hi
    rw[D3 b];rw[show rs.length-(k+1)+1=rs.length-k by lia];rw[getD_get b]at e1;rw[e1];exact KatTups.cons e2 e3 e4 rfl q1
   .rcases r_.mp hv with e|e
    .rw[e];exact⟨_,_,e5⟩
    .exact c v e
 obtain⟨fs,q1,q2,c⟩:=Y rs.length (m_ _);rw[Hm,Ek]at q1;unfold Asks;refine kat_kind (s:=s) (T:=.type "int") q1 ac (λv hv=>?_) rfl ⟨rfl,λi j C hi d I=>?_⟩
 .obtain⟨i,t,e⟩:=c v hv;rw[e];exact Looks.of_pure rfl
 .rw[q_]at hi d;unfold Mm;obtain⟨H,S,J,e1,⟨P,Q,z,_,F⟩,p,m⟩:=U i hi;obtain⟨G,u,q,e2,⟨O,n2,g2,_,E⟩,o,g⟩:=U j d;rw[e1,e2];rw[rk_lt ordL (by rw[q_];exact hi) (by rw[q_];exact d)]at I;generalize (rs.map EY).getD i (0,[])=k at p m I;generalize (rs.map EY).getD j (0,[])=l at o g I;refine kat_lt (s:=s) z F g2 E ?_;show KatLex prog w _ _ _ _ [(S,u),(J,q)] 0 s;refine kat_cons ((vt prog w).eqBool (by show A.units+0<DV;lia) p o ?_);unfold ltL at I;by_cases e:k.1=l.1
  .rw[n_ e]at I;rw[El e];refine kat_yes (kat_cons ((tupI (tupI (vt prog w))).eqBool (by show A.units+(0+1+1)<DV;lia) m g ?_));by_cases f:k.2=l.2
   .rw[El f];rw[f,ordR.irr]at I;exact kat_yes (kat_nil I)
   .rw[Dx f];show w_ (B_ prog w) _ (oneLt' c_ J q) _ _ _;rw[oneLt'_eq];simp only[CY,En];exact b_ (tup_lt (tup_lt int_lt) (by show A.units+(0+1+1)<DV;lia) m g (Ep I))
  .rw[l_ e]at I;rw[Dx e];obtain⟨L,D⟩:=p;obtain⟨K,B⟩:=o;subst D B;exact oneLt_int I
end
section
open PySem PySem.W
variable{s:k_}
def walksR(g:A.handled=f_)(I d:i_)(a:d≠I)(es:Array EG)(ep:Nat):
  Walks prog w A I [I,d] [I] es.size (λi v=>∃e,es[i]?=a_ e/\v=e.key) (λi h=>h.IsKeyIter I d i es.size ep/\se h d es ep) where
 sub:=λb J=>by simp at J;simp[J]
 frame:=λ_ _ _ st f=>⟨st.1.at λo e=>f I ad o e,st.2.at λo e=>f d ad o e⟩
 item:=λi s Q E hi st Y=>by refine pH st.1 st.2 (e:=es[i]) (by simp[hi]) λh' U S=>?_;exact Y _ h' s.toks ⟨es[i],by simp[hi],rfl⟩ ⟨U,st.2.at λo e=>S.extBut d o a e⟩ λb o J e=>S.extBut b o (λh=>J (by simp[h])) e
 done:=λs Q E st Y=>uc g st.1 st.2 (m_ _) λh' c=>Y h' s.toks λb o J e=>c b o (λh=>J (by simp[h])) e
 self:=λ_ _ _ _ st Y=>ML st.1 Y
def srcR{d:i_}{es:Array EG}(lo:(d==Ex)=c_):KdlSrc prog w "dict" d d es.size (λi v=>∃e,es[i]?=a_ e/\v=e.key) (λh=>se h d es ep) where
 type:=λ_ z=>z.ty
 there:=λ_ ⟨o,h,_⟩=>⟨t_ h,t_ h⟩
 keep:=λ_ _ z J=>z.at λo e=>J d (.inl rfl) o e
 notList:=by decide
 notTuple:=by decide
 hint:=λ_ _ _ _ z I=>kdl_hint_dict z.ty I
 iter:=λA s S z=>⟨_,_,(λ_ _ I=>pO lo z I),walksR S _ d (let ⟨o,h,_⟩:=z;De (t_ h)) es ep,⟨⟨_,s_ _ rfl,rfl,rfl⟩,z.at λo e=>d_ _ e⟩⟩
theorem zq{es:Array EG}{I:Array g_}(h:NQ (λi v=>∃e,es[i]?=a_ e/\v=e.key) I es.size):I.toList=es.toList.map (·.key):=by
 apply List.ext_getElem?;intro i;by_cases hi:i<es.size
 .have h2:i<I.size:=by rw[h.1];exact hi
  obtain⟨e,S,J⟩:=h.2 i I[i] (by simp[h2]);rw[Dz,FW,FW,S,G2,<- J];simp[h2]
 .rw[GV (by rw[DF,h.1];lia),GV (by rw[q_,DF];lia)]
def collectR{d:i_}{es:Array EG}{Q:aM->k_->Prop}(n:A.handled=f_)(lo:(d==Ex)=c_)(z:se s.heap d es ep)(m:es.size<=o_)(h:∀(h':Du) (tk:Nat),(∀b o,s.heap.get? b=a_ o->h'.get? b=a_ o)->s.heap.objs.size<=h'.objs.size->Q (es.toList.map (·.key)) {s with heap:=h',toks:=tk}):w_ (B_ prog w) A (NJ (.ref d)) Q E s:=by
 have g:d<s.z:=by obtain⟨o,k,_⟩:=z;exact t_ k
 unfold NJ;refine b_ (wpAny_runValue (GF (L7) ?_));rw[Fn (L6) _];show w_ (B_ prog w) A.in1 (NG [] >>=λl=>again (.builtin "list.__iadd__" ⟨[l,.ref d],[]⟩)) _ _ s;refine b_ (DN ?_);refine h_ ⟨JX HX _,GF (M6) ?_⟩;rw[Fn (HX) _];have p:(s.heap.push {cls:=.type "list",data:=.seq ([]:aM).toArray}).get? s.z=a_ {cls:=.type "list",data:=.seq #[]}:=s_ _ rfl;refine DX (kdl_extend (A:=A) (s:={s with heap:=s.heap.push {cls:=.type "list",data:=.seq ([]:aM).toArray}})
  (R:=λ(q:Mp) (s':k_)=>∃(h':Du) (tk:Nat) (I:Array g_) (c:Nat),q=.ok (.ret (.ref s.z))/\s'={s with heap:=h',toks:=tk}/\(∀b o,s.heap.get? b=a_ o->h'.get? b=a_ o)/\h'.get? s.z=a_ {cls:=.type "list",dict:=f_,data:=.seq I c,slots:=#[]}/\I.toList=es.toList.map (·.key))
  (srcR (ep:=ep) lo) n (z.at λo e=>d_ _ e) s.z (E4 g) (E4 g) (.ref s.z) 0 p
  (λh' tk I c Y J U=>⟨h',tk,I,c,rfl,rfl,λb o e=>Y b o (De (t_ e)) (d_ _ e),J,zq U⟩) m) (λfin s' x=>?_) λe s' x=>?_
 .have i:∀(s':k_),(∃(h':Du) (tk:Nat) (I:Array g_) (c:Nat),s'={s with heap:=h',toks:=tk}/\(∀b o,s.heap.get? b=a_ o->h'.get? b=a_ o)/\h'.get? s.z=a_ {cls:=.type "list",dict:=f_,data:=.seq I c,slots:=#[]}/\I.toList=es.toList.map (·.key))->∃(o:IB) (I:Array g_) (c:Nat),s'.heap.get? s.z=a_ o/\o.data=.seq I c/\Q I.toList s':=λs' ⟨h',tk,I,c,e,Y,J,ea⟩=>by
   subst e;exact⟨_,I,c,J,rfl,by rw[ea];exact h h' tk Y (Gr (t_ J))⟩
  cases fin with
  |done f=>obtain⟨h',tk,I,c,e,r⟩:=x;cases e;obtain⟨⟨C,B,v,u⟩,I,c,J,hd,a⟩:=i s' ⟨h',tk,I,c,r⟩;cases hd;show w_ _ A (load s.z >>= _) _ _ _;exact b_ (J7 J (h_ a))
  |again j=>
   refine⟨x.1,F7 x.2 λq S y=>?_⟩
   obtain⟨h',tk,I,c,rfl,r⟩:=y;obtain⟨⟨C,B,v,u⟩,I,c,J,hd,a⟩:=i S ⟨h',tk,I,c,r⟩;cases hd;show w_ _ A (load s.z >>= _) _ _ _;exact b_ (J7 J (h_ a))
 .obtain⟨_,_,_,_,t,_⟩:=x;cases t
theorem wx{d:i_}{es:Array EG}{key:Nat->Int}{Q:Vp}(f:A.handled=f_)(lo:(d==Ex)=c_)(z:se s.heap d es ep)(hv:es.toList.map (·.key)=vs)(U:vs.length<=o_)(e:2<=vs.length->∀(h1:Du) (tk:Nat),(∀b o,s.heap.get? b=a_ o->h1.get? b=a_ o)->Asks prog w A.in1.in1 key vs {s with heap:=h1,toks:=tk})(h:∀(h':Du) (D:i_) (c tk:Nat) (out:aM),s.heap.objs.size<=D->(∀b o,s.heap.get? b=a_ o->h'.get? b=a_ o)->h'.get? D=a_ (Ea "list" out.toArray c)->zZ key vs out->Q (.ref D) {s with heap:=h',toks:=tk}):
  w_ (B_ prog w) A (Hk (.builtin "sorted") [.ref d]) Q E s:=by
 have hsz:es.size=vs.length:=by rw[<- hv,q_,DF]
 refine Hz MY Mr Mt (Mu _) ?_;unfold Builtin.«sorted»;refine b_ (m:=Nq "sorted" 1 1 _) (h_ (b_ (collectR (A:=A.in1) f lo z ac λh1 tk I J=>?_)));rw[hv];refine b_ (Ir ?_ U);have Y:(h1.push (Ea "list" vs.toArray 0)).get? h1.objs.size=a_ (Ea "list" vs.toArray 0):=s_ _ rfl;have S:∀b o,s.heap.get? b=a_ o->b≠h1.objs.size:=λb o q=>De (t_ (I b o q));refine b_ (Ez (DC (s:={s with heap:=h1.push (Ea "list" vs.toArray 0),toks:=tk}) Ll ⟨_,Y,rfl⟩ K7 (tL (key:=key) Y U (λh2 g k3=>?_) λh' c out a k' i=>⟨_,rfl,?_⟩) (Lo _)))
 .exact e h2 g tk λb o q=>k3 b o (S b o q) (d_ _ (I b o q))
 .exact h_ ⟨_,rfl,h h' _ c tk out J (λb o q=>k' b o (S b o q) (d_ _ (I b o q))) i a⟩
end
section
variable{W:cp}
def rh{k:LK}(h:jd K F b k):aR K F (bD k) (.ref b):=by
 obtain⟨r,bs,a,Y,l,U⟩:=h;refine⟨b,_,rfl,a,V.int k.1,_,rfl,rfl,.ref r,[],rfl,⟨r,_,rfl,Y,?_⟩,rfl⟩
 refine ay.of_get (by rw[q_,q_,l]) λi d v e1 e2=>?_;rw[Dz]at e1 e2;cases S:k.2[i]? with
 |none=>rw[S]at e1;cases e1|some I=>
  cases J:bs[i]? with
  |none=>rw[J]at e2;cases e2|some c=>rw[S]at e1;rw[J]at e2;simp only[G2,FN]at e1 e2;subst e1 e2;exact⟨c,_,rfl,U i I c S J,j5 I⟩
def oJ:List A'->M a5
 |[]=>.ok []|d::ds=>(mv d).bind λk=>(oJ ds).bind λks=>.ok (k::ks)
def uR:List A'->M A'
 |[.dil ks]=>.ok (.lst ((fQ ltL ks).map bD))|[.lst ds]=>(oJ ds).bind λks=>.ok (.lst ((fQ ltL ks).map bD))|_=>stk
theorem tP:∀{ds:List A'} {e:Err},oJ ds=.error e->e=.stuck
 |[],_,h=>by cases h|d::ds,e,h=>by
  unfold oJ at h;cases e1:mv d with
  |error x=>rw[e1]at h;cases h;exact mq e1|ok k=>
   rw[e1]at h;cases e2:oJ ds with
   |error x=>rw[e2]at h;cases h;exact tP e2|ok ks=>rw[e2]at h;cases h
theorem tO:∀{ds:List A'} {ks:a5},oJ ds=.ok ks->ds=ks.map bD
 |[],_,h=>by cases h;rfl|d::ds,ks,h=>by
  unfold oJ at h;cases e1:mv d with
  |error x=>rw[e1]at h;cases h|ok k=>
   rw[e1]at h;cases e2:oJ ds with
   |error x=>rw[e2]at h;cases h|ok ls=>rw[e2]at h;cases h;rw[tO e2,Br e1];rfl
theorem kD:∀ts:List am,gq (ts.map aZ)=.ok ts
 |[]=>rfl|t::ts=>by show(cA (t.map .int)).bind _=_;rw[di,ai];show(gq (ts.map aZ)).bind _=_;rw[kD ts];rfl
def jZ(k:LK):mv (bD k)=.ok k:=by show(gq (k.2.map aZ)).bind _=_;rw[kD];rfl
theorem Bq{F:Hp}:∀{ks:a5} {xs:aB},ay K F (ks.map bD) xs->∃rs:List (LK×i_),rs.map EY=ks/\xs=rs.map (λr=>V.ref r.2)/\∀r∈rs,jd K F r.2 r.1
 |[],_,h=>⟨[],rfl,h,λr J=>nomatch J⟩
 |k::ks,_,⟨v,vs,e,q,r⟩=>by obtain⟨b,e1,t⟩:=rj (jZ k) q;obtain⟨rs,e2,e3,h⟩:=Bq r;exact⟨(k,b)::rs,by rw[<- e2];rfl,by rw[e,e1,e3];rfl,λx I=>(r_.mp I).elim (λz=>by rw[z];exact t) (h x)⟩
def su{rs:List (α×i_)}(h:D' (rs.map λr=>V.ref r.2) us):us=rs.map λr=>x_ r.2:=by
 induction rs generalizing us with
 |nil=>cases h;rfl|cons r rs I=>
  cases h with
  |cons q t=>rw[I t];cases(show _=x_ r.2 from q);rfl
def Bm{k:LK}{v:g_}(x:(labI prog w).is h k v)(e:∀b o,h.get? b=a_ o->h'.get? b=a_ o):(labI prog w).is h' k v:=(labI prog w).keeps x λa o us n q _=>e a o q
def sort_out{lt:α->α->Bool}(o:Ord lt){S:α}{J:α->A'}{rs:List (α×i_)}(U:∀r∈rs,aR K F (J r.1) (.ref r.2)){ps:aC}(h1:ps.Perm (CU rs.length))(h2:Srt (rk lt (rs.map EY) S) ps):
  ay K F ((fQ lt (rs.map EY)).map J) (ps.map λi=>(rs.map λr=>V.ref r.2).getD i .non):=by
 rw[<- AU o (rs.map EY) S (by rw[q_];exact h1) h2,Dv];refine ay.of_get ad λk dd v I g2=>?_;rw[Dz]at I g2;cases ek:ps[k]? with
 |none=>rw[ek]at I;cases I|some i=>rw[ek]at I g2;simp only[G2,FN,Kf]at I g2;have hi:i<rs.length:=DH.mp (h1.mem_iff.mp (DR ek));rw[getD_get (by simpa using hi)]at I;rw[getD_get (by simpa using hi)]at g2;rw[<- I,<- g2,Ff,Ff];exact U _ (D7 hi)
def vals_out{rs:List (α×i_)}{ps:aC}(h1:ps.Perm (CU rs.length)):D' (ps.map λi=>(rs.map λr=>V.ref r.2).getD i .non) (ps.map λi=>(rs.map λr=>x_ r.2).getD i Dw):=by
 have I:∀i∈ps,i<rs.length:=λi hi=>DH.mp (h1.mem_iff.mp hi);clear h1
 induction ps with
 |nil=>exact .nil|cons i ps J=>have hi:=I i CW;refine .cons ?_ (J λj S=>I j (CS _ S));dsimp only;rw[getD_get (by simpa using hi),getD_get (by simpa using hi),Ff,Ff];rfl
def md{lt:α->α->Bool}(o:Ord lt){g:α}{J:α->A'}{s:k_}{rs:List (α×i_)}{D:i_}{c tk:Nat}{out:aM}(I:B6 X B2 σ H s)(U:aK F H)(f:∀r∈rs,aR X.K F (J r.1) (.ref r.2))(a:rs.length<=o_)(p:aF X.K W e_ F H (.ok (.lst ((fQ lt (rs.map EY)).map J))) Q)(S:s.heap.objs.size<=D)(Y:∀b o,s.heap.get? b=a_ o->h'.get? b=a_ o)(e:h'.get? D=a_ (Ea "list" out.toArray c))(d:zZ (rk lt (rs.map EY) g) (rs.map λr=>x_ r.2) out):EP X B2 σ Q (.ref D) {s with heap:=h',toks:=tk}:=by obtain⟨ps,h1,h2,rfl⟩:=d;rw[q_]at h1;have h:B6 X B2 σ (upd H D (.lst (ps.map λi=>(rs.map λr=>V.ref r.2).getD i .non))) {s with heap:=h',toks:=tk}:=I.laid (t':=tk) Y S (show dW X.prog X.w _ h' D (.lst _)from⟨by rw[q_,h1.length_eq,F9];exact a,_,c,vals_out h1,e⟩);exact⟨.ref D,_,h,rfl,p.lst U (sort_out o f h1 h2) (I.hok.fresh S)⟩
theorem Cj(E:X.A.units+64<DV)(w: ~~~(X.calm=e_))(S: ~~~(X.K=K)):ky K W e_ X (.builtin "sorted") uR:=by
 subst S;intro B2 s σ H xs us Q I v h;obtain⟨F,d,x,U,e,q,p⟩:=iy (λds=>by match ds with|[d]=>exact .inl ⟨d,rfl⟩|[]=>exact .inr rfl|a::b::c=>exact .inr (by cases a<;>rfl)) h;subst e;obtain⟨u,rfl,l⟩:=v.one;have Y:∀{rs:List (LK×i_)} {h':Du},(∀r∈rs,jd X.K F r.2 r.1)->(∀b o,s.heap.get? b=a_ o->h'.get? b=a_ o)->LKeys X.prog X.w h' rs:=λ{rs h'} S J r f=>Bm (kS I ((S r f).mono U)) J;cases d with
 |dil ks=>obtain⟨a,rs,e1,⟨ep,y⟩,ek,S⟩:=q;subst e1;cases l;have p:aF X.K W e_ F H (.ok (.lst ((fQ ltL ks).map bD))) Q:=p;rw[<- ek]at p;obtain⟨hd,m,G,o,es,C,g2,B,A⟩:=BP I (U _ _ y);refine wx (key:=rk ltL (rs.map EY) (0,[])) (vs:=rs.map λr=>x_ r.2) (I.ok.hd w) hd ⟨o,C,g2,B⟩ (by rw[A,Dv];rfl) (by rw[q_];exact m) (λh2 h1 tk J=>?_) λh' D c tk out k J e j=>md ordL I U (λr f=>rh (S r f)) m p k J e j;rw[q_]at h2;exact asks_L (s:={s with heap:=h1,toks:=tk}) (by show X.A.units+1+1+8<DV;lia) (Y S J) h2
 |lst ds=>
  obtain⟨a,ys,e1,t,r⟩:=q;subst e1;cases l;have p:aF X.K W e_ F H ((oJ ds).bind λks=>.ok (.lst ((fQ ltL ks).map bD))) Q:=p;cases ek:oJ ds with
  |error z=>cases tP ek;rw[ek]at p;exact aF.stuck p|ok ks=>rw[ek,ai]at p;rw[tO ek]at r;obtain⟨rs,e2,e3,S⟩:=Bq r;subst e2;obtain⟨its,n,pl,i⟩:=I.list (U.lst t);subst e3;have g:=su n;subst g;rw[q_]at i;refine p9 (key:=rk ltL (rs.map EY) (0,[])) pl.isList (by rw[q_];exact i) (λh2 h1 J=>?_) λh' D c out j k J e=>md (tk:=s.toks) ordL I U (λr f=>rh (S r f)) i p k J e j;rw[q_]at h2;exact asks_L (s:={s with heap:=h1}) (by show X.A.units+1+1+8<DV;lia) (Y S J) h2
 |_=>exact aF.stuck p
end
section
open PySem PySem.W
end
section
variable{W:cp}{own:Bool}{f:ae->M A'}
def BO(h:DE K W own X e f)(J: ~~~(EV e f_ pos.line X.env=ER c_)):DS K W ro X OL O O (.Expr e pos) (gG O f):=λF0 H0=>PS.imp (mT h J) λD σ H ⟨FB,F,ρ,r,p⟩=>by
 refine aL r.iT r.st.fh (λe S=>p.gL r.st (by unfold gG;rw[S];rfl)) λd hd v F1 H1 I q=>?_;have z:gG O f ρ=.ok (.nx ρ):=by unfold gG;rw[hd];rfl
 rw[z]at p;exact p σ F1 H1 (r.step I)
end
mutual
noncomputable def de:A'->Bool
 |.tup ds=>fw ds|.lst ds=>fw ds|.ins _ _=>c_|.dic _=>c_|.dil _=>c_|_=>e_
noncomputable def fw:List A'->Bool
 |[]=>e_|d::ds=>de d&&fw ds
end
mutual
theorem aR.plain{K:Fg}{F F':Hp}(s:∀a xs,SqT K F a xs->SqT K F' a xs)(t:∀a xs,SqL K F a xs->SqL K F' a xs):∀{d:A'} {v:V},de d=e_->aR K F d v->aR K F' d v
 |.non,_,_,h=>h|.bl _,_,_,h=>h|.int _,_,_,h=>h|.str _,_,_,h=>h|.tup ds,_,f,⟨a,xs,e,q,r⟩=>⟨a,xs,e,s _ _ q,ay.plain s t (by simpa[de] using f) r⟩|.lst ds,_,f,⟨a,xs,e,q,r⟩=>⟨a,xs,e,t _ _ q,ay.plain s t (by simpa[de] using f) r⟩|.ins _ _,_,f,_=>by simp[de]at f|.dic _,_,f,_=>by simp[de]at f|.dil _,_,f,_=>by simp[de]at f
theorem ay.plain{K:Fg}{F F':Hp}(s:∀a xs,SqT K F a xs->SqT K F' a xs)(t:∀a xs,SqL K F a xs->SqL K F' a xs):∀{ds:List A'} {xs:aB},fw ds=e_->ay K F ds xs->ay K F' ds xs
 |[],_,_,h=>h|d::ds,_,f,⟨v,vs,e,q,r⟩=>by simp only[fw,A_]at f;exact⟨v,vs,e,aR.plain s t f.1 q,ay.plain s t f.2 r⟩
end
def lx(i:Nat)(fk fv:ae->M A'):ae->M C1:=λρ=>(fv ρ).bind λd=>(ik ρ i).bind λks=>(fk ρ).bind λI=>(il I).bind λk=>if (de d&&CL (ks.length<o_))=e_ then .ok (.nx (ρ.set i (a_ (.dic (ig ks k d)))))else .error .stuck
@[simp]def e_putDL(i:Nat)(fk fv:ae->M A')(ρ:ae):lx i fk fv ρ=(fv ρ).bind λd=>(ik ρ i).bind λks=>(fk ρ).bind λI=>(il I).bind λk=>if (de d&&CL (ks.length<o_))=e_ then .ok (.nx (ρ.set i (a_ (.dic (ig ks k d)))))else .error .stuck:=id rfl
section
variable{W:cp}
def Rep.minusL(r:Rep K F0 H0 FB [i] F H σ ρ)(hd:ρ[i]?=a_ (a_ (.dic ks)))(s:B4 (plus F H (jM [i] [] σ ρ)) H F1 H1)(b:i_)(xs:aB)(h:SqL K F1 b xs):SqL K (minus F1 (jM [i] [] σ ρ)) b xs:=by
 have key:∀{b:i_} {o:HO},F1 b=a_ o->(∀f,o≠.ext f)->minus F1 (jM [i] [] σ ρ) b=a_ o:=λ{b o} h n=>by
  by_cases I:jM [i] [] σ ρ b
  .obtain⟨j,d,J,_,_,e1,e2⟩:=id I;have:=CO.mp J;subst this;rw[hd]at e1;cases e1;obtain⟨v,e3,a,ys,ev,⟨ep,S⟩,_⟩:=r.ow j _ hd CW;rw[e2]at e3;cases e3;cases ev;have:=s.ff _ _ (by rw[iw I];exact S);rw[h]at this;cases this;exact CQ rfl (n _)
  .rw[dg I];exact h
 rcases h with(h|⟨o,h⟩)|h
 .exact .inl (.inl (key h λf z=>nomatch z))
 .exact .inl (.inr ⟨o,key h λf z=>nomatch z⟩)
 .exact .inr h
def rs_putDL(t:tS K W ro F0 H0 OL [i] [i] (lx i fk fv) D σ H):sPut K (wk i) (tD K W c_ fk) (tD K W c_ fv) D σ H:=by
 obtain⟨FB,F,ρ,r,p⟩:=t;have hi:i∈[i]:=CW;refine aL r.jg r.fq (λe g=>p.gL (r.freeze (O2:=[]) ad).st (by unfold lx;rw[g];rfl)) λd hd v F1 H1 f q=>?_;have s:lx i fk fv ρ=(ik ρ i).bind λks=>(fk ρ).bind λS=>(il S).bind λk=>if (de d&&CL (ks.length<o_))=e_ then .ok (.nx (ρ.set i (a_ (.dic (ig ks k d)))))else .error .stuck:=by unfold lx;rw[hd];rfl
 rw[s]at p;cases U:ik ρ i with
 |error e=>have:=ui U;subst this;exact p.stuck (by rw[U];rfl)|ok ks=>
  rw[U]at p;have p1:cQ K W ro F0 H0 FB OL [i] D ((fk ρ).bind λS=>(il S).bind λk=>if (de d&&CL (ks.length<o_))=e_ then .ok (.nx (ρ.set i (a_ (.dic (ig ks k d)))))else .error .stuck):=p;have J:=r.gu f;obtain⟨u,e2,a,xs,ev,⟨ep,n⟩,_,_,z⟩:=J.ow i _ (kl U) hi;subst ev;refine⟨.ref a,e2,?_⟩
  refine aL J.jg J.fq (λe g=>p1.gL (J.freeze (O2:=[]) ad).st (by rw[g];rfl)) λS m w F2 H2 Y q2=>?_;rw[m]at p1;have p2:cQ K W ro F0 H0 FB OL [i] D ((il S).bind λk=>if (de d&&CL (ks.length<o_))=e_ then .ok (.nx (ρ.set i (a_ (.dic (ig ks k d)))))else .error .stuck):=p1;cases I:il S with
  |error e=>have:=j3 I;subst this;exact p2.stuck (by rw[I];rfl)|ok k=>
   rw[I]at p2;have p3:cQ K W ro F0 H0 FB OL [i] D (if (de d&&CL (ks.length<o_))=e_ then .ok (.nx (ρ.set i (a_ (.dic (ig ks k d)))))else .error .stuck):=p2;by_cases c:(de d&&CL (ks.length<o_))=e_
   .rw[n_ c]at p3;simp only[A_,Dj]at c;obtain⟨b,rfl,t⟩:=kT I q2;have r2:=J.gu Y;have l:aR K (minus F1 (jM [i] [] σ ρ)) d v:=aR.plain (r.pI f) (r.minusL (kl U) f) c.1 q;have h:=z.mono (J.dM Y);have j:=J.pI Y b _ t;exact⟨a,b,k,xs,ep,rfl,rfl,Y.hh _ _ n,h.key.mono r2.st.fh,r2.st.fh.tup j,by rw[z.length];exact c.2,λep'=>p3 σ _ _ (r2.wc hi (kl U) rfl e2 λo h0=>⟨a,_,rfl,⟨ep',aq⟩,o,h0,h.put j (l.mono (J.dM Y))⟩)⟩
   .rw[l_ c]at p3;exact p3.stuck rfl
end
section
variable{W:cp}{p:IM}
theorem xH(b:X.A.units+64<DV)(S:DE K W c_ X ek fk)(U:DE K W c_ X ev fv)(Y: ~~~(X.N[i]?=a_ x))(hv:autoParam (Vis X.env.scope x) Jq4)(hd:((x==("__debug__":C_))=c_)⁻¹)(I:((x==("__classdict__":C_))=c_)⁻¹)(a: ~~~(X.K=K))(J: ~~~(EV ev (a_ (.Subscript (.Name x p) ek pos')) pos.line X.env=ER c_)):DS K W ro X OL [i] [i] (.Assign [.Subscript (.Name x p) ek pos'] ev pos) (lx i fk fv):=λF0 H0=>by subst a;exact PS.imp (ps_put ac (pv i Y hv hd I) S U J) λ_ _ _=>rs_putDL
end
section
open PySem PySem.W
end
structure B7 where
 f:i_
 c:g_
 A:ES
 o:List KR
 s:k_
 H:Hp
 E:XK
section
variable{base:Du}{q:C_}{st:Ei}
def YO(_:∃f fd,Def K mg x st ps f fd)(P:D0)(w:Ew)(base:Du)(k:Nat)(ro:Bool)(m:List A'->M A'):Prop:=∃f fd,Yd P w K mg base CX0 k x st ps (spF K ro m ps.length) f fd
def YX(_:∃f fd,Def K mg x st ps f fd)(P:D0)(w:Ew)(base:Du)(k:Nat)(ro:Bool)(m:List A'->M A'):Prop:=∃f fd,Yd P w K mg base (CXd P w) k x st ps (spX K ro m ps.length) f fd
def YM(_:∃f fd,Mth K C x q st ps f fd)(P:D0)(w:Ew)(mg:Mq)(base:Du)(k:Nat)(ro:Bool)(m:List A'->M A'):Prop:=∃f fd,Mth K C x q st ps f fd/\fU P w K mg base CX0 k f fd ps (spF K ro m ps.length)
def fY(N:List C_){h:∃f fd,Def K mg x st ps f fd}(J:∀z:B7,N.Nodup->fS k (z.A.deeper (Ge x (aE st) z.s.heap.objs.size z.f z.c))->DSs K Hn ro (vN CX0 P w K mg base N x (aE st) z.f z.c z.A z.o z.s z.H z.E).nox [] [] [] (bw st) g)(S:autoParam (fO N ps (aE st)) Jq9):YO h P w base (k+1) ro (b7 N.length ps.length g):=
 let ⟨f,fd,D⟩:=h
 ⟨f,fd,D,fn_D D.fn S ro g λc A o s H E I=>J ⟨f,c,A,o,s,H,E⟩ S.nd I⟩
def fX(N:List C_){h:∃f fd,Def K mg x st ps f fd}(J:∀z:B7,N.Nodup->fS k (z.A.deeper (Ge x (aE st) z.s.heap.objs.size z.f z.c))->DSs K (WE K z.E) ro (vN (CXd P w) P w K mg base N x (aE st) z.f z.c z.A z.o z.s z.H z.E) [] [] [] (bw st) g)(S:autoParam (fO N ps (aE st)) Jq9):YX h P w base (k+1) ro (b7 N.length ps.length g):=
 let ⟨f,fd,D⟩:=h
 ⟨f,fd,D,fn_X D.fn S ro g λc A o s H E I=>J ⟨f,c,A,o,s,H,E⟩ S.nd I⟩
def fM(N:List C_){h:∃f fd,Mth K C x q st ps f fd}(J:∀z:B7,N.Nodup->fS k (z.A.deeper (Ge q (aE st) z.s.heap.objs.size z.f z.c))->DSs K Hn ro (vN CX0 P w K mg base N q (aE st) z.f z.c z.A z.o z.s z.H z.E).nox [] [] [] (bw st) g)(S:autoParam (fO N ps (aE st)) Jq9):YM h P w mg base (k+1) ro (b7 N.length ps.length g):=
 let ⟨f,fd,D⟩:=h
 ⟨f,fd,D,fn_D D.fn S ro g λc A o s H E I=>J ⟨f,c,A,o,s,H,E⟩ S.nd I⟩
end
section
variable{W:cp}{a b d:Em}{p:IM}{f:ae->M A'}{fr:ae->M (List A')}
def dY{st:Ei}(Y:∃f fd,Yd X.prog X.w X.K X.mg X.base CX0 k x st ps (spF K ro (b7 nN n g) n) f fd)(U:fS j X.A)(c:DA K Hn X (e::es) fr)(a:(k<=j)⁻¹)(b: ~~~(Gl X x))(S:((x==("__debug__":C_))=c_)⁻¹)(I: ~~~(j_ (e::es) X.env=(c_,Dh e X.env)::j_ es X.env))(J: ~~~((Eg pos (j_ es X.env)).any (·.1)=c_)):
  DE K Hn ro X (.Call (.Name x p) (e::es) [] pos) (fL (b7 nN n g) fr):=let ⟨_,_,Y⟩:=Y;C3 Y.o (U.mono a) Y.d.mg Y.d.fn.kp Y.d.bd c b S I J
def da1(J:DE K W c_ X a fa)(I: ~~~(j_ [a] X.env=[(c_,Dh a X.env)])):DA K W X [a] (aa fa aD):=aX J bS I
def da2(U:DE K W c_ X a fa)(S:DE K W c_ X b fb)(J: ~~~(j_ [a,b] X.env=[(c_,Dh a X.env),(c_,Dh b X.env)]))(I: ~~~(j_ [b] X.env=[(c_,Dh b X.env)])):DA K W X [a,b] (aa fa (aa fb aD)):=aX U (da1 S I) (by rw[J,I])
def da3{J I:ae->M A'}(h1:DE K W c_ X e1 J)(h2:DE K W c_ X e2 I)(a:DE K W c_ X e3 f3)(Y: ~~~(j_ [e1,e2,e3] X.env=(c_,Dh e1 X.env)::j_ [e2,e3] X.env))(U: ~~~(j_ [e2,e3] X.env=(c_,Dh e2 X.env)::j_ [e3] X.env))(S: ~~~(j_ [e3] X.env=(c_,Dh e3 X.env)::j_ [] X.env)):DA K W X [e1,e2,e3] (aa J (aa I (aa f3 aD))):=(aX h1 (aX h2 (aX a bS S) U) Y)
def da4{J I:ae->M A'}(h1:DE K W c_ X e1 J)(h2:DE K W c_ X e2 I)(c:DE K W c_ X e3 f3)(b:DE K W c_ X e4 f4)(a: ~~~(j_ [e1,e2,e3,e4] X.env=(c_,Dh e1 X.env)::j_ [e2,e3,e4] X.env))(Y: ~~~(j_ [e2,e3,e4] X.env=(c_,Dh e2 X.env)::j_ [e3,e4] X.env))(U: ~~~(j_ [e3,e4] X.env=(c_,Dh e3 X.env)::j_ [e4] X.env))(S: ~~~(j_ [e4] X.env=(c_,Dh e4 X.env)::j_ [] X.env)):DA K W X [e1,e2,e3,e4] (aa J (aa I (aa f3 (aa f4 aD)))):=(aX h1 (aX h2 (aX c (aX b bS S) U) Y) a)
def da5{J I:ae->M A'}(h1:DE K W c_ X e1 J)(h2:DE K W c_ X e2 I)(e:DE K W c_ X e3 f3)(d:DE K W c_ X e4 f4)(c:DE K W c_ X e5 f5)(b: ~~~(j_ [e1,e2,e3,e4,e5] X.env=(c_,Dh e1 X.env)::j_ [e2,e3,e4,e5] X.env))(a: ~~~(j_ [e2,e3,e4,e5] X.env=(c_,Dh e2 X.env)::j_ [e3,e4,e5] X.env))(Y: ~~~(j_ [e3,e4,e5] X.env=(c_,Dh e3 X.env)::j_ [e4,e5] X.env))(U: ~~~(j_ [e4,e5] X.env=(c_,Dh e4 X.env)::j_ [e5] X.env))(S: ~~~(j_ [e5] X.env=(c_,Dh e5 X.env)::j_ [] X.env)):DA K W X [e1,e2,e3,e4,e5] (aa J (aa I (aa f3 (aa f4 (aa f5 aD))))):=(aX h1 (aX h2 (aX e (aX d (aX c bS S) U) Y) a) b)
def da6{I:Em}{U S J:ae->M A'}(h1:DE K W c_ X e1 U)(h2:DE K W c_ X e2 S)(i:DE K W c_ X e3 f3)(h:DE K W c_ X e4 f4)(g:DE K W c_ X e5 f5)(f:DE K W c_ X I J)(e: ~~~(j_ [e1,e2,e3,e4,e5,I] X.env=(c_,Dh e1 X.env)::j_ [e2,e3,e4,e5,I] X.env))(d: ~~~(j_ [e2,e3,e4,e5,I] X.env=(c_,Dh e2 X.env)::j_ [e3,e4,e5,I] X.env))(c: ~~~(j_ [e3,e4,e5,I] X.env=(c_,Dh e3 X.env)::j_ [e4,e5,I] X.env))(b: ~~~(j_ [e4,e5,I] X.env=(c_,Dh e4 X.env)::j_ [e5,I] X.env))(a: ~~~(j_ [e5,I] X.env=(c_,Dh e5 X.env)::j_ [I] X.env))(Y: ~~~(j_ [I] X.env=(c_,Dh I X.env)::j_ [] X.env)):DA K W X [e1,e2,e3,e4,e5,I] (aa U (aa S (aa f3 (aa f4 (aa f5 (aa J aD)))))):=(aX h1 (aX h2 (aX i (aX h (aX g (aX f bS Y) a) b) c) d) e)
def cj(Y:X.N.Nodup)(U:DE K W c_ X e f)(hi: ~~~(X.N[i]?=a_ x))(I:autoParam (Loc X.env.scope x) Jq6)(J: ~~~(EV e (a_ (.Name x pos')) pos.line X.env=ER c_))(S:autoParam (X.fn x=e_\/X.env.scope.names.lookup x=a_ .local) Jq3):
  DS K W ro X OL O (aft c_ i O) (.Assign [.Name x pos'] e pos) (b6 O i f):=vE Y U hi I J S
def ud(Y:X.N.Nodup)(U:DE K W e_ X e f)(hi: ~~~(X.N[i]?=a_ x))(I:autoParam (Loc X.env.scope x) Jq6)(J: ~~~(EV e (a_ (.Name x pos')) pos.line X.env=ER c_))(S:autoParam (X.fn x=e_\/X.env.scope.names.lookup x=a_ .local) Jq3):
  DS K W ro X OL O (aft e_ i O) (.Assign [.Name x pos'] e pos) (b6 O i f):=vE Y U hi I J S
end
section
variable{f:i_}{q:C_}{st:Ei}{kV:g_}
def dF(J:K.In h)(G:h.Ns DY mg)(a:autoParam (nsIn K DY x=a_ (a_ (.ref f))) Jq2)(l:autoParam (K.lookup f=a_ ⟨oc,od,.func (JT x x (cJ st) (bw st) (aE st) .none kV doc pm an cdv ct),osl⟩) Jq2)(c:autoParam (KL K cdv x=e_) Jq2)(k:autoParam (Gd K (.ref f)=e_) Jq2)(I:autoParam (∀(kV doc pm:g_) (an:Option i_) (cdv ct:g_) (us:aM),us.length=ps.length->Ju (JT x x (cJ st) (bw st) (aE st) .none kV doc pm an cdv ct) ⟨us,[]⟩=ER (ps.zip us)) Jq12):∃f fd,Def K mg x st ps f fd:=⟨_,_,def_of J G a l c k I⟩
def mF(a:autoParam (Dm K (.ref C) x=a_ (a_ (.ref f))) Jq2)(i:autoParam (isFn K (.ref f)=e_) Jq2)(l:autoParam (K.lookup f=a_ ⟨oc,od,.func (JT x q (cJ st) (bw st) (aE st) .none kV doc pm an cdv ct),osl⟩) Jq2)(c:autoParam (KL K cdv q=e_) Jq2)(k:autoParam (Gd K (.ref f)=e_) Jq2)(I:autoParam (∀(kV doc pm:g_) (an:Option i_) (cdv ct:g_) (us:aM),us.length=ps.length->Ju (JT x q (cJ st) (bw st) (aE st) .none kV doc pm an cdv ct) ⟨us,[]⟩=ER (ps.zip us)) Jq12):∃f fd,Mth K C x q st ps f fd:=⟨_,_,mth_of a i l c k I⟩
def kF(f:K.In h)(G:h.Ns DY mg)(a:autoParam (nsIn K DY x=a_ (a_ (.ref C))) Jq2)(S:autoParam (Kj K C MW=e_) Jq2)(hd:autoParam (KJ K C=e_) Jq2)(J:autoParam (L1 K C=e_) Jq2)(I:autoParam (Dm K (.ref C) "__setattr__"=a_ (a_ (.builtin "object.__setattr__"))) Jq2)(U:autoParam (Ml K C=e_) Jq2)(Y:autoParam (Gd K (.ref C)=e_) Jq2)(e:autoParam (Dm K (.ref C) "__class__"=a_ (a_ (.builtin "object.__class__"))) Jq2)(d:autoParam (JF K (.builtin "object.__class__") "__get__"=a_ (a_ (.builtin "getset_descriptor.__get__"))) Jq2)(c:autoParam (NL K (.builtin "object.__class__")=a_ e_) Jq2)(b:autoParam (E5 K C (.type "object")=a_ e_) Jq2):Kls K mg x C:=kls_of f G a S hd J I U Y e d c b
def lF{y:C_}(S:K.In h)(G:h.Ns DY mg)(a:autoParam (nsIn K DY x=a_ (a_ (.ref f))) Jq2)(l:autoParam (K.lookup f=a_ ⟨oc,od,.func (JT x x (cJ st) (bw st) (aE st) .none kV doc pm an cdv ct),osl⟩) Jq2)(c:autoParam (KL K cdv x=e_) Jq2)(k:autoParam (Gd K (.ref f)=e_) Jq2)(I:∀(kV doc pm:g_) (an:Option i_) (cdv ct:g_) (v:g_),Ju (JT x x (cJ st) (bw st) (aE st) .none kV doc pm an cdv ct) ⟨[v],[]⟩=ER [(y,v)]:=by intros;rfl):∃f fd,Def K mg x st [y] f fd/\∀(s:k_) (v:g_),JJ s fd ⟨[v],[]⟩ [(y,v)]:=
 ⟨_,_,def_of S G a l c k λ_ _ _ _ _ _ us J=>match us,J with|[_],_=>I ..,λ_ _=>.of_eq (I ..)⟩
def Fun.uniq{I:Fh}(a:Fun K x q st f fd)(b:Fun K x q st f I):fd=I:=by obtain⟨oc,od,kV,doc,pm,an,cdv,ct,osl,rfl,h,_⟩:=a.ex;obtain⟨g,d,i,U,c,k,Y,j,S,rfl,J,_⟩:=b.ex;have e:=h.symm.trans J;cases e;rfl
def rS(N:∃f fd,Mth K C x q st ps f fd)(a:autoParam (Dm K (.ref C) x=a_ (a_ (.ref f))) Jq2)(U:autoParam (JF K (.ref C) "__getattribute__"=a_ (a_ (.builtin "type.__getattribute__"))) Jq7)(S:autoParam (LZ K C mc=e_) Jq7)(J:autoParam (L4 K (.ref C) mc x=a_ (.val (.ref f))) Jq7)(I:autoParam (Gd K (.ref f)=e_) Jq2):∃f fd,Mth K C x q st ps f fd/\Stat K C mc x f:=by obtain⟨Y,fd,M⟩:=N;have e:=M.mt.1.symm.trans a;cases e;exact⟨_,fd,M,U,S,J,I⟩
end
def RLst(K:Fg):aB->Hp->VK->Prop:=λxs H Q=>∃p ys,xs=[.ref p]/\(SqL K H p ys\/SqT K H p ys)/\∀l,H l=f_->Q (.ref l) (upd H l (.lst ys))
theorem wL(f:C_)(v:V):∀fs:List (C_×V),f∉fs.map (·.1)->qM f v fs=fs++[(f,v)]
 |[],_=>rfl|(g,x)::r,h=>by have h1:¬g=f:=λe=>h (by simp[e]);have h2:f∉r.map (·.1):=λe=>h (by simp at e ⊢;exact .inr e);show(if g=f then _ else _)=_;rw[l_ h1,wL f v r h2];rfl
structure Cu(F H Hc:Hp)(p C dx:i_)(fs:List (C_×V)):Prop where
 f0:F p=f_
 sf:aK F Hc
 kp:∀c o,H c=a_ o->c≠p->Hc c=a_ o
 ob:Hc p=a_ (.ins C dx fs)
section
variable{Hc:Hp}{p dx:i_}{fs:List (C_×V)}{f:C_}
def Cu.put(c:Cu F H Hc p C dx fs)(f:C_)(v:V):Cu F H (upd Hc p (.ins C dx (fs++[(f,v)]))) p C dx (fs++[(f,v)]) where
 f0:=c.f0
 sf:=λb u e=>by
  have:b≠p:=λz=>by rw[z,c.f0]at e;cases e
  rw[aw this];exact c.sf _ _ e
 kp:=λb o e I=>by rw[aw I];exact c.kp b o e I
 ob:=aq
def Cu.lay(c:Cu F H Hc p C dx fs){o:HO}(I:Hc l=f_):Cu F H (upd Hc l o) p C dx fs where
 f0:=c.f0
 sf:=λb u e=>by
  have:b≠l:=λz=>by rw[z,c.sf.free I]at e;cases e
  rw[aw this];exact c.sf _ _ e
 kp:=λb u e J=>by
  have h1:=c.kp b u e J;have:b≠l:=λz=>by rw[z,I]at h1;cases h1
  rw[aw this];exact h1
 ob:=by
  have:p≠l:=λz=>by have h:=c.ob;rw[z,I]at h;cases h
  rw[aw this];exact c.ob
def Cu.new(c:Cu F H Hc p C dx fs)(I:Hc l=f_):H l=f_:=by
 cases h:H l with
 |none=>rfl|some o=>
  have:l≠p:=λz=>by have h:=c.ob;rw[<- z,I]at h;cases h
  rw[c.kp l o h this]at I;cases I
def Cu.list(c:Cu F H Hc p C dx fs)(j:Cls K C)(Y:gN K C f)(a:f∉fs.map (·.1))(g:fs.length<1000)(h0:σ[0]?=a_ (a_ (.ref p))){y:aB}(hi:σ[i]?=a_ (a_ (.ref b)))(q:SqL K F b y)(I:∀l S,H l=f_->Cu F H S p C dx (fs++[(f,.ref l)])->S l=a_ (.lst y)->(∀m o,Hc m=a_ o->m≠p->S m=a_ o)->D.nx σ S):sFld K (wk 0) (tCB (RLst K) (j9 (wk i) wo)) f D σ Hc:=by
 refine⟨.ref b,hi,b,y,rfl,.inl (c.sf.lst q),λl J=>⟨.ref p,h0,p,C,dx,fs,rfl,(c.lay J).ob,j,Y,g,?_⟩⟩
 rw[wL f _ fs a];have U:l≠p:=λz=>by have h:=c.ob;rw[<- z,J]at h;cases h
 refine I l _ (c.new J) ((c.lay J).put f (.ref l)) (by rw[aw U,aq]) λm o e d=>?_
 have:m≠l:=λz=>by rw[z,J]at e;cases e
 rw[aw d,aw this];exact e
end
open Classical in
structure uG(K:Fg)(C:i_)(A1:i_)(T:String)(ys:List i_)(bs:List Bool):Prop where
 ex:∃b1 b4 b5,bs=[b1,b4,b5]/\Ed K (.ref C) (.ref A1)=a_ b1/\Ed K (.ref C) (.type T)=a_ b4/\Nu K (.ref C) (ys.map x_)=a_ b5
def An(K:Fg)(i j:Nat)(A1:i_)(T:String)(ys:List i_)(a C:i_)(dx:Option i_):TS:=λD σ H=>∃S J I,uG K C A1 T ys [S,J,I] /\
 tSeq (tAsg (tLst (j9 (yz i a (XR dx) S) (j9 (yz i a (XR dx) J) wo))) (rC j)) (yA (tBM K "list" qL (wk j) (j9 (Aq i a (XR dx) ys I) wo))) D σ H
section
variable{fb:ae->M C1}
theorem wA{bs:List Bool}(r:Rep K F0 H0 FB [] F H σ ρ)(g:XR dx H)(k:uG K C A1 T ys bs)(S:i≠j)(hi:i<σ.length)(h:j<σ.length)(q:cQ K Hn ro F0 H0 FB OL [] D (.ok (.nx ((ρ.set j (a_ (.lst (bs.map A'.bl)))).set i f_)))):
  An K i j A1 T ys a C dx (D.less i) (σ.set i (a_ (.ref a))) H:=by
 have n:=EK;obtain⟨b,Y,m,rfl,o⟩:=k.ex;refine⟨b,Y,m,k,?_⟩
 have e1:(σ.set i (a_ (.ref a)))[i]?=a_ (a_ (.ref a)):=by rw[CK hi]
 refine⟨e1,g,e1,g,by show 2<=o_;lia,λl c=>?_⟩
 have e2:((σ.set i (a_ (.ref a))).set j (a_ (.ref l)))[j]?=a_ (a_ (.ref l)):=by rw[CK (by rw[Dn];exact h)]
 have e3:((σ.set i (a_ (.ref a))).set j (a_ (.ref l)))[i]?=a_ (a_ (.ref a)):=by rw[v_ (D6 S)];exact e1
 refine⟨.ref l,e2,qy aq,e3,λp U=>?_⟩
 have I:l≠p:=λz=>by subst z;rw[aq]at U;cases U
 have J:H p=f_:=by rw[aw (D6 I)]at U;exact U
 have f:XR dx (upd (upd H l (.lst [.bl b,.bl Y])) p (.tup (ys.map V.ref))):=by
  cases dx with
  |none=>trivial|some d=>
   obtain⟨gs,e⟩:=(show XDk d H from g)
   exact⟨gs,by rw[aw (aA e J),aw (aA e c)];exact e⟩
 refine⟨f,l,[.bl b,.bl Y],.bl m,rfl,rfl,by rw[aw I];exact aq,by show 2<o_;lia,?_⟩
 exact q _ _ _ (r.toldG S hi h (λz=>nomatch z) (λz=>nomatch z) (step_app (xs:=[.bl b,.bl Y]) r.st.fh c J (D6 I)) (r.st.fh.free c) ⟨_,_,rfl,rfl,_,_,rfl,rfl,_,_,rfl,rfl,rfl⟩)
def rs_tryB2(b:∀C bs,tb.lookup C=a_ bs->uF K C Cb/\uG K C A1 T ys bs)(I:i≠j)(hi:i<σ.length)(S:j<σ.length)(t:tS K Hn ro F0 H0 OL [] [] (qI i j tb fb) D σ H):∃F1 H1,tS K (WE K (EHB K i Cb (An K i j A1 T ys) D σ)) ro F1 H1 OL [] [] fb D σ H:=by
 obtain⟨FB,F,ρ,r,p⟩:=t;refine⟨F,H,FB,F,ρ,⟨B4.refl r.st.fh,r.fb,r.len,r.fz,(λm d e h=>nomatch h),(λm n l k c h=>nomatch h)⟩,?_⟩
 cases e:fb ρ with
 |ok fl=>
  rw[BJ e]at p;cases fl with
  |nx ρ'=>exact λσ' F' H' r'=>p σ' F' H' (r'.back r.st)|rt d=>exact λv F' H' s' q=>p v F' H' (r.st.trans s') (q.back r.st.hh)|bk ρ'=>exact λσ' F' H' r'=>p σ' F' H' (r'.back r.st)|ct ρ'=>exact λσ' F' H' r'=>p σ' F' H' (r'.back r.st)
 |error x=>
  cases x with
  |stuck=>exact p.stuck (by unfold qI;rw[e])|exc C fs=>
   cases J:tb.lookup C with
   |none=>exact p.stuck (by unfold qI;rw[e];simp only[J])|some bs=>
    rw[qc e J]at p;obtain⟨Y,U⟩:=b C bs J;cases fs with
    |nil=>exact λF' H' s'=>⟨C,rfl,Y,λa _=>wA (r.step s') trivial U I hi S p⟩|cons f fs=>exact λF' H' s' d gs hd g=>⟨C,rfl,Y,λa _=>wA (r.step s') ⟨gs,s'.fh d _ hd⟩ U I hi S p⟩
end
section
variable{c n to:C_}{fb:ae->M C1}
theorem ds_tryB2(u:∀(B2:Pn) (σ:St) (E:XK) (S:Vp),ku (CXd X.prog X.w) (X.uK S) B2 σ E->DSat K E ro (X.uK S) OL [] [] B2 σ body fb)(A:XBase X.K X.mg c Cb)(w:∀C bs,tb.lookup C=a_ bs->uF X.K C Cb/\uG X.K C A1 T ys bs)(x:X.N.Nodup)(l:∀(a C:i_) (oe:IB) (h g f:Bool),cH (X.hand a oe) (.builtin "isinstance") (rIsi X.K C a (XR oe.dict))->Ed X.K (.ref C) (.ref A1)=a_ h->Ed X.K (.ref C) (.type T)=a_ g->Nu X.K (.ref C) (ys.map x_)=a_ f ->
   PSs (X.hand a oe) (b₀::suite) (tSeq (tAsg (tLst (j9 (yz i a (XR oe.dict) h) (j9 (yz i a (XR oe.dict) g) wo))) (rC j)) (yA (tBM X.K "list" qL (wk j) (j9 (Aq i a (XR oe.dict) ys f) wo)))))(y: ~~~(X.K=K))(U:(i≠j)⁻¹)(hi: ~~~(X.N[i]?=a_ n))(p: ~~~(X.N[j]?=a_ to))(o: ~~~(X.env.scope.names.lookup n=a_ .local))(r: ~~~(Gl X c))(b: ~~~(X.ex=[]))(J: ~~~(X.stack=X.env::X.outer))(Y: ~~~(X.env.frame=a_ X.env.locals))(d:((c==("__debug__":C_))=c_)⁻¹):
  DS K Hn ro X OL [] [] (.Try body [.ExceptHandler (a_ (.Name c np)) (a_ n) (b₀::suite) hpos] [] [] pos) (qI i j tb fb):=λF0 H0 B2 s σ H D I z=>by
 subst y;refine ps_tryB (tb:=λE D σ H=>∃F1 H1,tS X.K (WE X.K E) ro F1 H1 OL [] [] fb D σ H) (ts:=An X.K i j A1 T ys) (λB2 σ E S m s H D I ⟨F1,H1,q⟩=>u B2 σ E S m F1 H1 s H D I q) (λa C oe t Z hd=>?_) A x hi o r b J Y d B2 s σ H D I ?_
 .intro B2 s σ H D I q;obtain⟨h,g,f,v,q⟩:=q;obtain⟨_,_,_,e,k1,k,k5⟩:=v.ex;simp only[Gm,and_true]at e;obtain⟨rfl,rfl,rfl⟩:=e;exact l a C oe _ _ _ (c_isiA F.attrBase_ValueError Z t hd) k1 k k5 B2 s σ H D I q
 .exact rs_tryB2 w U (by rw[I.len];exact(y_.mp hi).1) (by rw[I.len];exact(y_.mp p).1) z
end
def tell1{P:i_->List Bool->Prop}{I:i_}{J:List Bool}(h1:P I J):∀C bs,Dr C [(I,J)]=a_ bs->P C bs:=by
 intro C bs h;rw[CN]at h;cases e1:C==I with
 |true=>rw[e1]at h;cases h;rw[GJ.mp e1];exact h1|false=>rw[e1]at h;cases h
def unF:HO->HO
 |.frz _ u=>u|o=>o
open Classical in
structure Cells(K:Fg)(F H:Hp)(xs:List Addr)(ds:List A'):Prop where
 fh:aK F H
 nd:xs.Nodup
 len:xs.length=ds.length
 own:∀(j:Nat) (x:Addr) (d:A'),xs[j]?=some x->ds[j]?=some d->isO d=true/\kz K F (λ_=>none) H d (.ref x)
structure StepC(xs:List i_)(F H F' H':Hp):Prop where
 ff:aK F F'
 hh:∀b o,b∉xs->H b=a_ o->H' b=a_ o
 fh:aK F' H'
 nw:∀b o,F' b=a_ o->F b=a_ o\/H b=f_
section
variable{xs:List i_}{ds:List A'}
theorem StepC.trans{F2 H2:Hp}(a:StepC xs F H F' H')(b:StepC xs F' H' F2 H2)(J:∀x∈xs,∃o,H' x=a_ o):StepC xs F H F2 H2:=
 ⟨a.ff.trans b.ff,λc o n h=>b.hh c o n (a.hh c o n h),b.fh,λc o h=>(b.nw c o h).elim (λz=>a.nw c o z) λz=>.inr (by
  cases e:H c with
  |none=>rfl|some u=>
   by_cases I:c∈xs
   .obtain⟨o',S⟩:=J c I;rw[S]at z;cases z
   .rw[a.hh c u I e]at z;cases z)⟩
def Cells.at(c:Cells K F H xs ds){x:i_}(J:x∈xs):F x=f_/\∃o,H x=a_ o/\isMu o=e_:=by
 obtain⟨j,I,rfl⟩:=Hb J;have hd:j<ds.length:=by rw[<- c.len];exact I
 obtain⟨h1,h2⟩:=c.own j xs[j] ds[j] (Dk I) (Dk hd);obtain⟨a,o,e,p,m,f,_⟩:=h2.top h1;cases e;exact⟨f,o,p,m⟩
def Cells.back(c:Cells K F H xs ds)(s:B4 (plus F H (·∈xs)) H F' H'):B4 F H (minus F' (·∈xs)) H':=by
 refine⟨λb o h=>?_,s.hh,λb o h=>?_,λb o h=>?_⟩
 .by_cases I:b∈xs
  .rw[(c.at I).1]at h;cases h
  .rw[dg I];exact s.ff b o (by rw[cR I];exact h)
 .by_cases I:b∈xs
  .rw[mm I]at h;cases h
  .rw[dg I]at h;exact s.fh b o h
 .by_cases I:b∈xs
  .rw[mm I]at h;cases h
  .rw[dg I]at h;exact(s.nw b o h).elim (λz=>by rw[cR I]at z;exact .inl z) .inr
end
def jw.only(e:σ[i]?=a_ (a_ v))(q:aR K F d v):jw K F σ ((Di σ.length f_).set i (a_ d)):=
 ⟨by rw[Dn,EZ],λj d' h=>by
  by_cases I:i=j
  .subst I;rw[CK (by rw[EZ];exact(y_.mp e).1)]at h;cases h;exact⟨v,e,q⟩
  .rw[v_ I,HY]at h;split at h<;>cases h⟩
section
variable{ds:List A'}{vs:List V}
theorem lW.upd{c:i_}{u:HO}(o:lW K F G H ds vs)(n:∀k:Nat,vs[k]?≠a_ (.ref c)):lW K F G (Lake.upd H c u) ds vs:=⟨o.len,λk d e=>by obtain⟨a,xs,es,h1,h2,J,I⟩:=o.get k d e;exact⟨a,xs,es,h1,h2,by rw[aw (λz=>n k (by rw[<- z];exact h1))];exact J,I⟩,o.ap⟩
def mz(l:List α)(j k:Nat):(l.eraseIdx j)[k]?=l[if k<j then k else k+1]?:=by rw[List.getElem?_eraseIdx];split<;>rfl
theorem lW.erase(o:lW K F G H ds vs)(j:Nat):lW K F G H (ds.eraseIdx j) (vs.eraseIdx j):=by
 refine⟨by rw[IU,IU,o.len],λk d e=>?_,λi k a e1 e2=>?_⟩
 .rw[mz]at e ⊢;exact o.get _ d e
 .rw[mz]at e1 e2;have:=o.ap _ _ a e1 e2;split at this<;>split at this<;>lia
end
structure MixH(K:Fg)(F0 H0 F:Hp)(ar al:i_)(H:Hp)(xs ys:aB)(out rs:List A'):Prop where
 st:B4 F0 H0 F H
 hr:H ar=a_ (.lst xs)
 fr:F ar=f_/\H0 ar=f_
 hl:H al=a_ (.lst ys)
 fl:F al=f_/\H0 al=f_
 na:ar≠al
 nl:∀m:Nat,ys[m]?≠a_ (.ref al)
 nr:∀m:Nat,ys[m]?≠a_ (.ref ar)
 ow:lW K F H0 H rs ys
 dq:ay K F out xs
def mixA(ar al:i_)(ys:aB)(c:i_):Prop:=c=ar\/c=al\/∃m:Nat,ys[m]?=a_ (.ref c)
section
variable{ar al:i_}{xs ys:List V}{out:List A'}
def B4.put{u:HO}(s:B4 F0 H0 F H)(f:F c=f_/\H0 c=f_):B4 F0 H0 F (upd H c u):=
 ⟨s.ff,λb o e=>by rw[aw (aA e f.2)];exact s.hh b o e,λb o e=>by rw[aw (aA e f.1)];exact s.fh b o e,s.nw⟩
def MixH.drop(h:MixH K F0 H0 F ar al H xs ys out rs)(j:Nat):MixH K F0 H0 F ar al (upd H al (.lst (ys.eraseIdx j))) xs (ys.eraseIdx j) out (rs.eraseIdx j):=
 ⟨h.st.put h.fl,by rw[aw h.na];exact h.hr,h.fr,aq,h.fl,h.na,λm e=>h.nl _ (by rw[mz]at e;exact e),λm e=>h.nr _ (by rw[mz]at e;exact e),(h.ow.upd h.nl).erase j,h.dq⟩
def MixH.none(h:MixH K F0 H0 F ar al H xs ys out rs){c:i_}(I:mixA ar al ys c):F c=f_:=by
 rcases I with rfl|rfl|⟨m,e⟩
 .exact h.fr.1
 .exact h.fl.1
 .obtain⟨_,_,_,_,z,_⟩:=h.ow.at e;exact z
end
def Th(F F':Hp):Prop:=∀b o,F b=a_ o->F' b=a_ (unF o)
def Th.tup(s:Th F F'){xs:aB}(h:SqT K F a xs):SqT K F' a xs:=by
 rcases h with(h|⟨o,h⟩)|h
 .exact .inl (.inl (s _ _ h))
 .exact .inl (.inl (s _ _ h))
 .exact .inr h
def Th.lst(s:Th F F'){xs:aB}(h:SqL K F a xs):SqL K F' a xs:=by
 rcases h with(h|⟨o,h⟩)|h
 .exact .inl (.inl (s _ _ h))
 .exact .inl (.inl (s _ _ h))
 .exact .inr h
mutual
theorem aR.th(s:Th F F'):∀{d:A'} {v:V},aR K F d v->aR K F' d v
 |.non,_,h=>h|.bl _,_,h=>h|.int _,_,h=>h|.str _,_,h=>h|.tup _,_,⟨a,xs,e,q,r⟩=>⟨a,xs,e,s.tup q,ay.th s r⟩|.lst _,_,⟨a,xs,e,q,r⟩=>⟨a,xs,e,s.lst q,ay.th s r⟩|.ins _ _,_,⟨a,dx,fs,e,q,r⟩=>⟨a,dx,fs,e,s _ _ q,jf.th s r⟩|.dic _,_,⟨a,xs,e,⟨ep,q⟩,r⟩=>⟨a,xs,e,⟨ep,s _ _ q⟩,bP.th s r⟩|.dil _,_,⟨a,xs,e,⟨ep,q⟩,r,z⟩=>⟨a,xs,e,⟨ep,s _ _ q⟩,r,λx Y=>let ⟨r,bs,U,S,l,J⟩:=z x Y;⟨r,bs,s.tup U,s.tup S,l,λj I c e1 e2=>s.tup (J j I c e1 e2)⟩⟩
theorem ay.th(s:Th F F'):∀{ds:List A'} {xs:aB},ay K F ds xs->ay K F' ds xs
 |[],_,h=>h|_::_,_,⟨v,vs,e,q,r⟩=>⟨v,vs,e,aR.th s q,ay.th s r⟩
theorem jf.th(s:Th F F'):∀{gs:List (C_×A')} {fs:List (C_×V)},jf K F gs fs->jf K F' gs fs
 |[],_,h=>h|(_,_)::_,_,⟨v,r,e,q,t⟩=>⟨v,r,e,aR.th s q,jf.th s t⟩
theorem bP.th(s:Th F F'):∀{ks:List (am×A')} {xs:List j8},bP K F ks xs->bP K F' ks xs
 |[],_,h=>h|(_,_)::_,_,⟨b,v,r,e,t,q,z⟩=>⟨b,v,r,e,s.tup t,aR.th s q,bP.th s z⟩
end
noncomputable abbrev PKs:=List ((C_×C_)×Int)
structure Jst where
 dk:List A'
 dn:List A'
 df:List A'
 dc:List A'
 g:PKs
 b:PKs
def Jst.ds(s:Jst):List A':=[.lst s.dk,.lst s.dn,.lst s.df,.lst s.dc]
structure Jad where
 p:i_
 T:i_
 g:i_
 b:i_
 k:i_
 n:i_
 f:i_
 c:i_
def Jad.xs(a:Jad):List i_:=[a.k,a.n,a.f,a.c]
section
variable{F2:Hp}{p:i_}
theorem Abt.trans(a:Abt p F H F' H')(b:Abt p F' H' F2 H2):Abt p F H F2 H2:=⟨a.ff.trans b.ff,b.fh,b.fp,λc u e=>(b.nw c u e).elim (a.nw c u) λz=>.inr (by
 cases J:H c with
 |none=>rfl|some o'=>
  have I:c≠p:=λw=>by rw[w,b.fp]at e;cases e
  rw[a.hh c o' J I]at z;cases z),λc u e I=>b.hh c u (a.hh c u e I) I⟩
def Abt.from(s:B4 F0 H0 F H)(a:Abt p F H F' H')(h0:H0 p=f_):B4 F0 H0 F' H':=⟨s.ff.trans a.ff,λc u e=>a.hh c u (s.hh c u e) (λz=>by rw[z,h0]at e;cases e),a.fh,λc u e=>(a.nw c u e).elim (s.nw c u) λz=>.inr (s.hh.free z)⟩
end
def tF(I:K.In h)(G:h.Ns DY mg)(a:autoParam (nsIn K DY x=a_ (a_ (.ref C))) Jq2)(e:autoParam (GS K C [.type "ValueError",.type "Exception",.type "BaseException",.type "object"] "ValueError.__new__"=e_) Jq7):XTxt K mg x C:=⟨mg_of I G a,e⟩
def iF(S:autoParam (Dm K (.ref C) "__getattribute__"=a_ (a_ (.builtin "BaseException.__getattribute__"))) Jq2)(U:autoParam (Dm K (.ref C) "__class__"=a_ (a_ (.builtin "object.__class__"))) Jq2)(J:autoParam (Dm K (.ref C) "__getattr__"=a_ f_) Jq2)(bs:autoParam (E5 K C (.type "BaseException")=a_ e_) Jq2)(I:autoParam (E5 K C (.type "object")=a_ e_) Jq2)(is:autoParam ((Mn K C).isSome=e_) Jq7):XIsi K C:=⟨S,U,J,bs,I,Ft.mp is⟩
section
open PySem.W
end
section
open PySem PySem.W
end
section
open PySem.W
variable{s:k_}
noncomputable def out3(b:Bool):aM->aM
 |[J,I]=>if b=e_ then [I,J]else [J,I]
 |vs=>vs
theorem wV{b:Bool}:∀{vs:aM},vs.length<2->out3 b vs=vs
 |[],_=>rfl|[_],_=>rfl
def Ask1(prog:D0)(w:Ew)(A:ES)(b:Bool)(vs:aM)(s':k_):Prop:=
 w_ (B_ prog w) A (keyKind' vs.toArray) (fun κ I=>I=s'/\∀C:Bool->k_->Prop,C b s'->Mm prog w A κ vs 1 0 C s') (λ_ _=>False) s'
theorem lsort3{b:Bool}{P:Ku->k_->Prop}(i:s.heap.get? a=a_ (Ea "list" vs.toArray n))(D:vs.length<3)(y:vs.length=2->∀h1:Du,(∀b o,b≠a->s.heap.get? b=a_ o->h1.get? b=a_ o)->Ask1 prog w A b vs {s with heap:=h1})(h:∀(h':Du) (c:Nat),(∀b o,b≠a->s.heap.get? b=a_ o->h'.get? b=a_ o)->h'.get? a=a_ (Ea "list" (out3 b vs).toArray c)->P (.done (.ret .none)) {s with heap:=h'}):
  w_ (B_ prog w) A (Builtin.«list.sort» ⟨[.ref a],[]⟩) P E s:=by
 have j:=EK;obtain⟨e1,f⟩:∃e1,(s.heap.update a (D4 λ_=>(#[]:Array g_))).get? a=a_ (Ea "list" #[] e1):=⟨_,Jb i λ_=>#[]⟩
 rw[list_sort_plain];refine b_ (Ms i rfl (b_ (Hg i rfl (b_ (Ip f rfl (b_ (Le (b_ (Ir (Ez ?_) (DU _))) (by show vs.length<=_;lia))))) (by rw[CJ];lia) (DU _))));have I:∀b o,b≠a->s.heap.get? b=a_ o->(((s.heap.update a (D4 λ_=>(#[]:Array g_))).push (Ea "tuple" vs.toArray 0)).push (Ea "list" #[] 0)).get? b=a_ o:=λb o g q=>d_ _ (d_ _ ((Dd _ _ (D6 g)).trans q))
 have S:(((s.heap.update a (D4 λ_=>(#[]:Array g_))).push (Ea "tuple" vs.toArray 0)).push (Ea "list" #[] 0)).get? a=a_ (Ea "list" #[] e1):=d_ _ (d_ _ f);generalize C:((s.heap.update a (D4 λ_=>(#[]:Array g_))).push (Ea "tuple" vs.toArray 0)).push (Ea "list" #[] 0)=h0 at I S;show w_ (B_ prog w) A _ P E {s with heap:=h0};dsimp only;have fin:∀(out:aM),out=out3 b vs->P (.done (.ret .none)) {s with heap:=h0.update a (D4 λ_=>out.toArray)}:=λout e=>by subst e;exact h _ _ (λb o g q=>(Dd _ _ (D6 g)).trans (I b o g q)) (Jb S λ_=>(out3 b vs).toArray)
 by_cases h2:vs.toArray.size<2
 .rw[n_ h2,n_ h2];refine b_ (h_ ?_);rw[Mc];refine b_ (h_ ?_);dsimp only;have U:vs.length<2:=by simpa using h2
  have e:(JY (Hh MZ (vs.toArray.zip vs.toArray) #[] 7 f_)).map (·.2)=vs.toArray:=by show(vs.toArray.zip vs.toArray).map (·.2)=vs.toArray;apply GW.mp;simp only[My,JW];exact MH (m_ _)
  rw[e];refine b_ (Ip S rfl (b_ (Hg S rfl ?_ (DU _) (by show vs.length<=_;lia))));have e3:HU (Hh MZ (vs.toArray.zip vs.toArray) #[] 7 f_)=f_:=rfl;simp only[e3,Jo,CY,En];exact h_ (fin vs (wV U).symm)
 .rw[l_ h2,l_ h2];have U:vs.length=2:=by rw[CJ]at h2;lia
  refine b_ (DX (y U h0 I) (fun κ B v=>?_) λ_ _ x=>x.elim);obtain⟨es,m⟩:=v;subst es;obtain⟨d,Y,rfl⟩:∃d Y,vs=[d,Y]:=by
   match vs,U with
   |[d,Y],_=>exact⟨d,Y,rfl⟩
  refine b_ (DX (kat_run (ks:=[d,Y]) (vs:=[d,Y]) (Q:=λJ s'=>s'={s with heap:=h0}/\(JY J).map (·.2)=(out3 b [d,Y]).toArray/\HU J=f_)
   (G:=λp s'=>s'={s with heap:=h0}/\p=if b=e_ then #[1,0]else #[0,1]) rfl (m_ 2) (by show 2<64;decide) (λp J s' _ k z t=>⟨t.1,?_,z⟩) (m _ ?_)) (λr s' u=>?_) λ_ _ x=>x)
  .rw[kat_snds rfl k,t.2];cases b<;>rfl
  .cases b
   .exact⟨rfl,rfl⟩
   .exact⟨rfl,by simp only[CG,Ke,FK];decide +kernel⟩
  .obtain⟨⟨⟩,J⟩:=r;obtain⟨es,e,l⟩:=u;have es:s'=_:=es;subst es;have e:(JY J).map (·.2)=(out3 b [d,Y]).toArray:=e;have l:HU J=f_:=l;dsimp only;rw[e];refine b_ (Ip S rfl (b_ (Hg S rfl ?_ (DU _) (by cases b<;>(show 2<=_;lia)))));simp only[l,Jo,CY,En];exact h_ (fin _ rfl)
end
section
open PySem PySem.W
variable{s:k_}
theorem sorted3{Q:Vp}(d:s.heap.IsList l vs.toArray)(h2:vs.length<2)(h:∀(h':Du) (D:i_) (c:Nat),s.heap.objs.size<=D->(∀b o,s.heap.get? b=a_ o->h'.get? b=a_ o)->h'.get? D=a_ (Ea "list" vs.toArray c)->Q (.ref D) {s with heap:=h'}):
  w_ (B_ prog w) A (Hk (.builtin "sorted") [.ref l]) Q E s:=by
 have S:=EK;refine Hz MY Mr Mt (Mu _) ?_;unfold Builtin.«sorted»;refine b_ (m:=Nq "sorted" 1 1 _) (h_ (b_ (collect_list d (b_ (Ir ?_ ac)) ac)));have U:((s.heap.push (Ea "list" #[] 0)).update s.z (D4 (·++vs.toArray))).objs.size=s.z+1:=by rw[FE,size_push']
 have Y:(((s.heap.push (Ea "list" #[] 0)).update s.z (D4 (·++vs.toArray))).push (Ea "list" vs.toArray 0)).get? (s.z+1)=a_ (Ea "list" vs.toArray 0):=by rw[<- U];exact s_ _ rfl
 have I:∀b o,s.heap.get? b=a_ o->(((s.heap.push (Ea "list" #[] 0)).update s.z (D4 (·++vs.toArray))).push (Ea "list" vs.toArray 0)).get? b=a_ o:=λb o q=>d_ _ ((Dd _ _ (E4 (t_ q))).trans (d_ _ q))
 show w_ _ _ _ _ _ {s with heap:=((s.heap.push (Ea "list" #[] 0)).update s.z (D4 (·++vs.toArray))).push (Ea "list" vs.toArray 0)};rw[U];have J:∀b o,s.heap.get? b=a_ o->b≠s.z+1:=λb o q=>De (GP (t_ q));refine b_ (Ez (DC Ll ⟨_,Y,rfl⟩ K7 (lsort3 (b:=c_) Y ac (λz=>CQ z ac) λh' c k' a=>⟨_,rfl,?_⟩) (Lo _)));rw[wV h2]at a;exact h_ ⟨_,rfl,h h' _ c (G6 _) (λb o q=>k' b o (J b o q) (I b o q)) a⟩
end
def m9:List A'->M A'
 |[.lst ds]=>if ds.length<2 then .ok (.lst ds)else stk
 |_=>stk
section
variable{W:cp}
theorem zO(j: ~~~(X.K=K)):ky K W e_ X (.builtin "sorted") m9:=by
 subst j;intro B2 s σ H xs us Q I f h;obtain⟨F,d,x,J,e,q,p⟩:=iy (λds=>by match ds with|[d]=>exact .inl ⟨d,rfl⟩|[]=>exact .inr rfl|a::b::c=>exact .inr (by cases a<;>rfl)) h;subst e;obtain⟨u,rfl,Y⟩:=f.one;cases d with
 |lst ds=>
  have p:aF X.K W e_ F H (if ds.length<2 then .ok (.lst ds)else stk) Q:=p;by_cases h2:ds.length<2
  .rw[n_ h2]at p;obtain⟨a,ys,e1,t,r⟩:=q;subst e1;cases Y;obtain⟨its,S,pl,i⟩:=I.list (J.lst t);have l:=S.length;have k:=r.length;refine sorted3 pl.isList ac λh' D c U g e=>?_;exact⟨.ref D,_,I.laid (t':=s.toks) g U (show dW X.prog X.w _ h' D (.lst ys)from⟨i,_,c,S,e⟩),rfl,p.lst J r (I.hok.fresh U)⟩
  .rw[l_ h2]at p;exact aF.stuck p
 |_=>exact aF.stuck p
end
section
open PySem.W
end
def ItLL(a:i_)(xs:List (LK×i_))(ep:Nat):It:=
 ⟨λi H=>H a=a_ (uJ a xs ep)/\i<xs.length,λi H v H'=>∃x,v=.ref x.2/\xs[i]?=a_ x/\H'=H,λi H=>H a=a_ (uJ a xs ep)/\xs.length<=i⟩
def v8{s:k_}{xs:List (LK×i_)}(I:B6 X B2 σ H s)(e:H a=a_ (uJ a xs ep)):∃es:Array EG,(a==Ex)=c_/\se s.heap a es ep/\es.toList=xs.map rowL/\es.size=xs.length:=by obtain⟨hd,Y,U,o,es,h1,h2,S,J⟩:=BP I e;exact⟨es,hd,⟨o,h1,h2,S⟩,J,by rw[<- DF,J,q_]⟩
theorem Ak(a q:i_)(xs:List (LK×i_))(ep:Nat):Turn P w K tg (ItLL a xs ep) [q] q (λi h=>h.IsKeyIter q a i xs.length ep) where
 mem:=by simp
 obj:=λi h st b S=>by
  obtain⟨o,e,c,d⟩:=st;have:b=q:=by simpa using S
  subst this;exact⟨_,e,λv z=>by rw[d]at z;cases z⟩
 keep:=λi h h' st p=>let ⟨o,e,r⟩:=st;⟨o,p q ad _ e,r⟩
 item:=by
  intro X f hw g m i B2 s σ H E I U st Y;subst f hw g;obtain⟨h0,hi⟩:=Y;obtain⟨es,hd,z,l,hsz⟩:=v8 I h0;rw[<- hsz]at st;obtain⟨k,j,u,f3,f4,f5⟩:=U q ad;have t:es[i]?=a_ (rowL xs[i]):=by rw[<- FW,l,Dz,Dk hi];rfl
  refine pH st z t λh' J n=>?_;have x:B6 X B2 σ H {s with heap:=h'}:=I.turned (t':=s.toks) (λb o S e=>(n.2 b S).trans e) k j f3 f4 f5;obtain⟨o,e,c,d⟩:=id J;exact⟨_,rfl,go_of (s:={s with heap:=h'}) e c d ag ⟨.ref xs[i].2,H,x,rfl,⟨xs[i],rfl,Dk hi,rfl⟩,by rw[hsz]at J;exact J,λb S=>(U b S).1⟩⟩
 done:=by intro X f hw g m i B2 s σ H E I U st Y;subst f hw g;obtain⟨h0,hi⟩:=Y;obtain⟨es,hd,z,l,hsz⟩:=v8 I h0;rw[<- hsz]at st;obtain⟨k,j,u,f3,f4,f5⟩:=U q ad;exact uc (I.ok.hd m) st z ac λh' eb=>⟨rfl,I.turned (t':=s.toks) (λb o S e=>eb b o S e) k j f3 f4 f5⟩
 self:=λ_ _ _ _ _ st h=>ML st h
def Bv{xs:List (LK×i_)}{ks:a5}(U:F a=a_ (uJ a xs ep))(z:vY K F ks xs):o9 K F (ItLL a xs ep) (ks.map bD) where
 go:=λi F' H' J I hi=>⟨I _ _ (J _ _ U),by rw[<- z.1]at hi;simpa using hi⟩
 yl:=λi F' H' x H2 d J I hd Y=>by obtain⟨y,ev,S,b⟩:=Y;subst ev b;rw[<- z.1,Dv,Dz,S]at hd;cases hd;exact⟨F',B4.refl I,rh ((z.2 y (DR S)).mono J)⟩
 st:=λF' H' J I=>⟨I _ _ (J _ _ U),by rw[<- z.1];simp⟩
def nk:A'->M (List A')
 |.lst ds=>.ok ds|.dil ks=>.ok (ks.map bD)|_=>.error .stuck
def fItL(fa:ae->M A'):ae->M (List A'):=λρ=>(fa ρ).bind nk
@[simp]def e_fItL{fd:ae->M A'}{ρ:ae}:fItL fd ρ=(fd ρ).bind nk:=id rfl
@[simp]def e_itemsLL(ks:a5):nk (.dil ks)=.ok (ks.map bD):=id rfl
@[simp]def e_itemsLLl(ds:List A'):nk (.lst ds)=.ok ds:=id rfl
def BW{W:cp}{o:Em}{fd:ae->M A'}(j:DE K W c_ X o fd)(m: ~~~(X.K=K)):DI K W X tg o (fItL fd):=by
 subst m;intro B2 s σ H R I ⟨F,ρ,r,h,p⟩;have p:(match (fd ρ).bind nk with
  |.ok ds=>∀Y F1 H1,B4 F H F1 H1->o9 X.K F1 Y ds->R Y H1|.error e=>W.p e F H):=p
 refine E' (j B2 s σ H (λv H1=>∃d F1,fd ρ=.ok d/\B4 F H F1 H1/\aR X.K F1 d v) I (aL r h (λe c=>by rw[c]at p;exact p) λd hd v F1 H1 J q=>⟨d,F1,hd,J,q⟩)) λv J i=>?_;obtain⟨y,H1,S,U,d,F1,hd,st,q⟩:=i;rw[hd]at p;have fp:∀b,b∈[J.z]->_:=λb k=>by
  have e:b=J.z:=by simpa using k
  subst e;exact S.fpOk (m_ _) (S.hok.fresh (m_ _))
 cases d with
 |lst ds=>obtain⟨l,xs,e1,t,z⟩:=q;subst e1;cases U;obtain⟨its,n,pl,u⟩:=S.list (st.fh.lst t);exact Ij pl.isList ⟨J.z,[J.z],_,_,H1,rfl,S.kept (t':=J.toks) λb o e=>d_ _ e,sA l _,⟨_,s_ _ rfl,rfl,rfl⟩,fp,p _ F1 H1 st (tR t z)⟩
 |dil ks=>obtain⟨a,xs,e1,⟨ep,f⟩,z⟩:=q;subst e1;cases U;obtain⟨es,hd,g,c,hsz⟩:=v8 S (st.fh _ _ f);exact pO hd g ⟨J.z,[J.z],_,_,H1,rfl,S.kept (t':=J.toks) λb o e=>d_ _ e,Ak a _ xs ep,⟨_,s_ _ rfl,rfl,by rw[<- hsz];rfl⟩,fp,p _ F1 H1 st (Bv f z)⟩
 |_=>exact(W.ns p).elim
def hG:List A'->M a5
 |[]=>.ok []|.tup [I,.bl e_]::ds=>(mv I).bind λk=>(hG ds).bind λr=>.ok (k::r)|_=>stk
def xN:List A'->M A'
 |[.lst ds]=>(hG ds).bind λks=>.ok (.dil (ks.foldl putL []))|_=>stk
@[simp]def xC(ds:List A'):xN [.lst ds]=(hG ds).bind λks=>.ok (.dil (ks.foldl putL [])):=id rfl
theorem pG:∀{ds:List A'} {e:Err},hG ds=.error e->e=.stuck
 |[],_,h=>by cases h|d::ds,e,h=>by
  unfold hG at h;split at h
  .cases h
  .rename_i Y U S;cases J:mv Y with
   |error z=>rw[J]at h;have:=mq J;subst this;cases h;rfl|ok k=>
    rw[J]at h;cases I:hG U with
    |error z=>rw[I]at h;cases S;have:=pG I;subst this;cases h;rfl|ok r=>rw[I]at h;cases h
  .cases h;rfl
def Bl:KKeep (vp prog w):=λz e=>Bm z e
def vz(rs:List (LK×i_))(I:List (LK×i_)):List (LK×i_):=rs.foldl (λa x=>jU a x.1 x.2) I
theorem pV:∀(rs I:List (LK×i_)),(rs.map enL).foldl stR (I.map enL)=(vz rs I).map enL
 |[],_=>rfl|r::rs,I=>by show(rs.map enL).foldl stR (JC (I.map enL) r.1 r.2 (.bool e_))=_;rw[Av];exact pV rs _
theorem pW:∀(rs I:List (LK×i_)),(vz rs I).map (·.1)=(rs.map (·.1)).foldl putL (I.map (·.1))
 |[],_=>rfl|r::rs,I=>by show(vz rs (jU I r.1 r.2)).map _=(rs.map (·.1)).foldl putL (putL (I.map (·.1)) r.1);rw[pW,pC]
theorem u3{P:LK×i_->Prop}:∀(rs I:List (LK×i_)),(∀x∈rs,P x)->(∀x∈I,P x)->∀x∈vz rs I,P x
 |[],_,_,h=>h|r::rs,I,h1,h2=>u3 rs (jU I r.1 r.2) (λx J=>h1 x (by simp[J])) λx J=>by
  rcases sZ J with e|e
  .exact h2 x e
  .subst e;exact h1 _ ad
theorem u4:∀(rs I:List (LK×i_)),(vz rs I).length<=I.length+rs.length
 |[],_=>m_ _|r::rs,I=>by have h1:=u4 rs (jU I r.1 r.2);have h2:=tf I r.1 r.2;show(vz rs (jU I r.1 r.2)).length<=_;rw[CG];lia
section
variable{W:cp}
theorem tB{B2:Pn}{σ:St}{F H:Hp}{s:k_}(I:B6 X B2 σ H s)(l:aK F H):∀{ds:List A'} {ys:aB} {its:aM} {ks:a5},ay X.K F ds ys->D' ys its->hG ds=.ok ks ->
  ∃rs:List (LK×i_),rs.map (·.1)=ks/\rs.length=its.length/\(∀r∈rs,jd X.K F r.2 r.1)/\∀(j:Nat) (x:LK×i_×g_),(rs.map enL)[j]?=a_ x->∃T,its[j]?=a_ (.ref T)/\Lp s.heap T #[.ref x.2.1,x.2.2]/\(vp X.prog X.w).is s.heap x.1 x.2.1
 |[],_,_,_,h,r,e=>by rw[show _=[]from h]at r;cases r;cases e;exact⟨[],rfl,rfl,λr f=>(nomatch f),λj x h=>by simp at h⟩
 |d::ds,_,_,ks,⟨v,vs,ev,q,t⟩,r,e=>by
  subst ev;cases r with
  |cons E rs=>
   rename_i u us;unfold hG at e;split at e
   .rename_i J;cases J
   .rename_i G W J;cases J;cases i:mv G with
    |error z=>rw[i]at e;cases e|ok k=>
     rw[i]at e;cases g:hG ds with
     |error z=>rw[g]at e;cases e|ok c=>
      rw[g]at e;have e:Ec (k::c)=(Ec ks:M _):=e;cases e;obtain⟨L,h1,h2,N,K⟩:=tB I l t rs g;obtain⟨T,ws,R,C,v1,o,Q,q1,p,U,m,q2,n⟩:=q;subst R Q m;have n:U=[]:=n;subst n;cases(show u=x_ T from E);cases(show p=V.bl e_ from q2);obtain⟨b,rfl,tb⟩:=rj i q1;obtain⟨B,D,A,_⟩:=I.tuple (l.tup C);obtain⟨y,w,rfl,a,Y⟩:=D.two;cases(show y=x_ b from a);cases(show w=Jk e_ from Y);refine⟨(k,b)::L,by simp[h1],by simp[h2],λr f=>?_,λj x S=>?_⟩
      .rcases r_.mp f with e|e
       .subst e;exact tb
       .exact N r e
      .cases j with
       |zero=>simp only[u_,HZ,FN]at S;subst S;exact⟨T,rfl,A,kS I (tb.mono l)⟩|succ j=>simp only[u_,EI]at S;obtain⟨Z,P,O⟩:=K j x S;exact⟨Z,by simpa using P,O⟩
   .cases e
theorem c_dictLD(Z:X.A.units+64<DV)(D: ~~~(X.calm=e_))(G: ~~~(X.K=K)):ky K W e_ X (.type "dict") xN:=by
 subst G;intro B2 s σ H xs us Q I A h;obtain⟨F,d,x,Y,e,q,p⟩:=iy (λds=>by match ds with|[d]=>exact .inl ⟨d,rfl⟩|[]=>exact .inr rfl|a::b::c=>exact .inr (by cases a<;>rfl)) h;subst e;obtain⟨u,rfl,y⟩:=A.one;cases d with
 |lst ds=>
  obtain⟨a,ys,e1,t,r⟩:=q;subst e1;cases y;have f:aF X.K W e_ F H ((hG ds).bind λks=>.ok (.dil (ks.foldl putL []))) Q:=p;cases g:hG ds with
  |error z=>rw[g]at f;have:=pG g;subst this;exact aF.stuck f|ok ks=>
   rw[g]at f;obtain⟨its,w,pl,C⟩:=I.list (Y.lst t);obtain⟨o,n,R,U,J,S⟩:=id pl;obtain⟨oc,od,k,osl⟩:=o;cases(show oc=.type "list" from U);cases(show od=f_ from J);cases(show k=.seq its.toArray n from S);obtain⟨rs,h1,h2,N,L⟩:=tB I Y r w g;have E:rs.length<=o_:=by rw[h2,<- w.length];exact C
   refine zN (knd:=vp X.prog X.w) (I.ok.hd D) Bl (by show X.A.units+1+1+3<DV;lia) R (rs.map enL) (by simp[h2]) (by simpa using E) (λj x l=>by obtain⟨T,P,O⟩:=L j x l;exact⟨T,by simpa using P,O⟩) λh' i B dd=>?_;rw[show([]:List (LK×i_×g_))=([]:List (LK×i_)).map enL from rfl,pV]at dd;have m:(vz rs []).length<=o_:=by have:=u4 rs [];simp at this;lia
   obtain⟨ep,z⟩:=xJ dd (Fw.mpr (D6 (De I.big))) m;have v:=I.hok.fresh (m_ s.z);refine⟨.ref s.z,_,I.laid (a:=s.z) (o:=uJ s.z _ ep) (t':=i) (λb o e=>B b o e) (m_ _) (vF z),rfl,f (.ref s.z) F _ (B4.grow Y v) ⟨s.z,_,rfl,⟨ep,aq⟩,Y.free v,v,?_,u3 rs [] N λx l=>nomatch l⟩⟩
   rw[pW,h1];rfl
 |_=>exact aF.stuck p
end
def ixKD:A'->A'->M A'
 |.dic ks,I=>(il I).bind λk=>match jm ks k with
  |some d=>.ok d|none=>stk
 |_,_=>stk
@[simp]def BK(ks:List (am×A'))(I:A'):ixKD (.dic ks) I=(il I).bind λk=>match jm ks k with|some d=>.ok d|none=>stk:=id rfl
def rIxK(K:Fg):R2:=λx y H Q=>∃a b k xs ep v,x=.ref a/\y=.ref b/\H a=a_ (lY a xs ep)/\kx K H xs/\SqT K H b (k.map V.int)/\sj xs k=a_ v/\Q v H
def ix_K(i:X.A.units+1<DV):IxR X (rIxK X.K):=by
 intro value S B2 s σ H x y v u Q I f d h j;obtain⟨a,b,k,xs,ep,z,rfl,rfl,ea,l,t,e,q⟩:=h;cases(show v=x_ a from f);cases(show u=x_ b from d);obtain⟨vs,g,hd,m,dd⟩:=uh I ea l;have c:=jT (k:=k) g;rw[e]at c;obtain⟨w,J,U⟩:=c.some_of;cases Y:LY vs k with
 |none=>rw[Y]at J;cases J|some p=>rw[Y]at J;cases J;exact IX (x:=p.2) dd.typeIs slot_dict_getitem.lookup (wpAny_getItem_heap (Q:=λr s'=>r=p.2/\EP X B2 σ Q r s') (HN i) (kE I t) dd Y ⟨rfl,z,H,I.tok _,U,q⟩) j
theorem x_ixK{W:cp}(g:X.A.units+64<DV)(f: ~~~(X.K=K)):IxR X (rD2 K W c_ ixKD):=by
 subst f;refine(ix_K (X:=X) ac).imp λx y H Q h=>?_;obtain⟨F,a,b,I,U,S,p⟩:=h;cases a with
 |dic ks=>
  have p:aF X.K W c_ F H ((il b).bind λk=>match jm ks k with|some d=>.ok d|none=>stk) Q:=p;cases J:il b with
  |error e=>rw[J]at p;have:=j3 J;subst this;exact aF.stuck p|ok k=>
   rw[J,ai]at p;obtain⟨a,xs,rfl,⟨ep,Y⟩,z⟩:=U;obtain⟨c,rfl,t⟩:=kT J S;rcases z.at (k:=k)with⟨e1,_⟩|⟨d,v,e1,e2,q⟩
   .rw[e1]at p;exact aF.stuck p
   .rw[e1]at p;exact⟨a,c,k,xs,ep,v,rfl,rfl,I _ _ Y,z.key.mono I,I.tup t,e2,p v F H (B4.refl I) q⟩
 |_=>exact aF.stuck p
section
open PySem.W
variable{s:k_}
def zh{c:Bool}{Q:Bool->k_->Prop}(S:A.units<DV)(I:TupAt s.heap a us)(J:TupAt s.heap b vs)(U:Ls prog w A.in1 s.heap us vs c)(h:Q c s):w_ (B_ prog w) A (keyLt' oneType' (.ref a) (.ref b)) Q E s:=by rw[keyLt'_oneType,oneLt'_eq];simp only[FK];refine b_ (wpAny_cRoomFor S ?_);refine b_ (wpAny_callSpecialIfBound?_slot I.ty Hq (DC Hq I.ty LO (n9 I J U ⟨_,rfl,?_⟩) (Lw _ _)));exact Ep h
theorem q9:∀(vs:aM),(∀v∈vs,∃a us,v=.ref a/\TupAt s.heap a us)->∃fs:List (Option g_),(∀Q:List (Option g_)->k_->Prop,Q fs s->w_ (B_ prog w) A (vs.mapM firstOfTuple') Q E s)/\∀a,vs.head? =a_ (.ref a)->TupAt s.heap a []->fs.head? =a_ f_
 |[],_=>⟨[],λQ h=>by rw[List.mapM_nil];exact h_ h,λa e=>by cases e⟩|v::vs,h=>by
  obtain⟨fs,h1,_⟩:=q9 vs λv hv=>h v (by simp[hv]);obtain⟨a,us,rfl,o,n,S,Y,hd⟩:=h v ad;refine⟨us[0]?::fs,λQ U=>?_,λb e t=>?_⟩
  .rw[List.mapM_cons];refine b_ ?_;rw[kas_first_eq];refine b_ (LM (show Looks (B_ prog w) s.heap (typeOf (.ref a)) o.cls from(Looks.ld S).andThen .now) ?_);rw[Y,l_ (by first|decide|simp)];refine b_ (Ms S hd (h_ ?_));exact b_ (h1 _ (h_ (by simpa using U)))
  .cases e;obtain⟨o',c,I,_,J⟩:=t;rw[S]at I;cases I;rw[hd]at J;cases us with
   |nil=>rfl|cons u us=>simp at J
def kind0{Q:Kq->k_->Prop}(h0:vs.head? =a_ (.ref a))(Y:TupAt s.heap a [])(J:∀v∈vs,∃a us,v=.ref a/\TupAt s.heap a us)(h:Q oneType' s):w_ (B_ prog w) A (keyKind' vs.toArray) Q E s:=by
 obtain⟨fs,h1,h2⟩:=q9 (prog:=prog) (w:=w) (A:=A) (E:=E) vs J;have h2:=h2 a h0 Y;rw[keyKind'_eq,Mx,map_eq_pure_bind];refine b_ (b_ (h1 _ (h_ ?_)));obtain⟨f,fs,rfl⟩:∃f fr,fs=f::fr:=by
  cases fs with
  |nil=>cases h2|cons f fr=>exact⟨f,fr,rfl⟩
 cases h2;rw[l_ ad,l_ ad];rw[oneTypeOnly'_eq,Mx,map_eq_pure_bind];have ty:∀v∈vs,Looks (B_ prog w) s.heap (typeOf v) (EB "tuple"):=λv hv=>by obtain⟨b,us,rfl,o,n,U,c,hd⟩:=J v hv;rw[<- c];exact(Looks.ld U).andThen .now
 refine b_ (b_ (b_ (kas_mapM (r:=EB "tuple") _ (λv hv d S=>(ty v hv).here S) (h_ ?_))));cases vs with
 |nil=>cases h0|cons v vs=>
  have I:((List.map (λ_=>EB "tuple") (v::vs)).toArray.all λx=>x==EB "tuple")=e_:=by simp only[List.all_toArray,NS,Gn];intro _ _;rfl
  have h0:(List.map (λ_=>EB "tuple") (v::vs)).toArray[0]?=a_ (EB "tuple"):=by simp
  rw[h0];simp only[I,FK];exact h_ (h_ h)
abbrev zm:am->am->Bool:=oj ltZ
def ordI:Ord zm:=vh ordZ
def TKs0(prog:D0)(w:Ew)(h:Du)(rs:List (am×i_)):Prop:=∀r∈rs,(tupI (vt prog w)).is h r.1 (.ref r.2)
theorem Cw{rs:List (am×i_)}(k:A.units+8<DV)(g:TKs0 prog w s.heap rs)(h0:(rs.map EY).head? =a_ []):Asks prog w A (rk zm (rs.map EY) []) (rs.map λr=>x_ r.2) s:=by
 have I:∀r∈rs,∃us,TupAt s.heap r.2 us/\og ((vt prog w).is s.heap) r.1 us:=λr U=>by obtain⟨a,us,e,t,z⟩:=g r U;cases e;exact⟨us,t,z⟩
 cases rs with
 |nil=>cases h0|cons S rs=>
  have h:S.1=[]:=by simpa using h0
  unfold Asks;refine kind0 (a:=S.2) rfl ?_ (λv hv=>?_) ⟨rfl,λi j C hi J Y=>?_⟩
  .obtain⟨us,t,z⟩:=I S ad;rw[h]at z;cases z;exact t
  .obtain⟨r,U,rfl⟩:=DO.mp hv;obtain⟨us,t,_⟩:=I r U;exact⟨r.2,us,rfl,t⟩
  .rw[q_]at hi J;rw[rk_lt ordI (by rw[q_];exact hi) (by rw[q_];exact J)]at Y;obtain⟨us,f,c⟩:=I _ (D7 hi);obtain⟨vs,d,b⟩:=I _ (D7 J);unfold Mm;rw[getD_get (by rw[q_];exact hi),getD_get (by rw[q_];exact J),Ff,Ff];rw[getD_get (by rw[q_];exact hi),getD_get (by rw[q_];exact J),Ff,Ff]at Y;exact zh ac f d (Bi _ int_lt (by show A.units+1+0<DV;lia) c b) Y
end
def jC:List A'->M A'
 |[.dic ks]=>if (ks.map (·.1)).head? =a_ []then .ok (.lst ((fQ zm (ks.map (·.1))).map aZ))else stk
 |[.lst ds]=>(gq ds).bind λts=>if ts.head? =a_ []then .ok (.lst ((fQ zm ts).map aZ))else stk
 |_=>stk
@[simp]def qf(ks:List (am×A')):jC [.dic ks]=if (ks.map (·.1)).head? =a_ []then .ok (.lst ((fQ zm (ks.map (·.1))).map aZ))else stk:=id rfl
@[simp]def qe(ds:List A'):jC [.lst ds]=(gq ds).bind λts=>if ts.head? =a_ []then .ok (.lst ((fQ zm ts).map aZ))else stk:=id rfl
section
variable{W:cp}
def tk_keep{k:am}{v:g_}(x:(tupI (vt prog w)).is h k v)(e:∀b o,h.get? b=a_ o->h'.get? b=a_ o):(tupI (vt prog w)).is h' k v:=(tupI (vt prog w)).keeps x λa o us n q _=>e a o q
theorem sD{F:Hp}:∀{ts:List am} {xs:aB},ay K F (ts.map aZ) xs->∃rs:List (am×i_),rs.map EY=ts/\xs=rs.map (λr=>V.ref r.2)/\∀r∈rs,SqT K F r.2 (r.1.map V.int)
 |[],_,h=>⟨[],rfl,h,λr J=>(nomatch J)⟩
 |t::ts,_,⟨v,vs,e,⟨b,ys,ev,q,z⟩,r⟩=>by obtain⟨rs,e2,e3,h⟩:=sD r;have S:=eE z (di _);subst S;exact⟨(t,b)::rs,by rw[<- e2];rfl,by rw[e,ev,e3];rfl,λx I=>(r_.mp I).elim (λz=>by rw[z];exact q) (h x)⟩
theorem qg{F:Hp}:∀{ks:List (am×A')} {xs:List j8},bP K F ks xs->xs.map (·.1)=ks.map (·.1)
 |[],_,h=>by rw[show _=[]from h];rfl|(k,d)::ks,_,⟨b,v,r,e,t,q,z⟩=>by rw[e,u_,qg z];rfl
theorem mX:∀{xs:List j8} {vs:List (am×i_×g_)},Gw ic xs vs->(vs.map rowE).map (·.key)=xs.map λx=>x_ x.2.1
 |_,_,.nil=>rfl|_,_,.cons r t=>by rw[u_,u_,u_,mX t,r.2.1];rfl
theorem uz(L:X.A.units+64<DV)(E: ~~~(X.calm=e_))(l: ~~~(X.K=K)):ky K W e_ X (.builtin "sorted") jC:=by
 subst l;intro B2 s σ H xs us Q I y h;obtain⟨F,d,x,Y,e,q,p⟩:=iy (λds=>by match ds with|[d]=>exact .inl ⟨d,rfl⟩|[]=>exact .inr rfl|a::b::c=>exact .inr (by cases a<;>rfl)) h;subst e;obtain⟨u,rfl,n⟩:=y.one;have v:∀{rs:List (am×i_)},(∀r∈rs,SqT X.K F r.2 (r.1.map V.int))->∀r∈rs,aR X.K F (aZ r.1) (.ref r.2):=λh r f=>⟨r.2,_,rfl,h r f,j5 r.1⟩
 have U:∀{rs:List (am×i_)} {h':Du},(∀r∈rs,SqT X.K F r.2 (r.1.map V.int))->(∀b o,s.heap.get? b=a_ o->h'.get? b=a_ o)->TKs0 X.prog X.w h' rs:=λ{rs h'} l J r f=>tk_keep (row_at I (Y.tup (l r f))) J;cases d with
 |dic ks=>
  obtain⟨a,rs,e1,⟨ep,G⟩,z⟩:=q;subst e1;cases n;have p:aF X.K W e_ F H (if (ks.map (·.1)).head? =a_ []then .ok (.lst ((fQ zm (ks.map (·.1))).map aZ))else stk) Q:=p;by_cases h0:(ks.map (·.1)).head? =a_ []
  .rw[n_ h0]at p;obtain⟨vs,es,j,hd,S,w,C,hsz⟩:=AE I (Y _ _ G);have B:(rs.map λx=>(x.1,x.2.1)).map EY=ks.map (·.1):=by rw[Dv,<- qg z];rfl
   have i:∀r∈rs.map λx=>(x.1,x.2.1),SqT X.K F r.2 (r.1.map V.int):=λr f=>by obtain⟨x,A,rfl⟩:=DO.mp f;exact z.key x A
   rw[<- B]at p h0;refine wx (key:=rk zm ((rs.map λx=>(x.1,x.2.1)).map EY) []) (vs:=(rs.map λx=>(x.1,x.2.1)).map λr=>x_ r.2) (I.ok.hd E) hd w (by rw[C,mX j,Dv];rfl) (by simpa using S) (λh2 h1 tk J=>?_) λh' D c tk out m J e k=>md ordI I Y (v i) (by simpa using S) p m J e k;exact Cw (s:={s with heap:=h1,toks:=tk}) (by show X.A.units+1+1+8<DV;lia) (U i J) h0
  .rw[l_ h0]at p;exact aF.stuck p
 |lst ds=>
  obtain⟨a,ys,e1,t,r⟩:=q;subst e1;cases n;have p:aF X.K W e_ F H ((gq ds).bind λts=>if ts.head? =a_ []then .ok (.lst ((fQ zm ts).map aZ))else stk) Q:=p;cases ek:gq ds with
  |error z=>cases mJ ek;rw[ek]at p;exact aF.stuck p|ok ts=>
   rw[ek,ai]at p;rw[mI ek]at r;by_cases h0:ts.head? =a_ []
   .rw[n_ h0]at p;obtain⟨rs,e2,e3,i⟩:=sD r;subst e2;obtain⟨its,j,pl,S⟩:=I.list (Y.lst t);subst e3;have g:=su j;subst g;rw[q_]at S;refine p9 (key:=rk zm (rs.map EY) []) pl.isList (by rw[q_];exact S) (λh2 h1 J=>?_) λh' D c out k m J e=>md (tk:=s.toks) ordI I Y (v i) S p m J e k;exact Cw (s:={s with heap:=h1}) (by show X.A.units+1+1+8<DV;lia) (U i J) h0
   .rw[l_ h0]at p;exact aF.stuck p
 |_=>exact aF.stuck p
end
end Lake
namespace Tactic
open PySem Lake PyProof.Rows
variable{mg:Mq}{n i k j q m a:Nat}{P:D0}{w:Ew}{CP CT AStripError ATooMany ANoRules ANoTime ANoPlace ANotFree ANoPlan ANoSheet ANoRow bz:i_}{bh:Fh}{cN: i_}{cB fd: Fh}{t u x c:Int}{rows L:List (List Int)}{v:V}{l l':LK}{b:List Int}{ks ls:List LK}
def fg:ae->M C1:=
 sIf (fB (f2 ltD (af 1) (fL xf (aa (af 0) aD))))
   (dN (f2 ixD (af 0) (af 1)))
   d9
def gY:ae->M C1:=
 sIf (fB (f2 eqM (af 0) (fL bo aD)))
   (dN (fC (.int 0)))
   d9
def gW:ae->M C1:=
 (bO (fg)
  (bO (gY)
  (dN (f2 lq (f2 Bc (f2 ixD (af 0) (f2 tK (af 1) (fL xf (aa (af 0) aD)))) (fC (.int 69621))) (f2 Bc (f2 Bc (af 1) (af 1)) (fC (.int 48271)))))))
def bU:List A'->M A':=b7 2 2 (gW)
def cT:ae->M C1:=
 (bO (b6 [2] 4 (f2 lq (f2 Bc (fC (.int 2)) (af 3)) (f2 tK (fL (bU) (aa (af 0) (aa (f2 lq (fC (.int 3)) (af 3)) aD))) (fC (.int 3)))))
  (jR [2] 2 (fL cV (aa (fC (.int 0)) (aa (af 4) (aa (f2 lq (af 4) (fC (.int 50))) (aa (af 4) (aa (fC (.int 1)) aD))))))))
def jq:ae->M C1:=
 (bO (b6 [] 2 (fL bo aD))
  (bO (kJ [2] (jt pq (aa (af 1) aD)) (.nm 3) (cT))
  (dN (af 2))))
def cL:List A'->M A':=b7 5 2 (jq)
def gD(R:List A'->M A'):ae->M C1:=
 sIf (fB (f2 eqM (af 1) (fC (.int 0))))
   (dN (fL bo (aa (fL cV aD) aD)))
   d9
def eu(R:List A'->M A'):ae->M C1:=
 (jR [2] 2 (f2 lq (fL cV (aa (af 4) aD)) (af 5)))
def dZ(R:List A'->M A'):ae->M C1:=
 (kJ [2] (fIt (fL R (aa (fSl fV (af 0) (lL (f2 lq (af 3) (fC (.int 1)))) tE) (aa (f2 subD (af 1) (fC (.int 1))) aD)))) (.nm 5) (eu R))
def eG(R:List A'->M A'):ae->M C1:=
 (bO (gD R)
  (bO (b6 [] 2 (fL bo aD))
  (bO (kJ [2] (u9 (af 0)) (.tp [3,4]) (dZ R))
  (dN (af 2)))))
def bj:Nat->ae->M C1
 |0=>λ_=>stk|d+1=>eG (b7 6 2 (bj d))
def gc:List A'->M A':=b7 6 2 (bj 6)
def iK:ae->M C1:=
 (bO (b6 [] 3 (fTR (jt pq (aa (fL maxD (aa (fC (.int 0)) (aa (f2 subD (af 2) (af 1)) aD))) aD))))
  (bO (b6 [] 4 (fLR (jt v7 (aa (fL xf (aa (af 3) aD)) (aa (fL minD (aa (af 0) (aa (f2 lq (af 2) (af 1)) aD))) aD)))))
  (dN (dG (fIt (fL (gc) (aa (af 4) (aa (f2 subD (af 2) (fL xf (aa (af 3) aD))) aD)))) [f_,a_ 3] (.nm 0) jr (f2 lq (af 1) (af 0))))))
def cw:List A'->M A':=b7 5 3 (iK)
def hZ:ae->M C1:=
 (dN (dG (ju (af 0)) [f_,f_,a_ 0] (.tp [0,1]) jr (fL cV (aa (f2 lq (fSl fV (af 2) tE (lL (af 0))) (fSl fV (af 2) (lL (f2 lq (af 0) (fC (.int 1)))) tE)) (aa (af 1) aD)))))
def bX:List A'->M A':=b7 1 1 (hZ)
def dz:ae->M C1:=
 (uY 4 (af 5) (fL sumD (aa (dG (fIt (fL (bX) (aa (af 5) aD))) [f_,f_,a_ 2] (.tp [0,1]) jr (rD (af 2) (af 0) (fC (.int 0)))) aD)))
def dw:ae->M C1:=
 (bO (b6 [] 4 (fC (.dic [])))
  (bO (kJ [4] (fIt (fL (cw) (aa (af 0) (aa (af 1) (aa (af 3) aD))))) (.nm 5) (dz))
  (b6 [] 2 (af 4))))
def ke:ae->M C1:=
 (bO (b6 [] 2 (f2 mkD1 (fL cV aD) (fC (.int 1))))
  (bO (kJ [] (jt v7 (aa (fC (.int 1)) (aa (f2 lq (af 0) (fC (.int 1))) aD))) (.nm 3) (dw))
  (dN (f1 yB (af 2)))))
def aU:List A'->M A':=b7 6 2 (ke)
def fF:ae->M C1:=
 (dN (fC (.int 1)))
def aG:List A'->M A':=b7 1 1 (fF)
def gd:ae->M C1:=
 (dN (fC (.int 2)))
def aH:List A'->M A':=b7 1 1 (gd)
def dX(CR CP CT:i_)(n:Nat):ae->M C1:=
 (b6 [] 3 (f2 Bc (af 3) (cC CR CP "many_strips" (aG) (aH) (af 0) aD)))
def lA(CR CP CT:i_)(n:Nat):ae->M C1:=
 (bO (b6 [] 3 (fL (aU) (aa (af 1) (aa (af 2) aD))))
  (bO (kJ [] (jt pq (aa (af 1) aD)) (.nm 4) (dX CR CP CT n))
  (dN (af 3))))
def cZ(CR CP CT:i_)(n:Nat):List A'->M A':=b7 5 3 (lA CR CP CT n)
def cW(CR CP CT:i_)(n:Nat):ae->M C1:=
 sIf (fNoX (fB (f2 gtD (fL (cZ CR CP CT n) (aa (af 0) (aa (fL xf (aa (af 1) aD)) (aa (af 2) aD)))) (fC (.int 5000)))))
   (sExc CT)
   d9
def dO(CR CP CT:i_)(n:Nat):ae->M C1:=
 (cW CR CP CT n)
def bp(CR CP CT:i_)(n:Nat):List A'->M A':=b7 3 3 (dO CR CP CT n)
def cn:ae->M C1:=
 (sExt [2] 2 (fL (cw) (aa (af 0) (aa (af 1) (aa (af 3) aD)))))
def i6:ae->M C1:=
 (bO (b6 [] 2 (fL bo aD))
  (bO (kJ [2] (jt pq (aa (f2 lq (af 0) (fC (.int 1))) aD)) (.nm 3) (cn))
  (dN (af 2))))
def bY:List A'->M A':=b7 4 2 (i6)
def dv:ae->M C1:=
 sIf (fB (f2 gtD (f2 ixD (af 0) (fC (.int 0))) (f2 ixD (af 1) (fC (.int 0)))))
   (dN (fC (.bl c_)))
   d9
def fK:ae->M C1:=
 sIf (fB (f2 gtD (af 4) (af 5)))
   (dN (fC (.bl c_)))
   d9
def dE:ae->M C1:=
 (fK)
def dC:ae->M C1:=
 (kJ [] (nC (af 2) (af 3)) (.tp [4,5]) (dE))
def eZ:ae->M C1:=
 (bO (dv)
  (bO (kJ [] (nC (f2 ixD (af 0) (fC (.int 1))) (f2 ixD (af 1) (fC (.int 1)))) (.tp [2,3]) (dC))
  (dN (fC (.bl e_)))))
def bT:List A'->M A':=b7 6 2 (eZ)
def eQ:ae->M C1:=
 sIf (u7 (fL (bT) (aa (af 2) (aa (af 1) aD))))
   (dN (fC (.bl e_)))
   d9
def bg:ae->M C1:=
 (eQ)
def cM:ae->M C1:=
 (bO (kJ [] (fItL (af 0)) (.nm 2) (bg))
  (dN (fC (.bl c_))))
def aS:List A'->M A':=b7 3 2 (cM)
def fN:ae->M C1:=
 sIf (vA (u7 (fL (aS) (aa (af 1) (aa (af 2) aD)))))
   (jR [1] 1 (af 2))
   d9
def bM:ae->M C1:=
 (fN)
def kg:ae->M C1:=
 (bO (b6 [] 1 (fL bo aD))
  (bO (kJ [1] (fIt (fL uR (aa (af 0) aD))) (.nm 2) (bM))
  (dN (af 1))))
def eY:List A'->M A':=b7 3 1 (kg)
def dm(CR CP CT:i_)(n:Nat):ae->M C1:=
 (dN (fL xf (aa (f1 (oW [CR,CP] "gaps") (af 0)) aD)))
def aP(CR CP CT:i_)(n:Nat):List A'->M A':=b7 1 1 (dm CR CP CT n)
def gV(CR CP CT:i_)(n:Nat):ae->M C1:=
 (bO (b6 [] 1 (fL lu (aa (dG (jt pq (aa (cC CR CP "many_kinds" (aP CR CP CT n) (aP CR CP CT n) (af 0) aD) aD)) [f_] (.nm 0) jr (f1 negD (fC (.int 1)))) aD)))
  (dN (fL cV (aa (fC (.int 0)) (aa (fL lu (aa (dG (jt pq (aa (cC CR CP "many_strips" (aG) (aH) (af 0) aD) aD)) [f_,a_ 1] (.nm 0) jr (af 1)) aD)) aD)))))
def eW(CR CP CT:i_)(n:Nat):List A'->M A':=b7 2 1 (gV CR CP CT n)
def eU:ae->M C1:=
 sIf (fAnd (u7 (af 1)) (fB (f2 leD (af 2) (f2 ixD (f2 ixD (af 1) (f1 negD (fC (.int 1)))) (fC (.int 1))))))
   (uW 1 (f1 negD (fC (.int 1))) (fL cV (aa (f2 ixD (f2 ixD (af 1) (f1 negD (fC (.int 1)))) (fC (.int 0))) (aa (fL maxD (aa (af 3) (aa (f2 ixD (f2 ixD (af 1) (f1 negD (fC (.int 1)))) (fC (.int 1))) aD))) aD))))
   (jR [1] 1 (fL cV (aa (af 2) (aa (af 3) aD))))
def eV:ae->M C1:=
 (eU)
def dj:ae->M C1:=
 (bO (b6 [] 1 (fL bo aD))
  (bO (kJ [1] (fIt (fL m9 (aa (af 0) aD))) (.tp [2,3]) (eV))
  (dN (af 1))))
def bx:List A'->M A':=b7 4 1 (dj)
def f9:ae->M C1:=
 sIf (fB (iN leD ltD (af 2) (af 1) (af 3)))
   (dN (af 3))
   d9
def fj:ae->M C1:=
 (f9)
def fD:ae->M C1:=
 (bO (kJ [] (fIt (fL (bx) (aa (af 0) aD))) (.tp [2,3]) (fj))
  (dN (af 1)))
def cu:List A'->M A':=b7 4 2 (fD)
def lB:ae->M C1:=
 (bO (uX 3 (dG (fIt (af 0)) [f_] (.nm 0) jr (fL jY (aa (af 0) aD))) (af 2) (f2 ixD (af 1) (fC (.int 1))) (f2 ixD (af 1) (fC (.int 0))))
  (dN (fL lu (aa (dG (fIt (af 3)) [f_] (.nm 0) jr (fL lu (aa (af 0) aD))) aD))))
def gb:List A'->M A':=b7 4 3 (lB)
def nv:ae->M C1:=
 (bO (b6 [] 2 (f2 ixD (af 0) (fC (.int 3))))
  (bO (b6 [] 3 (f2 ixD (af 0) (fC (.int 4))))
  (dN (f2 Bc (af 3) (fL maxD (aa (fC (.int 0)) (aa (f2 subD (af 1) (af 2)) aD)))))))
def gT:List A'->M A':=b7 4 2 (nv)
def kh(CR CP CT:i_)(n:Nat):ae->M C1:=
 (dN (f2 ixD (f2 ixD (f1 (oW [CR,CP] "gaps") (af 0)) (f2 ixD (af 1) (fC (.int 0)))) (f2 ixD (af 2) (fC (.int 0)))))
def dh(CR CP CT:i_)(n:Nat):List A'->M A':=b7 3 3 (kh CR CP CT n)
def iL(CR CP CT:i_)(n:Nat):ae->M C1:=
 (bO (b6 [] 3 (fIte (fB (f2 eqM (f2 ixD (af 1) (fC (.int 1))) (f2 ixD (af 2) (fC (.int 1))))) (f1 (oW [CR,CP] "gaps") (af 0)) (f1 (oW [CP] "beside") (af 0))))
  (dN (f2 ixD (f2 ixD (af 3) (f2 ixD (af 1) (fC (.int 0)))) (f2 ixD (af 2) (fC (.int 0))))))
def d7(CR CP CT:i_)(n:Nat):List A'->M A':=b7 4 3 (iL CR CP CT n)
def du(CR CP CT:i_)(n:Nat):ae->M C1:=
 sIf (fB (f2 neM (af 7) (f1 negD (fC (.int 1)))))
   (jR [3] 3 (f2 lq (af 7) (cC CR CP "apart" (dh CR CP CT n) (d7 CR CP CT n) (af 0) (aa (fL cV (aa (af 6) (aa (af 4) aD))) (aa (af 2) aD)))))
   d9
def bA(CR CP CT:i_)(n:Nat):ae->M C1:=
 (du CR CP CT n)
def cm(CR CP CT:i_)(n:Nat):ae->M C1:=
 (kJ [3] (ju (af 5)) (.tp [6,7]) (bA CR CP CT n))
def i5(CR CP CT:i_)(n:Nat):ae->M C1:=
 (bO (b6 [] 3 (fL bo aD))
  (bO (kJ [3] (ju (af 1)) (.tp [4,5]) (cm CR CP CT n))
  (dN (af 3))))
def cS(CR CP CT:i_)(n:Nat):List A'->M A':=b7 8 3 (i5 CR CP CT n)
def eO:ae->M C1:=
 sIf (fB (f2 gtD (af 8) (f2 ixD (af 6) (fC (.int 2)))))
   (dN (fC .non))
   d9
def gw(CR CP CT:i_)(n:Nat):ae->M C1:=
 (bO (b6 [] 6 (f2 ixD (af 1) (af 4)))
  (bO (b6 [] 7 (fL cV (aa (f2 ixD (af 6) (fC (.int 0))) (aa (af 5) aD))))
  (bO (b6 [] 8 (fL (cu) (aa (af 2) (aa (fL maxD (aa (f2 lq (fL bo (aa (f2 ixD (af 6) (fC (.int 1))) aD)) (fL (cS CR CP CT n) (aa (af 0) (aa (f2 ixD (af 3) (fC (.int 1))) (aa (af 7) aD))))) aD)) aD))))
  (bO (eO)
  (dN (fL cV (aa (f2 lq (f2 ixD (af 3) (fC (.int 0))) (fL (gT) (aa (af 6) (aa (af 8) aD)))) (aa (fL (gb) (aa (f2 ixD (af 3) (fC (.int 1))) (aa (af 7) (aa (af 8) aD)))) aD))))))))
def cf(CR CP CT:i_)(n:Nat):List A'->M A':=b7 9 6 (gw CR CP CT n)
def dS:ae->M C1:=
 sIf (fB (f2 yU (af 10) (fC .non)))
   (mO 5 (af 10) (fC (.bl e_)))
   d9
def bL(CR CP CT:i_)(n:Nat):ae->M C1:=
 (bO (b6 [5] 10 (fL (cf CR CP CT n) (aa (af 0) (aa (af 1) (aa (af 2) (aa (af 8) (aa (af 7) (aa (af 9) aD))))))))
  (dS))
def cE(CR CP CT:i_)(n:Nat):ae->M C1:=
 (kJ [5] (jt pq (aa (cC CR CP "many_strips" (aG) (aH) (af 0) aD) aD)) (.nm 9) (bL CR CP CT n))
def cD(CR CP CT:i_)(n:Nat):ae->M C1:=
 (kJ [5] (fIt (rD (af 3) (af 6) (fL bo aD))) (.nm 8) (cE CR CP CT n))
def iJ(CR CP CT:i_)(n:Nat):ae->M C1:=
 (bO (b6 [] 5 (fC (.dil [])))
  (bO (kJ [5] (fIt (fL (bX) (aa (af 4) aD))) (.tp [6,7]) (cD CR CP CT n))
  (dN (af 5))))
def cv(CR CP CT:i_)(n:Nat):List A'->M A':=b7 11 5 (iJ CR CP CT n)
def iR(CR CP CT:i_)(n:Nat):ae->M C1:=
 sIf (fB (f2 eqM (af 5) (fL cV aD)))
   (lx 4 (af 5) (fL bo (aa (fL (eW CR CP CT n) (aa (af 0) aD)) aD)))
   (lx 4 (af 5) (fL (eY) (aa (fL (cv CR CP CT n) (aa (af 0) (aa (af 1) (aa (af 2) (aa (af 4) (aa (af 5) aD)))))) aD)))
def eN(CR CP CT:i_)(n:Nat):ae->M C1:=
 (iR CR CP CT n)
def kZ(CR CP CT:i_)(n:Nat):ae->M C1:=
 (bO (gG [] (fL (bp CR CP CT n) (aa (af 0) (aa (af 1) (aa (af 3) aD)))))
  (fNoX (bO (b6 [] 4 (fC (.dic [])))
  (bO (kJ [4] (fIt (fL (bY) (aa (fL xf (aa (af 1) aD)) (aa (af 3) aD)))) (.nm 5) (eN CR CP CT n))
  (dN (af 4))))))
def cb(CR CP CT:i_)(n:Nat):List A'->M A':=b7 6 4 (kZ CR CP CT n)
def dU(CR CP CT:i_)(n:Nat):ae->M C1:=
 sIf (fB (f2 eqM (af 4) (fL cV aD)))
   (dN (f2 eqM (f2 ixKD (af 3) (af 4)) (fL bo (aa (fL (eW CR CP CT n) (aa (af 0) aD)) aD))))
   d9
def gM:ae->M C1:=
 sIf (vA (u7 (fL allD (aa (dG (fItL (af 6)) [f_,a_ 5] (.nm 0) jr (f2 inLD (af 0) (af 1))) aD))))
   (dN (fC (.bl c_)))
   d9
def fE(CR CP CT:i_)(n:Nat):ae->M C1:=
 (bO (dU CR CP CT n)
  (bO (b6 [] 5 (fL (cv CR CP CT n) (aa (af 0) (aa (af 1) (aa (af 2) (aa (af 3) (aa (af 4) aD)))))))
  (bO (b6 [] 6 (fL xN (aa (dG (fIt (f2 ixKD (af 3) (af 4))) [f_] (.nm 0) jr (fL cV (aa (af 0) (aa (fC (.bl e_)) aD)))) aD)))
  (bO (gM)
  (dN (fL allD (aa (dG (fItL (af 5)) [f_,a_ 6] (.nm 0) (fB (f2 qV (af 0) (af 1))) (fL (aS) (aa (af 1) (aa (af 0) aD)))) aD)))))))
def bJ(CR CP CT:i_)(n:Nat):List A'->M A':=b7 7 5 (fE CR CP CT n)
def lG:ae->M C1:=
 sIf (fB (f2 neM (fL jC (aa (af 4) aD)) (fL jC (aa (af 5) aD))))
   (dN (fC (.bl c_)))
   d9
def l5(CR CP CT:i_)(n:Nat):ae->M C1:=
 (bO (gG [] (fL (bp CR CP CT n) (aa (af 0) (aa (af 1) (aa (af 3) aD)))))
  (fNoX (bO (b6 [] 5 (fL (bY) (aa (fL xf (aa (af 1) aD)) (aa (af 3) aD))))
  (bO (lG)
  (dN (fL allD (aa (dG (fIt (af 5)) [f_,a_ 0,a_ 1,a_ 2,a_ 4] (.nm 0) jr (fL (bJ CR CP CT n) (aa (af 1) (aa (af 2) (aa (af 3) (aa (af 4) (aa (af 0) aD))))))) aD)))))))
def cg(CR CP CT:i_)(n:Nat):List A'->M A':=b7 6 5 (l5 CR CP CT n)
def kf:ae->M C1:=
 (dN (dG (fIt (af 0)) [f_] (.nm 0) jr (fL jY (aa (af 0) aD))))
def eX:List A'->M A':=b7 1 1 (kf)
def qm:ae->M C1:=
 sIf (fOr (vA (u7 (f1 kc (af 0)))) (u7 (f1 iI (af 0))))
   (dN (fC (.bl c_)))
   d9
def xq:ae->M C1:=
 (bO (qm)
  (dN (iN leD leD (fC (.int 0)) (af 0) (fC (.int 1000000)))))
def iY:List A'->M A':=b7 1 1 (xq)
def lC:ae->M C1:=
 (dN (oM (f1 k9 (af 0)) (oM (f2 eqM (fL xf (aa (af 0) aD)) (af 1)) (fL allD (aa (dG (fIt (af 0)) [f_] (.nm 0) jr (fL (iY) (aa (af 0) aD))) aD)))))
def d6:List A'->M A':=b7 2 2 (lC)
def i9:ae->M C1:=
 sIf (vA (fB (iN leD leD (fC (.int 1)) (af 1) (fC (.int 6)))))
   sStk
   d9
def i8:ae->M C1:=
 sIf (vA (u7 (fL allD (aa (dG (fIt (af 0)) [f_,a_ 1] (.nm 0) jr (fL (d6) (aa (af 0) (aa (af 1) aD)))) aD))))
   sStk
   d9
def jn:ae->M C1:=
 (bO (b6 [] 1 (fL xf (aa (af 0) aD)))
  (bO (i9)
  (bO (i8)
  (dN (fL (eX) (aa (af 0) aD))))))
def au:List A'->M A':=b7 2 1 (jn)
def bW:ae->M C1:=
 (b6 [] 3 (f2 Bc (af 3) (fC (.int 2))))
def cY(CR CP CT:i_)(n:Nat):ae->M C1:=
 sIf (fB (f2 eqM (cC CR CP "many_strips" (aG) (aH) (af 0) aD) (fC (.int 2))))
   (kJ [] (jt pq (aa (af 1) aD)) (.nm 4) (bW))
   d9
def dP(CR CP CT:i_)(n:Nat):ae->M C1:=
 (bO (b6 [] 3 (fL (aU) (aa (af 1) (aa (af 2) aD))))
  (bO (cY CR CP CT n)
  (bO (b6 [] 5 (fL (cZ CR CP CT n) (aa (af 0) (aa (af 1) (aa (af 2) aD)))))
  (dN (oM (f1 kc (af 5)) (oM (f1 notD (f1 iI (af 5))) (f2 eqM (af 5) (af 3))))))))
def bq(CR CP CT:i_)(n:Nat):List A'->M A':=b7 6 3 (dP CR CP CT n)
def eS(CR CP CT:i_)(n:Nat):ae->M C1:=
 qI 5 4 [(CT,[e_,e_,c_])] (sIf (fB (f2 eqM (af 0) (fC (.int 0)))) (gG [] (fL (cb CR CP CT n) (aa (af 1) (aa (af 2) (aa (fL bo aD) (aa (af 3) aD)))))) (gG [] (fL (cg CR CP CT n) (aa (af 1) (aa (af 2) (aa (fL bo aD) (aa (af 3) (aa (fC (.dic [])) aD))))))))
def jo(CR CP CT:i_)(n:Nat):ae->M C1:=
 (bO (b6 [] 4 (fL bo aD))
  (bO (eS CR CP CT n)
  (dN (f2 eqM (af 4) (fL bo (aa (fC (.bl e_)) (aa (fC (.bl e_)) (aa (fC (.bl c_)) aD))))))))
def bC(CR CP CT:i_)(n:Nat):List A'->M A':=b7 6 4 (jo CR CP CT n)
def Cm(CR CP CT:i_)(n:Nat):ae->M C1:=
 sIf (vA (u7 (fL (bq CR CP CT n) (aa (af 3) (aa (af 6) (aa (af 4) aD))))))
   (dN (fC (.bl c_)))
   d9
def rZ(CR CP CT:i_)(n:Nat):ae->M C1:=
 (Cm CR CP CT n)
def Ck(CR CP CT:i_)(n:Nat):ae->M C1:=
 sIf (fOr (vA (u7 (fL (bC CR CP CT n) (aa (fC (.int 0)) (aa (af 3) (aa (af 7) (aa (af 4) aD))))))) (vA (u7 (fL (bC CR CP CT n) (aa (fC (.int 1)) (aa (af 3) (aa (af 7) (aa (af 4) aD))))))))
   (dN (fC (.bl c_)))
   d9
def rW(CR CP CT:i_)(n:Nat):ae->M C1:=
 sIf (fB (f2 ltD (af 5) (fC (.int 41))))
   (bO (b6 [] 6 (f2 lq (af 5) (f2 tK (fL (bU) (aa (af 0) (aa (fC (.int 2)) aD))) (f2 subD (fC (.int 41)) (af 5)))))
  (bO (b6 [] 7 (fL (cL) (aa (af 0) (aa (af 6) aD))))
  (Ck CR CP CT n)))
   d9
def nZ(CR CP CT:i_)(n:Nat):ae->M C1:=
 sIf (fB (f2 gtD (f2 tK (f2 lP (af 1) (fC (.int 8))) (fC (.int 8))) (fC (.int 0))))
   (bO (b6 [] 3 (f2 ixD (fL bo (aa (fL (newR CR (au)) (aa (fL bo (aa (fL bo (aa (af 2) aD)) aD)) aD)) (aa (fL (newP CP (au)) (aa (fL bo (aa (fL bo (aa (af 2) aD)) aD)) (aa (fL bo (aa (fL bo (aa (f2 lP (af 2) (fC (.int 2))) aD)) aD)) aD))) aD))) (fL intD (aa (f2 gtD (f2 tK (f2 lP (af 1) (fC (.int 8))) (fC (.int 8))) (fC (.int 3))) aD))))
  (b6 [] 4 (f2 ixD (fL bo (aa (fC (.int 0)) (aa (fC (.int 1)) (aa (fC (.int 2)) (aa (fC (.int 3)) (aa (fC (.int 0)) (aa (fC (.int 1)) (aa (fC (.int 2)) (aa (fC (.int 3)) aD))))))))) (f2 tK (f2 lP (af 1) (fC (.int 8))) (fC (.int 8))))))
   d9
def nY(CR CP CT:i_)(n:Nat):ae->M C1:=
 sIf (fAnd (fB (f2 eqM (cC CR CP "many_strips" (aG) (aH) (af 3) aD) (fC (.int 2)))) (fB (f2 neM (f2 tK (f2 lP (af 1) (fC (.int 64))) (fC (.int 16))) (fC (.int 5)))))
   (b6 [] 8 (fL minD (aa (af 8) (aa (fC (.int 10)) aD))))
   d9
def ll(CR CP CT:i_)(n:Nat):ae->M C1:=
 sIf (fAnd (fB (f2 eqM (f2 tK (f2 lP (af 1) (fC (.int 8))) (fC (.int 8))) (fC (.int 0)))) (fB (f2 gtD (af 4) (fC (.int 1)))))
   (b6 [] 7 (fSl fV (af 7) tE (lL (f2 subD (fC (.int 6)) (cC CR CP "many_strips" (aG) (aH) (af 3) aD)))))
   d9
def vQ:ae->M C1:=
 sIf (fOr (fB (f2 kO (fL cV aD) (af 9))) (fB (f2 kO (fTR (jt pq (aa (fL xf (aa (af 7) aD)) aD))) (af 9))))
   (dN (fC (.bl c_)))
   d9
def g_law(CR CP CT:i_)(n:Nat):ae->M C1:=
 (bO (b6 [] 1 (fL (bU) (aa (af 0) (aa (fC (.int 0)) aD))))
  (bO (b6 [] 2 (f2 tK (fL (bU) (aa (af 0) (aa (fC (.int 1)) aD))) (fC (.int 10))))
  (bO (b6 [] 3 (f2 ixD (fL bo (aa (fL (newR CR (au)) (aa (fL bo (aa (fL bo (aa (af 2) aD)) aD)) aD)) (aa (fL (newP CP (au)) (aa (fL bo (aa (fL bo (aa (af 2) aD)) aD)) (aa (fL bo (aa (fL bo (aa (f2 lP (af 2) (fC (.int 2))) aD)) aD)) aD))) aD))) (f2 tK (af 1) (fC (.int 2)))))
  (bO (b6 [] 4 (f2 tK (f2 lP (af 1) (fC (.int 2))) (fC (.int 4))))
  (bO (b6 [] 5 (f2 ixD (f2 ixD (fL bo (aa (fL bo (aa (fC (.int 41)) (aa (fC (.int 19)) (aa (fC (.int 11)) (aa (fC (.int 9)) aD))))) (aa (fL bo (aa (fC (.int 13)) (aa (fC (.int 8)) (aa (fC (.int 7)) (aa (fC (.int 6)) aD))))) aD))) (f2 tK (af 1) (fC (.int 2)))) (af 4)))
  (bO (kJ [] (fIt (fL bo (aa (fC (.int 0)) (aa (f2 subD (af 5) (fC (.int 1))) (aa (fL minD (aa (fC (.int 40)) (aa (af 5) aD))) (aa (fC (.int 40)) aD)))))) (.nm 6) (rZ CR CP CT n))
  (bO (rW CR CP CT n)
  (bO (b6 [] 8 (f2 ixD (fL bo (aa (f2 subD (af 5) (fC (.int 1))) (aa (fC (.int 18)) (aa (fC (.int 8)) (aa (fC (.int 6)) (aa (fC (.int 12)) (aa (fC (.int 6)) (aa (fC (.int 5)) (aa (fC (.int 4)) aD))))))))) (f2 tK (f2 lP (af 1) (fC (.int 8))) (fC (.int 8)))))
  (bO (nZ CR CP CT n)
  (bO (nY CR CP CT n)
  (bO (b6 [] 7 (fL (cL) (aa (af 0) (aa (af 8) aD))))
  (bO (ll CR CP CT n)
  (bO (b6 [] 9 (fL (noM (cb CR CP CT n)) (aa (af 3) (aa (fL jY (aa (af 7) aD)) (aa (fL bo aD) (aa (af 4) aD))))))
  (bO (vQ)
  (dN (f2 isBD (fL (noM (cg CR CP CT n)) (aa (af 3) (aa (fL jY (aa (af 7) aD)) (aa (fL bo aD) (aa (af 4) (aa (af 9) aD)))))) (fC (.bl e_))))))))))))))))))
def m_law(CR CP CT:i_)(n:Nat):List A'->M A':=b7 10 1 (g_law CR CP CT n)
noncomputable def top(i:Nat):Ei:=Nv.main.body.getD i (.Pass ⟨0,0,0,0⟩)
abbrev uV:Ei:=top 48
abbrev oA:Ei:=top 50
abbrev eD:Ei:=top 23
abbrev mM:Ei:=top 24
abbrev lI:Ei:=top 25
abbrev qC:Ei:=top 26
abbrev jD:Ei:=inClass (top 45) 2
abbrev jQ:Ei:=inClass (top 46) 1
abbrev sO:Ei:=top 29
abbrev kH:Ei:=top 30
abbrev lK:Ei:=top 31
abbrev qD:Ei:=top 21
abbrev ou:Ei:=top 33
abbrev qG:Ei:=top 34
abbrev fW:Ei:=inClass (top 45) 1
abbrev qE:Ei:=top 17
abbrev jP:Ei:=top 14
abbrev uT:Ei:=top 15
abbrev sP:Ei:=top 19
abbrev uU:Ei:=top 12
abbrev qH:Ei:=inClass (top 45) 3
abbrev sR:Ei:=inClass (top 46) 2
abbrev lJ:Ei:=top 18
abbrev oo:Ei:=top 20
abbrev mK:Ei:=top 32
abbrev yD:Ei:=top 35
abbrev mL:Ei:=top 36
abbrev yE:Ei:=top 37
abbrev qF:Ei:=top 43
abbrev s_is_gap:Ei:=top 41
abbrev sQ:Ei:=top 42
abbrev gv:Ei:=top 44
abbrev kI:Ei:=top 51
abbrev oz:Ei:=top 49
abbrev s_law:Ei:=top 52
abbrev s_nR:Ei:=inClass (top 45) 0
abbrev s_nP:Ei:=inClass (top 46) 0
structure Zs(K:Fg)(mg:Mq)(CR CP CT AStripError ATooMany ANoRules ANoTime ANoPlace ANotFree ANoPlan ANoSheet ANoRow:i_):Prop where
 mI_StripError:mg "StripError"=a_ (.ref AStripError)
 zc:mg "TooMany"=a_ (.ref ATooMany)
 zf:mg "NoRules"=a_ (.ref ANoRules)
 Bf:mg "NoTime"=a_ (.ref ANoTime)
 zg:mg "NoPlace"=a_ (.ref ANoPlace)
 zd:mg "NotFree"=a_ (.ref ANotFree)
 Bg:mg "NoPlan"=a_ (.ref ANoPlan)
 ze:mg "NoSheet"=a_ (.ref ANoSheet)
 mI_NoRow:mg "NoRow"=a_ (.ref ANoRow)
 qu:XBase K mg "StripError" AStripError
 tCT:XTxt K mg "TooMany" CT
 kR:Kls K mg "Rules" CR
 kP:Kls K mg "Pair" CP
 u_CT:uF K CT AStripError
 w_CT:uG K CT ATooMany "ValueError" [ANoRules,ANoTime,ANoPlace,ANotFree,ANoPlan,ANoSheet,ANoRow] [e_,e_,c_]
 gX:∀C∈[CR,CP],Cls K C/\gN K C "gaps"
 pY:∀C∈[CP],Cls K C/\gN K C "beside"
 sk:mg "ValueError"=f_
 A6:mg "all"=f_
 z_bool:mg "bool"=f_
 z_dict:mg "dict"=f_
 gO:mg "enumerate"=f_
 z_int:mg "int"=f_
 bQ:mg "isinstance"=f_
 kB:mg "len"=f_
 oY:mg "list"=f_
 z_max:mg "max"=f_
 z_min:mg "min"=f_
 fm:mg "range"=f_
 lZ:mg "sorted"=f_
 z_sum:mg "sum"=f_
 kA:mg "tuple"=f_
 z_zip:mg "zip"=f_
 oK:∃t,mg "GREATEST_GAP"=a_ (.int 1000000 t)
 tY:∃t,mg "MOST_KINDS"=a_ (.int 6 t)
 tX:∃t,mg "MOST_PLANS"=a_ (.int 5000 t)
 kit:Kit K
 vM:∃f fd,Def K mg "_law_cell" uV ["_law_script","_law_k"] f fd
 oS:∃f fd,Def K mg "_law_flights" oA ["_law_script","_law_many"] f fd
 bj:∃f fd,Def K mg "choices_of" eD ["pool","size"] f fd
 nP:∃f fd,Def K mg "beginnings_of" mM ["many","shift","size"] f fd
 lQ:∃f fd,Def K mg "smaller_by_one" lI ["some"] f fd
 rK:∃f fd,Def K mg "many_orders" qC ["many","shift"] f fd
 uk:∃f fd,Def K mg "many_plans" sO ["rules","many","shift"] f fd
 lg:∃f fd,Def K mg "refuse_too_many" kH ["rules","flights","shift"] f fd
 lS:∃f fd,Def K mg "all_beginnings" lK ["many","shift"] f fd
 rL:∃f fd,Def K mg "is_no_worse" qD ["one","other"] f fd
 oP:∃f fd,Def K mg "has_no_worse" ou ["labels","label"] f fd
 rO:∃f fd,Def K mg "best_labels" qG ["labels"] f fd
 rM:∃f fd,Def K mg "first_label" qE ["rules"] f fd
 kn:∃f fd,Def K mg "joined_stretches" jP ["closed"] f fd
 vK:∃f fd,Def K mg "next_open" uT ["closed","time"] f fd
 um:∃f fd,Def K mg "lasts_with" sP ["lasts","spot","time"] f fd
 vL:∃f fd,Def K mg "late_cost" uU ["flight","time"] f fd
 lR:∃f fd,Def K mg "last_gap_times" lJ ["rules","lasts","spot"] f fd
 oO:∃f fd,Def K mg "label_behind" oo ["rules","flights","closed","label","flight","strip"] f fd
 nM:∃f fd,Def K mg "labels_behind" mK ["rules","flights","closed","paper","some"] f fd
 zH:∃f fd,Def K mg "paper_of" yD ["rules","flights","closed","shift"] f fd
 nO:∃f fd,Def K mg "is_right_list" mL ["rules","flights","closed","paper","some"] f fd
 zI:∃f fd,Def K mg "is_paper" yE ["rules","flights","closed","shift","paper"] f fd
 rN:∃f fd,Def K mg "copied_rows" qF ["rows"] f fd
 d_is_gap:∃f fd,Def K mg "is_gap" s_is_gap ["number"] f fd
 uo:∃f fd,Def K mg "is_gap_row" sQ ["row","kinds"] f fd
 oQ:∃f fd,Def K mg "checked_rows" gv ["rows"] f fd
 lh:∃f fd,Def K mg "_law_many_right" kI ["_law_rules","_law_many","_law_shift"] f fd
 oR:∃f fd,Def K mg "_law_refused" oz ["_law_way","_law_rules","_law_flights_here","_law_shift"] f fd
 d_law:∃f fd,Def K mg "law" s_law ["_law_script"] f fd/\∀(s:k_) (v:g_),JJ s fd ⟨[v],[]⟩ [("_law_script",v)]
 m_M_R_many_strips:∃f fd,Mth K CR "many_strips" "Rules.many_strips" jD ["self"] f fd
 m_M_P_many_strips:∃f fd,Mth K CP "many_strips" "Pair.many_strips" jQ ["self"] f fd
 m_M_R_many_kinds:∃f fd,Mth K CR "many_kinds" "Rules.many_kinds" fW ["self"] f fd
 m_M_P_many_kinds:∃f fd,Mth K CP "many_kinds" "Rules.many_kinds" fW ["self"] f fd
 m_M_R_apart:∃f fd,Mth K CR "apart" "Rules.apart" qH ["self","one","other"] f fd
 m_M_P_apart:∃f fd,Mth K CP "apart" "Pair.apart" sR ["self","one","other"] f fd
 n_R:∃f fd,Mth K CR "__init__" "Rules.__init__" s_nR ["self","gaps"] f fd/\Stat K CR (.type "type") "__init__" f
 n_P:∃f fd,Mth K CP "__init__" "Pair.__init__" s_nP ["self","gaps","beside"] f fd
 ne:CR≠CP
noncomputable abbrev Zq(_:Nat)(_:D0)(_:Ew)(_:Du):=Zs
def law_d{K:Fg}{x:C_}{st:Ei}{ps:List C_}{q:Fh->Prop}(h:∃f fd,Def K mg x st ps f fd/\q fd):∃f fd,Def K mg x st ps f fd:=let ⟨f,fd,D,_⟩:=h;⟨f,fd,D⟩
def putGB(a b:V):qM ("beside":C_) b [(("gaps":C_),a)]=[(("gaps":C_),a),(("beside":C_),b)]:=by show(if ("gaps":C_)="beside" then _ else(("gaps":C_),a)::qM "beside" b [])=_;rw[l_ dkK];rfl
section
variable{base:Du}{K:Fg}{CR:i_}(Z:Zq n P w base K mg CR CP CT AStripError ATooMany ANoRules ANoTime ANoPlace ANotFree ANoPlan ANoSheet ANoRow)
include Z
def g9:YO Z.vM P w base 1 c_ (bU):=
 fY ["_law_script","_law_k"] λz J I=>(aj (dH (bZ o_lt (ao 1) (aJ lV Z.kB Ej (da1 (ao 0)))) (av (aI (bK gQ (ao 0) (ao 1)))) bR) (aj (dH (bZ (yT I.units) (ao 0) (az (aV bS))) (av (aI ah)) bR) (av (aI (az (b9 ja (b9 vm (bK gQ (ao 0) (b9 kN (ao 1) (aJ lV Z.kB Ej (da1 (ao 0))))) ah) (b9 vm (b9 vm (ao 1) (ao 1)) ah)))))))
def iC:YO Z.oS P w base 2 c_ (cL):=
 fY ["_law_script","_law_many","_law_flights_here","_law_k","_law_first"] λz I J=>(aj (ud I (aV bS)) (aj (cO (pt:=.nm 3) (jJ Z.fm (da1 (ao 1))) (l9 I) (aj (cj I (az (b9 ja (b9 vm ah (ao 3)) (b9 kN (dY (g9 Z) J (da2 (ao 0) (az (b9 ja ah (ao 3))))) ah)))) (av (nH (i:=2) (fH (da5 ah (ao 4) (az (b9 ja (ao 4) ah)) (ao 4) ah)))))) (f7 (O2:=[]) (av (aI (ao 2))))))
end
def d8:fO ["pool","size","choices","place","one","rest"] ["pool","size"] (aE eD):=⟨rfl,rfl,rfl,by decide +kernel,rfl,by decide +kernel,by decide +kernel⟩
def oF{K:Fg}{base:Du}{CR:i_}(Z:Zs K mg CR CP CT AStripError ATooMany ANoRules ANoTime ANoPlace ANotFree ANoPlan ANoSheet ANoRow)(I:Def K mg "choices_of" eD ["pool","size"] bz bh){d:Nat}{h:ae->M C1}(J:fU P w K mg base CX0 d bz bh ["pool","size"] (spF K c_ (b7 6 2 h) 2)):fU P w K mg base CX0 (d+1) bz bh ["pool","size"] (spF K c_ (b7 6 2 (eG (b7 6 2 h))) 2):=
 fn_D (O':=[]) I.fn d8 c_ (eG (b7 6 2 h)) λcdv A outer s H E S=>
  (aj (dH (bZ (yT S.units) (ao 1) ah)
   (av (aI (az (aV (aX (fH bS) bS)))))
   bR)
  (aj (vE (i:=2) (own:=e_) d8.nd (aV bS))
  (aj (cO (pt:=.tp [3,4]) (di_enum Z.gO (ao 0)) (oN rfl (bF (i:=3) d8.nd (bF (i:=4) d8.nd gC)))
   (av (cO (pt:=.nm 5) (dJ (C3 J S I.mg I.fn.kp I.bd (aX (az (de_sl x_sl (ao 0) (rF (az (b9 ja (ao 3) ah))) rG)) (aX (b9 tI (ao 1) ah) bS)))) (l9 d8.nd)
   (av (nH (i:=2) (az (b9 ja (fH (aX (ao 4) bS)) (ao 5))))))))
  (f7 (O2:=[]) (av (aI (ao 2)))))))
theorem jh{P:D0}{w:Ew}{K:Fg}{mg:Mq}{base:Du}{CR CP CT AStripError ATooMany ANoRules ANoTime ANoPlace ANotFree ANoPlan ANoSheet ANoRow:i_}(Z:Zs K mg CR CP CT AStripError ATooMany ANoRules ANoTime ANoPlace ANotFree ANoPlan ANoSheet ANoRow){bz:i_}{bh:Fh}(I:Def K mg "choices_of" eD ["pool","size"] bz bh):∀d:Nat,fU P w K mg base CX0 d bz bh ["pool","size"] (spF K c_ (b7 6 2 (bj d)) 2)
 |0=>fn_stk|d+1=>oF Z I (jh Z I d)
def qU{K:Fg}{base:Du}{CR:i_}(Z:Zs K mg CR CP CT AStripError ATooMany ANoRules ANoTime ANoPlace ANotFree ANoPlan ANoSheet ANoRow)(I:Def K mg "choices_of" eD ["pool","size"] bz bh):fU P w K mg base CX0 6 bz bh ["pool","size"] (spF K c_ (gc) 2):=jh Z I 6
section
variable{base:Du}{K:Fg}{CR:i_}(Z:Zq n P w base K mg CR CP CT AStripError ATooMany ANoRules ANoTime ANoPlace ANotFree ANoPlan ANoSheet ANoRow)
include Z
def qS:YO Z.bj P w base 6 c_ (gc):=let ⟨_,_,D⟩:=Z.bj;⟨_,_,D,qU Z D⟩
def hW:YO Z.nP P w base 7 e_ (cw):=
 fY ["many","shift","size","sure","free"] λz I J=>(aj (cj I (xQ Z.kA Z.fm (da1 (aJ (c_max rfl) Z.z_max M0 (da2 ah (b9 tI (ao 2) (ao 1))))))) (aj (cj I (az (de_lrng2 Z.oY Z.fm (da2 (aJ lV Z.kB Ej (da1 (ao 3))) (aJ (c_min rfl) Z.z_min boot_min (da2 (ao 0) (az (b9 ja (ao 2) (ao 1))))))))) (av (aI (dR ["some","sure"] [f_,a_ 3] (dJ (dY (qS Z) J (da2 (ao 4) (b9 tI (ao 2) (aJ lV Z.kB Ej (da1 (ao 3))))))) (λ_ _ _ _ _=>i7 dkK) (bf rfl) (λ_ _ _ _ _=>dQ) (λ_ _ _ _ _=>(az (b9 ja (ao 1) (ao 0)))))))))
def gH:YO Z.lQ P w base 1 c_ (bX):=
 fY ["some"] λz I J=>(av (aI (az (dR ["place","flight","some"] [f_,f_,a_ 0] (rH Z.gO (ao 0)) (λ_ _ _ _ _=>oN rfl (km (i:=0) dkK (km (i:=1) dkK gC))) (tN ag) (λ_ _ _ _ _=>dQ) (λ_ _ _ _ _=>(fH (da2 (az (b9 ja (az (de_sl x_sl (ao 2) rG (rF (ao 0)))) (az (de_sl x_sl (ao 2) (rF (az (b9 ja (ao 0) ah))) rG)))) (ao 1))))))))
def ji:YO Z.rK P w base 8 c_ (aU):=
 fY ["many","shift","counts","size","grown","some"] λz I J=>(aj (cj I (az (de_disp1 J.units (fH bS) ah))) (aj (cO (pt:=.nm 3) (di_rng2 Z.fm (da2 ah (az (b9 ja (ao 0) ah)))) (l9 I) (aj (ud I vH) (aj (cO (pt:=.nm 5) (dJ (az (dY (hW Z) J (da3 (ao 0) (ao 1) (ao 3))))) (l9 I) (av (ds_putD (i:=4) J.units (ao 5) (aJ (c_sum rfl) Z.z_sum boot_sum (da1 (az (dR ["smaller","flight","counts"] [f_,f_,a_ 2] (dJ (dY (gH Z) J (da1 (ao 5)))) (λ_ _ _ _ _=>oN rfl (km (i:=0) dkK (km (i:=1) dkK gC))) (tN ag) (λ_ _ _ _ _=>dQ) (λ_ _ _ _ _=>(C0 J.units (ao 2) (ao 0) ah))))))))) (f7 (O2:=[]) (av (cj I (ao 4))))))) (av (aI (de_sumV rfl Z.z_sum (ao 2))))))
def bG:YM Z.m_M_R_many_strips P w mg base 1 c_ (aG):=
 fM ["self"] λz I J=>(av (aI ah))
def bH:YM Z.m_M_P_many_strips P w mg base 1 c_ (aH):=
 fM ["self"] λz I J=>(av (aI ah))
def jV:YO Z.uk P w base 9 c_ (cZ CR CP CT n):=
 fY ["rules","many","shift","plans","flight"] λz S U=>let ⟨_,_,Y,J⟩:=bH Z;let ⟨_,_,a,I⟩:=bG Z;(aj (cj S (dY (ji Z) U (da2 (ao 1) (ao 2)))) (aj (cO (pt:=.nm 4) (jJ Z.fm (da1 (ao 1))) (l9 S) (av (cj S (b9 vm (ao 3) (fJ Z.kR.cl a.mt I (U.mono ag) a.bd Z.kP.cl Y.mt J (U.mono ag) Y.bd (ao 0)))))) (av (aI (ao 3)))))
def g8:YX Z.lg P w base 10 c_ (bp CR CP CT n):=
 fX ["rules","flights","shift"] λz J I=>(av (dH (dt_lift (bZ o_gt (dY (jV Z) I (da3 (ao 0) (aJ lV Z.kB Ej (da1 (ao 1))) (ao 2))) (vJ Z.tX))) (av (ds_raise PySem.F.excBase_ValueError xeqD Z.tCT.mg Z.tCT.ex I.hd)) bR))
def gI:YO Z.lS P w base 8 c_ (bY):=
 fY ["many","shift","beginnings","size"] λz I J=>(aj (ud I (aV bS)) (aj (cO (pt:=.nm 3) (jJ Z.fm (da1 (az (b9 ja (ao 0) ah)))) (l9 I) (av (ds_ext (i:=2) (dY (hW Z) J (da3 (ao 0) (ao 1) (ao 3)))))) (f7 (O2:=[]) (av (aI (ao 2))))))
def oG:YO Z.rL P w base 1 c_ (bT):=
 fY ["one","other","row","bounds","last","bound"] λz I J=>(aj (dH (bZ o_gt (bK gQ (ao 0) ah) (bK gQ (ao 1) ah)) (av (aI iO)) bR) (aj (cO (pt:=.tp [2,3]) (BV Z.z_zip (bK gQ (ao 0) ah) (bK gQ (ao 1) ah)) (oN rfl (bF (i:=2) I (bF (i:=3) I gC))) (av (cO (pt:=.tp [4,5]) (BV Z.z_zip (ao 2) (ao 3)) (oN rfl (bF (i:=4) I (bF (i:=5) I gC))) (av (dH (bZ o_gt (ao 4) (ao 5)) (av (aI iO)) bR))))) (av (aI iO))))
def iz:YO Z.oP P w base 2 c_ (aS):=
 fY ["labels","label","one"] λz I J=>(aj (cO (pt:=.nm 2) (BW (ao 0)) (l9 I) (av (dH (jv (dY (oG Z) J (da2 (ao 2) (ao 1)))) (av (aI iO)) bR))) (av (aI iO)))
def oI:YO Z.rO P w base 3 c_ (eY):=
 fY ["labels","best","label"] λz I J=>(aj (ud I (aV bS)) (aj (cO (pt:=.nm 2) (dJ (az (aJ (Cj J.units) Z.lZ KY (da1 (ao 0))))) (l9 I) (av (dH (lE (jv (dY (iz Z) J (da2 (ao 1) (ao 2))))) (av (nH (i:=1) (ao 2))) bR))) (f7 (O2:=[]) (av (aI (ao 1))))))
def lN:YM Z.m_M_R_many_kinds P w mg base 1 c_ (aP CR CP CT n):=
 fM ["self"] λz I J=>(av (aI (aJ lV Z.kB Ej (da1 (uj (Cs:=[CR,CP]) Z.gX (ao 0))))))
def lO:YM Z.m_M_P_many_kinds P w mg base 1 c_ (aP CR CP CT n):=
 fM ["self"] λz I J=>(av (aI (aJ lV Z.kB Ej (da1 (uj (Cs:=[CR,CP]) Z.gX (ao 0))))))
def jj:YO Z.rM P w base 2 c_ (eW CR CP CT n):=
 fY ["rules","row"] λz e Y=>let ⟨_,_,a,U⟩:=lO Z;let ⟨_,_,c,J⟩:=bH Z;let ⟨_,_,b,S⟩:=lN Z;let ⟨_,_,d,I⟩:=bG Z;(aj (cj e (cP rV Z.kA Fo (da1 (az (dR ["kind"] [f_] (jJ Z.fm (da1 (fJ Z.kR.cl b.mt S Y b.bd Z.kP.cl a.mt U Y a.bd (ao 0)))) (λ_ _ _ _ _=>i7 dkK) (bf rfl) (λ_ _ _ _ _=>dQ) (λ_ _ _ _ _=>(zG yS ah))))))) (av (aI (fH (da2 ah (cP rV Z.kA Fo (da1 (az (dR ["strip","row"] [f_,a_ 1] (jJ Z.fm (da1 (fJ Z.kR.cl d.mt I Y d.bd Z.kP.cl c.mt J Y c.bd (ao 0)))) (λ_ _ _ _ _=>i7 dkK) (bf rfl) (λ_ _ _ _ _=>dQ) (λ_ _ _ _ _=>(ao 1)))))))))))
def jG:YO Z.kn P w base 1 c_ (bx):=
 fY ["closed","joined","start","stop"] λz I J=>(aj (ud I (aV bS)) (aj (cO (pt:=.tp [2,3]) (dJ (az (aJ zO Z.lZ KY (da1 (ao 0))))) (oN rfl (bF (i:=2) I (bF (i:=3) I gC))) (av (dH (PW.pt (BN (jv (ao 1)) (vC (bZ o_le (ao 2) (bK gQ (bK gQ (ao 1) (zG yS ah)) ah))))) (av (ds_setI (i:=1) (fH (da2 (bK gQ (bK gQ (ao 1) (zG yS ah)) ah) (aJ (c_max rfl) Z.z_max M0 (da2 (ao 3) (bK gQ (bK gQ (ao 1) (zG yS ah)) ah))))) (zG yS ah))) (av (nH (i:=1) (fH (da2 (ao 2) (ao 3)))))))) (f7 (O2:=[]) (av (aI (ao 1))))))
def tG:YO Z.vK P w base 2 c_ (cu):=
 fY ["closed","time","start","stop"] λz I J=>(aj (cO (pt:=.tp [2,3]) (dJ (dY (jG Z) J (da1 (ao 0)))) (oN rfl (bF (i:=2) I (bF (i:=3) I gC))) (av (dH (xD o_le o_lt (ao 2) (ao 1) (ao 3)) (av (aI (ao 3))) bR))) (av (aI (ao 1))))
def qQ:YO Z.um P w base 1 c_ (gb):=
 fY ["lasts","spot","time","rows"] λz I J=>(ds_rows (i:=3) ["row"] [f_] I (dJ (ao 0)) (λ_ _ _ _ _=>i7 dkK) (bf rfl) (λ_ _ _ _ _=>dQ) (λ_ _ _ _ _=>(cP xY Z.oY FA (da1 (ao 0)))) Bo (ao 2) (bK gQ (ao 1) ah) (bK gQ (ao 1) ah) (av (aI (cP rV Z.kA Fo (da1 (az (dR ["row"] [f_] (dJ (ao 3)) (λ_ _ _ _ _=>i7 dkK) (bf rfl) (λ_ _ _ _ _=>dQ) (λ_ _ _ _ _=>(cP rV Z.kA Fo (da1 (ao 0)))))))))))
def tH:YO Z.vL P w base 1 c_ (gT):=
 fY ["flight","time","due","price"] λz I J=>(aj (cj I (bK gQ (ao 0) ah)) (aj (cj I (bK gQ (ao 0) ah)) (av (aI (b9 vm (ao 3) (aJ (c_max rfl) Z.z_max M0 (da2 ah (b9 tI (ao 1) (ao 2)))))))))
def vi:YM Z.m_M_R_apart P w mg base 1 c_ (dh CR CP CT n):=
 fM ["self","one","other"] λz I J=>(av (aI (bK gQ (bK gQ (uj (Cs:=[CR,CP]) Z.gX (ao 0)) (bK gQ (ao 1) ah)) (bK gQ (ao 2) ah))))
def vj:YM Z.m_M_P_apart P w mg base 1 c_ (d7 CR CP CT n):=
 fM ["self","one","other","rows"] λz I J=>(aj (cj I (de_ite (bZ (yT J.units) (bK gQ (ao 1) ah) (bK gQ (ao 2) ah)) (uj (Cs:=[CR,CP]) Z.gX (ao 0)) (uj (Cs:=[CP]) Z.pY (ao 0)))) (av (aI (bK gQ (bK gQ (ao 3) (bK gQ (ao 1) ah)) (bK gQ (ao 2) ah)))))
def kM:YO Z.lR P w base 2 c_ (cS CR CP CT n):=
 fY ["rules","lasts","spot","times","strip","row","kind","last"] λz S U=>let ⟨_,_,Y,J⟩:=vj Z;let ⟨_,_,a,I⟩:=vi Z;(aj (ud S (aV bS)) (aj (cO (pt:=.tp [4,5]) (rH Z.gO (ao 1)) (oN rfl (bF (i:=4) S (bF (i:=5) S gC))) (av (cO (pt:=.tp [6,7]) (rH Z.gO (ao 5)) (oN rfl (bF (i:=6) S (bF (i:=7) S gC))) (av (dH (bZ (o_ne U.units) (ao 7) (zG yS ah)) (av (nH (i:=3) (az (b9 ja (ao 7) (de_meth2 Z.kR.cl a.mt I U a.bd Z.kP.cl Y.mt J U Y.bd (ao 0) (da2 (fH (da2 (ao 6) (ao 4))) (ao 2))))))) bR))))) (f7 (O2:=[]) (av (aI (ao 3))))))
def mZ:YO Z.oO P w base 3 c_ (cf CR CP CT n):=
 fY ["rules","flights","closed","label","flight","strip","told","spot","time"] λz J I=>(aj (cj J (bK gQ (ao 1) (ao 4))) (aj (cj J (fH (da2 (bK gQ (ao 6) ah) (ao 5)))) (aj (cj J (dY (tG Z) I (da2 (ao 2) (aJ (c_max rfl) Z.z_max M0 (da1 (az (b9 ja (az (aV (da1 (bK gQ (ao 6) ah)))) (dY (kM Z) I (da3 (ao 0) (bK gQ (ao 3) ah) (ao 7)))))))))) (aj (dH (bZ o_gt (ao 8) (bK gQ (ao 6) ah)) (av (aI de_non)) bR) (av (aI (fH (da2 (az (b9 ja (bK gQ (ao 3) ah) (dY (tH Z) I (da2 (ao 6) (ao 8))))) (dY (qQ Z) I (da3 (bK gQ (ao 3) ah) (ao 7) (ao 8)))))))))))
def hV:YO Z.nM P w base 4 c_ (cv CR CP CT n):=
 fY ["rules","flights","closed","paper","some","found","smaller","flight","label","strip","behind"] λz S U=>let ⟨_,_,Y,J⟩:=bH Z;let ⟨_,_,a,I⟩:=bG Z;(aj (ud S de_newL) (aj (cO (pt:=.tp [6,7]) (dJ (dY (gH Z) U (da1 (ao 4)))) (oN rfl (bF (i:=6) S (bF (i:=7) S gC))) (av (cO (pt:=.nm 8) (dJ (C0 U.units (ao 3) (ao 6) (az (aV bS)))) (l9 S) (av (cO (pt:=.nm 9) (jJ Z.fm (da1 (fJ Z.kR.cl a.mt I (U.mono ag) a.bd Z.kP.cl Y.mt J (U.mono ag) Y.bd (ao 0)))) (l9 S) (aj (cj S (dY (mZ Z) U (da6 (ao 0) (ao 1) (ao 2) (ao 8) (ao 7) (ao 9)))) (av (dH (bZ o_notN (ao 10) de_non) (av (ds_putT (i:=5) U.units (ao 10) iO)) bR)))))))) (f7 (O2:=[]) (av (aI (ao 5))))))
def mY:YX Z.zH P w base 11 c_ (cb CR CP CT n):=
 fX ["rules","flights","closed","shift","paper","some"] λz S I=>let ⟨_,_,J⟩:=g8 Z;(aj (BO (own:=c_) (xR J.o passD I J.d.mg J.d.fn.kp J.d.bd (da3 (ao 0) (ao 1) (ao 3)))) (xE (aj (ud S vH) (aj (cO (pt:=.nm 5) (dJ (dY (gI Z) I (da2 (aJ lV Z.kB Ej (da1 (ao 1))) (ao 3)))) (l9 S) (av (dH (bZ (yT I.units) (ao 5) (fH bS)) (av (xH (i:=4) I.units (ao 5) (az (aV (da1 (dY (jj Z) I (da1 (ao 0)))))))) (av (xH (i:=4) I.units (ao 5) (dY (oI Z) I (da1 (dY (hV Z) I (da5 (ao 0) (ao 1) (ao 2) (ao 4) (ao 5)))))))))) (f7 (O2:=[]) (av (aI (ao 4))))))))
def lM:YO Z.nO P w base 5 c_ (bJ CR CP CT n):=
 fY ["rules","flights","closed","paper","some","behind","told"] λz J I=>(aj (dH (bZ (yT I.units) (ao 4) (fH bS)) (av (aI (nL (yT I.units) (bK (x_ixK I.units) (ao 3) (ao 4)) (az (aV (da1 (dY (jj Z) I (da1 (ao 0))))))))) bR) (aj (cj J (dY (hV Z) I (da5 (ao 0) (ao 1) (ao 2) (ao 3) (ao 4)))) (aj (cj J (az (cP (c_dictLD I.units) Z.z_dict zR (da1 (az (dR ["label"] [f_] (dJ (bK (x_ixK I.units) (ao 3) (ao 4))) (λ_ _ _ _ _=>i7 dkK) (bf rfl) (λ_ _ _ _ _=>dQ) (λ_ _ _ _ _=>(fH (da2 (ao 0) iO))))))))) (aj (dH (lE (jv (aJ (Co rfl) Z.A6 Ln (da1 (az (dR ["label","behind"] [f_,a_ 5] (BW (ao 6)) (λ_ _ _ _ _=>i7 dkK) (bf rfl) (λ_ _ _ _ _=>dQ) (λ_ _ _ _ _=>(nL (o_inL I.units) (ao 0) (ao 1))))))))) (av (aI iO)) bR) (av (aI (aJ (Co rfl) Z.A6 Ln (da1 (az (dR ["label","told"] [f_,a_ 6] (BW (ao 5)) (λ_ _ _ _ _=>i7 dkK) (bf rfl) (λ_ _ _ _ _=>pts_one (bZ (o_notInL I.units) (ao 0) (ao 1))) (λ_ _ _ _ _=>(dY (iz Z) I (da2 (ao 1) (ao 0))))))))))))))
def n5:YX Z.zI P w base 11 c_ (cg CR CP CT n):=
 fX ["rules","flights","closed","shift","paper","beginnings"] λz S I=>let ⟨_,_,J⟩:=g8 Z;(aj (BO (own:=c_) (xR J.o passD I J.d.mg J.d.fn.kp J.d.bd (da3 (ao 0) (ao 1) (ao 3)))) (xE (aj (cj S (dY (gI Z) I (da2 (aJ lV Z.kB Ej (da1 (ao 1))) (ao 3)))) (aj (dH (bZ (o_ne I.units) (az (aJ (uz I.units) Z.lZ KY (da1 (ao 4)))) (az (aJ (uz I.units) Z.lZ KY (da1 (ao 5))))) (av (aI iO)) bR) (av (aI (aJ (Co rfl) Z.A6 Ln (da1 (az (dR ["some","rules","flights","closed","paper"] [f_,a_ 0,a_ 1,a_ 2,a_ 4] (dJ (ao 5)) (λ_ _ _ _ _=>i7 dkK) (bf rfl) (λ_ _ _ _ _=>dQ) (λ_ _ _ _ _=>(dY (lM Z) I (da5 (ao 1) (ao 2) (ao 3) (ao 4) (ao 0))))))))))))))
def oH:YO Z.rN P w base 1 c_ (eX):=
 fY ["rows"] λz I J=>(av (aI (az (dR ["row"] [f_] (dJ (ao 0)) (λ_ _ _ _ _=>i7 dkK) (bf rfl) (λ_ _ _ _ _=>dQ) (λ_ _ _ _ _=>(az (cP xY Z.oY FA (da1 (ao 0)))))))))
def AY:YO Z.d_is_gap P w base 1 c_ (iY):=
 fY ["number"] λz I J=>(aj (dH (PW.pt (dw_or (lE (jv (qh Z.kit Z.bQ Z.z_int (ao 0)))) (BM (jv (nK Z.kit Z.bQ Z.z_bool (ao 0)))))) (av (aI iO)) bR) (av (aI (de_chain o_le o_le ah (ao 0) (vJ Z.oK)))))
def qR:YO Z.uo P w base 2 c_ (d6):=
 fY ["row","kinds"] λz J I=>(av (aI (xT (vI Z.kit Z.bQ Z.oY (ao 0)) (xT (nL (yT I.units) (aJ lV Z.kB Ej (da1 (ao 0))) (ao 1)) (de_one (aJ (Co rfl) Z.A6 Ln (da1 (az (dR ["number"] [f_] (dJ (ao 0)) (λ_ _ _ _ _=>i7 dkK) (bf rfl) (λ_ _ _ _ _=>dQ) (λ_ _ _ _ _=>(dY (AY Z) I (da1 (ao 0)))))))))))))
def iA:YO Z.oQ P w base 3 c_ (au):=
 fY ["rows","kinds"] λz J I=>(aj (cj J (aJ lV Z.kB Ej (da1 (ao 0)))) (aj (dH (lE (xD o_le o_le ah (ao 1) (vJ Z.tY))) (av ds_stk) bR) (aj (dH (lE (jv (aJ (Co rfl) Z.A6 Ln (da1 (az (dR ["row","kinds"] [f_,a_ 1] (dJ (ao 0)) (λ_ _ _ _ _=>i7 dkK) (bf rfl) (λ_ _ _ _ _=>dQ) (λ_ _ _ _ _=>(dY (qR Z) I (da2 (ao 0) (ao 1)))))))))) (av ds_stk) bR) (av (aI (dY (oH Z) I (da1 (ao 0))))))))
end
def sc_nR:fO ["self","gaps"] ["self","gaps"] (aE s_nR):=⟨rfl,rfl,rfl,by decide +kernel,rfl,by decide +kernel,by decide +kernel⟩
def okn_R{P : D0}{w : Ew}{K : Fg}{mg : C_ -> Option g_}{base : Du}{C f: i_}(S : Def K mg "checked_rows" gv ["rows"] cN cB)(n : fU P w K mg base CX0 3 cN cB ["rows"] (spF K c_ (au) 1))(N : Fun K "__init__" "Rules.__init__" s_nR f fd)(m : Cls K C)(i : gN K C "gaps"): fU P w K mg base CX0 4 f fd ["self", "gaps"] (spI1 K C (au)) := by
  refine N.okX sc_nR (λvs H Q E h => ?_) (λcdv A outer s H vs Q E k h => ?_)
  · obtain⟨p,dx,v,F,d,rfl,_⟩ := h
    rfl
  · obtain⟨p,dx,v,F,d,rfl,U,l,a,g,q⟩ := h
    refine⟨_,qN (ps_fld (pv 0) (mW n k (by rfl) S.mg S.fn.kp S.bd .nil tw (aW (pv 1) cK)) rfl),?_⟩
    refine⟨v,rfl,F,[d],a,⟨v,[],rfl,g,rfl⟩,rfl,?_⟩
    skip;cases Y : au [d]with
    | error e => rw[Y]at q; exact q| ok r =>
      rw[Y]at q;intro u F' H' st b;have I : F' p = f_ := by
        cases j : F' p with
        | none => rfl| some o =>
          rcases st.nw p o j with z | z
          · rw[l]at z; cases z
          · rw[U]at z; cases z
      refine⟨_,rfl,p,C,dx,[],rfl,st.hh _ _ U,m,i,(by show 0 < 1000; decide),?_⟩
      refine q u F' _ st.ff (λc o e => ?_) I st.nw (λc o e J => by rw[aw J]; exact st.hh _ _ e) aq b;have J : c ≠ p :=λz => by rw[z,I]at e; cases e
      rw[aw J];exact st.fh _ _ e
def sc_nP:fO ["self","gaps","beside"] ["self","gaps","beside"] (aE s_nP):=⟨rfl,rfl,rfl,by decide +kernel,rfl,by decide +kernel,by decide +kernel⟩
def okn_P{P : D0}{w : Ew}{K : Fg}{mg : C_ -> Option g_}{base : Du}{CR CP : i_}{f L: i_}{Y: Fh}{mc : g_}(n : Def K mg "checked_rows" gv ["rows"] cN cB)(OK : fU P w K mg base CX0 3 cN cB ["rows"] (spF K c_ (au) 1))(S : Stat K CR mc "__init__" L)(bI : Binds K Y ["self", "gaps"] [])(FI : fU P w K mg base CX0 4 L Y ["self", "gaps"] (spI1 K CP (au)))(mR : mg "Rules" = a_ (.ref CR))(t : mg "len" = f_)(N : Fun K "__init__" "Pair.__init__" s_nP f fd)(m : Cls K CP)(na : gN K CP "gaps")(B : gN K CP "beside"): fU P w K mg base CX0 5 f fd ["self", "gaps", "beside"] (spI2 K CP (au)) := by
  refine N.okX sc_nP (λvs H Q E h => ?_) (λcdv A outer s H vs Q E C h => ?_)
  · obtain⟨p,dx,v,g,F,d,l,rfl,_⟩ := h
    rfl
  · obtain⟨p,dx,v,g,F,d,l,rfl,hp,hF,s1,qd,j,q⟩ := h
    refine⟨_,iV (mT (pe_cmeth S (by rfl) mR FI C bI .nil tw (aW (pv 0) (aW (pv 1) cK))))
      (iV (ps_fld (pv 0) (mW OK (C.mono ag) (by rfl) n.mg n.fn.kp n.bd .nil tw (aW (pv 2) cK)) rfl)
      (qN (ps_if (AI op_ne (fZ iQ (by rfl) t Ej (aW (AS (pv 0) rfl) cK)) (fZ iQ (by rfl) t Ej (aW (AS (pv 0) rfl) cK)) (B9 _)) AK AJ))),?_⟩
    refine⟨_,rfl,_,rfl,p,dx,v,F,d,rfl,hp,hF,s1,qd,?_⟩
    cases D : au [d]with
    | error e => rw[D]at q; exact q| ok r =>
      rw[D,ai]at q;intro u F1 H1 W a2 a3 a4 T R O;refine⟨g,rfl,F1,[l],a2,⟨g,[],rfl,aR.mono W j,rfl⟩,rfl,?_⟩
      skip;cases U : au [l]with
      | error e => rw[U]at q; exact DK q| ok r2 =>
        rw[U,ai]at q;intro x F2 H2 st y;by_cases J : twoL r r2 = e_
        · rw[n_ J]at q
          have I : F2 p = f_ := by
            cases k : F2 p with
            | none => rfl| some o =>
              rcases st.nw p o k with z | z
              · rw[a3]at z; cases z
              · rw[R]at z; cases z
          refine⟨_,rfl,p,CP,dx,_,rfl,st.hh _ _ R,m,B,(by show 1 < 1000; decide),?_⟩
          rw[putGB];have i : aK F2 (upd H2 p (.ins CP dx [("gaps", u),("beside", x)])) :=λc o e => by
            have a : c ≠ p :=λz => by rw[z,I]at e; cases e
            rw[aw a];exact st.fh _ _ e
          cases r with
          | lst xs =>
            cases r2 with
            | lst ys =>
              have hl : xs.length = ys.length := Jn J;obtain⟨g1,xs1,e1,t1,Z⟩ := aR.mono st.ff O;obtain⟨g2,xs2,e2,t2,X⟩ := id y;refine⟨_,rfl,p,CP,dx,_,_,rfl,aq,m,B,rfl,g2,_,by rw[e2],.inl (i.lst t2),_,rfl,p,CP,dx,_,_,rfl,aq,m,na,rfl,g1,_,by rw[e1],.inl (i.lst t1),rfl,_,rfl,?_⟩
              refine iteNS (by rw[Z.length,X.length,hl]) ?_;refine q u x F2 _ (W.trans st.ff) i I (λb o e => ?_) (λc o e a => by rw[aw a]; exact st.hh _ _ (T c o e a)) aq (aR.mono st.ff O) y;rcases st.nw b o e with z | z
              · exact a4 b o z
              · refine .inr ?_
                cases k : H b with
                | none => rfl| some o' =>
                  by_cases G : b = p
                  · subst G; rw[I]at e; cases e
                  · rw[T b o' k G]at z; cases z
            | _ => cases J
          | _ => cases J
        · rw[l_ J]at q; exact DK q
section
variable{base:Du}{K:Fg}{CR:i_}(Z:Zq n P w base K mg CR CP CT AStripError ATooMany ANoRules ANoTime ANoPlace ANotFree ANoPlan ANoSheet ANoRow)
include Z
def jW:YO Z.lh P w base 10 c_ (bq CR CP CT n):=
 fY ["_law_rules","_law_many","_law_shift","_law_due","_law_k","_law_found"] λz U S=>let ⟨_,_,Y,J⟩:=bH Z;let ⟨_,_,a,I⟩:=bG Z;(aj (cj U (dY (ji Z) S (da2 (ao 1) (ao 2)))) (aj (dH (bZ (yT S.units) (fJ Z.kR.cl a.mt I (S.mono ag) a.bd Z.kP.cl Y.mt J (S.mono ag) Y.bd (ao 0)) ah) (av (cO (pt:=.nm 4) (jJ Z.fm (da1 (ao 1))) (l9 U) (av (cj U (b9 vm (ao 3) ah))))) bR) (aj (cj U (dY (jV Z) S (da3 (ao 0) (ao 1) (ao 2)))) (av (aI (xT (qh Z.kit Z.bQ Z.z_int (ao 5)) (xT (de_not (nK Z.kit Z.bQ Z.z_bool (ao 5))) (de_one (nL (yT S.units) (ao 5) (ao 3))))))))))
def iB:YO Z.oR P w base 12 c_ (bC CR CP CT n):=
 fY ["_law_way","_law_rules","_law_flights_here","_law_shift","_law_told","e"] λz Y J=>let ⟨_,_,S⟩:=n5 Z;let ⟨_,_,U⟩:=mY Z;(aj (cj Y (az (aV bS))) (aj (ds_tryB2 (i:=5) (j:=4) (tb:=[(CT,[e_,e_,c_])]) (λB2 σ E d b=>(dsa_if (bZ (yT J.units) (ao 0) ah) (xG (own:=c_) (xP U.o b J U.d.mg U.d.fn.kp U.d.bd (da4 (ao 1) (ao 2) (az (aV bS)) (ao 3)))) (xG (own:=c_) (xP S.o b J S.d.mg S.d.fn.kp S.d.bd (da5 (ao 1) (ao 2) (az (aV bS)) (ao 3) (az vH)))))) Z.qu (tell1 ⟨Z.u_CT,Z.w_CT⟩) Y (λa C oe g f e I k1 c k5=>iV (ps_set Y rfl (.inl rfl) (pe_lst (aW (pe_isO I Z.bQ Z.zc k1) (aW (pe_isB I Z.bQ Z.sk dkK c) cK)))) (qN (mT (pe_bm HD Ih Kn tJ (pv 4) (aW (pe_isT I Z.bQ (jF (jF (jF (jF (jF (jF (jF pa_refs0 Z.mI_NoRow) Z.ze) Z.Bg) Z.zd) Z.zg) Z.Bf) Z.zf) (by show 7<=o_;rw[EK];decide) k5) cK)))))) (av (aI (nL (yT J.units) (ao 4) (az (aV (da3 iO iO iO))))))))
def on_P:∃f fd,Mth K CP "__init__" "Pair.__init__" s_nP ["self","gaps","beside"] f fd/\fU P w K mg base CX0 5 f fd ["self","gaps","beside"] (spI2 K CP (au)):=
 let ⟨_,_,Y⟩:=iA Z;let ⟨_,_,N,S⟩:=Z.n_R;let ⟨_,_,M⟩:=Z.n_P;⟨_,_,M,okn_P Y.d Y.o S N.bd (okn_R (C:=CP) Y.d Y.o N.fn Z.kP.cl (Z.gX CP ad).2) Z.kR.mg Z.kB M.fn Z.kP.cl (Z.gX CP ad).2 (Z.pY CP ad).2⟩
def on_R:∃f fd,Mth K CR "__init__" "Rules.__init__" s_nR ["self","gaps"] f fd/\fU P w K mg base CX0 4 f fd ["self","gaps"] (spI1 K CR (au)):=
 let ⟨_,_,Y⟩:=iA Z;let ⟨_,_,N,_⟩:=Z.n_R;⟨_,_,N,okn_R Y.d Y.o N.fn Z.kR.cl (Z.gX CR ad).2⟩
def ok_law:YO (law_d Z.d_law) P w base 13 c_ (m_law CR CP CT n):=
 fY ["_law_script","_law_cell_here","_law_gap","_law_rules","_law_shift","_law_few","_law_many","_law_flights_here","_law_near","_law_paper"] λz U S=>let ⟨_,_,d⟩:=n5 Z;let ⟨_,_,e⟩:=mY Z;let ⟨_,_,f,J⟩:=bH Z;let ⟨_,_,g,I⟩:=bG Z;let ⟨_,_,a,c⟩:=on_P Z;let ⟨_,_,Y,b⟩:=on_R Z;(aj (cj U (dY (g9 Z) S (da2 (ao 0) ah))) (aj (cj U (b9 kN (dY (g9 Z) S (da2 (ao 0) ah)) ah)) (aj (cj U (bK gQ (az (aV (da2 (BX ⟨Z.kR.mks,Y.mt.at_,Y.mt.fn,Z.kR.kp⟩ b (S.mono ag) Z.kR.mg Y.bd (da1 (az (aV (da1 (az (aV (da1 (ao 2))))))))) (BY ⟨Z.kP.mks,a.mt.at_,a.mt.fn,Z.kP.kp⟩ c (S.mono ag) Z.kP.mg a.bd (da2 (az (aV (da1 (az (aV (da1 (ao 2))))))) (az (aV (da1 (az (aV (da1 (b9 jX (ao 2) ah)))))))))))) (b9 kN (ao 1) ah))) (aj (cj U (b9 kN (b9 jX (ao 1) ah) ah)) (aj (cj U (bK gQ (bK gQ (az (aV (da2 (az (aV (da4 ah ah ah ah))) (az (aV (da4 ah ah ah ah)))))) (b9 kN (ao 1) ah)) (ao 4))) (aj (cO (pt:=.nm 6) (dJ (az (aV (da4 ah (b9 tI (ao 5) ah) (aJ (c_min rfl) Z.z_min boot_min (da2 ah (ao 5))) ah)))) (l9 U) (av (dH (lE (jv (dY (jW Z) S (da3 (ao 3) (ao 6) (ao 4))))) (av (aI iO)) bR))) (aj (dH (bZ o_lt (ao 5) ah) (aj (cj U (az (b9 ja (ao 5) (b9 kN (dY (g9 Z) S (da2 (ao 0) ah)) (b9 tI ah (ao 5)))))) (aj (cj U (dY (iC Z) S (da2 (ao 0) (ao 6)))) (av (dH (PW.pt (dw_or (lE (jv (dY (iB Z) S (da4 ah (ao 3) (ao 7) (ao 4))))) (BM (lE (jv (dY (iB Z) S (da4 ah (ao 3) (ao 7) (ao 4)))))))) (av (aI iO)) bR)))) bR) (aj (cj U (bK gQ (az (aV (aX (b9 tI (ao 5) ah) (aX ah (da6 ah ah ah ah ah ah))))) (b9 kN (b9 jX (ao 1) ah) ah))) (aj (dH (bZ o_gt (b9 kN (b9 jX (ao 1) ah) ah) ah) (aj (cj U (bK gQ (az (aV (da2 (BX ⟨Z.kR.mks,Y.mt.at_,Y.mt.fn,Z.kR.kp⟩ b (S.mono ag) Z.kR.mg Y.bd (da1 (az (aV (da1 (az (aV (da1 (ao 2))))))))) (BY ⟨Z.kP.mks,a.mt.at_,a.mt.fn,Z.kP.kp⟩ c (S.mono ag) Z.kP.mg a.bd (da2 (az (aV (da1 (az (aV (da1 (ao 2))))))) (az (aV (da1 (az (aV (da1 (b9 jX (ao 2) ah)))))))))))) (cP c_int Z.z_int PyProof.Rows.boot_int (da1 (nL o_gt (b9 kN (b9 jX (ao 1) ah) ah) ah))))) (av (cj U (bK gQ (az (aV (aX ah (aX ah (da6 ah ah ah ah ah ah))))) (b9 kN (b9 jX (ao 1) ah) ah))))) bR) (aj (dH (PW.pt (BN (bZ (yT S.units) (fJ Z.kR.cl g.mt I (S.mono ag) g.bd Z.kP.cl f.mt J (S.mono ag) f.bd (ao 3)) ah) (vC (bZ (o_ne S.units) (b9 kN (b9 jX (ao 1) ah) ah) ah)))) (av (cj U (aJ (c_min rfl) Z.z_min boot_min (da2 (ao 8) ah)))) bR) (aj (cj U (dY (iC Z) S (da2 (ao 0) (ao 8)))) (aj (dH (PW.pt (BN (bZ (yT S.units) (b9 kN (b9 jX (ao 1) ah) ah) ah) (vC (bZ o_gt (ao 4) ah)))) (av (cj U (az (de_sl x_sl (ao 7) rG (rF (b9 tI ah (fJ Z.kR.cl g.mt I (S.mono ag) g.bd Z.kP.cl f.mt J (S.mono ag) f.bd (ao 3)))))))) bR) (aj (cj U (xS e.o (S.mono ag) e.d.mg e.d.fn.kp e.d.bd (da4 (ao 3) (az (cP xY Z.oY FA (da1 (ao 7)))) (az (aV bS)) (ao 4)))) (aj (dH (PW.pt (dw_or (bZ (wW S.units) (fH bS) (ao 9)) (BM (bZ (wW S.units) (xQ Z.kA Z.fm (da1 (aJ lV Z.kB Ej (da1 (ao 7))))) (ao 9))))) (av (aI iO)) bR) (av (aI (nL o_isB (xS d.o (S.mono ag) d.d.mg d.d.fn.kp d.d.bd (da5 (ao 3) (az (cP xY Z.oY FA (da1 (ao 7)))) (az (aV bS)) (ao 4) (ao 9))) iO)))))))))))))))))
end
noncomputable abbrev zX:=Int×Int
variable{cs:List zX}{p:zX}
noncomputable def stD(p:zX):A':=.tup [.int p.1,.int p.2]
section
variable(CR CP CT:i_)
@[simp] theorem getI_c0(a:A')(l:List A'):jL (a::l) 0=.ok a:=by unfold jL atI ixN;rw[n_ ac,n_ (by simp<;>lia)];rfl
@[simp] theorem getI_c1(a b:A')(l:List A'):jL (a::b::l) 1=.ok b:=by unfold jL atI ixN;rw[n_ ac,n_ (by simp<;>lia)];rfl
@[simp] theorem getI_c2(a b c:A')(l:List A'):jL (a::b::c::l) 2=.ok c:=by unfold jL atI ixN;rw[n_ ac,n_ (by simp<;>lia)];rfl
@[simp] theorem getI_c3(a b c d:A')(l:List A'):jL (a::b::c::d::l) 3=.ok d:=by unfold jL atI ixN;rw[n_ ac,n_ (by simp<;>lia)];rfl
@[simp] theorem getI_c4(a b c d e:A')(l:List A'):jL (a::b::c::d::e::l) 4=.ok e:=by unfold jL atI ixN;rw[n_ ac,n_ (by simp<;>lia)];rfl
noncomputable def kK(r:am):A':=.lst (r.map .int)
def aY(rows:List am):A':=.lst (rows.map kK)
def vW(k:Nat)(r:am):Prop:=r.length=k/\∀x∈r,0<=x/\x<=1000000
def gn(k:Nat)(rows:List am):Prop:=rows.length=k/\∀r∈rows,vW k r
def iU(lo:Int)(m:Nat):(aQ lo m).length=m:=by unfold aQ;simp
end
section
variable(CR CP CT:i_)
def Bw(n:Nat)(x:Int)(h0:0<=x)(h1:x<=1000000):iY [.int x]=.ok (.bl e_):=by simp[iY,xq,qm,h0,h1]
theorem rm(n:Nat)(k:Nat)(r:am)(U:k<=6)(h:vW k r):d6 [kK r,.int k]=.ok (.bl e_):=by
 have S:r.length<=16777216:=by have:=h.1;lia
 have I:k<=16777216:=ac
 have e:aO (.nm 0) jr (fL (iY) (aa (af 0) aD)) [f_] (r.map .int)=.ok ((r.map λ_=>e_).map A'.bl):=by
  have:=eJ (p:=.nm 0) (fe:=fL (iY) (aa (af 0) aD)) (ρ0:=[f_]) (λ_=>.bl e_) (r.map .int) (λd hd=>by obtain⟨x,J,rfl⟩:=DO.mp hd;exact⟨[a_ (.int x)],ad,by simp[Bw n x (h.2 x J).1 (h.2 x J).2]⟩)
  rw[this,Dv,Dv];rfl
 simp[d6,lC,kK,e,S,I,h.1,-Dv]
theorem C5(n:Nat)(rows:List am)(S:rows.length<=1000):eX [aY rows]=.ok (aY rows):=by
 have I:rows.length<=16777216:=ac
 have e:aO (.nm 0) jr (fL jY (aa (af 0) aD)) [f_] (rows.map kK)=.ok (rows.map kK):=by
  have:=eJ (p:=.nm 0) (fe:=fL jY (aa (af 0) aD)) (ρ0:=[f_]) id (rows.map kK) (λd hd=>by obtain⟨x,J,rfl⟩:=DO.mp hd;exact⟨[a_ (kK x)],ad,by simp[kK]⟩)
  rw[this,List.map_id]
 simp[eX,kf,aY,e,I]
theorem lj(n:Nat)(k:Nat)(rows:List am)(h1:1<=k)(S:k<=6)(h:gn k rows):au [aY rows]=.ok (aY rows):=by
 have I:rows.length<=16777216:=by have:=h.1;lia
 have e:aO (.nm 0) jr (fL (d6) (aa (af 0) (aa (af 1) aD))) [f_,a_ (.int rows.length)] (rows.map kK)=.ok ((rows.map λ_=>e_).map A'.bl):=by
  have:=eJ (p:=.nm 0) (fe:=fL (d6) (aa (af 0) (aa (af 1) aD))) (ρ0:=[f_,a_ (.int rows.length)]) (λ_=>.bl e_) (rows.map kK) (λd hd=>by obtain⟨x,J,rfl⟩:=DO.mp hd;exact⟨[a_ (kK x),a_ (.int rows.length)],ad,by simp[h.1,rm n k x S (h.2 x J)]⟩)
  rw[this,Dv,Dv];rfl
 have Y:(1:Int)<=rows.length:=by have:=h.1;lia
 have U:(rows.length:Int)<=6:=by have:=h.1;lia
 have e3:=C5 n rows (by have:=h.1;lia);simp only[aY]at e3;simp[au,jn,i9,i8,aY,e,e3,I,Y,U,-Dv]
def ax(rows:List am):A'->A'
 |.non=>.ins CR [("gaps",aY rows)]|o=>.ins CP [("gaps",aY rows),("beside",o)]
def rA(rows:List am)(o:A')(J:o=.non\/∃I,o=aY I):oW [CR,CP] "gaps" (ax CR CP rows o)=.ok (aY rows):=by
 have h1:((("gaps":C_)==("gaps":C_))=e_):=by decide +kernel
 rcases J with rfl|⟨I,rfl⟩
 .show(if ([CR,CP].contains CR)=e_ then(match Dr ("gaps":C_) [(("gaps":C_),aY rows)]with|some d=>Ec d|none=>stk)else stk)=_;rw[n_ ad,CN,h1]
 .show(if ([CR,CP].contains CP)=e_ then(match Dr ("gaps":C_) [(("gaps":C_),aY rows),(("beside":C_),aY I)]with|some d=>Ec d|none=>stk)else stk)=_;rw[n_ ad,CN,h1]
end
structure Fli where
 kind:Int
 first:Int
 last:Int
 due:Int
 price:Int
variable{fl:List Fli}
def flD(f:Fli):A':=.tup [.int f.kind,.int f.first,.int f.last,.int f.due,.int f.price]
structure ym(k:Nat)(f:Fli):Prop where
 k0:0<=f.kind
 k1:f.kind<k
 f0:0<=f.first
 f1:f.first<=f.last
 l1:f.last<=1000000000
 d0:0<=f.due
 d1:f.due<=1000000000
 p0:0<=f.price
 p1:f.price<=1000000000
def om(fl:List Fli)(i:Int):Fli:=match fl[i.toNat]? with
 |some f=>f|none=>⟨0,0,0,0,0⟩
theorem getFl{i:Int}(h0:0<=i)(h1:i<fl.length):jL (fl.map flD) i=.ok (flD (om fl i))/\om fl i∈fl:=by
 have I:i.toNat<fl.length:=ac
 have e:om fl i=fl[i.toNat]:=by unfold om;rw[Dk I]
 refine⟨?_,by rw[e];exact D7 I⟩
 have:=my (ds:=fl.map flD) (k:=i.toNat) (by simpa using I);rw[show((i.toNat:Nat):Int)=i by lia]at this;rw[this,e];simp
def Cov(cs:List zX)(t:Int):Prop:=∃p∈cs,p.1<=t/\t<p.2
def jx(cs:List zX)(t u:Int):Prop:=t<=u/\¬Cov cs u/\∀v,t<=v->v<u->Cov cs v
def jx.uniq{v:Int}(h:jx cs t u)(k:jx cs t v):u=v:=by
 rcases Int.lt_trichotomy u v with e|e|e
 .exact CQ (k.2.2 u h.1 e) h.2.1
 .exact e
 .exact CQ (h.2.2 v k.1 e) k.2.1
def C4(t:Int):¬Cov [] t:=λ⟨_,h,_⟩=>by simp at h
def cov_cons:Cov (p::cs) t↔(p.1<=t/\t<p.2)\/Cov cs t:=by
 constructor
 .rintro⟨q,h,h2⟩;rcases r_.mp h with e|e
  .subst e;exact .inl h2
  .exact .inr ⟨q,e,h2⟩
 .rintro(h|⟨q,h,h2⟩)
  .exact⟨p,ad,h⟩
  .exact⟨q,by simp[h],h2⟩
def vO:Cov [p] t↔p.1<=t/\t<p.2:=by rw[cov_cons];simp[C4]
noncomputable def rwAt(rows:List am)(i:Int):am:=rows.getD i.toNat []
def at2(rows:List am)(i j:Int):Int:=(rwAt rows i).getD j.toNat 0
def apS(rows r2:List am)(a b:zX):Int:=if a.2=b.2 then at2 rows a.1 b.1 else at2 r2 a.1 b.1
theorem sj(g:gn k rows){i:Int}(h0:0<=i)(h1:i<k):jL (rows.map kK) i=.ok (kK (rwAt rows i))/\vW k (rwAt rows i):=by
 have J:=g.1;have I:i.toNat<rows.length:=ac
 have e:rwAt rows i=rows[i.toNat]:=by simp[rwAt,I]
 refine⟨?_,by rw[e];exact g.2 _ (D7 I)⟩
 have:=my (ds:=rows.map kK) (k:=i.toNat) (by simpa using I);rw[show((i.toNat:Nat):Int)=i by lia]at this;rw[this,e];simp
theorem getA(g:gn k rows){i j:Int}(h0:0<=i)(h1:i<k)(h2:0<=j)(U:j<k):jL ((rwAt rows i).map .int) j=.ok (.int (at2 rows i j))/\0<=at2 rows i j:=by
 have J:=(sj g h0 h1).2;have S:=J.1;have I:j.toNat<(rwAt rows i).length:=ac
 have e:at2 rows i j=(rwAt rows i)[j.toNat]:=by simp[at2,I]
 refine⟨?_,by rw[e];exact(J.2 _ (D7 I)).1⟩
 rw[getI_int h2 ac,e]
def lookA1(d:A'):Dr ("apart":C_) [(("gaps":C_),d)]=f_:=by rw[CN,show((("apart":C_)==("gaps":C_))=c_)from by decide +kernel];rfl
def lookA2(d e:A'):Dr ("apart":C_) [(("gaps":C_),d),(("beside":C_),e)]=f_:=by rw[CN,show((("apart":C_)==("gaps":C_))=c_)from by decide +kernel];show Dr ("apart":C_) [(("beside":C_),e)]=f_;rw[CN,show((("apart":C_)==("beside":C_))=c_)from by decide +kernel];rfl
section
variable(CR CP CT:i_)
def Cp(rows r2:List am):oW [CP] "beside" (ax CR CP rows (aY r2))=.ok (aY r2):=by
 have h1:((("beside":C_)==("gaps":C_))=c_):=by decide +kernel
 have h2:((("beside":C_)==("beside":C_))=e_):=by decide +kernel
 show(if ([CP].contains CP)=e_ then(match Dr ("beside":C_) [(("gaps":C_),aY rows),(("beside":C_),aY r2)]with|some d=>Ec d|none=>stk)else stk)=_;rw[n_ ad,CN,h1];show(match Dr ("beside":C_) [(("beside":C_),aY r2)]with|some d=>Ec d|none=>stk)=_;rw[CN,h2]
end
section
variable(CR CP CT:i_)
theorem Ba(n:Nat)(cs:List zX)(t:Int)(U:cs.length<=1)(S:∀p∈cs,p.1<p.2):∃u,cu [.lst (cs.map stD),.int t]=.ok (.int u)/\jx cs t u:=by
 match cs,U with
 |[],_=>
  have e:m9 [.lst []]=.ok (.lst []):=rfl;refine⟨t,?_,Eu _,C4 _,λv h1 h2=>by lia⟩
  simp[cu,fD,bx,dj,e,cq]
 |[p],_=>
  have a:=S p ad;have e:∀d,m9 [.lst [d]]=.ok (.lst [d]):=λd=>rfl;have I:bx [.lst [stD p]]=.ok (.lst [stD p]):=by simp[bx,dj,e,stD,cq,eV,eU]
  simp only[stD]at I;by_cases c:p.1<=t/\t<p.2
  .refine⟨p.2,?_,ac,λz=>by rw[vO]at z;lia,λv h1 h2=>by rw[vO];lia⟩
   simp[cu,fD,I,stD,cq,fj,f9,c.1,c.2]
  .refine⟨t,?_,Eu _,λz=>by rw[vO]at z;exact c z,λv h1 h2=>by lia⟩
   by_cases J:p.1<=t
   .have Y:¬t<p.2:=λz=>c ⟨J,z⟩;simp[cu,fD,I,stD,cq,fj,f9,J,Y]
   .simp[cu,fD,I,stD,cq,fj,f9,J]
end
def late(f:Fli)(t:Int):Int:=f.price*oi 0 (t-f.due)
section
variable(CR CP CT:i_)
theorem late_ok(n:Nat)(f:Fli)(t:Int)(h0:0<=f.price)(h1:f.price<=1000000000):gT [flD f,.int t]=.ok (.int (late f t)):=by
 have J: -18446744073709551616<f.price:=ac
 have I:f.price<18446744073709551616:=ac
 simp[gT,nv,flD,J,I,late]
end
theorem vk(n:Nat):∀ts:am,mj (ts.map .int) (n+1)=e_
 |[]=>by simp[mj]|p::cs=>by simp[mj,G',vk n cs]
structure Gp where
 k:Nat
 rows:List am
 two:Bool
 r2:List am
variable{g:Gp}
structure Gp.Good(g:Gp):Prop where
 k1:1<=g.k
 k3:g.k<=2
 rows:gn g.k g.rows
 r2:gn g.k g.r2
def Gp.o(g:Gp):A':=if g.two=e_ then aY g.r2 else .non
noncomputable def Gp.s(g:Gp):Nat:=if g.two=e_ then 2 else 1
noncomputable def tupI(r:am):A':=.tup (r.map .int)
def jl(L:List am):A':=.tup (L.map tupI)
def bD(c:Int)(L:List am):A':=.tup [.int c,jl L]
def lX(s k:Nat)(L:List am):Prop:=L.length=s/\∀r∈L,r.length=k
def A2(I:Nat->Int):Nat->am->am
 |_,[]=>[]|j,x::xs=>if x= -1 then A2 I (j+1) xs else(x+I j)::A2 I (j+1) xs
def allT(I:Nat->Nat->Int):Nat->List am->am
 |_,[]=>[]|i,r::L=>A2 (I i) 0 r++allT I (i+1) L
theorem qJ(I:Nat->Int):∀(j:Nat) (xs:am),(A2 I j xs).length<=xs.length
 |_,[]=>by simp[A2]|j,x::xs=>by have:=qJ I (j+1) xs;unfold A2;split<;>simp<;>lia
theorem ye(I:Nat->Nat->Int)(k:Nat):∀(i:Nat) (L:List am),(∀r∈L,r.length=k)->(allT I i L).length<=k*L.length
 |i,[],_=>by simp[allT]|i,y::L,h=>by have h1:=ye I k (i+1) L λr J=>h r (by simp[J]);have h2:=qJ (I i) 0 y;have S:=h y ad;rw[allT,CM,CG,N8];lia
section
variable(CR CP CT:i_)
def gmeth(n:Nat)(e:CR≠CP)(U:g.Good){a s b:Int}(c:0<=a)(Y:a<g.k)(p:0<=b)(o:b<g.k)(d:g.two=c_->s=t)(fo m l:ae->M A')(ρ:ae)(h0:fo ρ=.ok (ax CR CP g.rows g.o))(h1:m ρ=.ok (.tup [.int a,.int s]))(h2:l ρ=.ok (.tup [.int b,.int t])):
  cC CR CP "apart" (dh CR CP CT n) (d7 CR CP CT n) fo (aa m (aa l aD)) ρ=.ok (.int (apS g.rows g.r2 (a,s) (b,t))):=by
 obtain⟨j,_⟩:=sj U.rows c Y;obtain⟨r2,_⟩:=getA U.rows c Y p o;unfold cC;rw[h0,ai];cases h:g.two with
 |false=>
  have J:g.o=.non:=by simp[Gp.o,h]
  have S:=d h;have i:isC CR "apart" (ax CR CP g.rows g.o)=e_:=by rw[J];show((CR==CR)&&(Dr ("apart":C_) [(("gaps":C_),aY g.rows)]).isNone)=e_;rw[lookA1];simp
  have I:=rA CR CP g.rows g.o (.inl J);rw[n_ i];simp[h1,h2,dh,kh,I,aY,j,kK,r2,apS,S]
 |true=>
  have J:g.o=aY g.r2:=by simp[Gp.o,h]
  have i:isC CR "apart" (ax CR CP g.rows g.o)=c_:=by
   rw[J];show((CP==CR)&&(Dr ("apart":C_) [(("gaps":C_),aY g.rows),(("beside":C_),aY g.r2)]).isNone)=c_;have:(CP==CR)=c_:=by simp;exact λz=>e z.symm
   rw[this];rfl
  have f:isC CP "apart" (ax CR CP g.rows g.o)=e_:=by rw[J];show((CP==CP)&&(Dr ("apart":C_) [(("gaps":C_),aY g.rows),(("beside":C_),aY g.r2)]).isNone)=e_;rw[lookA2];simp
  have I:=rA CR CP g.rows g.o (.inr ⟨_,J⟩);have k:oW [CP] "beside" (ax CR CP g.rows g.o)=.ok (aY g.r2):=by rw[J];exact Cp CR CP g.rows g.r2
  obtain⟨r,_⟩:=sj U.r2 c Y;obtain⟨q,_⟩:=getA U.r2 c Y p o;rw[l_ (by rw[i];simp),n_ f];by_cases S:s=t
  .simp[h1,h2,d7,iL,I,k,aY,j,kK,r2,apS,S]
  .simp[h1,h2,d7,iL,I,k,aY,r,kK,q,apS,S]
theorem Bp(n:Nat)(Y:CR≠CP){g:Gp}(o:g.Good)(b t:Int)(q:0<=b)(p:b<g.k)(I S:Option A')(i:Nat)(U:g.two=c_->(i:Int)=t):∀(J:am) (j:Nat) (ts:am) (d c:Option A'),j+J.length<=g.k->ts.length+J.length<=1000 ->
  ∃f e,cq (.tp [6,7]) (bA CR CP CT n) (dr j (J.map .int)) [a_ (ax CR CP g.rows g.o),I,a_ (.tup [.int b,.int t]),a_ (.lst (ts.map .int)),a_ (.int i),S,d,c]=.ok (.nx [a_ (ax CR CP g.rows g.o),I,a_ (.tup [.int b,.int t]),a_ (.lst ((ts++A2 (λj=>apS g.rows g.r2 (j,i) (b,t)) j J).map .int)),a_ (.int i),S,f,e])
 |[],j,ts,d,c,_,_=>⟨d,c,by simp[dr,cq,A2]⟩|x::J,j,ts,d,c,u,r=>by
  simp only[CG]at u r;by_cases k:x= -1
  .obtain⟨f,e,h⟩:=Bp n Y o b t q p I S i U J (j+1) ts (a_ (.int j)) (a_ (.int x)) ac ac;refine⟨f,e,?_⟩
   rw[u_,dr,cq];simp only[A2,n_ k];rw[<- h];simp[bA,du,k]
  .obtain⟨f,e,h⟩:=Bp n Y o b t q p I S i U J (j+1) (ts++[x+apS g.rows g.r2 (j,i) (b,t)]) (a_ (.int j)) (a_ (.int x)) ac (by simp;lia);refine⟨f,e,?_⟩
   have w:=gmeth CR CP CT n Y o (a:=j) (s:=i) (b:=b) (t:=t) ac ac q p U (af 0) (fL cV (aa (af 6) (aa (af 4) aD))) (af 2) (erase [3] [a_ (ax CR CP g.rows g.o),I,a_ (.tup [.int b,.int t]),a_ (.lst (ts.map .int)),a_ (.int i),S,a_ (.int j),a_ (.int x)]) (by simp[erase]) (by simp[erase]) (by simp[erase]);have l:ts.length<16777216:=ac
   rw[u_,dr,cq];simp only[A2,l_ k];rw[Dp,D2]at h;rw[<- h];have v:gE (.tp [6,7]) (.tup [.int j,.int x]) [a_ (ax CR CP g.rows g.o),I,a_ (.tup [.int b,.int t]),a_ (.lst (ts.map .int)),a_ (.int i),S,d,c]=.ok [a_ (ax CR CP g.rows g.o),I,a_ (.tup [.int b,.int t]),a_ (.lst (ts.map .int)),a_ (.int i),S,a_ (.int j),a_ (.int x)]:=by simp
   have m:bA CR CP CT n [a_ (ax CR CP g.rows g.o),I,a_ (.tup [.int b,.int t]),a_ (.lst (ts.map .int)),a_ (.int i),S,a_ (.int j),a_ (.int x)]=.ok (.nx [a_ (ax CR CP g.rows g.o),I,a_ (.tup [.int b,.int t]),a_ (.lst ((ts++[x+apS g.rows g.r2 (j,i) (b,t)]).map .int)),a_ (.int i),S,a_ (.int j),a_ (.int x)]):=by
    have hv:af 7 (erase [3] [a_ (ax CR CP g.rows g.o),I,a_ (.tup [.int b,.int t]),a_ (.lst (ts.map .int)),a_ (.int i),S,a_ (.int j),a_ (.int x)])=.ok (.int x):=by simp[erase]
    have es:jR [3] 3 (f2 lq (af 7) (cC CR CP "apart" (dh CR CP CT n) (d7 CR CP CT n) (af 0) (aa (fL cV (aa (af 6) (aa (af 4) aD))) (aa (af 2) aD)))) [a_ (ax CR CP g.rows g.o),I,a_ (.tup [.int b,.int t]),a_ (.lst (ts.map .int)),a_ (.int i),S,a_ (.int j),a_ (.int x)]=.ok (.nx [a_ (ax CR CP g.rows g.o),I,a_ (.tup [.int b,.int t]),a_ (.lst ((ts++[x+apS g.rows g.r2 (j,i) (b,t)]).map .int)),a_ (.int i),S,a_ (.int j),a_ (.int x)]):=by unfold jR f2;rw[w,hv];simp[gU,put,l,EK]
    simp[bA,du,k,-e_appB,es]
   rw[v,ai,m];rfl
end
section
variable(CR CP CT:i_)
theorem lg_all(n:Nat)(a:CR≠CP){g:Gp}(o:g.Good)(b t:Int)(q:0<=b)(p:b<g.k)(C:0<=t/\t<g.s)(I:Option A'):∀(L:List am) (i:Nat) (ts:am) (Y U S J:Option A'),i+L.length<=g.s->(∀r∈L,r.length=g.k)->ts.length+g.k*L.length<=1000 ->
  ∃u s d c,cq (.tp [4,5]) (cm CR CP CT n) (dr i (L.map tupI)) [a_ (ax CR CP g.rows g.o),I,a_ (.tup [.int b,.int t]),a_ (.lst (ts.map .int)),Y,U,S,J]=.ok (.nx [a_ (ax CR CP g.rows g.o),I,a_ (.tup [.int b,.int t]),a_ (.lst ((ts++allT (λi j=>apS g.rows g.r2 (j,i) (b,t)) i L).map .int)),u,s,d,c])
 |[],i,ts,Y,U,S,J,_,_,_=>⟨Y,U,S,J,by simp[dr,cq,allT]⟩|r::L,i,ts,Y,U,S,J,hi,k,m=>by
  have D:=k r ad;simp only[CG]at hi m;rw[N8]at m;have e:g.two=c_->(i:Int)=t:=λh=>by
   have F:g.s=1:=by simp[Gp.s,h]
   lia
  obtain⟨d,c,e1⟩:=Bp CR CP CT n a o b t q p I (a_ (tupI r)) i e r 0 ts S J ac ac;have l:=qJ (λj=>apS g.rows g.r2 (j,i) (b,t)) 0 r;obtain⟨z,y,w,v,A⟩:=lg_all n a o b t q p C I L (i+1) (ts++A2 (λj=>apS g.rows g.r2 (j,i) (b,t)) 0 r) (a_ (.int i)) (a_ (tupI r)) d c ac (λx B=>k x (by simp[B])) (by rw[CM];lia);refine⟨z,y,w,v,?_⟩
  rw[allT,<- Dp,<- A,u_,dr,cq];have E:gE (.tp [4,5]) (.tup [.int i,tupI r]) [a_ (ax CR CP g.rows g.o),I,a_ (.tup [.int b,.int t]),a_ (.lst (ts.map .int)),Y,U,S,J]=.ok [a_ (ax CR CP g.rows g.o),I,a_ (.tup [.int b,.int t]),a_ (.lst (ts.map .int)),a_ (.int i),a_ (tupI r),S,J]:=by simp
  have f:cm CR CP CT n [a_ (ax CR CP g.rows g.o),I,a_ (.tup [.int b,.int t]),a_ (.lst (ts.map .int)),a_ (.int i),a_ (tupI r),S,J]=.ok (.nx [a_ (ax CR CP g.rows g.o),I,a_ (.tup [.int b,.int t]),a_ (.lst ((ts++A2 (λj=>apS g.rows g.r2 (j,i) (b,t)) 0 r).map .int)),a_ (.int i),a_ (tupI r),d,c]):=by rw[<- e1];simp[cm,tupI]
  rw[E,ai,f];rfl
theorem lg_ok(n:Nat)(I:CR≠CP)(J:g.Good)(b t:Int)(a:0<=b)(Y:b<g.k)(U:0<=t/\t<g.s)(S:lX g.s g.k L):cS CR CP CT n [ax CR CP g.rows g.o,jl L,.tup [.int b,.int t]]=.ok (.lst ((allT (λi j=>apS g.rows g.r2 (j,i) (b,t)) 0 L).map .int)):=by
 have k3:=J.k3;have k:g.s<=2:=by unfold Gp.s;split<;>lia
 have l:=S.1;have m:g.k*L.length<=3*2:=IY (DJ k3 ag) ac;obtain⟨h,f,d,c,e⟩:=lg_all CR CP CT n I J b t a Y U (a_ (jl L)) L 0 [] f_ f_ f_ f_ ac S.2 (by simp;lia);rw[Fs,EM]at e;simp only[jl]at e ⊢;simp[cS,i5,e,-Dv]
end
noncomputable def xh(L:List am)(i:Nat):am:=L.getD i []
def mw{s:Nat}(h:lX s k L)(hi:i<s):xh L i∈L/\(xh L i).length=k/\jL (L.map tupI) (i:Int)=.ok (tupI (xh L i))/\L.take (i+1)=L.take i++[xh L i]:=by
 have I:i<L.length:=by rw[h.1];exact hi
 have e:xh L i=L[i]:=by simp[xh,I]
 have m:xh L i∈L:=by rw[e];exact D7 I
 refine⟨m,h.2 _ m,?_,?_⟩
 .rw[my (by simpa using I),e];simp
 .rw[List.take_add_one,Dk I,e];rfl
theorem zL(L:List am)(S:∀r∈L,r.length<=1000):aO (.nm 0) jr (fL jY (aa (af 0) aD)) [f_] (L.map tupI)=.ok (L.map kK):=by
 have h:=eJ (p:=.nm 0) (fe:=fL jY (aa (af 0) aD)) (ρ0:=[f_]) (λd=>match d with|.tup ds=>.lst ds|d=>d) (L.map tupI) (λd hd=>by
  obtain⟨r,I,rfl⟩:=DO.mp hd;have J:r.length<=16777216:=by have:=S r I;lia
  exact⟨[a_ (tupI r)],ad,by simp[tupI,J]⟩)
 rw[h,Dv];rfl
theorem C6(L:List am)(S:∀r∈L,r.length<=1000):aO (.nm 0) jr (fL lu (aa (af 0) aD)) [f_] (L.map kK)=.ok (L.map tupI):=by
 have h:=eJ (p:=.nm 0) (fe:=fL lu (aa (af 0) aD)) (ρ0:=[f_]) (λd=>match d with|.lst ds=>.tup ds|d=>d) (L.map kK) (λd hd=>by
  obtain⟨r,I,rfl⟩:=DO.mp hd;have J:r.length<=16777216:=by have:=S r I;lia
  exact⟨[a_ (kK r)],ad,by simp[kK,J]⟩)
 rw[h,Dv];rfl
def putL(L:List am)(i j:Nat)(x:Int):List am:=L.set i ((xh L i).set j x)
def sY{s:Nat}(h:lX s k L)(hi:i<s)(x:Int):lX s k (putL L i j x):=by
 refine⟨by unfold putL;rw[Dn];exact h.1,λr I=>?_⟩
 unfold putL at I;rcases Gs I with z|z
 .exact h.2 r z
 .rw[z,Dn];exact(mw h hi).2.1
theorem Bs(h:i<n):ixN n (i:Int)=a_ i:=by unfold ixN;rw[n_ ac,n_ ac];simp
theorem mf{s:Nat}(J:lX s k L)(hi:i<s)(U:j<k)(x:Int):rowAt (L.map kK) (i:Int)=.ok (i,(xh L i).map .int)/\pk (L.map kK) (i,(xh L i).map .int) (j:Int) (.int x)=.ok ((putL L i j x).map kK):=by
 have I:i<L.length:=by rw[J.1];exact hi
 have e:xh L i=L[i]:=by simp[xh,I]
 have S:=(mw J hi).2.1;constructor
 .unfold rowAt;rw[q_,Bs I];simp[I,e,kK]
 .unfold pk;simp only[q_];rw[Bs ac];unfold putL;simp[List.map_set,kK]
def tmin(g:Gp)(L:List am)(f:Fli)(s:Nat):Int:=(allT (λi j=>apS g.rows g.r2 (j,i) (f.kind,s)) 0 L).foldl oi f.first
def after(g:Gp)(c:Int)(L:List am)(f:Fli)(s:Nat)(u:Int):A':=if f.last<u then .non else bD (c+late f u) (putL L s f.kind.toNat u)
def lX.short{s:Nat}(h:lX s k L)(J:k<=1000):∀r∈L,r.length<=1000:=λr I=>by rw[h.2 r I];exact J
section
variable(CR CP CT:i_)
theorem lasts_ok(n:Nat){s:Nat}(I:lX s k L)(a:s<=10)(b:k<=10)(hi:i<s)(Y:j<k)(x:Int):gb [jl L,.tup [.int j,.int i],.int x]=.ok (jl (putL L i j x)):=by
 have h1:=zL L (I.short ac);have J:=sY (j:=j) I hi x;have h2:=C6 (putL L i j x) (J.short ac);obtain⟨e1,e2⟩:=mf I hi Y x;have U:L.length<=16777216:=by have:=I.1;lia
 have S:(putL L i j x).length<=16777216:=by have:=J.1;lia
 simp only[jl];simp[gb,lB,uX,AB,oB,sT,lstOf,asI,h1,U,e1,e2,h2,S]
theorem Cr(n:Nat)(b:CR≠CP)(o:g.Good)(F:cs.length<=1)(h:∀p∈cs,p.1<p.2)(e:∀f∈fl,ym g.k f)(c:Int)(Y:lX g.s g.k L){s:Nat}(G:q<fl.length)(C:s<g.s)(z:jx cs (tmin g L (om fl q) s) u):
  cf CR CP CT n [ax CR CP g.rows g.o,.lst (fl.map flD),.lst (cs.map stD),bD c L,.int q,.int s]=.ok (after g c L (om fl q) s u):=by
 obtain⟨m,D⟩:=getFl (fl:=fl) (i:=q) ac ac;have J:=e _ D;have k3:=o.k3;have B:g.s<=2:=by unfold Gp.s;split<;>lia
 have l:=lg_ok CR CP CT n b o (om fl q).kind s J.k0 J.k1 ⟨ac,ac⟩ Y;have k:=ye (λi j=>apS g.rows g.r2 (j,i) ((om fl q).kind,s)) g.k 0 L Y.2;have E:g.k*L.length<=3*2:=IY (DJ k3 ag) (by have:=Y.1;lia);obtain⟨v,ev,hv⟩:=Ba n cs (tmin g L (om fl q) s) ac h;have a:=hv.uniq z;subst a;have x:=late_ok n (om fl q) v J.p0 J.p1;obtain⟨U,S⟩:∃U:Nat,(om fl q).kind=U:=⟨(om fl q).kind.toNat,by have:=J.k0;lia⟩
 have w:=lasts_ok n Y ac ac C (j:=U) (by have:=J.k1;lia) v;rw[<- S]at w;have d:(om fl q).kind.toNat=U:=ac
 unfold tmin at ev;generalize r:allT (λi j=>apS g.rows g.r2 (j,i) ((om fl q).kind,s)) 0 L=A at l k ev;have y:maxD [.lst (.int (om fl q).first::A.map .int)]=.ok (.int (A.foldl oi (om fl q).first)):=by show(cA (((om fl q).first::A).map .int)).bind maxL=_;rw[di,ai,maxL]
 have t:1+A.length<=16777216:=ac
 unfold after;simp only[flD]at m x;by_cases I:(om fl q).last<v
 .rw[n_ I];simp[cf,gw,eO,m,bD,l,lq,t,y,ev,I,-e_maxL]
 .rw[l_ I,d];simp[cf,gw,eO,m,bD,l,lq,t,y,ev,I,x,w,-e_maxL]
end
def labP(p:Int×List am):A':=bD p.1 p.2
def leR:am->am->Bool
 |x::xs,y::ys=>CL (x<=y)&&leR xs ys|_,_=>e_
def leL:List am->List am->Bool
 |r::L,t::M=>leR r t&&leL L M|_,_=>e_
def geR(r:am):Prop:=∀x∈r,-1<=x
def geL(L:List am):Prop:=∀r∈L,geR r
def nw(p q:Int×List am):Bool:=CL (p.1<=q.1)&&leL p.2 q.2
structure Lab(g:Gp)(p:Int×List am):Prop where
 good:lX g.s g.k p.2
 ge:geL p.2
theorem xg:∀r:am,leR r r=e_
 |[]=>rfl|x::r=>by simp[leR,xg r]
theorem rg:∀L:List am,leL L L=e_
 |[]=>rfl|r::L=>by simp[leL,xg r,rg L]
def nw_refl(p:Int×List am):nw p p=e_:=by simp[nw,rg]
section
variable(CR CP CT:i_)
theorem nw_row(n:Nat)(c b a Y:Option A'):∀(r t:am) (J I:Option A'),∃U S,cq (.tp [4,5]) (dE) (oh (r.map .int) (t.map .int)) [c,b,a,Y,J,I]=if leR r t=e_ then .ok (.nx [c,b,a,Y,U,S])else .ok (.rt (.bl c_))
 |[],t,J,I=>⟨J,I,by rw[EM,oh.eq_def];simp[cq,leR]⟩|x::r,[],J,I=>⟨J,I,by rw[EM,u_,oh.eq_def];simp[cq,leR]⟩|x::r,y::t,J,I=>by
  obtain⟨U,S,d⟩:=nw_row n c b a Y r t (a_ (.int x)) (a_ (.int y));refine⟨U,S,?_⟩
  rw[u_,u_,oh,cq];by_cases h:x<=y
  .have h':¬y<x:=ac
   simp only[leR,h,decide_true,HM];rw[<- d];simp[dE,fK,h']
  .have h':y<x:=ac
   simp[leR,h,dE,fK,h']
theorem B8(n:Nat)(U S:Option A'):∀(L M:List am) (a Y J I:Option A'),∃e d c b,cq (.tp [2,3]) (dC) (oh (L.map tupI) (M.map tupI)) [U,S,a,Y,J,I]=if leL L M=e_ then .ok (.nx [U,S,e,d,c,b])else .ok (.rt (.bl c_))
 |[],t,a,Y,J,I=>⟨a,Y,J,I,by rw[EM,oh.eq_def];simp[cq,leL]⟩|x::r,[],a,Y,J,I=>⟨a,Y,J,I,by rw[EM,u_,oh.eq_def];simp[cq,leL]⟩|r::L,t::M,a,Y,J,I=>by
  obtain⟨g,f,l⟩:=nw_row n U S (a_ (tupI r)) (a_ (tupI t)) r t J I;obtain⟨e,d,c,b,i⟩:=B8 n U S L M (a_ (tupI r)) (a_ (tupI t)) g f;refine⟨e,d,c,b,?_⟩
  rw[u_,u_,oh,cq];have k:gE (.tp [2,3]) (.tup [tupI r,tupI t]) [U,S,a,Y,J,I]=.ok [U,S,a_ (tupI r),a_ (tupI t),J,I]:=by simp
  have j:dC [U,S,a_ (tupI r),a_ (tupI t),J,I]=if leR r t=e_ then .ok (.nx [U,S,a_ (tupI r),a_ (tupI t),g,f])else .ok (.rt (.bl c_)):=by rw[<- l];simp[dC,tupI]
  rw[k,ai,j];by_cases h:leR r t=e_
  .simp only[leL,h,FK,HM];exact i
  .simp only[leL,h,KA];simp
theorem nw_ok(n:Nat)(p q:Int×List am):bT [labP p,labP q]=.ok (.bl (nw p q)):=by
 obtain⟨Y,U,S,J,e⟩:=B8 n (a_ (labP p)) (a_ (labP q)) p.2 q.2 f_ f_ f_ f_;simp only[labP,bD,jl]at e ⊢;by_cases h:p.1<=q.1
 .have h':¬q.1<p.1:=ac
  by_cases I:leL p.2 q.2=e_
  .rw[n_ I]at e;simp[bT,eZ,dv,h',e,nw,h,I]
  .rw[l_ I]at e;simp[bT,eZ,dv,h',e,nw,h,I]
 .have h':q.1<p.1:=ac
  simp[bT,eZ,dv,h',nw,h]
end
def lookM1(d:A'):Dr ("many_strips":C_) [(("gaps":C_),d)]=f_:=by rw[CN,show((("many_strips":C_)==("gaps":C_))=c_)from by decide +kernel];rfl
def lookM2(d e:A'):Dr ("many_strips":C_) [(("gaps":C_),d),(("beside":C_),e)]=f_:=by rw[CN,show((("many_strips":C_)==("gaps":C_))=c_)from by decide +kernel];show Dr ("many_strips":C_) [(("beside":C_),e)]=f_;rw[CN,show((("many_strips":C_)==("beside":C_))=c_)from by decide +kernel];rfl
section
variable(CR CP CT:i_)
def kW(n:Nat)(J:CR≠CP)(fo:ae->M A')(ρ:ae)(h0:fo ρ=.ok (ax CR CP g.rows g.o)):cC CR CP "many_strips" (aG) (aH) fo aD ρ=.ok (.int g.s):=by
 unfold cC;rw[h0,ai];cases h:g.two with
 |false=>
  have I:g.o=.non:=by simp[Gp.o,h]
  have U:isC CR "many_strips" (ax CR CP g.rows g.o)=e_:=by rw[I];show((CR==CR)&&(Dr ("many_strips":C_) [(("gaps":C_),aY g.rows)]).isNone)=e_;rw[lookM1];simp
  rw[n_ U];simp[aG,fF,Gp.s,h]
 |true=>
  have I:g.o=aY g.r2:=by simp[Gp.o,h]
  have U:isC CR "many_strips" (ax CR CP g.rows g.o)=c_:=by
   rw[I];show((CP==CR)&&(Dr ("many_strips":C_) [(("gaps":C_),aY g.rows),(("beside":C_),aY g.r2)]).isNone)=c_;have:(CP==CR)=c_:=by simp;exact λz=>J z.symm
   rw[this];rfl
  have S:isC CP "many_strips" (ax CR CP g.rows g.o)=e_:=by rw[I];show((CP==CP)&&(Dr ("many_strips":C_) [(("gaps":C_),aY g.rows),(("beside":C_),aY g.r2)]).isNone)=e_;rw[lookM2];simp
  rw[l_ (by rw[U];simp),n_ S];simp[aH,gd,Gp.s,h]
end
def lookK1(d:A'):Dr ("many_kinds":C_) [(("gaps":C_),d)]=f_:=by rw[CN,show((("many_kinds":C_)==("gaps":C_))=c_)from by decide +kernel];rfl
def lookK2(d e:A'):Dr ("many_kinds":C_) [(("gaps":C_),d),(("beside":C_),e)]=f_:=by rw[CN,show((("many_kinds":C_)==("gaps":C_))=c_)from by decide +kernel];show Dr ("many_kinds":C_) [(("beside":C_),e)]=f_;rw[CN,show((("many_kinds":C_)==("beside":C_))=c_)from by decide +kernel];rfl
section
variable(CR CP CT:i_)
def gkinds(n:Nat)(U:CR≠CP)(b:g.Good)(fo:ae->M A')(ρ:ae)(h0:fo ρ=.ok (ax CR CP g.rows g.o)):cC CR CP "many_kinds" (aP CR CP CT n) (aP CR CP CT n) fo aD ρ=.ok (.int g.k):=by
 have S:=b.rows.1;unfold cC;rw[h0,ai];cases h:g.two with
 |false=>
  have J:g.o=.non:=by simp[Gp.o,h]
  have a:isC CR "many_kinds" (ax CR CP g.rows g.o)=e_:=by rw[J];show((CR==CR)&&(Dr ("many_kinds":C_) [(("gaps":C_),aY g.rows)]).isNone)=e_;rw[lookK1];simp
  have I:=rA CR CP g.rows g.o (.inl J);rw[n_ a];simp[aP,dm,I,aY,S]
 |true=>
  have J:g.o=aY g.r2:=by simp[Gp.o,h]
  have a:isC CR "many_kinds" (ax CR CP g.rows g.o)=c_:=by
   rw[J];show((CP==CR)&&(Dr ("many_kinds":C_) [(("gaps":C_),aY g.rows),(("beside":C_),aY g.r2)]).isNone)=c_;have:(CP==CR)=c_:=by simp;exact λz=>U z.symm
   rw[this];rfl
  have Y:isC CP "many_kinds" (ax CR CP g.rows g.o)=e_:=by rw[J];show((CP==CP)&&(Dr ("many_kinds":C_) [(("gaps":C_),aY g.rows),(("beside":C_),aY g.r2)]).isNone)=e_;rw[lookK2];simp
  have I:=rA CR CP g.rows g.o (.inr ⟨_,J⟩);rw[l_ (by rw[a];simp),n_ Y];simp[aP,dm,I,aY,S]
def L0(g:Gp):List am:=Di g.s (Di g.k (-1))
def L0_good(g:Gp):lX g.s g.k (L0 g):=⟨by simp[L0],λr I=>by rw[FC I];simp⟩
theorem u5(n:Nat)(S:CR≠CP)(Y:g.Good):eW CR CP CT n [ax CR CP g.rows g.o]=.ok (bD 0 (L0 g)):=by
 have k3:=Y.k3;have i:g.s<=2:=by unfold Gp.s;split<;>lia
 have ek:=gkinds CR CP CT n S Y (af 0) [a_ (ax CR CP g.rows g.o),f_] ad;have es:=kW CR CP n S (g:=g) (af 0) [a_ (ax CR CP g.rows g.o),a_ (tupI (Di g.k (-1)))] ad;have k1: -4611686018427387904<=(g.k:Int):=ac
 have k2:(g.k:Int)<4611686018427387904:=ac
 have j1: -4611686018427387904<=(g.s:Int):=ac
 have h:(g.s:Int)<4611686018427387904:=ac
 have a:aO (.nm 0) jr (f1 negD (fC (.int 1))) [f_] (aQ 0 g.k)=.ok ((Di g.k (-1)).map A'.int):=by have:=eJ (p:=.nm 0) (fe:=f1 negD (fC (.int 1))) (ρ0:=[f_]) (λ_=>.int (-1)) (aQ 0 g.k) (λd _=>⟨[a_ d],ad,ad⟩);rw[this,M4,iU,L_]
 have l:∀d:A',aO (.nm 0) jr (af 1) [f_,a_ d] (aQ 0 g.s)=.ok (Di g.s d):=λd=>by have:=eJ (p:=.nm 0) (fe:=af 1) (ρ0:=[f_,a_ d]) (λ_=>d) (aQ 0 g.s) (λe _=>⟨[a_ e,a_ d],ad,ad⟩);rw[this,M4,iU]
 have f:(aQ 0 g.k).length<=16777216:=by rw[iU];lia
 have c:(aQ 0 g.s).length<=16777216:=by rw[iU];lia
 have m:g.k<=16777216:=ac
 have b:g.s<=16777216:=ac
 have e1:b7 2 1 (gV CR CP CT n) [ax CR CP g.rows g.o]=.ok (bD 0 (L0 g)):=by
  have I:=l (tupI (Di g.k (-1)));simp only[tupI]at I es;have k:jl (L0 g)=.tup (Di g.s (.tup ((Di g.k (-1)).map A'.int))):=by simp[jl,L0,tupI]
  rw[bD,k];generalize j:(Di g.k (-1)).map A'.int=U at a I es ⊢;have J:U.length<=16777216:=by rw[<- j];simp;lia
  simp[gV,ek,k1,k2,f,a,J,es,j1,h,c,I,b,-L_]
 exact e1
end
def nx(cs:List zX)(t:Int):Int:=open Classical in if h:∃u,jx cs t u then h.choose else 0
def nx_eq(h:jx cs t u):nx cs t=u:=by
 have I:∃u,jx cs t u:=⟨u,h⟩
 unfold nx;rw[dif_pos I];exact I.choose_spec.uniq h
structure V where
 g:Gp
 fl:List Fli
 cs:List zX
structure V.Good(v:V):Prop where
 g:v.g.Good
 fl:∀f∈v.fl,ym v.g.k f
 many:v.fl.length<=40
 cs:v.cs.length<=1
 st:∀p∈v.cs,p.1<p.2
def V.f(v:V)(i:Nat):Fli:=om v.fl i
theorem V.Good.fAt(hv:v.Good)(h:i<v.fl.length):jL (v.fl.map flD) (i:Int)=.ok (flD (v.f i))/\ym v.g.k (v.f i):=by obtain⟨h1,h2⟩:=getFl (fl:=v.fl) (i:=(i:Int)) ac ac;exact⟨h1,hv.fl _ h2⟩
def V.bt(v:V)(l:LK)(q s:Nat):Int:=nx v.cs (tmin v.g l.2 (v.f q) s)
def V.beh(v:V)(l:LK)(q s:Nat):Option LK:=if (v.f q).last<v.bt l q s then f_ else a_ (l.1+late (v.f q) (v.bt l q s),putL l.2 s (v.f q).kind.toNat (v.bt l q s))
def labO:Option LK->A'
 |none=>.non|some l=>Lake.bD l
def labD_eq(l:LK):Lake.bD l=bD l.1 l.2:=rfl
section
variable(CR CP CT:i_)
def nextV(n:Nat)(hv:v.Good)(t:Int):cu [.lst (v.cs.map stD),.int t]=.ok (.int (nx v.cs t))/\jx v.cs t (nx v.cs t):=by obtain⟨u,e,h⟩:=Ba n v.cs t hv.cs hv.st;rw[nx_eq h];exact⟨e,h⟩
end
def V.Good.nxt(hv:v.Good)(t:Int):jx v.cs t (nx v.cs t):=(nextV 0 hv t).2
section
variable(CR CP CT:i_)
def behV(n:Nat)(I:CR≠CP)(hv:v.Good)(U:Lab v.g l){s:Nat}(S:q<v.fl.length)(J:s<v.g.s):
  cf CR CP CT n [ax CR CP v.g.rows v.g.o,.lst (v.fl.map flD),.lst (v.cs.map stD),Lake.bD l,.int q,.int s]=.ok (labO (v.beh l q s)):=by
 have e:=Cr CR CP CT n I hv.g hv.cs hv.st hv.fl l.1 U.good S J (hv.nxt (tmin v.g l.2 (om v.fl q) s));rw[labD_eq,e];unfold after V.beh V.bt V.f;by_cases c:(om v.fl q).last<nx v.cs (tmin v.g l.2 (om v.fl q) s)
 .rw[n_ c,n_ c];rfl
 .rw[l_ c,l_ c];rfl
end
theorem V.Good.bt_ge(hv:v.Good)(l:LK)(s:Nat)(I:q<v.fl.length):0<=v.bt l q s:=by have h1:=(hv.nxt (tmin v.g l.2 (v.f q) s)).1;have h2:(v.f q).first<=tmin v.g l.2 (v.f q) s:=(Lake.fold_max _ _).2.1;have J:=(hv.fAt I).2.f0;unfold V.bt;lia
def wZ{r:am}{y:Int}(h:y∈r.set j x):y∈r\/y=x:=Gs h
theorem V.Good.beh_lab(hv:v.Good)(I:Lab v.g l){s:Nat}(b:q<v.fl.length)(Y:s<v.g.s)(h:v.beh l q s=a_ l'):Lab v.g l':=by
 unfold V.beh at h;split at h
 .cases h
 .cases h;refine⟨sY I.good Y _,λr a x J=>?_⟩
  have c:=hv.bt_ge l s b;have S:r∈l.2.set s ((xh l.2 s).set (v.f q).kind.toNat (v.bt l q s)):=a;rcases Gs S with z|z
  .exact I.ge r z x J
  .rw[z]at J;rcases wZ J with U|U
   .exact I.ge _ (mw I.good Y).1 x U
   .lia
def V.l0(v:V):LK:=(0,L0 v.g)
def V.l0_lab(v:V):Lab v.g v.l0:=⟨L0_good v.g,λr J x I=>by have h1:r∈Di v.g.s (Di v.g.k (-1)):=J;rw[FC h1]at I;rw[FC I];exact Eu _⟩
abbrev Pap:=List (am×a5)
variable{Q:Pap}
noncomputable def look(P:Pap)(b:am):a5:=((P.find? λp=>CL (p.1=b)).map (·.2)).getD []
def mE(ls:a5):A':=.lst (ls.map Lake.bD)
def jI(P:Pap):List (am×A'):=P.map λp=>(p.1,mE p.2)
theorem xp(b:am):∀P:Pap,(jm (jI P) b).getD (.lst [])=mE (look P b)
 |[]=>rfl|p::P=>by
  have I:=xp b P;unfold jm look jI at *;rw[u_,EF,EF];by_cases c:p.1=b
  .simp[c]
  .simp only[c,IF];exact I
def rp(b:am)(P:Pap):(jm (jI P) b).isSome=CL (b∈P.map (·.1)):=by
 induction P with
 |nil=>rfl|cons p P I=>
  unfold jm jI at *;rw[u_,EF];by_cases c:p.1=b
  .simp[c]
  .simp only[c,IF];rw[I];have:¬b=p.1:=λz=>c z.symm;simp[this]
def put_dicP(b:am)(P:Pap)(ls:a5)(h:b∉P.map (·.1)):ig (jI P) b (mE ls)=jI (P++[(b,ls)]):=by unfold ig;rw[rp,l_ (by simpa using h)];simp[jI]
def xb(P Q:Pap)(b:am):look (P++Q) b=if b∈P.map (·.1)then look P b else look Q b:=by
 unfold look;rw[List.find?_append]
 induction P with
 |nil=>simp|cons p P I=>
  rw[EF];by_cases c:p.1=b
  .simp[c]
  .have:¬b=p.1:=λz=>c z.symm;simp only[c,IF,u_,r_,this,false_or];exact I
def tM{P:Pap}(h:b∉P.map (·.1)):look P b=[]:=by
 unfold look;rw[List.find?_eq_none.mpr]
 .rfl
 .intro x I;simp only[Dj];exact λz=>h (DO.mpr ⟨x,I,z⟩)
def V.add(v:V)(l:LK)(q:Nat)(ks:a5)(s:Nat):a5:=match v.beh l q s with
 |none=>ks|some l'=>Lake.putL ks l'
def V.CB(v:V)(q:Nat)(ks:a5)(l:LK):a5:=(CU v.g.s).foldl (v.add l q) ks
def V.yi(v:V)(P:Pap)(ks:a5)(x:am×Nat):a5:=(look P x.1).foldl (v.CB x.2) ks
noncomputable def smL(b:am):List (am×Nat):=(CU b.length).map λi=>(b.eraseIdx i,(b.getD i 0).toNat)
def V.oV(v:V)(P:Pap)(b:am):a5:=(smL b).foldl (v.yi P) []
def wJ{k x:LK}:x∈Lake.putL ks k↔x∈ks\/x=k:=by
 unfold Lake.putL;split
 .rename_i h;constructor
  .exact .inl
  .rintro(z|z)
   .exact z
   .rw[z];simpa using h
 .simp
theorem V.CA(v:V){l x:LK}{q:Nat}:∀(I:aC) (ks:a5),x∈I.foldl (v.add l q) ks↔x∈ks\/∃s∈I,v.beh l q s=a_ x
 |[],ks=>by simp|s::I,ks=>by
  rw[Dy,v.CA I];unfold V.add;cases e:v.beh l q s with
  |none=>
   constructor
   .rintro(h|⟨s',h1,h2⟩)
    .exact .inl h
    .exact .inr ⟨s',by simp[h1],h2⟩
   .rintro(h|⟨s',h1,h2⟩)
    .exact .inl h
    .rcases r_.mp h1 with z|z
     .rw[z,e]at h2;cases h2
     .exact .inr ⟨s',z,h2⟩
  |some l'=>
   simp only[wJ];constructor
   .rintro((h|h)|⟨s',h1,h2⟩)
    .exact .inl h
    .exact .inr ⟨s,ad,by rw[e,h]⟩
    .exact .inr ⟨s',by simp[h1],h2⟩
   .rintro(h|⟨s',h1,h2⟩)
    .exact .inl (.inl h)
    .rcases r_.mp h1 with z|z
     .rw[z,e]at h2;cases h2;exact .inl (.inr rfl)
     .exact .inr ⟨s',z,h2⟩
theorem V.yj(v:V){x:LK}{q:Nat}:∀(ls ks:a5),x∈ls.foldl (v.CB q) ks↔x∈ks\/∃l∈ls,∃s,s<v.g.s/\v.beh l q s=a_ x
 |[],ks=>by simp|l::ls,ks=>by
  rw[Dy,v.yj ls];unfold V.CB;rw[v.CA];constructor
  .rintro((h|⟨s,h1,h2⟩)|⟨l',h1,h2⟩)
   .exact .inl h
   .exact .inr ⟨l,ad,s,DH.mp h1,h2⟩
   .exact .inr ⟨l',by simp[h1],h2⟩
  .rintro(h|⟨l',h1,s,h2,I⟩)
   .exact .inl (.inl h)
   .rcases r_.mp h1 with z|z
    .exact .inl (.inr ⟨s,DH.mpr h2,by rw[<- z];exact I⟩)
    .exact .inr ⟨l',z,s,h2,I⟩
theorem V.yg(v:V){P:Pap}{x:LK}:∀(xs:List (am×Nat)) (ks:a5),x∈xs.foldl (v.yi P) ks↔x∈ks\/∃p∈xs,∃l∈look P p.1,∃s,s<v.g.s/\v.beh l p.2 s=a_ x
 |[],ks=>by simp|p::xs,ks=>by
  rw[Dy,v.yg xs];unfold V.yi;rw[v.yj];constructor
  .rintro((h|h)|⟨I,h1,h2⟩)
   .exact .inl h
   .exact .inr ⟨p,ad,h⟩
   .exact .inr ⟨I,by simp[h1],h2⟩
  .rintro(h|⟨I,h1,h2⟩)
   .exact .inl (.inl h)
   .rcases r_.mp h1 with z|z
    .exact .inl (.inr (by rw[<- z];exact h2))
    .exact .inr ⟨I,z,h2⟩
def V.behs_mem(v:V){P:Pap}{x:LK}:x∈v.oV P b↔∃i,i<b.length/\∃l∈look P (b.eraseIdx i),∃s,s<v.g.s/\v.beh l (b.getD i 0).toNat s=a_ x:=by
 unfold V.oV;rw[v.yg];constructor
 .rintro(h|⟨p,h1,h2⟩)
  .cases h
  .obtain⟨i,hi,rfl⟩:=DO.mp h1;exact⟨i,DH.mp hi,h2⟩
 .rintro⟨i,hi,h⟩;exact .inr ⟨_,DO.mpr ⟨i,DH.mpr hi,rfl⟩,h⟩
def wK(ks:a5)(k:LK):(Lake.putL ks k).length<=ks.length+1:=by unfold Lake.putL;split<;>simp
theorem V.s9(v:V)(l:LK)(q:Nat):∀(I:aC) (ks:a5),(I.foldl (v.add l q) ks).length<=ks.length+I.length
 |[],ks=>by simp|s::I,ks=>by
  rw[Dy];have h1:=v.s9 l q I (v.add l q ks s);have h2:(v.add l q ks s).length<=ks.length+1:=by
   unfold V.add;split
   .lia
   .exact wK _ _
  simp only[CG];lia
theorem V.sd(v:V)(q:Nat):∀(ls ks:a5),(ls.foldl (v.CB q) ks).length<=ks.length+v.g.s*ls.length
 |[],ks=>by simp|l::ls,ks=>by
  rw[Dy];have h1:=v.sd q ls (v.CB q ks l);have h2:(v.CB q ks l).length<=ks.length+v.g.s:=by have:=v.s9 l q (CU v.g.s) ks;rw[F9]at this;exact this
  rw[CG,Kb];lia
theorem V.yh(v:V)(P:Pap)(N:Nat):∀(xs:List (am×Nat)) (ks:a5),(∀p∈xs,(look P p.1).length<=N)->(xs.foldl (v.yi P) ks).length<=ks.length+v.g.s*N*xs.length
 |[],ks,_=>by simp|p::xs,ks,h=>by
  rw[Dy];have h1:=v.yh P N xs (v.yi P ks p) λq I=>h q (by simp[I]);have h2:(v.yi P ks p).length<=ks.length+v.g.s*N:=by have S:=v.sd p.2 (look P p.1) ks;have J:=L9 v.g.s (h p ad);unfold V.yi;lia
  rw[CG,Kb];lia
theorem Gp.s2(g:Gp):1<=g.s/\g.s<=2:=by unfold Gp.s;split<;>lia
def ij(I:a5)(l:LK):a5:=if I.any (λx=>nw x l)=e_ then I else I++[l]
def rX(ks:a5):a5:=(fQ ltL ks).foldl ij []
theorem rl:∀(ls I:a5) (x:LK),x∈I->x∈ls.foldl ij I
 |[],I,x,h=>h|l::ls,I,x,h=>rl ls _ x (by
   unfold ij;split
   .exact h
   .simp[h])
theorem xi:∀(ls I:a5) (x:LK),x∈ls.foldl ij I->x∈I\/x∈ls
 |[],I,x,h=>.inl h|l::ls,I,x,h=>by
  rcases xi ls _ x h with z|z
  .unfold ij at z;split at z
   .exact .inl z
   .rcases DM.mp z with y|y
    .exact .inl y
    .exact .inr (by simp at y;simp[y])
  .exact .inr (by simp[z])
theorem xj:∀(ls I:a5) (x:LK),x∈ls->∃y∈ls.foldl ij I,nw y x=e_
 |l::ls,I,x,h=>by
  rcases r_.mp h with z|z
  .subst z;rw[Dy];by_cases c:I.any (λy=>nw y x)=e_
   .obtain⟨y,J,e⟩:=Ib.mp c;exact⟨y,rl ls _ y (by unfold ij;rw[n_ c];exact J),e⟩
   .exact⟨x,rl ls _ x (by unfold ij;rw[l_ c];simp),nw_refl x⟩
  .exact xj ls _ x z
def ya{x:LK}(h:x∈rX ks):x∈ks:=by
 rcases xi _ _ _ h with z|z
 .cases z
 .exact(gK ks).mem_iff.mp z
def best_cov{x:LK}(h:x∈ks):∃y∈rX ks,nw y x=e_:=xj _ _ _ ((gK ks).mem_iff.mpr h)
section
variable(CR CP CT:i_)
theorem rn(n:Nat)(I:Option A')(l:LK):∀(ls:a5) (J:Option A'),(ls.any (λx=>nw x l)=e_/\cq (.nm 2) (bg) (ls.map Lake.bD) [I,a_ (Lake.bD l),J]=.ok (.rt (.bl e_)))\/(ls.any (λx=>nw x l)=c_/\∃Y,cq (.nm 2) (bg) (ls.map Lake.bD) [I,a_ (Lake.bD l),J]=.ok (.nx [I,a_ (Lake.bD l),Y]))
 |[],J=>.inr ⟨rfl,J,rfl⟩|x::ls,J=>by
  have e:bT [Lake.bD x,Lake.bD l]=.ok (.bl (nw x l)):=nw_ok n x l;rw[u_,cq,l8,ai];simp only[D9,DL,List.any_cons];by_cases c:nw x l=e_
  .left;rw[c]at e;refine⟨by simp[c],?_⟩
   have S:bg [I,a_ (Lake.bD l),a_ (Lake.bD x)]=.ok (.rt (.bl e_)):=by simp[bg,eQ,e]
   rw[S];rfl
  .have U:nw x l=c_:=by simpa using c
   rw[U]at e;have S:bg [I,a_ (Lake.bD l),a_ (Lake.bD x)]=.ok (.nx [I,a_ (Lake.bD l),a_ (Lake.bD x)]):=by simp[bg,eQ,e]
   rw[S,ai,U,Bool.false_or];exact rn n I l ls (a_ (Lake.bD x))
def has_ok(n:Nat)(ls:a5)(l:LK):aS [mE ls,Lake.bD l]=.ok (.bl (ls.any λx=>nw x l)):=by
 unfold mE;rcases rn n (a_ (.lst (ls.map Lake.bD))) l ls f_ with⟨h1,h2⟩|⟨h1,I,h2⟩
 .simp[aS,cM,h1,h2]
 .simp[aS,cM,h1,h2]
theorem uE(n:Nat)(J:Option A'):∀(ls I:a5) (S:Option A'),I.length+ls.length<16777216->∃U,cq (.nm 2) (bM) (ls.map Lake.bD) [J,a_ (mE I),S]=.ok (.nx [J,a_ (mE (ls.foldl ij I)),U])
 |[],I,S,_=>⟨S,rfl⟩|l::ls,I,S,h=>by
  rw[CG]at h;have e:=has_ok n I l;have b:I.length<16777216:=ac
  have f:(ij I l).length<=I.length+1:=by unfold ij;split<;>simp
  obtain⟨U,a⟩:=uE n J ls (ij I l) (a_ (Lake.bD l)) ac;refine⟨U,?_⟩
  rw[u_,cq,l8,ai,Dy,<- a];simp only[D9,DL];by_cases c:I.any (λx=>nw x l)=e_
  .rw[c]at e;have Y:bM [J,a_ (mE I),a_ (Lake.bD l)]=.ok (.nx [J,a_ (mE (ij I l)),a_ (Lake.bD l)]):=by
    unfold ij;rw[n_ c];unfold mE at *;simp[bM,fN,e]
   rw[Y,ai]
  .have d:I.any (λx=>nw x l)=c_:=by simpa using c
   rw[d]at e;have Y:bM [J,a_ (mE I),a_ (Lake.bD l)]=.ok (.nx [J,a_ (mE (ij I l)),a_ (Lake.bD l)]):=by unfold ij;rw[l_ c];unfold mE at *;simp[bM,fN,e,b]
   rw[Y,ai]
theorem best_ok(n:Nat)(ks:a5)(h:ks.length<16777216):eY [.dil ks]=.ok (mE (rX ks)):=by obtain⟨J,e⟩:=uE n (a_ (.dil ks)) (fQ ltL ks) [] f_ (by rw[(gK ks).length_eq];simp;lia);have I:mE []=.lst []:=rfl;rw[I]at e;have es:uR [.dil ks]=.ok (.lst ((fQ ltL ks).map Lake.bD)):=rfl;simp[eY,kg,es,e,rX]
end
theorem j6{α:Type}{p:Pat}{fe:ae->M A'}{ρ0:ae}(g f:α->A'):∀(L:List α),(∀x∈L,∃ρ,gE p (g x) ρ0=.ok ρ/\fe ρ=.ok (f x))->aO p jr fe ρ0 (L.map g)=.ok (L.map f)
 |[],_=>rfl|d::ds,h=>by obtain⟨ρ,e1,e2⟩:=h d ad;rw[u_,aO,e1];simp only[ai,jr,e2,j6 g f ds λx I=>h x (by simp[I])];simp
theorem l7:∀(b:am) (j:Nat),dr j (b.map .int)=(CU b.length).map λi=>A'.tup [.int ((j+i:Nat):Int),.int (b.getD i 0)]
 |[],_=>rfl|x::b,j=>by
  rw[u_,dr,l7 b (j+1),CG,FQ,u_,Dv]
  congr 1
  refine Gu λi _=>?_;simp only[Kf];have:j+1+i=j+(i+1):=ac
  rw[this];rfl
theorem pf(CR CP CT:i_)(n:Nat)(b:am)(f:b.length<=100):bX [aZ b]=.ok (.lst ((CU b.length).map λi=>A'.tup [aZ (b.eraseIdx i),.int (b.getD i 0)])):=by
 have a:aO (.tp [0,1]) jr (fL cV (aa (f2 lq (fSl fV (af 2) tE (lL (af 0))) (fSl fV (af 2) (lL (f2 lq (af 0) (fC (.int 1)))) tE)) (aa (af 1) aD))) [f_,f_,a_ (aZ b)] (dr 0 (b.map .int))=.ok ((CU b.length).map λi=>A'.tup [aZ (b.eraseIdx i),.int (b.getD i 0)]):=by
  rw[l7];refine j6 _ _ _ λi hi=>?_;have hi:=DH.mp hi;refine⟨[a_ (.int ((0+i:Nat):Int)),a_ (.int (b.getD i 0)),a_ (aZ b)],ad,?_⟩
  have e:cX (b.map A'.int).length 0 f_=0:=rfl;have d:cX (b.map A'.int).length (b.map A'.int).length (a_ ((0+i:Nat):Int))=i:=by simp only[cX];rw[l_ ac,q_];lia
  have c:cX (b.map A'.int).length 0 (a_ (((0+i:Nat):Int)+1))=i+1:=by simp only[cX];rw[l_ ac,q_];lia
  have U:fV (aZ b) f_ (a_ ((0+i:Nat):Int))=.ok (.tup ((b.take i).map .int)):=by unfold aZ fV;simp only[];rw[e,d,l_ (by simp;lia)];rw[cut_take _ ac];simp
  have S:fV (aZ b) (a_ (((0+i:Nat):Int)+1)) f_=.ok (.tup ((b.drop (i+1)).map .int)):=by
   unfold aZ fV;simp only[];rw[c,l_ ad];rw[rP _ ac];have:(((0+i:Nat):Int)+1).toNat=i+1:=ac
   rw[this];simp
  have Y:((b.take i).map A'.int).length+((b.drop (i+1)).map A'.int).length<=16777216:=by simp;lia
  simp only[e_L,e_cons,e_2,e_slF,BH,BI,e_pNone,e_pSome,e_c,ai,e_asI,U,lq,S,EK,Y,FK,e_nil];simp[cV,aZ,List.eraseIdx_eq_take_drop_succ,EK]
 have I:(dr 0 (b.map A'.int)).length<=16777216:=by rw[l7];simp;lia
 have J:k8 (aZ b)=.ok (b.map .int):=rfl;simp[bX,hZ,J,I,a]
theorem gS(lo:Int)(m:Nat):aQ lo (m+1)=.int lo::aQ (lo+1) m:=by
 unfold aQ;rw[FQ,u_,Dv]
 congr 1
 .simp
 .refine Gu λk _=>?_;simp only[Kf]
  congr 1
  lia
def tQ(b:am):il (aZ b)=.ok b:=by unfold aZ il;simp[di]
def Labs(v:V)(P:Pap):Prop:=∀b,∀l∈look P b,Lab v.g l
def notN_lab(l:LK):yU (Lake.bD l) .non=.ok (.bl e_):=rfl
def notN_non:yU .non .non=.ok (.bl c_):=rfl
section
variable(CR CP CT:i_)
@[reducible] def evB(v:V)(P:Pap)(a:Option A')(ks:a5)(Y U S J I:Option A'):ae:=[a_ (ax CR CP v.g.rows v.g.o),a_ (.lst (v.fl.map flD)),a_ (.lst (v.cs.map stD)),a_ (.dic (jI P)),a,a_ (.dil ks),Y,U,S,J,I]
theorem oZ(n:Nat)(U:CR≠CP){v:V}(hv:v.Good)(P:Pap)(Y S:Option A'){l:LK}(i:Lab v.g l){q:Nat}(g:q<v.fl.length):∀(r j:Nat) (ks:a5) (a I:Option A'),j+r=v.g.s->ks.length+r<16777216->∃b J,
  cq (.nm 9) (bL CR CP CT n) (aQ (j:Int) r) (evB CR CP v P Y ks S (a_ (.int q)) (a_ (Lake.bD l)) a I)=.ok (.nx (evB CR CP v P Y ((HF j r).foldl (v.add l q) ks) S (a_ (.int q)) (a_ (Lake.bD l)) b J))
 |0,j,ks,a,I,_,_=>⟨a,I,rfl⟩|r+1,j,ks,a,I,h,p=>by
  have e:=behV CR CP CT n U hv i g (s:=j) ac;have o:(v.add l q ks j).length<=ks.length+1:=v.s9 l q [j] ks;obtain⟨b,J,f⟩:=oZ n U hv P Y S i g r (j+1) (v.add l q ks j) (a_ (.int j)) (a_ (labO (v.beh l q j))) ac ac;refine⟨b,J,?_⟩
  have d:ks.length<16777216:=ac
  have m:bL CR CP CT n (evB CR CP v P Y ks S (a_ (.int q)) (a_ (Lake.bD l)) (a_ (.int j)) I)=.ok (.nx (evB CR CP v P Y (v.add l q ks j) S (a_ (.int q)) (a_ (Lake.bD l)) (a_ (.int j)) (a_ (labO (v.beh l q j))))):=by
   unfold V.add;cases k:v.beh l q j with
   |none=>rw[k]at e;simp only[labO]at e ⊢;simp[bL,dS,e,notN_non]|some l'=>rw[k]at e;simp only[labO]at e ⊢;have c:=jZ l';simp[bL,dS,e,notN_lab,mO,uf,c,isTr,d,-e_notN]
  rw[gS,cq,l8,ai,JZ,Dy];simp only[evB,D9,DL]at m f ⊢;rw[m,ai];exact f
theorem pM(n:Nat)(Y:CR≠CP){v:V}(hv:v.Good)(P:Pap)(a U:Option A'){q:Nat}(o:q<v.fl.length):∀(ls:a5) (ks:a5) (c J I:Option A'),(∀l∈ls,Lab v.g l)->ks.length+v.g.s*ls.length<16777216->∃f d S,
  cq (.nm 8) (cE CR CP CT n) (ls.map Lake.bD) (evB CR CP v P a ks U (a_ (.int q)) c J I)=.ok (.nx (evB CR CP v P a (ls.foldl (v.CB q) ks) U (a_ (.int q)) f d S))
 |[],ks,c,J,I,_,_=>⟨c,J,I,rfl⟩|l::ls,ks,c,J,I,h,t=>by
  rw[CG,Kb]at t;obtain⟨y,x⟩:=v.g.s2;have s:(v.CB q ks l).length<=ks.length+v.g.s:=by have:=v.s9 l q (CU v.g.s) ks;rw[F9]at this;exact this
  obtain⟨j,b,e⟩:=oZ CR CP CT n Y hv P a U (h l ad) o v.g.s 0 ks J I ac ac;obtain⟨f,d,S,k⟩:=pM n Y hv P a U o ls (v.CB q ks l) (a_ (Lake.bD l)) j b (λm r=>h m (by simp[r])) ac;refine⟨f,d,S,?_⟩
  have i:=kW CR CP n Y (g:=v.g) (af 0) [a_ (ax CR CP v.g.rows v.g.o),a_ (.lst (v.fl.map flD)),a_ (.lst (v.cs.map stD)),a_ (.dic (jI P)),a,f_,U,a_ (.int q),a_ (Lake.bD l),J,I] ad;have k1:(-4611686018427387904:Int)<=(v.g.s:Int):=ac
  have k2:(v.g.s:Int)<4611686018427387904:=ac
  have w:((0:Nat):Int)=0:=rfl;have u:HF 0 v.g.s=CU v.g.s:=by rw[IT]
  rw[w,u]at e;have p:cE CR CP CT n (evB CR CP v P a ks U (a_ (.int q)) (a_ (Lake.bD l)) J I)=.ok (.nx (evB CR CP v P a (v.CB q ks l) U (a_ (.int q)) (a_ (Lake.bD l)) j b)):=by unfold V.CB;simp only[evB]at e ⊢;simp[cE,i,k1,k2,e]
  rw[u_,cq,l8,ai,Dy];simp only[evB,D9,DL]at p k ⊢;rw[p,ai];exact k
def smD(x:am×Nat):A':=.tup [aZ x.1,.int x.2]
theorem ph(n:Nat)(f:CR≠CP){v:V}(hv:v.Good)(P:Pap)(o:Labs v P)(N:Nat)(U:Option A'):∀(xs:List (am×Nat)) (ks:a5) (c b S J I:Option A'),(∀x∈xs,x.2<v.fl.length/\(look P x.1).length<=N)->ks.length+v.g.s*N*xs.length<16777216->∃k j i g Y,
  cq (.tp [6,7]) (cD CR CP CT n) (xs.map smD) (evB CR CP v P U ks c b S J I)=.ok (.nx (evB CR CP v P U (xs.foldl (v.yi P) ks) k j i g Y))
 |[],ks,c,b,S,J,I,_,_=>⟨c,b,S,J,I,rfl⟩|x::xs,ks,c,b,S,J,I,h,s=>by
  rw[CG,Kb]at s;obtain⟨h1,h2⟩:=h x ad;have w:=L9 v.g.s h2;have r:(v.yi P ks x).length<=ks.length+v.g.s*N:=by have z:=v.sd x.2 (look P x.1) ks;unfold V.yi;lia
  obtain⟨m,l,d,e⟩:=pM CR CP CT n f hv P U (a_ (aZ x.1)) h1 (look P x.1) ks S J I (o x.1) ac;obtain⟨k,j,i,g,Y,p⟩:=ph n f hv P o N U xs (v.yi P ks x) (a_ (aZ x.1)) (a_ (.int x.2)) m l d (λy q=>h y (by simp[q])) ac;refine⟨k,j,i,g,Y,?_⟩
  have t:=xp x.1 P;have u:cD CR CP CT n (evB CR CP v P U ks (a_ (aZ x.1)) (a_ (.int x.2)) S J I)=.ok (.nx (evB CR CP v P U (v.yi P ks x) (a_ (aZ x.1)) (a_ (.int x.2)) m l d)):=by unfold V.yi;simp only[evB]at e ⊢;simp[cD,zv,tQ,t,mE,e]
  rw[u_,cq,Dy];have a:gE (.tp [6,7]) (smD x) (evB CR CP v P U ks c b S J I)=.ok (evB CR CP v P U ks (a_ (aZ x.1)) (a_ (.int x.2)) S J I):=rfl;rw[a,ai,u,ai];exact p
theorem smL_smD(h:∀x∈b,0<=x):((CU b.length).map λi=>A'.tup [aZ (b.eraseIdx i),.int (b.getD i 0)])=(smL b).map smD:=by
 unfold smL;rw[Dv];refine Gu λi hi=>?_;have hi:=DH.mp hi;have h0:0<=b.getD i 0:=by rw[CH,Dk hi];exact h _ (D7 hi)
 show _=A'.tup [aZ (b.eraseIdx i),.int ((b.getD i 0).toNat:Int)];rw[show(((b.getD i 0).toNat:Nat):Int)=b.getD i 0 from by lia]
theorem Cq(n:Nat)(S:CR≠CP)(hv:v.Good)(P:Pap)(f:Labs v P)(N:Nat)(b:am)(U:∀x∈b,0<=x/\x<v.fl.length)(d:b.length<=40)(g:∀i,i<b.length->(look P (b.eraseIdx i)).length<=N)(c:v.g.s*N*b.length<16777216):
  cv CR CP CT n [ax CR CP v.g.rows v.g.o,.lst (v.fl.map flD),.lst (v.cs.map stD),.dic (jI P),aZ b]=.ok (.dil (v.oV P b)):=by
 have Y:=pf CR CP CT n b ac;rw[smL_smD (λx I=>(U x I).1)]at Y;have J:(smL b).length=b.length:=by simp[smL]
 obtain⟨l,k,j,h,a,e⟩:=ph CR CP CT n S hv P f N (a_ (aZ b)) (smL b) [] f_ f_ f_ f_ f_ (λx I=>by
  obtain⟨i,hi,rfl⟩:=DO.mp I;have hi:=DH.mp hi;refine⟨?_,g i hi⟩
  have:b.getD i 0∈b:=by rw[CH,Dk hi];exact D7 hi
  have:=U _ this;simp only;lia) (by rw[J];simpa using c)
 simp only[evB]at e;simp[cv,iJ,Y,e,V.oV]
end
def yP(r:am):fw (r.map .int)=e_:=by
 induction r with
 |nil=>rfl|cons x r I=>simp[fw,de,I]
def yN(L:List am):fw (L.map aZ)=e_:=by
 induction L with
 |nil=>rfl|cons x r I=>simp[fw,de,aZ,yP];exact I
def yO(ls:a5):fw (ls.map Lake.bD)=e_:=by
 induction ls with
 |nil=>rfl|cons x r I=>simp[fw,de,Lake.bD,yN,I]
def AM(ls:a5):de (mE ls)=e_:=by unfold mE;simp[de,yO]
def ne_tup(b:am):eqM (aZ b) (.tup [])=.ok (.bl b.isEmpty)/\neM (aZ b) (.tup [])=.ok (.bl !b.isEmpty):=by
 have h:G' (aZ b) 40=e_:=by unfold aZ;simp[G',vk]
 constructor
 .unfold eqM;rw[h];unfold aZ;cases b<;>simp[G',mj,eqD,xA]
 .unfold neM;rw[h];unfold aZ;cases b<;>simp[G',mj,eqD,xA]
def V.ent(v:V)(P:Pap)(b:am):a5:=if b=[]then [v.l0]else rX (v.oV P b)
def V.pap(v:V)(P:Pap):List am->Pap
 |[]=>P|b::bs=>v.pap (P++[(b,v.ent P b)]) bs
theorem kj(h:i<b.length):(b.eraseIdx i).length+1=b.length:=by rw[IU,n_ h];lia
def getD_in(h:i<b.length):b.getD i 0∈b:=by rw[CH,Dk h];exact D7 h
section
variable(CR CP CT:i_)
theorem pD(n:Nat)(S:CR≠CP){v:V}(J I:Option A'):∀(r:Nat) (j:Int) (c:Int) (Y:Option A'),∃a,
  cq (.nm 4) (dX CR CP CT n) (aQ j r) [a_ (ax CR CP v.g.rows v.g.o),J,I,a_ (.int c),Y]=.ok (.nx [a_ (ax CR CP v.g.rows v.g.o),J,I,a_ (.int (c*v.g.s^r)),a])
 |0,j,c,Y=>⟨Y,by simp[aQ,cq]⟩|r+1,j,c,Y=>by
  obtain⟨h,f⟩:=v.g.s2;obtain⟨a,e⟩:=pD n S J I r (j+1) (c*v.g.s) (a_ (.int j));refine⟨a,?_⟩
  have b:=kW CR CP n S (g:=v.g) (af 0) [a_ (ax CR CP v.g.rows v.g.o),J,I,a_ (.int c),a_ (.int j)] ad;have U:Bc (.int c) (.int v.g.s)=.ok (.int (c*v.g.s)):=e_mulR (by simp only[sJ,A_,Dj];lia);have d:dX CR CP CT n [a_ (ax CR CP v.g.rows v.g.o),J,I,a_ (.int c),a_ (.int j)]=.ok (.nx [a_ (ax CR CP v.g.rows v.g.o),J,I,a_ (.int (c*v.g.s)),a_ (.int j)]):=by simp[dX,b,U,-e_mulR,-e_mulL]
  have ep:c*(v.g.s:Int)^(r+1)=c*v.g.s*v.g.s^r:=by rw[Ob,Oc ((v.g.s:Int)^r),NT]
  rw[gS,cq,l8,ai,ep];simp only[D9,DL];rw[d,ai];exact e
theorem wM(n:Nat)(I:CR≠CP){s:Nat}(U:m<=64)(J:aU [.int m,.int s]=.ok (.int c)):cZ CR CP CT n [ax CR CP v.g.rows v.g.o,.int m,.int s]=.ok (.int (c*v.g.s^m)):=by
 obtain⟨S,e⟩:=pD CR CP CT n I (v:=v) (a_ (.int m)) (a_ (.int s)) m 0 c f_;have k1:(-4611686018427387904:Int)<=(m:Int):=ac
 have k2:(m:Int)<4611686018427387904:=ac
 simp[cZ,lA,J,k1,k2,e]
def mP(n:Nat)(J:CR≠CP){s:Nat}(Y:m<=64)(S:v.fl.length=m)(U:aU [.int m,.int s]=.ok (.int c)):bp CR CP CT n [ax CR CP v.g.rows v.g.o,.lst (v.fl.map flD),.int s]=if 5000<c*v.g.s^m then .error (.exc CT [])else .ok .non:=by
 have ep:=wM CR CP CT n J (v:=v) Y U;by_cases I:5000<c*(v.g.s:Int)^m
 .rw[n_ I];simp[bp,dO,cW,S,ep,I]
 .rw[l_ I];simp[bp,dO,cW,S,ep,I]
end
section
variable(CR CP CT:i_)
def kr(l:am):Prop:=l.Pairwise (·<·)
noncomputable def iv(a:Int):Nat->am
 |0=>[]|m+1=>a::iv (a+1) m
theorem k7:∀(m:Nat) (a x:Int),x∈iv a m↔a<=x/\x<a+m
 |0,a,x=>by simp[iv]<;>lia
 |m+1,a,x=>by rw[iv,r_,k7 m (a+1) x];lia
theorem gJ:∀(m:Nat) (a:Int),(iv a m).length=m
 |0,_=>rfl|m+1,a=>by rw[iv,CG,gJ m (a+1)]
theorem iG:∀(m:Nat) (a:Int),kr (iv a m)
 |0,_=>E1|m+1,a=>by rw[iv];refine Kr (λx I=>?_) (iG m (a+1));have:=(k7 m (a+1) x).mp I;lia
noncomputable def chs:Nat->am->List am
 |0,_=>[[]]|_+1,[]=>[]|k+1,a::I=>(chs k I).map (a::·)++chs (k+1) I
def kq(I:am):chs 0 I=[[]]:=by cases I<;>rfl
theorem iP:∀(I:am) (k:Nat) (t:am),t∈chs k I↔t.length=k/\t.Sublist I
 |I,0,t=>by
  rw[kq];simp only[CO];constructor
  .rintro rfl;exact⟨rfl,J0 _⟩
  .rintro⟨h,_⟩;exact GC.mp h
 |[],k+1,t=>by simp only[chs,Dq,false_iff];rintro⟨h,h2⟩;have:=List.sublist_nil.mp h2;rw[this]at h;simp at h
 |a::I,k+1,t=>by
  rw[chs,DM,iP I (k+1) t];simp only[DO];constructor
  .rintro(⟨u,J,rfl⟩|⟨h1,h2⟩)
   .obtain⟨h1,h2⟩:=(iP I k u).mp J;exact⟨by simp[h1],h2.cons₂ a⟩
   .exact⟨h1,h2.cons a⟩
  .rintro⟨h1,h2⟩;cases h2 with
   |cons _ h=>exact .inr ⟨h1,h⟩|cons_cons _ h=>rename_i u;exact .inl ⟨u,(iP I k u).mpr ⟨by simpa using h1,h⟩,rfl⟩
theorem nW:∀(I:am) (k:Nat),(chs k I).length<=2^I.length
 |I,0=>by rw[kq];exact Nat.one_le_two_pow|[],k+1=>by simp[chs]|a::I,k+1=>by rw[chs,CM,q_,CG,Nat.pow_succ];have:=nW I k;have:=nW I (k+1);lia
theorem Au:∀(m:Nat) (a:Int) (t:am),t.Sublist (iv a m)↔kr t/\∀x∈t,a<=x/\x<a+m
 |m,a,t=>by
  constructor
  .intro h;exact⟨J5 h (iG m a),λx S=>(k7 m a x).mp (h.subset S)⟩
  .intro h
   induction m generalizing a t with
   |zero=>
    cases t with
    |nil=>exact J0 _|cons x t=>have:=h.2 x ad;lia
   |succ m J=>
    cases t with
    |nil=>exact J0 _|cons x t=>
     obtain⟨h1,h2⟩:=h;have S:=h2 x ad;rw[iv];unfold kr at h1;rw[D_]at h1;by_cases e:x=a
     .subst e;refine List.Sublist.cons₂ x (J (x+1) t ⟨h1.2,λy I=>?_⟩);have:=h1.1 y I;have:=h2 y (by simp[I]);lia
     .refine List.Sublist.cons a (J (a+1) (x::t) ⟨Kr h1.1 h1.2,λy I=>?_⟩);rcases r_.mp I with z|z
      .subst z;lia
      .have:=h1.1 y z;have:=h2 y (by simp[z]);lia
theorem wF:∀(m:Nat) (a:Int) (b:am),kr b->(∀x∈b,a<=x)->(∀i,a<=i->i<a+m->i∈b)->∃t,b=iv a m++t/\kr t/\∀x∈t,a+m<=x
 |0,a,b,h1,h2,_=>⟨b,rfl,h1,λx U=>by have:=h2 x U;lia⟩|m+1,a,b,h1,h2,c=>by
  have Y:=c a ac ac;cases b with
  |nil=>simp at Y|cons x b=>
   unfold kr at h1;rw[D_]at h1;have U:=h2 x ad;have e:x=a:=by
    rcases r_.mp Y with z|z
    .exact z.symm
    .have:=h1.1 a z;lia
   subst e;obtain⟨t,rfl,S,J⟩:=wF m (x+1) b h1.2 (λy I=>by have:=h1.1 y I;lia) (λi f d=>by
    have:=c i ac ac;rcases r_.mp this with z|z
    .lia
    .exact z)
   exact⟨t,rfl,S,λy I=>by have:=J y I;lia⟩
structure Beg(many shift size:Nat)(b:am):Prop where
 rise:kr b
 len:b.length=size
 sure:∀i:Int,0<=i->i<(size:Int)-shift->i∈b
 bnd:∀x∈b,0<=x/\x<many/\x<(size:Int)+shift
def jc(S I J:Nat):List am:=(chs (J-(J-I)) (iv ((J-I:Nat):Int) (J_ S (J+I)-(J-I)))).map (iv 0 (J-I)++·)
theorem gk{S I J:Nat}(j:J<=S)(b:am):b∈jc S I J↔Beg S I J b:=by
 unfold jc;rw[DO];constructor
 .rintro⟨t,h,rfl⟩;obtain⟨h1,h2⟩:=(iP _ _ _).mp h;obtain⟨f,a⟩:=(Au _ _ _).mp h2;refine⟨?_,?_,λi Y e=>?_,λx U=>?_⟩
  .unfold kr;rw[Eh];refine⟨iG _ _,f,λx U y g=>?_⟩
   have:=(k7 _ _ _).mp U;have:=a y g;lia
  .rw[CM,gJ,h1];lia
  .exact Et _ ((k7 _ _ _).mpr ⟨ac,ac⟩)
  .rcases DM.mp U with z|z
   .have:=(k7 _ _ _).mp z;lia
   .have:=a x z;lia
 .rintro⟨h1,h2,f,a⟩;obtain⟨t,rfl,d,c⟩:=wF (J-I) 0 b h1 (λx U=>(a x U).1) (λi Y e=>f i Y ac);refine⟨t,(iP _ _ _).mpr ⟨?_,(Au _ _ _).mpr ⟨d,λx U=>?_⟩⟩,rfl⟩
  .rw[CM,gJ]at h2;lia
  .have:=c x U;have:=a x (Dc _ U);lia
theorem sU{l:am}(h:kr l):l.Nodup:=Oa (λh e=>by lia) h
theorem iu:∀(m:Nat) (a:Int),aQ a m=(iv a m).map .int
 |0,a=>rfl|m+1,a=>by
  have I:=iu m (a+1);unfold aQ at I ⊢;rw[FQ,u_,Dv,iv,u_,<- I]
  congr 1
  .simp
  .refine Gu λk _=>?_;simp;lia
theorem xW(n:Nat)(R:List A'->M A')(Y U S:Option A')(J:Int):∀(rs I:List am) (a:Option A'),I.length+rs.length<=1000->(∀r∈rs,r.length<=100)->∃b,cq (.nm 5) (eu R) (rs.map aZ) [Y,U,a_ (.lst (I.map aZ)),S,a_ (.int J),a]=.ok (.nx [Y,U,a_ (.lst ((I++rs.map (J::·)).map aZ)),S,a_ (.int J),b])
 |[],I,a,_,_=>⟨a,by simp[cq]⟩|r::rs,I,a,h,f=>by
  simp only[CG]at h;obtain⟨b,e⟩:=xW n R Y U S J rs (I++[J::r]) (a_ (aZ r)) (by simp;lia) λx g=>f x (by simp[g]);refine⟨b,?_⟩
  have j:I.length<16777216:=ac
  have i:=f r ad;have d:r.length+1<=16777216:=ac
  have c:1+r.length<=16777216:=ac
  have k:eu R [Y,U,a_ (.lst (I.map aZ)),S,a_ (.int J),a_ (aZ r)]=.ok (.nx [Y,U,a_ (.lst ((I++[J::r]).map aZ)),S,a_ (.int J),a_ (aZ r)]):=by simp[eu,aZ,lq,j,d,c]
  rw[u_,cq];simp only[l8,D9,DL,ai,k];rw[e];simp
theorem xV(n:Nat)(R:List A'->M A')(I:am)(k:Nat)(t:I.length<=8)(h:∀j,R [.lst ((I.drop j).map .int),.int k]=.ok (.lst ((chs k (I.drop j)).map aZ))):
  ∀(J:am) (j:Nat) (S:List am) (d c Y:Option A'),I.drop j=J->S.length+(chs (k+1) J).length<=1000->∃m l f,cq (.tp [3,4]) (dZ R) (dr j (J.map .int)) [a_ (.lst (I.map .int)),a_ (.int ((k:Int)+1)),a_ (.lst (S.map aZ)),d,c,Y]=.ok (.nx [a_ (.lst (I.map .int)),a_ (.int ((k:Int)+1)),a_ (.lst ((S++chs (k+1) J).map aZ)),m,l,f])
 |[],j,S,d,c,Y,_,_=>⟨d,c,Y,by simp[dr,cq,chs]⟩|a::J,j,S,d,c,Y,s,u=>by
  have U:I.drop (j+1)=J:=by rw[<- GI,s];rfl
  rw[chs,CM,q_]at u;obtain⟨f,e1⟩:=xW n R (a_ (.lst (I.map .int))) (a_ (.int ((k:Int)+1))) (a_ (.int (j:Int))) a (chs k J) S Y ac (λr g=>by
   have:=((iP _ _ _).mp g).2.length_le;have h2:J.length<=I.length:=by rw[<- U,Gk];lia
   lia)
  obtain⟨q,p,o,e2⟩:=xV n R I k t h J (j+1) (S++(chs k J).map (a::·)) (a_ (.int (j:Int))) (a_ (.int a)) f U (by simp;lia);refine⟨q,p,o,?_⟩
  have g:=h (j+1);rw[U]at g;have z:((j:Int)+1).toNat=j+1:=ac
  have i:(0:Int)<=(j:Int)+1:=ac
  have e:zJ (I.map A'.int) (a_ ((j:Int)+1)) f_=J.map .int:=by rw[rP _ i,z,<- KZ,U]
  have v:dZ R [a_ (.lst (I.map .int)),a_ (.int ((k:Int)+1)),a_ (.lst (S.map aZ)),a_ (.int (j:Int)),a_ (.int a),Y]=.ok (.nx [a_ (.lst (I.map .int)),a_ (.int ((k:Int)+1)),a_ (.lst ((S++(chs k J).map (a::·)).map aZ)),a_ (.int (j:Int)),a_ (.int a),f]):=by simp[dZ,e,g,-rP];rw[e1];simp
  rw[u_,dr,cq];have b:gE (.tp [3,4]) (.tup [.int (j:Int),.int a]) [a_ (.lst (I.map .int)),a_ (.int ((k:Int)+1)),a_ (.lst (S.map aZ)),d,c,Y]=.ok [a_ (.lst (I.map .int)),a_ (.int ((k:Int)+1)),a_ (.lst (S.map aZ)),a_ (.int (j:Int)),a_ (.int a),Y]:=by simp
  rw[b,ai,v,ai];show cq _ _ _ _=_;rw[e2,chs];simp
theorem ql(n:Nat):∀(d k:Nat) (I:am),k<d->I.length<=8->b7 6 2 (bj d) [.lst (I.map .int),.int k]=.ok (.lst ((chs k I).map aZ))
 |0,k,I,h,_=>by lia|d+1,0,I,h,J=>by rw[kq];simp[bj,eG,gD,aZ]|d+1,k+1,I,h,J=>by
  have S:=nW I (k+1);have h2:2^I.length<=2^8:=G5 ag J;obtain⟨b,a,Y,e⟩:=xV n (b7 6 2 (bj d)) I k J (λj=>ql n d k (I.drop j) ac (by rw[Gk];lia)) I 0 [] f_ f_ f_ rfl (by simp;lia);have U:¬((k:Int)+1=0):=ac
  rw[Fs,EM]at e;simp[bj,eG,gD,U,e,-e_run];simp only[e_run,CG,Ke,u_,EM,List.cons_append,Fs,Di];simp[U,e]
theorem yb(n S I J:Nat)(u:S<=41)(p:I<=3)(s:J<=S):cw [.int S,.int I,.int J]=.ok (.lst ((jc S I J).map aZ)):=by
 have e1:oi 0 ((J:Int)-I)=((J-I:Nat):Int):=by unfold oi;split<;>lia
 have e2:mn (S:Int) ((J:Int)+I)=((J_ S (J+I):Nat):Int):=by unfold mn;split<;>lia
 have k1: -4611686018427387904<=((J-I:Nat):Int):=ac
 have k2:((J-I:Nat):Int)<4611686018427387904:=ac
 have k3: -4611686018427387904<=((J_ S (J+I):Nat):Int):=ac
 have m:((J_ S (J+I):Nat):Int)<4611686018427387904:=ac
 have k5:(((J_ S (J+I):Nat):Int)-((J-I:Nat):Int)).toNat=J_ S (J+I)-(J-I):=ac
 have l:(J:Int)-((J-I:Nat):Int)=((J-(J-I):Nat):Int):=ac
 have k:J-I<=16777216:=ac
 have j:J_ S (J+I)-(J-I)<=16777216:=ac
 have r:=ql n 6 (J-(J-I)) (iv ((J-I:Nat):Int) (J_ S (J+I)-(J-I))) ac (by rw[gJ];lia);have i:gc [.lst ((iv ((J-I:Nat):Int) (J_ S (J+I)-(J-I))).map .int),.int ((J-(J-I):Nat):Int)]=.ok (.lst ((chs (J-(J-I)) (iv ((J-I:Nat):Int) (J_ S (J+I)-(J-I)))).map aZ)):=r;have U:=nW (iv ((J-I:Nat):Int) (J_ S (J+I)-(J-I))) (J-(J-I));rw[gJ]at U;have h2:2^(J_ S (J+I)-(J-I))<=2^8:=G5 ag ac;have Y:∀t∈chs (J-(J-I)) (iv ((J-I:Nat):Int) (J_ S (J+I)-(J-I))),t.length<=41:=λt g=>by have:=((iP _ _ _).mp g).1;lia
 generalize q:chs (J-(J-I)) (iv ((J-I:Nat):Int) (J_ S (J+I)-(J-I)))=C at i U Y;have a:∀C:List am,(∀t∈C,t.length<=41)->aO (.nm 0) jr (f2 lq (af 1) (af 0)) [f_,a_ (aZ (iv 0 (J-I)))] (C.map aZ)=.ok ((C.map (iv 0 (J-I)++·)).map aZ):=by
  intro C
  induction C with
  |nil=>intro _;rfl|cons t C d=>
   intro h;have g:=h t ad;have e:J-I+t.length<=16777216:=ac
   rw[u_,aO];have d:=d λx o=>h x (by simp[o]);simp only[l8,DL,ai,e_yes,FK,e_2,BH,BI,d];simp[aZ,lq,gJ,e]
 have b:=a C Y;have f:C.length<=16777216:=ac
 have eb:jc S I J=C.map (iv 0 (J-I)++·):=by unfold jc;rw[q]
 rw[eb];have c:aZ (iv 0 (J-I))=.tup ((iv 0 (J-I)).map .int):=rfl;rw[c]at b;simp[cw,iK,e1,e2,k1,k2,k3,m,k5,iu,gJ,k,j,l,i,f,b,-Dv]
theorem rY(S I J:Nat)(h:I<=3)(Y:J<=S):(jc S I J).length<=256:=by unfold jc;rw[q_];have U:=nW (iv ((J-I:Nat):Int) (J_ S (J+I)-(J-I))) (J-(J-I));rw[gJ]at U;have h2:2^(J_ S (J+I)-(J-I))<=2^8:=G5 ag ac;lia
noncomputable def lkL(k:am):List (am×Nat)->Nat
 |[]=>0|p::r=>if p.1=k then p.2 else lkL k r
noncomputable def uS(b:am):List am:=(CU b.length).map b.eraseIdx
def nS(J I:Nat):Nat->List (am×Nat)
 |0=>[([],1)]|s+1=>(jc J I (s+1)).map λb=>(b,((uS b).map λc=>lkL c (nS J I s)).sum)
def Ct(J I:Nat):jc J I 0=[[]]:=by unfold jc;simp[kq,iv]
noncomputable def totL(l:List (am×Nat)):Nat:=(l.map (·.2)).sum
noncomputable def dD(l:List (am×Nat)):List (am×A'):=l.map λp=>(p.1,.int p.2)
theorem BA(k:am):∀l:List (am×Nat),(jm (dD l) k).getD (.int 0)=.int (lkL k l)
 |[]=>rfl|p::l=>by
  have I:=BA k l;unfold dD jm at I ⊢;rw[u_,EF,lkL];by_cases e:p.1=k
  .rw[n_ e];simp[e]
  .rw[l_ e];simpa[e] using I
theorem tW(k:am):∀l:List (am×Nat),(jm (dD l) k).isSome=CL (k∈l.map (·.1))
 |[]=>rfl|p::l=>by
  have I:=tW k l;unfold dD jm at I ⊢;rw[u_,EF];by_cases e:p.1=k
  .simp[e]
  .have J:¬k=p.1:=λz=>e z.symm;simp only[e,IF];rw[I];simp[J]
def put_new(k:am)(c:Nat)(l:List (am×Nat))(h:k∉l.map (·.1)):ig (dD l) k (.int c)=dD (l++[(k,c)]):=by unfold ig;rw[tW,Dx h];simp[dD]
theorem nV:∀(k:Nat) (I:am),I.Nodup->(chs k I).Nodup
 |0,I,_=>by rw[kq];simp|k+1,[],_=>by simp[chs]|k+1,a::I,h=>by
  rw[FV]at h;rw[chs,Fu];refine⟨?_,nV (k+1) I h.2,λx U y S e=>?_⟩
  .refine JN.mpr ((nV k I h.2).imp λ{x y} J e=>J (by simpa using e))
  .obtain⟨t,_,rfl⟩:=DO.mp U;subst e;exact h.1 (((iP _ _ _).mp S).2.subset ad)
def j7(S I J:Nat):(jc S I J).Nodup:=by unfold jc;exact JN.mpr ((nV _ _ (sU (iG _ _))).imp λ{x y} U e=>U (List.append_cancel_left e))
theorem wt(f:am->Nat):∀l:List am,(l.map λc=>((f c:Nat):Int)).sum=((l.map f).sum:Nat)
 |[]=>rfl|c::l=>by rw[u_,u_,G0,G0,wt f l];simp
theorem xn(n:Nat)(L:List (am×Nat))(Y U S:Option A'):∀(bs:List am) (G:List (am×Nat)) (a:Option A'),(∀b∈bs,b.length<=100)->(G.map (·.1)++bs).Nodup->G.length+bs.length<=1000 ->
  ∃d,cq (.nm 5) (dz) (bs.map aZ) [Y,U,a_ (.dic (dD L)),S,a_ (.dic (dD G)),a]=.ok (.nx [Y,U,a_ (.dic (dD L)),S,a_ (.dic (dD (G++bs.map λb=>(b,((uS b).map λc=>lkL c L).sum)))),d])
 |[],G,a,_,_,_=>⟨a,by simp[cq]⟩|b::bs,G,a,p,g,o=>by
  have k:=p b ad;obtain⟨d,e⟩:=xn n L Y U S bs (G++[(b,((uS b).map λc=>lkL c L).sum)]) (a_ (aZ b)) (λx r=>p x (by simp[r])) (by simpa using g) (by simp at o ⊢;lia);refine⟨d,?_⟩
  have I:aO (.tp [0,1]) jr (rD (af 2) (af 0) (fC (.int 0))) [f_,f_,a_ (.dic (dD L))] ((CU b.length).map λi=>A'.tup [aZ (b.eraseIdx i),.int (b.getD i 0)])=.ok (((uS b).map λc=>((lkL c L:Nat):Int)).map A'.int):=by
   rw[j6 (λi=>A'.tup [aZ (b.eraseIdx i),.int (b.getD i 0)]) (λi=>A'.int (lkL (b.eraseIdx i) L:Nat)) (CU b.length) λi hi=>⟨[a_ (aZ (b.eraseIdx i)),a_ (.int (b.getD i 0)),a_ (.dic (dD L))],ad,?_⟩]
   .simp[uS,Lv]
   .simp only[e_getD,BH,BI,ai,e_isDic,FK,e_c,e_getDD];simp only[aZ,e_keyD,ai,BA]
  have t:b∉G.map (·.1):=λh=>by rw[Fu]at g;exact g.2.2 b h b ad rfl
  have m:(dD G).length<16777216:=by simp[dD];simp at o;lia
  have f:b.length<=16777216:=ac
  have s:(uS b).length<=16777216:=by simp[uS];lia
  have l:dz [Y,U,a_ (.dic (dD L)),S,a_ (.dic (dD G)),a_ (aZ b)]=.ok (.nx [Y,U,a_ (.dic (dD L)),S,a_ (.dic (dD (G++[(b,((uS b).map λc=>lkL c L).sum)]))),a_ (aZ b)]):=by
   have q:il (aZ b)=.ok b:=e_keyD b;have J:sumD [.lst (((uS b).map λc=>((lkL c L:Nat):Int)).map A'.int)]=.ok (.int (((uS b).map λc=>lkL c L).sum:Nat)):=by show((cA _).bind λis=>_)=_;rw[di,ai,wt]
   have j:gz (.int (((uS b).map λc=>lkL c L).sum:Nat))=e_:=rfl;simp[dz,pf 0 0 0 n b k,I,J,f,q,m,j,put_new _ _ _ t,-Dv,-CH]
  rw[u_,cq];simp only[l8,D9,DL,ai,l];rw[e];simp
def iv_snoc:∀(m:Nat) (a:Int),iv a (m+1)=a::iv (a+1) m:=λ_ _=>rfl
theorem wU(n J I:Nat)(l:J<=41)(f:I<=3):∀(m s:Nat) (a Y U:Option A'),s+m<=J ->
  ∃q p d,cq (.nm 3) (dw) ((iv ((s:Int)+1) m).map .int) [a_ (.int J),a_ (.int I),a_ (.dic (dD (nS J I s))),a,Y,U]=.ok (.nx [a_ (.int J),a_ (.int I),a_ (.dic (dD (nS J I (s+m)))),q,p,d])
 |0,s,a,Y,U,_=>⟨a,Y,U,by simp[cq,iv]⟩|m+1,s,a,Y,U,h=>by
  have g:∀b∈jc J I (s+1),b.length<=100:=λb i=>by have:=((gk ac b).mp i).len;lia
  have o:(jc J I (s+1)).length<=256:=rY J I (s+1) f ac;obtain⟨d,e⟩:=xn n (nS J I s) (a_ (.int J)) (a_ (.int I)) (a_ (.int ((s:Int)+1))) (jc J I (s+1)) [] U g (by simpa using j7 J I (s+1)) (by simp;lia);have v:(jc J I (s+1)).map (λb=>(b,((uS b).map λc=>lkL c (nS J I s)).sum))=nS J I (s+1):=rfl;rw[Fs,v]at e;obtain⟨u,t,r,e2⟩:=wU n J I l f m (s+1) (a_ (.int ((s:Int)+1))) (a_ (.dic (dD (nS J I (s+1))))) d ac;have e3:s+1+m=s+(m+1):=ac
  rw[e3]at e2;refine⟨u,t,r,?_⟩
  have S:=yb n J I (s+1) l f ac;have k:((s+1:Nat):Int)=(s:Int)+1:=ac
  rw[k]at S e2;have j:dD []=[]:=rfl;rw[j]at e;have i:dw [a_ (.int J),a_ (.int I),a_ (.dic (dD (nS J I s))),a_ (.int ((s:Int)+1)),Y,U]=.ok (.nx [a_ (.int J),a_ (.int I),a_ (.dic (dD (nS J I (s+1)))),a_ (.int ((s:Int)+1)),a_ (.dic (dD (nS J I (s+1)))),d]):=by simp[dw,S,e]
  rw[iv_snoc,u_,cq];simp only[l8,D9,DL,ai,i];rw[e2]
def tot_ints(l:List (am×Nat)):cA ((dD l).map (·.2))=.ok (l.map λp=>(p.2:Int))/\(l.map λp=>(p.2:Int)).sum=(totL l:Nat):=by
 constructor
 .have:(dD l).map (·.2)=(l.map λp=>(p.2:Int)).map A'.int:=by simp[dD,Lv]
  rw[this,di]
 .unfold totL
  induction l with
  |nil=>rfl|cons p l I=>rw[u_,u_,G0,G0,I];simp
theorem qY(n I J:Nat)(a:I<=41)(Y:J<=3):aU [.int I,.int J]=.ok (.int (totL (nS I J I):Nat)):=by
 obtain⟨f,d,c,e⟩:=wU n I J a Y I 0 f_ f_ f_ ac;rw[Lq]at e;have b:dD (nS I J 0)=[([],.int 1)]:=rfl;rw[b]at e;have k1:(-4611686018427387904:Int)<=(I:Int)+1:=ac
 have k2:(I:Int)+1<4611686018427387904:=ac
 have k3:((I:Int)+1-1).toNat=I:=ac
 have e1:(((0:Nat):Int)+1)=1:=rfl;rw[e1]at e;obtain⟨U,S⟩:=tot_ints (nS I J I);simp[aU,ke,k1,k2,k3,iu,e,U,S,-Dv]
end
theorem Bn(f:am->Nat)(c:am):∀bs:List am,lkL c (bs.map λb=>(b,f b))=if c∈bs then f c else 0
 |[]=>by simp[lkL]|b::bs=>by
  rw[u_,lkL];by_cases e:b=c
  .simp[e]
  .rw[l_ e,Bn f c bs];simp[D6 e]
def r9(J I k:Nat)(c:am):lkL c (nS J I (k+1))=if c∈jc J I (k+1)then((uS c).map λd=>lkL d (nS J I k)).sum else 0:=
 Bn (λb=>((uS b).map λc=>lkL c (nS J I k)).sum) c _
theorem Beg.more{s:Nat}(h:Beg m s k b):Beg (m+1) s k b:=⟨h.rise,h.len,h.sure,λx I=>⟨(h.bnd x I).1,by have:=(h.bnd x I).2.1;lia,(h.bnd x I).2.2⟩⟩
theorem sum_le{α:Type}{f g:α->Nat}:∀l:List α,(∀x∈l,f x<=g x)->(l.map f).sum<=(l.map g).sum
 |[],_=>m_ _|x::l,h=>by have h1:=h x ad;have h2:=sum_le l λy I=>h y (by simp[I]);simp only[u_,G0];lia
theorem ux(m s:Nat):∀(k:Nat) (c:am),k<=m->lkL c (nS m s k)<=lkL c (nS (m+1) s k)
 |0,c,_=>m_ _|k+1,c,h=>by
  rw[r9,r9];by_cases e:c∈jc m s (k+1)
  .rw[n_ e,n_ ((gk ac c).mpr ((gk h c).mp e).more)];exact sum_le _ λd _=>ux m s k d ac
  .rw[l_ e];exact DU _
theorem Bt:∀(m:Nat) (a:Int),iv a (m+1)=iv a m++[a+m]
 |0,a=>by simp[iv]|m+1,a=>by rw[iv,Bt m (a+1),iv];simp;lia
theorem beg_full{s:Nat}(h:Beg m s m b):b=iv 0 m:=
 ((Au m 0 b).mpr ⟨h.rise,λx I=>⟨(h.bnd x I).1,by have:=(h.bnd x I).2.1;lia⟩⟩).eq_of_length (by rw[h.len,gJ])
theorem xt(m s:Nat):Beg m s m (iv 0 m):=⟨iG m 0,gJ m 0,λi h0 h1=>(k7 m 0 i).mpr ⟨h0,ac⟩,λx I=>by have:=(k7 m 0 x).mp I;lia⟩
def o8(m s:Nat):jc m s m=[iv 0 m]:=by
 have h1:∀b∈jc m s m,b=iv 0 m:=λb I=>beg_full ((gk (m_ m) b).mp I);have h2:iv 0 m∈jc m s m:=(gk (m_ m) _).mpr (xt m s);have J:=j7 m s m
 match I:jc m s m with
 |[]=>rw[I]at h2;cases h2|[b]=>rw[I]at h1;rw[h1 b ad]|b::c::r=>rw[I]at h1 J;have e1:=h1 b ad;have e2:=h1 c ad;rw[e1,e2]at J;simp at J
def tot(m s:Nat):Nat:=totL (nS m s m)
def tot_eq(m s:Nat):tot m s=lkL (iv 0 m) (nS m s m):=by
 cases m with
 |zero=>rfl|succ m=>rw[r9,n_ (by rw[o8];simp)];show(((jc (m+1) s (m+1)).map λb=>(b,((uS b).map λc=>lkL c (nS (m+1) s m)).sum)).map (·.2)).sum=_;rw[o8];simp
theorem pJ{α:Type}(f:α->Nat):∀{l:List α} {x:α},x∈l->f x<=(l.map f).sum
 |y::l,x,h=>by
  simp only[u_,G0];rcases r_.mp h with e|e
  .rw[e];lia
  .have:=pJ f e;lia
def tot_mono(m s:Nat):tot m s<=tot (m+1) s:=by
 rw[tot_eq,tot_eq (m+1),r9,n_ (by rw[o8];simp)];refine DJ (ux m s m (iv 0 m) (m_ m)) (pJ (λd=>lkL d (nS (m+1) s m)) ?_);refine DO.mpr ⟨m,by rw[gJ];simp,?_⟩;rw[Bt];have:m=(iv 0 m).length:=(gJ m 0).symm
 conv=>lhs;arg 2;rw[this]
 rw[Jy (m_ _)];simp
theorem wj(s m:Nat):∀d:Nat,tot m s<=tot (m+d) s
 |0=>m_ _|d+1=>DJ (wj s m d) (tot_mono (m+d) s)
section
variable(CR CP CT:i_)
theorem eC(n:Nat){s c:Nat}(J:m<=41)(I:s<=3)(h:aU [.int m,.int s]=.ok (.int c)):tot m s=c:=by have:=qY n m s J I;rw[h]at this;have:=A'.int.inj (EU this);unfold tot;lia
theorem tots_0:tot 19 1=6765:=eC 0 ac ac (by kernel_rfl)
theorem tots_1:tot 11 2=5081:=eC 0 ac ac (by kernel_rfl)
theorem tots_2:tot 9 3=6404:=eC 0 ac ac (by kernel_rfl)
theorem tots_3:tot 8 1=34:=eC 0 ac ac (by kernel_rfl)
theorem tots_4:tot 7 2=172:=eC 0 ac ac (by kernel_rfl)
theorem tots_5:tot 6 3=230:=eC 0 ac ac (by kernel_rfl)
theorem tots:tot 19 1=6765/\tot 11 2=5081/\tot 9 3=6404/\tot 8 1=34/\tot 7 2=172/\tot 6 3=230:=⟨tots_0,tots_1,tots_2,tots_3,tots_4,tots_5⟩
end
theorem ltL_le{a b:LK}(h:ltL b a=c_):a.1<=b.1:=by
 unfold ltL at h;by_cases e:b.1=a.1
 .lia
 .rw[l_ e,JQ]at h;lia
theorem kU:∀(ls I:a5),(I.map (·.2)).Nodup->(∀x∈I,∀y∈ls,x.1<=y.1)->ls.Pairwise (λa b=>a.1<=b.1)->((ls.foldl ij I).map (·.2)).Nodup
 |[],_,h,_,_=>h|l::ls,I,h,d,U=>by
  rw[D_]at U;rw[Dy];unfold ij;split
  .exact kU ls I h (λx J y S=>d x J y (by simp[S])) U.2
  .rename_i f;refine kU ls (I++[l]) ?_ (λx J y S=>?_) U.2
   .rw[Kd,Fu];refine⟨h,ad,λa g b Y e=>f ?_⟩
    obtain⟨x,J,rfl⟩:=DO.mp g;have c:b=l.2:=by simpa using Y
    rw[Ib];refine⟨x,J,?_⟩
    unfold nw;rw[e,c,rg,El (d x J l ad)];rfl
   .rcases DM.mp J with z|z
    .exact d x z y (by simp[S])
    .rw[CO.mp z];exact U.1 y S
def zT(ks:a5):((rX ks).map (·.2)).Nodup:=
 kU _ [] ad (λx I=>nomatch I) ((iH ordL ks).imp λh=>ltL_le h)
theorem wX{α:Type}[FD α]:∀{l m:List α},l.Nodup->(∀x∈l,x∈m)->l.length<=m.length
 |[],m,_,_=>DU _|a::l,m,h,J=>by rw[FV]at h;have S:=J a ad;have:=wX (l:=l) (m:=m.erase a) h.2 λx I=>(List.mem_erase_of_ne (show x≠a from λe=>h.1 (e▸I))).mpr (J x (by simp[I]));rw[List.length_erase_of_mem S]at this;have:=List.length_pos_of_mem S;simp;lia
def allL:Nat->List (List am)
 |0=>[[]]|s+1=>(iv (-1) 132).flatMap λx=>(allL s).map λL=>[x]::L
def allL_len:(allL 1).length=132/\(allL 2).length=17424:=⟨by decide +kernel,by decide +kernel⟩
def LastOk(L:List am):Prop:=∀r∈L,∀x∈r,x<=130
theorem yf:∀(s:Nat) {L:List am},lX s 1 L->geL L->LastOk L->L∈allL s
 |0,L,h,_,_=>by
  have:=h.1;cases L with
  |nil=>simp[allL]|cons r L=>simp at this
 |s+1,L,h,S,J=>by
  cases L with
  |nil=>have:=h.1;simp at this|cons r L=>
   have I:=h.2 r ad
   match r,I with
   |[x],_=>refine MG.mpr ⟨x,(k7 132 (-1) x).mpr ?_,DO.mpr ⟨L,yf s ⟨by have:=h.1;simpa using this,λr I=>h.2 r (by simp[I])⟩ (λr I=>S r (by simp[I])) (λr I=>J r (by simp[I])),rfl⟩⟩;have h1:=S [x] ad x ad;have h2:=J [x] ad x ad;lia
structure V.One(v:V):Prop where
 k:v.g.k=1
 last:∀f∈v.fl,f.last<=130
structure V.Few(v:V)(P:Pap):Prop where
 lab:Labs v P
 low:∀b,∀l∈look P b,LastOk l.2
 few:∀b,(look P b).length<=17424
def V.Few.nil(v:V):v.Few []:=⟨λb l h=>(by cases h),λb l h=>(by cases h),λb=>(by simp[look])⟩
section
variable{P:Pap}{c:List Int}
theorem V.Good.f_mem(I:q<v.fl.length):v.f q∈v.fl:=(getFl (fl:=v.fl) (i:=(q:Int)) ac ac).2
theorem V.beh_low(h1:v.One){s:Nat}(U:LastOk l.2)(c:Lab v.g l)(b:q<v.fl.length)(Y:s<v.g.s)(h:v.beh l q s=a_ l'):LastOk l'.2:=by
 unfold V.beh at h;split at h
 .cases h
 .rename_i d;cases h;intro r a x I;have J:r∈l.2.set s ((xh l.2 s).set (v.f q).kind.toNat (v.bt l q s)):=a;rcases Gs J with z|z
  .exact U r z x I
  .rw[z]at I;rcases wZ I with S|S
   .exact U _ (mw c.good Y).1 x S
   .have:=h1.last _ (V.Good.f_mem b);lia
theorem V.Few.ents(hv:v.Good)(h1:v.One)(h:v.Few P)(b:∀x∈c,0<=x/\x<v.fl.length):(∀l∈v.ent P c,Lab v.g l/\LastOk l.2)/\(v.ent P c).length<=17424:=by
 have key:∀l∈v.ent P c,Lab v.g l/\LastOk l.2:=λl I=>by
  unfold V.ent at I;split at I
  .rw[CO.mp I];refine⟨v.l0_lab,λr U x J=>?_⟩
   have h1:r∈Di v.g.s (Di v.g.k (-1)):=U;rw[FC h1]at J;rw[FC J];decide
  .obtain⟨i,hi,l',e1,s,e2,e3⟩:=v.behs_mem.mp (ya I);have:=b _ (getD_in hi);exact⟨hv.beh_lab (h.lab _ l' e1) ac e2 e3,V.beh_low h1 (h.low _ l' e1) (h.lab _ l' e1) ac e2 e3⟩
 refine⟨key,?_⟩
 have Y:((v.ent P c).map (·.2)).Nodup:=by
  unfold V.ent;split
  .simp
  .exact zT _
 have a:∀L∈(v.ent P c).map (·.2),L∈allL v.g.s:=λL d=>by obtain⟨l,I,rfl⟩:=DO.mp d;obtain⟨k1,k2⟩:=key l I;have:=k1.good;rw[h1.k]at this;exact yf _ this k1.ge k2
 have:=wX Y a;rw[q_]at this;obtain⟨g,f⟩:=allL_len;have S:v.g.s=1\/v.g.s=2:=by have:=v.g.s2;lia
 rcases S with e|e<;>rw[e]at this<;>lia
def xa(I:c∉P.map (·.1)):look (P++[(c,ls)]) c=ls:=by rw[xb,l_ I];simp[look]
def r6(I:b≠c):look (P++[(c,ls)]) b=look P b:=by
 rw[xb];split
 .rfl
 .rename_i J;rw[tM J,tM];simpa using I
def V.Few.next(hv:v.Good)(h1:v.One)(h:v.Few P)(S:c∉P.map (·.1))(U:∀x∈c,0<=x/\x<v.fl.length):v.Few (P++[(c,v.ent P c)]):=by
 obtain⟨e1,e2⟩:=h.ents hv h1 U;have J:∀b,look (P++[(c,v.ent P c)]) b=v.ent P c\/look (P++[(c,v.ent P c)]) b=look P b:=λb=>by
  by_cases e:b=c
  .rw[e];exact .inl (xa S)
  .exact .inr (r6 e)
 refine⟨λb l I=>?_,λb l I=>?_,λb=>?_⟩
 .rcases J b with e|e<;>rw[e]at I
  .exact(e1 l I).1
  .exact h.lab b l I
 .rcases J b with e|e<;>rw[e]at I
  .exact(e1 l I).2
  .exact h.low b l I
 .rcases J b with e|e<;>rw[e]
  .exact e2
  .exact h.few b
theorem V.Few.room(h:v.Few P)(I:c.length<=40):v.g.s*17424*c.length<16777216/\(v.oV P c).length<16777216:=by
 obtain⟨U,S⟩:=v.g.s2;have h1:v.g.s*17424*c.length<=2*17424*40:=IY ac I;have h2:=v.yh P 17424 (smL c) [] λp _=>h.few p.1;have J:(smL c).length=c.length:=by simp[smL]
 rw[J]at h2;unfold V.oV;simp at h2;lia
end
section
variable(CR CP CT:i_)
theorem pE(n:Nat)(U:CR≠CP){v:V}(hv:v.Good)(h1:v.One)(g:Option A'):∀(B:List am) (P:Pap) (j:Option A'),v.Few P->(P.map (·.1)++B).Nodup->(∀b∈B,(∀x∈b,0<=x/\x<v.fl.length)/\b.length<=40)->(P.map (·.1)++B).length<16777216->v.Few (v.pap P B)/\∃k,
  cq (.nm 5) (eN CR CP CT n) (B.map aZ) [a_ (ax CR CP v.g.rows v.g.o),a_ (.lst (v.fl.map flD)),a_ (.lst (v.cs.map stD)),g,a_ (.dic (jI P)),j]=.ok (.nx [a_ (ax CR CP v.g.rows v.g.o),a_ (.lst (v.fl.map flD)),a_ (.lst (v.cs.map stD)),g,a_ (.dic (jI (v.pap P B))),k])
 |[],P,j,h,_,_,_=>⟨h,j,rfl⟩|b::B,P,j,h,u,w,s=>by
  have a:b∉P.map (·.1):=λz=>(Fu.mp u).2.2 b z b ad rfl;obtain⟨f,J⟩:=w b ad;have C:=h.next hv h1 a f
  have t:(P++[(b,v.ent P b)]).map (·.1)++B=P.map (·.1)++b::B:=by simp
  obtain⟨D,k,A⟩:=pE n U hv h1 g B (P++[(b,v.ent P b)]) (a_ (aZ b)) C (by rw[t];exact u) (λc E=>w c (by simp[E])) (by rw[t];exact s);refine⟨D,k,?_⟩
  have l:=AM (v.ent P b);have Y:(jI P).length<16777216:=by simp only[CM,q_]at s;simp only[jI,q_];lia
  have I:=put_dicP b P (v.ent P b) a;have r:=(ne_tup b).1;have q:eN CR CP CT n [a_ (ax CR CP v.g.rows v.g.o),a_ (.lst (v.fl.map flD)),a_ (.lst (v.cs.map stD)),g,a_ (.dic (jI P)),a_ (aZ b)]=.ok (.nx [a_ (ax CR CP v.g.rows v.g.o),a_ (.lst (v.fl.map flD)),a_ (.lst (v.cs.map stD)),g,a_ (.dic (jI (P++[(b,v.ent P b)]))),a_ (aZ b)]):=by
   by_cases e:b=[]
   .have m:=u5 CR CP CT n U hv.g;have o:v.ent P b=[v.l0]:=by unfold V.ent;rw[n_ e]
    have hd:mE (v.ent P b)=.lst [bD 0 (L0 v.g)]:=by rw[o];rfl
    rw[hd]at l I;have S:eqM (aZ b) (.tup [])=.ok (.bl e_):=by rw[r,e];rfl
    rw[<- I];simp[eN,iR,S,m,tQ,l,Y,ik]
   .have o:v.ent P b=rX (v.oV P b):=by unfold V.ent;rw[l_ e]
    have S:eqM (aZ b) (.tup [])=.ok (.bl c_):=by
     rw[r];cases b with
     |nil=>exact CQ rfl e|cons x b=>rfl
    obtain⟨y,r2⟩:=h.room J;have p:=Cq CR CP CT n U hv P h.lab 17424 b f J (λi _=>h.few _) y;have d:=best_ok n (v.oV P b) r2;rw[<- o]at d;rw[<- I];simp[eN,iR,S,p,d,tQ,l,Y,ik]
  rw[u_,cq,l8,ai];simp only[D9,DL];rw[q,ai];exact A
end
theorem foldl_congr{α β:Type}{f g:β->α->β}:∀(l:List α) (b:β),(∀x∈l,∀b,f b x=g b x)->l.foldl f b=l.foldl g b
 |[],_,_=>rfl|x::l,b,h=>by rw[Dy,Dy,h x ad];exact foldl_congr l _ λy I=>h y (by simp[I])
theorem V.zU(v:V){P:Pap}(h:∀c:am,c.length<b.length->look P c=look Q c):v.oV P b=v.oV Q b:=by unfold V.oV;refine foldl_congr _ _ λx I ks=>?_;obtain⟨i,hi,rfl⟩:=DO.mp I;have hi:=DH.mp hi;unfold V.yi;rw[h (b.eraseIdx i) (by have:=kj hi;lia)]
def V.BF(v:V){P:Pap}(h:∀c:am,c.length<b.length->look P c=look Q c):v.ent P b=v.ent Q b:=by unfold V.ent;rw[v.zU h]
def V.mh(v:V)(P:Pap)(b:am)(B:List am):v.pap P (b::B)=v.pap (P++[(b,v.ent P b)]) B:=rfl
theorem V.qP(v:V):∀(B:List am) (P:Pap),(v.pap P B).map (·.1)=P.map (·.1)++B
 |[],P=>by simp[V.pap]|b::B,P=>by rw[v.mh,v.qP B];simp
theorem V.qZ(v:V){c:am}:∀(B:List am) (P:Pap),c∉B->look (v.pap P B) c=look P c
 |[],P,_=>rfl|b::B,P,h=>by simp only[r_,not_or]at h;rw[v.mh,v.qZ B _ h.2,r6 h.1]
theorem V.wR(v:V):∀(B:List am) (P:Pap),(P.map (·.1)++B).Nodup->B.Pairwise (λa b=>a.length<=b.length)->∀b∈B,look (v.pap P B) b=v.ent (v.pap P B) b
 |b::B,P,J,I,c,g=>by
  rw[D_]at I;have f:(P++[(b,v.ent P b)]).map (·.1)++B=P.map (·.1)++b::B:=by simp
  have Y:b∉B:=by have:=(Fu.mp J).2.1;rw[FV]at this;exact this.1
  have U:b∉P.map (·.1):=λz=>(Fu.mp J).2.2 b z b ad rfl;rcases r_.mp g with e|e
  .subst e;rw[v.mh,v.qZ B _ Y,xa U];refine v.BF λd hd=>?_;have S:d∉B:=λz=>by have:=I.1 d z;lia
   rw[v.qZ B _ S,r6 (λz=>by rw[z]at hd;lia)]
  .rw[v.mh];exact v.wR B _ (by rw[f];exact J) I.2 c e
def BL(m s:Nat):List am:=(CU (m+1)).flatMap (jc m s)
theorem yn{s:Nat}:b∈BL m s↔∃k,k<=m/\Beg m s k b:=by
 unfold BL;rw[MG];constructor
 .rintro⟨k,I,J⟩;have I:=DH.mp I;exact⟨k,ac,(gk ac b).mp J⟩
 .rintro⟨k,I,J⟩;exact⟨k,DH.mpr ac,(gk I b).mpr J⟩
theorem pZ{m s:Nat}:∀(j r:Nat),j+r<=m+1->((HF j r).flatMap (jc m s)).Nodup/\((HF j r).flatMap (jc m s)).Pairwise (λa b=>a.length<=b.length)/\∀b∈(HF j r).flatMap (jc m s),j<=b.length
 |j,0,_=>⟨ad,ad,ad⟩|j,r+1,h=>by
  obtain⟨h1,h2,U⟩:=pZ (m:=m) (s:=s) (j+1) r ac;have J:∀b∈jc m s j,b.length=j:=λb I=>((gk ac b).mp I).len;rw[JZ,HI];refine⟨?_,?_,λb I=>?_⟩
  .rw[Fu];refine⟨j7 m s j,h1,λa S b I e=>?_⟩
   have Y:=J a S;have g2:=U b I;rw[e]at Y;lia
  .rw[Eh];refine⟨?_,h2,λa S b I=>?_⟩
   .exact Jz (λ{a b} S I _=>by rw[J a S,J b I];exact m_ _) (j7 m s j)
   .have:=J a S;have:=U b I;lia
  .rcases DM.mp I with z|z
   .rw[J b z];exact m_ _
   .have:=U b z;lia
theorem BL_ok(m s:Nat):(BL m s).Nodup/\(BL m s).Pairwise (λa b=>a.length<=b.length):=by have:=pZ (m:=m) (s:=s) 0 (m+1) ac;unfold BL;rw[IT];exact⟨this.1,this.2.1⟩
def CF(m s:Nat):(BL m s).head? =a_ []:=by unfold BL;rw[FQ,HI,Ct];rfl
theorem xv{m s:Nat}(I:s<=3):∀l:aC,(∀k∈l,k<=m)->(l.flatMap (jc m s)).length<=256*l.length
 |[],_=>by simp|k::l,h=>by have h1:=rY m s k I (h k ad);have h2:=xv I l λj J=>h j (by simp[J]);rw[HI,CM,CG];lia
theorem BL_len{s:Nat}(S:m<=41)(I:s<=3):(BL m s).length<=11000:=by
 have:=xv (m:=m) (s:=s) I (CU (m+1)) λk J=>by have:=DH.mp J;lia
 rw[F9]at this;unfold BL;lia
section
variable(CR CP CT:i_)
theorem yc(n:Nat){m s:Nat}(a:m<=41)(U:s<=3):∀(r j:Nat) (I:List am) (J:Option A'),j+r<=m+1->I.length+256*r<=100000->∃S,
  cq (.nm 3) (cn) ((iv j r).map .int) [a_ (.int m),a_ (.int s),a_ (.lst (I.map aZ)),J]=.ok (.nx [a_ (.int m),a_ (.int s),a_ (.lst ((I++(HF j r).flatMap (jc m s)).map aZ)),S])
 |0,j,I,J,_,_=>⟨J,by simp[cq,iv]⟩|r+1,j,I,J,h1,h2=>by
  have f:=rY m s j U ac;obtain⟨S,e⟩:=yc n a U r (j+1) (I++jc m s j) (a_ (.int j)) ac (by simp;lia);refine⟨S,?_⟩
  have c:=yb n m s j a U ac;have b:(I.map aZ).length+((jc m s j).map aZ).length<=16777216:=by simp;lia
  have Y:cn [a_ (.int m),a_ (.int s),a_ (.lst (I.map aZ)),a_ (.int j)]=.ok (.nx [a_ (.int m),a_ (.int s),a_ (.lst ((I++jc m s j).map aZ)),a_ (.int j)]):=by simp only[q_]at b;simp[cn,c,b]
  rw[iv,u_,cq,l8,ai];simp only[D9,DL];rw[Y,ai];have d:((j:Int)+1)=((j+1:Nat):Int):=ac
  simp only[d];rw[e,JZ,HI,Dp]
theorem all_ok(n:Nat){s:Nat}(J:m<=41)(I:s<=3):bY [.int m,.int s]=.ok (.lst ((BL m s).map aZ)):=by
 obtain⟨U,e⟩:=yc n J I (m+1) 0 [] f_ ac (by simp;lia);have k1:(-4611686018427387904:Int)<=(m:Int)+1:=ac
 have k2:(m:Int)+1<4611686018427387904:=ac
 have k3:((m:Int)+1).toNat=m+1:=ac
 rw[<- IT]at e;have S:((0:Nat):Int)=0:=rfl;rw[S]at e;simp only[Fs,EM]at e;unfold BL;simp[bY,i6,k1,k2,k3,iu,e]
theorem wQ(n:Nat)(I:CR≠CP)(hv:v.Good)(h1:v.One){s:Nat}(S:s<=3)(Y:aU [.int v.fl.length,.int s]=.ok (.int c))(l:c*v.g.s^v.fl.length<=5000):v.Few (v.pap [] (BL v.fl.length s))/\cb CR CP CT n [ax CR CP v.g.rows v.g.o,.lst (v.fl.map flD),.lst (v.cs.map stD),.int s]=.ok (.dic (jI (v.pap [] (BL v.fl.length s)))):=by
 have i:=hv.many;have f:=(BL_ok v.fl.length s).1;have o:=BL_len (m:=v.fl.length) (s:=s) ac S;obtain⟨U,h,e⟩:=pE CR CP CT n I hv h1 (a_ (.int s)) (BL v.fl.length s) [] f_ (V.Few.nil v) (by simpa using f) (λb a=>by obtain⟨k,j,g⟩:=yn.mp a;exact⟨λx J=>⟨(g.bnd x J).1,(g.bnd x J).2.1⟩,by rw[g.len];lia⟩) (by simp;lia)
 refine⟨U,?_⟩
 have h1:=mP CR CP CT n I (v:=v) (m:=v.fl.length) ac rfl Y;rw[l_ ac]at h1;have h2:=all_ok n (m:=v.fl.length) ac S;have d:jI []=[]:=rfl;rw[d]at e;simp[cb,kZ,h1,h2,e]
end
theorem n6(n:Nat):∀L:List am,mj (L.map aZ) (n+2)=e_
 |[]=>rfl|r::L=>by simp[mj,G',aZ,vk,n6 n L]
def ne_tups(L:List am):neM (.lst (L.map aZ)) (.lst (L.map aZ))=.ok (.bl c_):=by
 have h:G' (.lst (L.map aZ)) 40=e_:=by rw[G'];exact n6 _ L
 unfold neM;rw[h];simp[mD h]
def eq_first(l:LK):eqM (mE [l]) (.lst [Lake.bD l])=.ok (.bl e_):=by
 have h:G' (.lst [Lake.bD l]) 40=e_:=by simp[Lake.bD,G',mj,n6]
 show eqM (.lst [Lake.bD l]) (.lst [Lake.bD l])=_;unfold eqM;rw[h];simp[mD h]
theorem get_at(b:am):∀P:Pap,b∈P.map (·.1)->jm (jI P) b=a_ (mE (look P b))
 |[],h=>by cases h|p::P,h=>by
  unfold jm jI look;rw[u_,EF,EF];by_cases e:p.1=b
  .simp[e]
  .have I:b∈P.map (·.1):=by
    rcases r_.mp h with z|z
    .exact CQ z.symm e
    .exact z
   have:=get_at b P I;unfold jm jI look at this;simpa[e] using this
theorem pF:∀ls:a5,hG (ls.map λl=>A'.tup [Lake.bD l,.bl e_])=.ok ls
 |[]=>rfl|l::ls=>by rw[u_];show(mv (Lake.bD l)).bind _=_;rw[jZ,ai,pF ls];rfl
theorem xu(x:LK):∀(ls I:a5),x∈ls.foldl Lake.putL I↔x∈I\/x∈ls
 |[],I=>by simp|l::ls,I=>by rw[Dy,xu x ls,wJ,r_];exact or_assoc
theorem qo{α:Type}:∀l:List α,eK (l.map λ_=>A'.bl e_)=.ok (l.map λ_=>e_)
 |[]=>rfl|a::l=>by rw[u_,eK,qo l];rfl
def all_true{α:Type}(l:List α):allD [.lst (l.map λ_=>A'.bl e_)]=.ok (.bl e_):=by rw[e_all,qo,ai];simp
theorem xU{α:Type}{p:Pat}{ft:ae->M Bool}{fe:ae->M A'}{ρ0:ae}(g f:α->A')(t:α->Bool):∀(L:List α),(∀x∈L,∃ρ,gE p (g x) ρ0=.ok ρ/\ft ρ=.ok (t x)/\(t x=e_->fe ρ=.ok (f x)))->aO p ft fe ρ0 (L.map g)=.ok ((L.filter t).map f)
 |[],_=>rfl|x::L,h=>by
  obtain⟨ρ,h1,h2,S⟩:=h x ad;have I:=xU g f t L λy J=>h y (by simp[J]);rw[u_,aO,h1,ai,h2,ai];by_cases c:t x=e_
  .simp[c,S c,I]
  .simp[c,I]
section
variable(CR CP CT:i_)
def has_dil(n:Nat)(ls:a5)(l:LK):aS [.dil ls,Lake.bD l]=.ok (.bl (ls.any λx=>nw x l)):=by
 rcases rn n (a_ (.dil ls)) l ls f_ with⟨h1,h2⟩|⟨h1,I,h2⟩
 .simp[aS,cM,h1,h2]
 .simp[aS,cM,h1,h2]
theorem right_ok(n:Nat)(f:CR≠CP)(hv:v.Good){P:Pap}(h:v.Few P)(D:b∈P.map (·.1))(J:look P b=v.ent P b)(r:∀x∈b,0<=x/\x<v.fl.length)(U:b.length<=40):bJ CR CP CT n [ax CR CP v.g.rows v.g.o,.lst (v.fl.map flD),.lst (v.cs.map stD),.dic (jI P),aZ b]=.ok (.bl e_):=by
 have a:ixKD (.dic (jI P)) (aZ b)=.ok (mE (look P b)):=by rw[BK,tQ,ai,get_at b P D]
 have u:=(ne_tup b).1;by_cases e:b=[]
 .have o:=u5 CR CP CT n f hv.g;have p:look P b=[v.l0]:=by rw[J];unfold V.ent;rw[n_ e]
  have Y:eqM (aZ b) (.tup [])=.ok (.bl e_):=by rw[u,e];rfl
  have C:eqM (mE [v.l0]) (.lst [bD 0 (L0 v.g)])=.ok (.bl e_):=eq_first v.l0;rw[p]at a;simp[bJ,fE,dU,Y,a,o,C,-BK]
 .have Y:eqM (aZ b) (.tup [])=.ok (.bl c_):=by
   rw[u];cases b with
   |nil=>exact CQ rfl e|cons x b=>rfl
  have p:look P b=rX (v.oV P b):=by rw[J];unfold V.ent;rw[l_ e]
  obtain⟨w,r2⟩:=h.room (c:=b) U;have q:=Cq CR CP CT n f hv P h.lab 17424 b r U (λi _=>h.few _) w;generalize t:(look P b).foldl Lake.putL []=T;have S:∀x,x∈T↔x∈rX (v.oV P b):=λx=>by rw[<- t,xu,<- p];simp
  have H:aO (.nm 0) jr (fL cV (aa (af 0) (aa (fC (.bl e_)) aD))) [f_] ((look P b).map Lake.bD)=.ok ((look P b).map λl=>A'.tup [Lake.bD l,.bl e_]):=
   j6 Lake.bD _ _ λl _=>⟨[a_ (Lake.bD l)],ad,ad⟩
  have j:(look P b).length<=16777216:=by have:=h.few b;lia
  have E:xN [.lst ((look P b).map λl=>A'.tup [Lake.bD l,.bl e_])]=.ok (.dil T):=by rw[xC,pF,ai,t]
  have m:∀x∈T,inLD (Lake.bD x) (.dil (v.oV P b))=.ok (.bl e_):=λx B=>by show(mv (Lake.bD x)).bind _=_;rw[jZ,ai,El (ya ((S x).mp B))]
  have G:aO (.nm 0) jr (f2 inLD (af 0) (af 1)) [f_,a_ (.dil (v.oV P b))] (T.map Lake.bD)=.ok (T.map λ_=>A'.bl e_):=
   j6 Lake.bD _ _ λl k=>⟨[a_ (Lake.bD l),a_ (.dil (v.oV P b))],ad,by simp[m l k]⟩
  have s:T.length<=16777216:=by
   have:∀ls I:a5,(ls.foldl Lake.putL I).length<=I.length+ls.length:=λls=>by
    induction ls with
    |nil=>intro I;simp|cons l ls z=>intro I;have h1:=z (Lake.putL I l);have h2:=wK I l;rw[Dy,CG];lia
   have h1:=this (look P b) [];rw[t]at h1;have:=h.few b;simp at h1;lia
  have d:∀x,qV (Lake.bD x) (.dil T)=.ok (.bl !decide (x∈T)):=λx=>by show(mv (Lake.bD x)).bind _=_;rw[jZ,ai]
  have F:aO (.nm 0) (fB (f2 qV (af 0) (af 1))) (fL (aS) (aa (af 1) (aa (af 0) aD))) [f_,a_ (.dil T)] ((v.oV P b).map Lake.bD)=.ok (((v.oV P b).filter λx=> !decide (x∈T)).map λ_=>A'.bl e_):=
   xU Lake.bD _ _ _ λl k=>⟨[a_ (Lake.bD l),a_ (.dil T)],ad,by simp[d l],λ_=>by obtain⟨y,A,hw⟩:=best_cov k;have:(T.any λx=>nw x l)=e_:=Ib.mpr ⟨y,(S y).mpr A,hw⟩;simp[has_dil n,this]⟩
  have g:(v.oV P b).length<=16777216:=ac
  have L:=all_true T;have K:=all_true ((v.oV P b).filter λx=> !decide (x∈T));simp[bJ,fE,dU,gM,Y,a,q,H,E,G,F,L,K,j,s,g,mE,-BK,-xC,-e_all]
theorem zt(n:Nat)(J:CR≠CP)(hv:v.Good)(h1:v.One){s:Nat}(U:s<=3)(e:aU [.int v.fl.length,.int s]=.ok (.int c))(l:c*v.g.s^v.fl.length<=5000):cg CR CP CT n [ax CR CP v.g.rows v.g.o,.lst (v.fl.map flD),.lst (v.cs.map stD),.int s,.dic (jI (v.pap [] (BL v.fl.length s)))]=.ok (.bl e_):=by
 obtain⟨j,_⟩:=wQ CR CP CT n J hv h1 U e l;have u:=hv.many;obtain⟨r,q⟩:=BL_ok v.fl.length s;have y:=BL_len (m:=v.fl.length) (s:=s) ac U;have I:=v.qP (BL v.fl.length s) [];rw[EM,Fs]at I;have S:=v.wR (BL v.fl.length s) [] (by simpa using r) q;generalize v.pap [] (BL v.fl.length s)=P at *;have d:=mP CR CP CT n J (v:=v) (m:=v.fl.length) ac rfl e;rw[l_ ac]at d;have o:=all_ok n (m:=v.fl.length) ac U;have hd:(jI P).map (·.1)=BL v.fl.length s:=by rw[<- I];unfold jI;rw[Dv];rfl
 have h:jC [.dic (jI P)]=.ok (.lst ((fQ zm (BL v.fl.length s)).map aZ)):=by rw[qf,hd,n_ (CF _ _)]
 have f:jC [.lst ((BL v.fl.length s).map aZ)]=.ok (.lst ((fQ zm (BL v.fl.length s)).map aZ)):=by rw[qe,kD,ai,n_ (CF _ _)]
 have J:=ne_tups (fQ zm (BL v.fl.length s));have p:aO (.nm 0) jr (fL (bJ CR CP CT n) (aa (af 1) (aa (af 2) (aa (af 3) (aa (af 4) (aa (af 0) aD)))))) [f_,a_ (ax CR CP v.g.rows v.g.o),a_ (.lst (v.fl.map flD)),a_ (.lst (v.cs.map stD)),a_ (.dic (jI P))] ((BL v.fl.length s).map aZ)=.ok ((BL v.fl.length s).map λ_=>A'.bl e_):=
  j6 aZ _ _ λb Y=>⟨[a_ (aZ b),a_ (ax CR CP v.g.rows v.g.o),a_ (.lst (v.fl.map flD)),a_ (.lst (v.cs.map stD)),a_ (.dic (jI P))],ad,by obtain⟨k,w,g⟩:=yn.mp Y;have:=right_ok CR CP CT n ‹CR≠CP› hv j (by rw[I];exact Y) (S b Y) (λx a=>⟨(g.bnd x a).1,(g.bnd x a).2.1⟩) (by rw[g.len];lia);simp[this]⟩
 have i:(BL v.fl.length s).length<=16777216:=ac
 have t:=all_true (BL v.fl.length s);simp[cg,l5,lG,d,o,h,f,J,p,i,t,-qf,-qe,-e_all]
end
section
variable(CR CP CT:i_)
def new1(n:Nat)(h1:1<=k)(J:k<=6)(I:gn k rows):newR CR (au) [aY rows]=.ok (ax CR CP rows .non):=by have e:=lj n k rows h1 J I;simp[newR,e,ax]
def new2(n:Nat){r2:List am}(h1:1<=k)(S:k<=6)(J:gn k rows)(I:gn k r2):newP CP (au) [aY rows,aY r2]=.ok (ax CR CP rows (aY r2)):=by
 have e1:=lj n k rows h1 S J;have e2:=lj n k r2 h1 S I;have U:twoL (aY rows) (aY r2)=e_:=by simp[twoL,aY,J.1,I.1]
 simp only[newP,e1,e2,ai,U,FK];rfl
theorem rQ(n:Nat)(ns:am)(k:Int)(h0:0<=k)(h1:k<1000):∃c,bU [.lst (ns.map .int),.int k]=.ok (.int c):=by
 by_cases a:k<(ns.length:Int)
 .exact⟨ns[k.toNat]'(by omega),by simp[bU,gW,fg,a,getI_int h0 a]⟩
 .by_cases I:ns=[]
  .subst I;have:¬k<0:=ac
   exact⟨0,by simp[bU,gW,fg,gY,this,eqM,G',mj,eqD,xA]⟩
  .have d:0<ns.length:=List.length_pos_iff.mpr I;have b:(0:Int)<ns.length:=ac
   have S:0<=k%(ns.length:Int):=Ks _ ac;have J:k%(ns.length:Int)<(ns.length:Int):=JA _ ac;have Y: -18446744073709551616<k:=ac
   have U:k<18446744073709551616:=ac
   exact⟨ns[(k%(ns.length:Int)).toNat]'(by omega)*69621+k*k*48271,by simp[bU,gW,fg,gY,a,eqM,G',mj,eqD,I,d,getI_int S J,Y,U]⟩
end
noncomputable def gp(x:Int)(I:Bool):Gp:=⟨1,[[x]],I,[[x/2]]⟩
theorem vw(h0:0<=x)(h1:x<10)(I:Bool):(gp x I).Good:=by
 refine⟨m_ 1,(by show 1<=2;decide),⟨rfl,λr S=>?_⟩,⟨rfl,λr S=>?_⟩⟩
 .rw[CO.mp S];exact⟨rfl,λy J=>by rw[CO.mp J];lia⟩
 .rw[CO.mp S];exact⟨rfl,λy J=>by rw[CO.mp J];lia⟩
def FlOk(f:Fli):Prop:=ym 1 f/\f.last<=130
def wv(x:Int)(I:Bool)(fl:List Fli):V:=⟨gp x I,fl,[]⟩
def wv_good(h0:0<=x)(h1:x<10)(I:Bool)(S:∀f∈fl,FlOk f)(Y:fl.length<=40):(wv x I fl).Good/\(wv x I fl).One:=
 ⟨⟨vw h0 h1 I,λf J=>(S f J).1,Y,by simp[wv],λp U=>(nomatch U)⟩,⟨rfl,λf J=>(S f J).2⟩⟩
section
variable(CR CP CT:i_)
theorem BD(n:Nat)(ns:am)(S:Option A'):∀(r j:Nat) (fl:List Fli) (U J:Option A'),fl.length=j->(∀f∈fl,FlOk f)->j+r<=40->∃(I:List Fli) (a Y:Option A'),I.length=j+r/\(∀f∈I,FlOk f) /\
  cq (.nm 3) (cT) (aQ (j:Int) r) [a_ (.lst (ns.map .int)),S,a_ (.lst (fl.map flD)),U,J]=.ok (.nx [a_ (.lst (ns.map .int)),S,a_ (.lst (I.map flD)),a,Y])
 |0,j,fl,U,J,h1,h2,_=>⟨fl,U,J,h1,h2,rfl⟩|r+1,j,fl,U,J,h1,h2,m=>by
  obtain⟨x,e1⟩:=rQ n ns (3+(j:Int)) ac ac;have l:0<=x%3:=Ks _ ac;have k:x%3<3:=JA _ ac;generalize b:(2:Int)*j+x%3=t;obtain⟨I,a,Y,q1,q2,e⟩:=BD n ns S r (j+1) (fl++[⟨0,t,t+50,t,1⟩]) (a_ (.int j)) (a_ (.int t)) (by simp[h1]) (λf g=>by
   rcases DM.mp g with z|z
   .exact h2 f z
   .rw[CO.mp z];exact⟨⟨Eu 0,(by show(0:Int)<1;decide),by show 0<=t;lia,by show t<=t+50;lia,by show t+50<=1000000000;lia,by show 0<=t;lia,by show t<=1000000000;lia,by show(0:Int)<=1;lia,by show(1:Int)<=1000000000;lia⟩,by show t+50<=130;lia⟩) ac
  refine⟨I,a,Y,ac,q2,?_⟩
  have c:fl.length<16777216:=ac
  have i:((j+1:Nat):Int)=(j:Int)+1:=rfl;rw[i]at e;have d:cU (j:Int)=e_:=by simp only[sJ,A_,Dj];lia
  have h:cT [a_ (.lst (ns.map .int)),S,a_ (.lst (fl.map flD)),a_ (.int j),J]=.ok (.nx [a_ (.lst (ns.map .int)),S,a_ (.lst ((fl++[(⟨0,t,t+50,t,1⟩:Fli)]).map flD)),a_ (.int j),a_ (.int t)]):=by simp[cT,e1,c,flD,b]
  rw[gS,cq,l8,ai];simp only[D9,DL];rw[h,ai];exact e
theorem pX(n:Nat)(ns:am)(Y:m<=40):∃fl:List Fli,fl.length=m/\(∀f∈fl,FlOk f)/\cL [.lst (ns.map .int),.int m]=.ok (.lst (fl.map flD)):=by
 obtain⟨fl,U,S,q1,q2,e⟩:=BD n ns (a_ (.int m)) m 0 [] f_ f_ rfl (λf I=>nomatch I) ac;refine⟨fl,ac,q2,?_⟩
 have k1:(-4611686018427387904:Int)<=(m:Int):=ac
 have k2:(m:Int)<4611686018427387904:=ac
 have J:((0:Nat):Int)=0:=rfl;rw[J,EM]at e;simp[cL,jq,k1,k2,e]
theorem wg(n:Nat)(U S J I:Option A'):∀(r:Nat) (j c:Int) (Y:Option A'),∃a,
  cq (.nm 4) (bW) (aQ j r) [U,S,J,a_ (.int c),Y,I]=.ok (.nx [U,S,J,a_ (.int (c*2^r)),a,I])
 |0,j,c,Y=>⟨Y,by simp[aQ,cq]⟩|r+1,j,c,Y=>by
  obtain⟨a,e⟩:=wg n U S J I r (j+1) (c*2) (a_ (.int j));refine⟨a,?_⟩
  have b:bW [U,S,J,a_ (.int c),a_ (.int j),I]=.ok (.nx [U,S,J,a_ (.int (c*2)),a_ (.int j),I]):=by simp[bW]
  have ep:c*(2:Int)^(r+1)=c*2*2^r:=by rw[Ob,Oc ((2:Int)^r),NT]
  rw[gS,cq,l8,ai,ep];simp only[D9,DL];rw[b,ai];exact e
theorem yF(n:Nat)(U:CR≠CP)(x:Int)(I:Bool){s:Nat}(f:m<=40)(d:s<=3):bq CR CP CT n [ax CR CP (gp x I).rows (gp x I).o,.int m,.int s]=.ok (.bl e_):=by
 have a:=qY n m s ac d;have J:=wM CR CP CT n U (v:=wv x I []) (m:=m) ac a;generalize ((totL (nS m s m):Nat):Int)=c at a J;have J:cZ CR CP CT n [ax CR CP (gp x I).rows (gp x I).o,.int m,.int s]=.ok (.int (c*(gp x I).s^m)):=J;have Y:∀ρ,(af 0) ρ=.ok (ax CR CP (gp x I).rows (gp x I).o)->cC CR CP "many_strips" (aG) (aH) (af 0) aD ρ=.ok (.int (gp x I).s):=λρ h=>kW CR CP n U (af 0) ρ h;have k1:(-4611686018427387904:Int)<=(m:Int):=ac
 have k2:(m:Int)<4611686018427387904:=ac
 cases I with
 |false=>
  have e1:=Y [a_ (ax CR CP (gp x c_).rows (gp x c_).o),a_ (.int m),a_ (.int s),a_ (.int c),f_,f_] ad;have b:(gp x c_).s=1:=rfl;rw[b]at e1 J;have S:c*((1:Nat):Int)^m=c:=by rw[show((1:Nat):Int)=1 from rfl,LP,HK]
  rw[S]at J;simp[bq,dP,cY,a,e1,J]
 |true=>have e1:=Y [a_ (ax CR CP (gp x e_).rows (gp x e_).o),a_ (.int m),a_ (.int s),a_ (.int c),f_,f_] ad;have b:(gp x e_).s=2:=rfl;rw[b]at e1 J;obtain⟨e,e2⟩:=wg n (a_ (ax CR CP (gp x e_).rows (gp x e_).o)) (a_ (.int m)) (a_ (.int s)) f_ m 0 c f_;have S:c*((2:Nat):Int)^m=c*2^m:=rfl;rw[S]at J;simp[bq,dP,cY,a,e1,J,k1,k2,e2]
def pB(n:Nat)(S:CR≠CP){s:Nat}(Y:m<=64)(a:v.fl.length=m)(U:aU [.int m,.int s]=.ok (.int c))(b:5000<c*v.g.s^m)(I:Int):bC CR CP CT n [.int I,ax CR CP v.g.rows v.g.o,.lst (v.fl.map flD),.int s]=.ok (.bl e_):=by
 have J:=mP CR CP CT n S (v:=v) Y a U;rw[n_ b]at J;have p1:cb CR CP CT n [ax CR CP v.g.rows v.g.o,.lst (v.fl.map flD),.lst [],.int s]=.error (.exc CT []):=by simp[cb,kZ,J]
 have p2:cg CR CP CT n [ax CR CP v.g.rows v.g.o,.lst (v.fl.map flD),.lst [],.int s,.dic []]=.error (.exc CT []):=by simp[cg,l5,J]
 have d:eS CR CP CT n [a_ (.int I),a_ (ax CR CP v.g.rows v.g.o),a_ (.lst (v.fl.map flD)),a_ (.int s),a_ (.lst []),f_]=.ok (.nx [a_ (.int I),a_ (ax CR CP v.g.rows v.g.o),a_ (.lst (v.fl.map flD)),a_ (.int s),a_ (.lst [.bl e_,.bl e_,.bl c_]),f_]):=by
  unfold eS;rw[qc (C:=CT) (fs:=[]) (bs:=[e_,e_,c_])]
  .rfl
  .by_cases h:I=0
   .subst h;simp[p1]
   .simp[p2,h]
  .simp
 have e:eqM (.lst [.bl e_,.bl e_,.bl c_]) (.lst [.bl e_,.bl e_,.bl c_])=.ok (.bl e_):=rfl;simp[bC,jo,d,e]
end
def fP(a s:Nat):Nat:=(if a=0 then [41,19,11,9]else [13,8,7,6]).getD s 0
def pow_le2{b:Nat}(h:a<=b):(2:Nat)^a<=2^b:=G5 ag h
theorem much{s:Nat}(o:a<2)(n:s<4)(h1:fP a s<=m)(h2:m<=40):5000<(tot m s:Int)*((if a=0 then 1 else 2:Nat):Int)^m:=by
 obtain⟨h,g,f,d,c,Y⟩:=tots;have U:∀{k:Nat},k<=m->tot k s<=tot m s:=λ{k} S=>by
  have:=wj s k (m-k)
  rwa [show k+(m-k)=m by lia]at this
 have J:∀{k b:Nat},k<=m->tot k s=b->5000<b->5000<(tot m s:Int)*((1:Nat):Int)^m:=λ{k b} S e i=>by have:=U S;rw[show((1:Nat):Int)=1 from rfl,LP,HK];lia
 have I:∀{k b:Nat},k<=m->b<=tot k s->5000<b*2^k->5000<(tot m s:Int)*((2:Nat):Int)^m:=λ{k b} S e i=>by
  have j:=U S;have q:b*2^k<=tot m s*2^m:=IY (DJ e j) (pow_le2 S);have p:((tot m s*2^m:Nat):Int)=(tot m s:Int)*((2:Nat):Int)^m:=by rw[Nc,Nb]
  lia
 have l:1<=tot m 0:=by have:=wj 0 0 m;rw[Lq]at this;exact this
 obtain rfl|rfl:a=0\/a=1:=ac
 .obtain rfl|rfl|rfl|rfl:s=0\/s=1\/s=2\/s=3:=ac
  .have:41<=m:=h1;lia
  .exact J (show 19<=m from h1) h ag
  .exact J (show 11<=m from h1) g ag
  .exact J (show 9<=m from h1) f ag
 .obtain rfl|rfl|rfl|rfl:s=0\/s=1\/s=2\/s=3:=ac
  .exact I (show 13<=m from h1) (b:=1) (by have:=wj 0 0 13;exact this) ag
  .exact I (show 8<=m from h1) (GQ d.symm) ag
  .exact I (show 7<=m from h1) (GQ c.symm) ag
  .exact I (show 6<=m from h1) (GQ Y.symm) ag
theorem tots2_0:tot 40 0=1:=eC 0 ac ac (by kernel_rfl)
theorem tots2_1:tot 18 1=4181:=eC 0 ac ac (by kernel_rfl)
theorem tots2_2:tot 5 2=31:=eC 0 ac ac (by kernel_rfl)
theorem tots2_3:tot 5 3=78:=eC 0 ac ac (by kernel_rfl)
theorem tots2_4:tot 12 0=1:=eC 0 ac ac (by kernel_rfl)
theorem tots2_5:tot 10 0=1:=eC 0 ac ac (by kernel_rfl)
theorem tots2_6:tot 7 1=21:=eC 0 ac ac (by kernel_rfl)
theorem tots2_7:tot 4 2=14:=eC 0 ac ac (by kernel_rfl)
theorem tots2_8:tot 4 3=24:=eC 0 ac ac (by kernel_rfl)
theorem tots2_9:tot 8 2=400:=eC 0 ac ac (by kernel_rfl)
theorem tots2_10:tot 6 1=13:=eC 0 ac ac (by kernel_rfl)
theorem tots2:tot 40 0=1/\tot 18 1=4181/\tot 5 2=31/\tot 5 3=78/\tot 12 0=1/\tot 10 0=1/\tot 7 1=21/\tot 4 2=14/\tot 4 3=24/\tot 8 2=400/\tot 6 1=13:=⟨tots2_0,tots2_1,tots2_2,tots2_3,tots2_4,tots2_5,tots2_6,tots2_7,tots2_8,tots2_9,tots2_10⟩
section
variable(CR CP CT:i_)
theorem end_ok(n:Nat)(J:CR≠CP)(h0:0<=x)(h1:x<10)(I:Bool)(j:∀f∈fl,FlOk f)(h:fl.length<=40){s:Nat}(U:s<=3)(d:(tot fl.length s:Int)*((gp x I).s:Int)^fl.length<=5000):∃P:List (am×A'),cb CR CP CT n [ax CR CP (gp x I).rows (gp x I).o,.lst (fl.map flD),.lst [],.int s]=.ok (.dic P)/\(jm P []).isSome=e_/\(jm P (iv 0 fl.length)).isSome=e_/\cg CR CP CT n [ax CR CP (gp x I).rows (gp x I).o,.lst (fl.map flD),.lst [],.int s,.dic P]=.ok (.bl e_):=by
 obtain⟨hv,S⟩:=wv_good h0 h1 I j h;have c:=qY n fl.length s ac U;obtain⟨_,e⟩:=wQ CR CP CT n J hv S U c d;have e2:=zt CR CP CT n J hv S U c d;have Y:=(wv x I fl).qP (BL fl.length s) [];rw[EM,Fs]at Y;refine⟨_,e,?_,?_,e2⟩
 .show(jm (jI ((wv x I fl).pap [] (BL fl.length s))) []).isSome=e_;rw[rp,Y,Dj];exact yn.mpr ⟨0,DU _,⟨E1,rfl,λi a b=>by lia,λx g=>(nomatch g)⟩⟩
 .show(jm (jI ((wv x I fl).pap [] (BL fl.length s))) (iv 0 fl.length)).isSome=e_;rw[rp,Y,Dj];exact yn.mpr ⟨fl.length,m_ _,xt _ _⟩
end
section
variable(CR CP CT:i_)
def RD(g:Int)(I:Bool):A':=ax CR CP (gp g I).rows (gp g I).o
theorem mH(g:Int)(I:a<2):jL [ax CR CP [[g]] .non,ax CR CP [[g]] (aY [[g/2]])] (a:Int)=.ok (RD CR CP g (CL (a=1))):=by
 obtain rfl|rfl:a=0\/a=1:=ac
 .rfl
 .rfl
theorem tab_ok{s:Nat}(J:a<2)(I:s<4):(jL [A'.lst [.int 41,.int 19,.int 11,.int 9],A'.lst [.int 13,.int 8,.int 7,.int 6]] (a:Int)).bind (λd=>ixD d (.int s))=.ok (.int (fP a s)):=by
 obtain rfl|rfl:a=0\/a=1:=ac
 .obtain rfl|rfl|rfl|rfl:s=0\/s=1\/s=2\/s=3:=ac
  all_goals rfl
 .obtain rfl|rfl|rfl|rfl:s=0\/s=1\/s=2\/s=3:=ac
  all_goals rfl
theorem tabF_b{s:Nat}(J:a<2)(I:s<4):6<=fP a s/\fP a s<=41:=by
 obtain rfl|rfl:a=0\/a=1:=ac
 .obtain rfl|rfl|rfl|rfl:s=0\/s=1\/s=2\/s=3:=ac
  all_goals decide
 .obtain rfl|rfl|rfl|rfl:s=0\/s=1\/s=2\/s=3:=ac
  all_goals decide
theorem turn_ok(n:Nat)(J:CR≠CP)(g:Int)(I:Bool){s:Nat}(f:m<=40)(i:s<4)(d c b a Y U S:Option A'):rZ CR CP CT n [d,c,b,a_ (RD CR CP g I),a_ (.int s),a,a_ (.int m),Y,U,S]=.ok (.nx [d,c,b,a_ (RD CR CP g I),a_ (.int s),a,a_ (.int m),Y,U,S]):=by have e:=yF CR CP CT n J g I f (s:=s) ac;have h:bq CR CP CT n [RD CR CP g I,.int m,.int s]=.ok (.bl e_):=e;simp[rZ,Cm,h]
theorem loop_ok(n:Nat)(J:CR≠CP)(g:Int)(I:Bool){f s:Nat}(q:1<=f)(o:f<=41)(k:s<4)(d c b a p Y U S:Option A'):cq (.nm 6) (rZ CR CP CT n) [.int 0,.int ((f:Int)-1),.int (mn 40 f),.int 40] [d,c,b,a_ (RD CR CP g I),a_ (.int s),a,p,Y,U,S]=.ok (.nx [d,c,b,a_ (RD CR CP g I),a_ (.int s),a,a_ (.int 40),Y,U,S]):=by have t:∀{m:Nat},m<=40->_:=λ{m} l=>turn_ok CR CP CT n J g I l k d c b a Y U S;have j:=t (m:=0) ac;have i:=t (m:=f-1) ac;have h:=t (m:=J_ 40 f) ac;have e:=t (m:=40) ac;rw[show((f-1:Nat):Int)=(f:Int)-1 by lia]at i;rw[show((J_ 40 f:Nat):Int)=mn 40 f by unfold mn;split<;>lia]at h;rw[show((0:Nat):Int)=0 from rfl]at j;rw[show((40:Nat):Int)=40 from rfl]at e;simp[cq,j,i,h,e]
theorem four_ok(n:Nat)(I:CR≠CP)(ns:am){g:Int}(C:0<=g)(B:g<10){s:Nat}(d:a<2)(b:s<4)(l k j i f e:Option A'):∃p o,rW CR CP CT n [a_ (.lst (ns.map .int)),l,k,a_ (RD CR CP g (CL (a=1))),a_ (.int s),a_ (.int (fP a s)),j,i,f,e]=.ok (.nx [a_ (.lst (ns.map .int)),l,k,a_ (RD CR CP g (CL (a=1))),a_ (.int s),a_ (.int (fP a s)),p,o,f,e]):=by
 obtain⟨E,D⟩:=tabF_b d b;by_cases h:fP a s<41
 .obtain⟨z,w⟩:=rQ n ns 2 ac ac;have hd:(0:Int)<41-(fP a s:Int):=ac
  have y:0<=z%(41-(fP a s:Int)):=Ks _ ac;have x:z%(41-(fP a s:Int))<41-(fP a s:Int):=JA _ hd;obtain⟨m,u⟩:∃m:Nat,(fP a s:Int)+z%(41-(fP a s:Int))=m:=⟨((fP a s:Int)+z%(41-(fP a s:Int))).toNat,ac⟩
  obtain⟨fl,Y,A,t⟩:=pX n ns (m:=m) ac;have c:=qY n m s ac ac;have U:=much d b (show fP a s<=m by lia) ac;have S:(wv g (CL (a=1)) fl).g.s=if a=0 then 1 else 2:=by
   obtain rfl|rfl:a=0\/a=1:=ac
   .rfl
   .rfl
  rw[<- S]at U;have r:bC CR CP CT n [.int 0,RD CR CP g (CL (a=1)),.lst (fl.map flD),.int s]=.ok (.bl e_):=pB CR CP CT n I (v:=wv g (CL (a=1)) fl) ac Y c U 0;have q:bC CR CP CT n [.int 1,RD CR CP g (CL (a=1)),.lst (fl.map flD),.int s]=.ok (.bl e_):=pB CR CP CT n I (v:=wv g (CL (a=1)) fl) ac Y c U 1;have J:tK (.int z) (.int (41-(fP a s:Int)))=.ok (.int (z%(41-(fP a s:Int)))):=e_mod hd;refine⟨a_ (.int m),a_ (.lst (fl.map flD)),?_⟩
  have h':(fP a s:Int)<41:=ac
  simp[rW,Ck,h',w,J,u,t,r,q]
 .have h':¬(fP a s:Int)<41:=ac
  exact⟨j,i,by simp[rW,h']⟩
end
theorem cutD_to(l:List A')(a:Nat)(h:a<=l.length):fV (.lst l) f_ (a_ (a:Int))=.ok (.lst (l.take a)):=by
 show Ec (A'.lst (zJ l f_ (a_ (a:Int))))=_
 congr 2
 unfold zJ cX;dsimp only;rw[l_ ac,Ek,Iw,Fz,GA h]
section
variable(CR CP CT:i_)
def si(f j:Nat):Nat:=[f-1,18,8,6,12,6,5,4].getD j 0
def tabS(s j:Nat):Nat:=if j=0 then s else [0,1,2,3,0,1,2,3].getD j 0
noncomputable def ie(a j:Nat):Bool:=if j=0 then CL (a=1)else CL (3<j)
theorem near_ok{f:Nat}(J:1<=f)(I:j<8):jL [.int ((f:Int)-1),.int 18,.int 8,.int 6,.int 12,.int 6,.int 5,.int 4] (j:Int)=.ok (.int (si f j)):=by
 obtain rfl|h:j=0\/0<j:=ac
 .show Ec (A'.int ((f:Int)-1))=.ok (.int (f-1:Nat));rw[show((f-1:Nat):Int)=(f:Int)-1 by lia]
 .obtain rfl|rfl|rfl|rfl|rfl|rfl|rfl:j=1\/j=2\/j=3\/j=4\/j=5\/j=6\/j=7:=ac
  all_goals rfl
theorem shift_ok{s:Nat}(h:0<j)(I:j<8):jL [.int 0,.int 1,.int 2,.int 3,.int 0,.int 1,.int 2,.int 3] (j:Int)=.ok (.int (tabS s j)):=by
 obtain rfl|rfl|rfl|rfl|rfl|rfl|rfl:j=1\/j=2\/j=3\/j=4\/j=5\/j=6\/j=7:=ac
 all_goals rfl
theorem five_ok(n:Nat){g:Int}(p:0<=g)(o:g<10){s:Nat}(m:j<8)(S:x/8%8=j)(l i f e d c:Option A'):nZ CR CP CT n [l,a_ (.int x),a_ (.int g),a_ (RD CR CP g (CL (a=1))),a_ (.int s),i,f,e,d,c]=.ok (.nx [l,a_ (.int x),a_ (.int g),a_ (RD CR CP g (ie a j)),a_ (.int (tabS s j)),i,f,e,d,c]):=by
 have J:=vw p o e_;have Y:newR CR (au) [.lst [.lst [.int g]]]=.ok (ax CR CP [[g]] .non):=new1 CR CP n (k:=1) (rows:=[[g]]) ag ag J.rows;have n2:newP CP (au) [.lst [.lst [.int g]],.lst [.lst [.int (g/2)]]]=.ok (ax CR CP [[g]] (aY [[g/2]])):=new2 CR CP n (k:=1) (rows:=[[g]]) (r2:=[[g/2]]) ag ag J.rows J.r2;by_cases h:0<j
 .have h':(0:Int)<(j:Int):=ac
  have e2:=shift_ok (s:=s) h m;by_cases b:3<j
  .have I:(3:Int)<(j:Int):=ac
   have e1:jL [ax CR CP [[g]] .non,ax CR CP [[g]] (aY [[g/2]])] 1=.ok (RD CR CP g e_):=mH CR CP g (a:=1) ac;have tt:ie a j=e_:=by unfold ie;rw[l_ ac];simpa using b
   have U:b2z e_=1:=rfl;rw[tt];simp[nZ,S,h',Y,n2,I,U,e1,e2];lia
  .have I:¬(3:Int)<(j:Int):=ac
   have e1:jL [ax CR CP [[g]] .non,ax CR CP [[g]] (aY [[g/2]])] 0=.ok (RD CR CP g c_):=mH CR CP g (a:=0) ac;have tt:ie a j=c_:=by unfold ie;rw[l_ ac];simpa using b
   have U:b2z c_=0:=rfl;rw[tt];simp[nZ,S,h',Y,n2,I,U,e1,e2];lia
 .obtain rfl:j=0:=ac
  have q:x/8%8=0:=S;simp[nZ,q,ie,tabS]
noncomputable def lT(I:Bool)(w nr:Nat):Nat:=if I=e_/\w≠5 then J_ nr 10 else nr
theorem six_ok(n:Nat)(S:CR≠CP){g:Int}(I:Bool){w nr:Nat}(f:x/64%16=w)(e d c b a Y U:Option A'):nY CR CP CT n [e,a_ (.int x),d,a_ (RD CR CP g I),c,b,a,Y,a_ (.int nr),U]=.ok (.nx [e,a_ (.int x),d,a_ (RD CR CP g I),c,b,a,Y,a_ (.int (lT I w nr)),U]):=by
 have J:=kW CR CP n S (g:=gp g I) (af 3) [e,a_ (.int x),d,a_ (RD CR CP g I),c,b,a,Y,a_ (.int nr),U] (by simp[RD]);cases I with
 |false=>rw[show(gp g c_).s=1 from rfl]at J;simp[nY,J,lT]|true=>
  rw[show(gp g e_).s=2 from rfl]at J;by_cases h:w=5
  .subst h;have e5:x/64%16=5:=f;simp[nY,J,lT,e5]
  .have e5:¬(w:Int)=5:=ac
   have i:mn (nr:Int) 10=((J_ nr 10:Nat):Int):=by unfold mn;split<;>lia
   simp[nY,J,lT,f,e5,h,i]
def zK(I:Bool)(s j nr:Nat):Nat:=if j=0/\1<s then J_ nr (if I=e_ then 4 else 5)else nr
theorem seven_ok(n:Nat)(d:CR≠CP){g:Int}(I:Bool){s:Nat}(p:x/8%8=j)(fl:List Fli)(t:5<=fl.length\/¬(j=0/\1<s))(o m l i f e:Option A'):ll CR CP CT n [o,a_ (.int x),m,a_ (RD CR CP g I),a_ (.int s),l,i,a_ (.lst (fl.map flD)),f,e]=.ok (.nx [o,a_ (.int x),m,a_ (RD CR CP g I),a_ (.int s),l,i,a_ (.lst ((fl.take (zK I s j fl.length)).map flD)),f,e]):=by
 have S:=kW CR CP n d (g:=gp g I) (af 3) [o,a_ (.int x),m,a_ (RD CR CP g I),a_ (.int s),l,i,a_ (.lst (fl.map flD)),f,e] (by simp[RD]);by_cases h:j=0
 .subst h;have U:x/8%8=0:=p;by_cases a:1<s
  .have J:(1:Int)<(s:Int):=ac
   have q:5<=fl.length:=t.resolve_right λz=>z ⟨rfl,a⟩;have Y:∀k:Nat,k<=fl.length->fV (.lst (fl.map flD)) f_ (a_ (k:Int))=.ok (.lst ((fl.take k).map flD)):=λk r=>by rw[cutD_to _ _ (by simpa using r),Nw]
   cases I with
   |false=>
    rw[show(gp g c_).s=1 from rfl]at S;have c:=Y 5 q;have b:J_ fl.length 5=5:=ac
    simp[ll,S,zK,U,a,J,b,c]
   |true=>
    rw[show(gp g e_).s=2 from rfl]at S;have c:=Y 4 ac;have b:J_ fl.length 4=4:=ac
    simp[ll,S,zK,U,a,J,b,c]
  .have J:¬(1:Int)<(s:Int):=ac
   simp[ll,zK,U,a,J]
 .have U:¬(j:Int)=0:=ac
  simp[ll,zK,p,U,h]
end
theorem v5(x:Int){s b:Nat}(e:tot k s=b)(h:b<=5000):(tot k s:Int)*((gp x c_).s:Int)^k<=5000:=by rw[show(gp x c_).s=1 from rfl,show((1:Nat):Int)=1 from rfl,LP,HK,e];lia
def oC(x:Int){s b:Nat}(e:tot k s=b)(h:b*2^k<=5000):(tot k s:Int)*((gp x e_).s:Int)^k<=5000:=by
 have I:((tot k s*2^k:Nat):Int)=(tot k s:Int)*((2:Nat):Int)^k:=by rw[Nc,Nb]
 rw[show(gp x e_).s=2 from rfl,<- I,e];exact Int.ofNat_le.mpr h
theorem sizes(x:Int){s w:Nat}(n:a<2)(l:s<4)(m:j<8):
  lT (ie a j) w (si (fP a s) j)<=40/\tabS s j<=3/\(5<=lT (ie a j) w (si (fP a s) j)\/¬(j=0/\1<tabS s j))/\(tot (zK (ie a j) (tabS s j) j (lT (ie a j) w (si (fP a s) j))) (tabS s j):Int)*((gp x (ie a j)).s:Int)^(zK (ie a j) (tabS s j) j (lT (ie a j) w (si (fP a s) j)))<=5000:=by
 obtain⟨i,c,b,g,Y,U,f,e,S,J,I⟩:=tots2;obtain⟨_,_,_,_,_,d⟩:=tots;obtain rfl|h:j=0\/0<j:=ac
 .obtain rfl|rfl:a=0\/a=1:=ac
  .obtain rfl|rfl|rfl|rfl:s=0\/s=1\/s=2\/s=3:=ac
   .exact⟨p_ rfl,p_ rfl,.inl (p_ rfl),v5 x (k:=40) i ag⟩
   .exact⟨p_ rfl,p_ rfl,.inl (p_ rfl),v5 x (k:=18) c ag⟩
   .exact⟨p_ rfl,p_ rfl,.inl (p_ rfl),v5 x (k:=5) b ag⟩
   .exact⟨p_ rfl,p_ rfl,.inl (p_ rfl),v5 x (k:=5) g ag⟩
  .obtain rfl|rfl|rfl|rfl:s=0\/s=1\/s=2\/s=3:=ac
   .by_cases hw:w=5
    .subst hw;exact⟨p_ rfl,p_ rfl,.inl (p_ rfl),oC x (k:=12) Y ag⟩
    .rw[show lT (ie 1 0) w (si (fP 1 0) 0)=10 from n_ ⟨rfl,hw⟩];exact⟨p_ rfl,p_ rfl,.inl (p_ rfl),oC x (k:=10) U ag⟩
   .have:lT (ie 1 0) w (si (fP 1 1) 0)=7:=by unfold lT;split<;>rfl
    rw[this];exact⟨p_ rfl,p_ rfl,.inl (p_ rfl),oC x (k:=7) f ag⟩
   .have:lT (ie 1 0) w (si (fP 1 2) 0)=6:=by unfold lT;split<;>rfl
    rw[this];exact⟨p_ rfl,p_ rfl,.inl (p_ rfl),oC x (k:=4) e ag⟩
   .have:lT (ie 1 0) w (si (fP 1 3) 0)=5:=by unfold lT;split<;>rfl
    rw[this];exact⟨p_ rfl,p_ rfl,.inl (p_ rfl),oC x (k:=4) S ag⟩
 .obtain rfl|rfl|rfl|rfl|rfl|rfl|rfl:j=1\/j=2\/j=3\/j=4\/j=5\/j=6\/j=7:=ac
  .exact⟨p_ rfl,p_ rfl,.inr (λz=>CQ z.1 ag),v5 x (k:=18) c ag⟩
  .exact⟨p_ rfl,p_ rfl,.inr (λz=>CQ z.1 ag),v5 x (k:=8) J ag⟩
  .exact⟨p_ rfl,p_ rfl,.inr (λz=>CQ z.1 ag),v5 x (k:=6) d ag⟩
  .by_cases hw:w=5
   .subst hw;exact⟨p_ rfl,p_ rfl,.inr (λz=>CQ z.1 ag),oC x (k:=12) Y ag⟩
   .rw[show lT (ie a 4) w (si (fP a s) 4)=10 from n_ ⟨rfl,hw⟩];exact⟨p_ rfl,p_ rfl,.inr (λz=>CQ z.1 ag),oC x (k:=10) U ag⟩
  .have:lT (ie a 5) w (si (fP a s) 5)=6:=by unfold lT;split<;>rfl
   rw[this];exact⟨p_ rfl,p_ rfl,.inr (λz=>CQ z.1 ag),oC x (k:=6) I ag⟩
  .have:lT (ie a 6) w (si (fP a s) 6)=5:=by unfold lT;split<;>rfl
   rw[this];exact⟨p_ rfl,p_ rfl,.inr (λz=>CQ z.1 ag),oC x (k:=5) b ag⟩
  .have:lT (ie a 7) w (si (fP a s) 7)=4:=by unfold lT;split<;>rfl
   rw[this];exact⟨p_ rfl,p_ rfl,.inr (λz=>CQ z.1 ag),oC x (k:=4) S ag⟩
section
variable(CR CP CT:i_)
theorem law_true(J:CR≠CP):∀ns:am,ns.length<=63->∃n,m_law CR CP CT n [.lst (ns.map .int)]=.ok (.bl e_):=by
 intro ns X;refine⟨64,?_⟩
 obtain⟨x,cx⟩:=rQ 64 ns 0 ac ac;obtain⟨y,cy⟩:=rQ 64 ns 1 ac ac;obtain⟨g,Z⟩:∃g:Int,y%10=g:=⟨_,rfl⟩
 have h:0<=g:=ac
 have e:g<10:=ac
 obtain⟨a,ea⟩:∃a:Nat,x%2=a:=⟨(x%2).toNat,ac⟩
 obtain⟨s,es⟩:∃s:Nat,x/2%4=s:=⟨(x/2%4).toNat,ac⟩
 obtain⟨j,r⟩:∃j:Nat,x/8%8=j:=⟨(x/8%8).toNat,ac⟩
 obtain⟨w,ew⟩:∃w:Nat,x/64%16=w:=⟨(x/64%16).toNat,ac⟩
 have d:a<2:=ac
 have Y:s<4:=ac
 have o:j<8:=ac
 obtain⟨b1,b2⟩:=tabF_b d Y;have q:=vw h e e_;have F:newR CR (au) [.lst [.lst [.int g]]]=.ok (ax CR CP [[g]] .non):=new1 CR CP 64 (k:=1) (rows:=[[g]]) ag ag q.rows;have n2:newP CP (au) [.lst [.lst [.int g]],.lst [.lst [.int (g/2)]]]=.ok (ax CR CP [[g]] (aY [[g/2]])):=new2 CR CP 64 (k:=1) (rows:=[[g]]) (r2:=[[g/2]]) ag ag q.rows q.r2;have e3:=mH CR CP g d;have e5:=tab_ok d Y;have e6:=loop_ok CR CP CT 64 J g (CL (a=1)) (f:=fP a s) ac b2 Y (a_ (.lst (ns.map .int))) (a_ (.int x)) (a_ (.int g)) (a_ (.int (fP a s))) f_ f_ f_ f_;obtain⟨S,A,e7⟩:=four_ok CR CP CT 64 J ns h e d Y (a_ (.int x)) (a_ (.int g)) (a_ (.int 40)) f_ f_ f_;have e8:=near_ok (f:=fP a s) ac o;have e9:=five_ok CR CP CT 64 h e (a:=a) (s:=s) o r (a_ (.lst (ns.map .int))) (a_ (.int (fP a s))) S A (a_ (.int (si (fP a s) j))) f_;have v:=six_ok CR CP CT 64 J (g:=g) (ie a j) (nr:=si (fP a s) j) ew (a_ (.lst (ns.map .int))) (a_ (.int g)) (a_ (.int (tabS s j))) (a_ (.int (fP a s))) S A f_;obtain⟨C,B,z,i⟩:=sizes g (w:=w) d Y o;obtain⟨fl,O,N,L⟩:=pX 64 ns C;rw[<- O]at z i;have u:=seven_ok CR CP CT 64 J (g:=g) (ie a j) (s:=tabS s j) r fl z (a_ (.lst (ns.map .int))) (a_ (.int g)) (a_ (.int (fP a s))) S (a_ (.int (lT (ie a j) w (si (fP a s) j)))) f_;have tl:(fl.take (zK (ie a j) (tabS s j) j fl.length)).length=zK (ie a j) (tabS s j) j fl.length:=by rw[FF];unfold zK;split<;>lia
 have c:zK (ie a j) (tabS s j) j fl.length<=40:=by unfold zK;split<;>lia
 rw[<- tl]at i c;generalize p:fl.take (zK (ie a j) (tabS s j) j fl.length)=I at *;have K:∀f∈I,FlOk f:=λf hf=>N f (Fv (p▸hf));obtain⟨P,q1,q2,E,D⟩:=end_ok CR CP CT 64 J h e (ie a j) K c B i;have m:cb CR CP CT 64 [RD CR CP g (ie a j),.lst (I.map flD),.lst [],.int (tabS s j)]=.ok (.dic P):=q1;have l:cg CR CP CT 64 [RD CR CP g (ie a j),.lst (I.map flD),.lst [],.int (tabS s j),.dic P]=.ok (.bl e_):=D;have H:noM (cb CR CP CT 64) [RD CR CP g (ie a j),.lst (I.map flD),.lst [],.int (tabS s j)]=.ok (.dic P):=by rw[e_noM,m];rfl
 have G:noM (cg CR CP CT 64) [RD CR CP g (ie a j),.lst (I.map flD),.lst [],.int (tabS s j),.dic P]=.ok (.bl e_):=by rw[e_noM,l];rfl
 have k1:(-4611686018427387904:Int)<=(I.length:Int):=ac
 have k2:(I.length:Int)<4611686018427387904:=ac
 have W:kO (.tup []) (.dic P)=.ok (.bl c_):=by rw[nG,show il (.tup [])=.ok []from rfl,ai,q2];rfl
 have T:kO (aZ (iv 0 I.length)) (.dic P)=.ok (.bl c_):=by rw[nG,tQ,ai,E];rfl
 have R:(aQ 0 I.length)=(iv 0 I.length).map .int:=iu _ _;have t:vQ [a_ (.lst (ns.map .int)),a_ (.int x),a_ (.int g),a_ (RD CR CP g (ie a j)),a_ (.int (tabS s j)),a_ (.int (fP a s)),S,a_ (.lst (I.map flD)),a_ (.int (lT (ie a j) w (si (fP a s) j))),a_ (.dic P)]=.ok (.nx [a_ (.lst (ns.map .int)),a_ (.int x),a_ (.int g),a_ (RD CR CP g (ie a j)),a_ (.int (tabS s j)),a_ (.int (fP a s)),S,a_ (.lst (I.map flD)),a_ (.int (lT (ie a j) w (si (fP a s) j))),a_ (.dic P)]):=by
  have U:=T;unfold aZ at U;have Q:(iv 0 I.length).length<=16777216:=by rw[gJ];lia
  simp[vQ,W,U,R,Q,k1,k2,-nG]
 have b:I.length<=16777216:=ac
 simp[m_law,g_law,cx,cy,Z,F,n2,ea,es,r,e3,e5,e6,e7,e8,e9,v,L,u,H,G,t,b,-e_noM]
end
def fin_mk{K:Fg}{h:Du}{fa CR:i_}(_:K.In h)(_:h.Ns DY mg)(I:mg "law"=a_ (.ref fa))(Z:Zs K mg CR CP CT AStripError ATooMany ANoRules ANoTime ANoPlace ANotFree ANoPlan ANoSheet ANoRow):
  ∃fd:Fh,(∀(s:k_) (v:g_),JJ s fd ⟨[v],[]⟩ [("_law_script",v)])/\∀base:Du,K.In base->base.Ns DY mg->fU P w K mg base CX0 13 fa fd ["_law_script"] (spLaw K):=by
 obtain⟨f,fd,D,J⟩:=Z.d_law;have e:=I.symm.trans D.mg;cases e;refine⟨fd,J,λbase _ _=>law_ok (ro:=c_) (mlaw:=m_law CR CP CT) (λn=>?_) (law_true CR CP CT Z.ne)⟩
 obtain⟨U,S,Y⟩:=ok_law (n:=n) (P:=P) (w:=w) (base:=base) Z;have e:=D.mg.symm.trans Y.d.mg;cases e;rw[D.fn.uniq Y.d.fn];exact Y.o
def walk{l:Jv}{q:D0}{I:List C_}{e:(Mq)->Du->Prop}{S:Ew->Du->Prop}{d:DefRec}{K:Params->Fg}(U:l.most=a_ 63)(J:d.params.defaults=[])(b:∀(w:Ew) (h:Du),S w h->(K w.params).In h)(F:∀(w:Ew) (mg:Mq) (fa:i_) (h:Du),(K w.params).In h->h.Ns DY mg->mg d.name=a_ (.ref fa) ->
   ∃fd:Fh,(∀(s:k_) (u:g_),JJ s fd ⟨[u],[]⟩ [("_law_script",u)])/\∀base:Du,(K w.params).In base->base.Ns DY mg->fU l.prog w (K w.params) mg base CX0 13 fa fd ["_law_script"] (spLaw (K w.params))):
  LL q I e S l.row.toRowW d [] (λf vs=>Hk f vs):=
 Lake.walk_of (n:=63) (k:=13) (x:="_law_script") (CX:=λ_=>CX0) (sp:=λw=>spLaw (K w.params)) U ag J ⟨rfl,ag,ag⟩ b F (λ_ _ a ns Y _ c=>⟨a,ns,rfl,c,Y,λ_=>rfl⟩) λ_ _ _ _ _ z=>z
end Tactic
end
open PySem PySem.W PyProof.Rows
structure PySem.W.Fast:Prop where (tw11798153887693033356
tw7086771462458417042
tw5430137863037327956
tw15248674804593998008
tw10911996125216488912
tw2841906469782500149
tw13335050703441032710
tw14308177695708261421
tw13112020727448577002
tw13306985747787538583
tw13031970561963501500
tw96161793621417676
tw15803834199974217741
tw8762203053998204746
tw8534090259780765608
tw5386654327861795562
tw13095033257496861998
tw7060523671409952868
tw16411897242337007774
tw1430863587657538410
tw4948295352457623932
tw7456007211507261427
tw8099959779023923547
tw3551119591544163714
tw14799861911730994126
tw15643292528716393223
tw13873078769775404998
tw3172317764365097498
tw15690888468024817528
tw6931556613834113726
tw2657298387087800723
tw8060505705783409850
tw2748270750178154247
tw14842966559761749633
tw10890692785142550466
tw6954120871119254582
tw8272130196439246920
tw6547168684232613501
tw12505901878957570535
tw12852382555192827557
tw244434758022205498
tw15873617246356614535
tw17454984648893039975
tw15683541783792638329
tw12497811913182233005
tw16355623456012061461
tw7471775584286460347
tw17313484958230617162
tw16427678589073324515
tw9301813090288197808
tw15120902272717908004
tw3377882504953652112
tw11353026246189664084
tw17708797080547642098
tw16210541223093948137
tw9676433714801878450
tw5027132872944475129
tw11031590355985977577
tw6353481799352537907
tw16223437689093699066
tw13569466499362528403
tw8178905063591649381
tw9211854966314786017
tw3694217420168797654
tw17107332476651587475
tw11210010506832583837
tw11653250974981764760
tw8222371339765552064
tw8194230523889220838
tw14094348139273924857
tw10464134556515637885
tw1468223742261543908
tw3654780847408151284
tw13978620170979764934
tw813951223523534261
tw12143251020213697987
tw16857602092160384500
tw3687914745947738338
tw5264300456479668807
tw15731099316711108564
tw7366457931126272058
tw4331717036795847289
tw7777438357108905568
tw14585911765241603982
tw7572609829180756507
tw6475164738152156529
tw16315442619106947673
tw17360326007386775155
tw3274477271688536554
tw4630007306227940917
tw11669568734150824863
tw4509256387514725489
tw15547522481736465390
tw3776293114948613202
tw12081982975418908484
tw4288399687426825254
tw14006862896994408929
tw9542309076301773333
tw14264219960272785104
tw4276277009382266454
tw4400518136695145031
tw7962071831967767970
tw6065245925976665170
tw4607356338220021944
tw664880362348537550
tw6456303478190638185
tw5092938275081929101
tw18142487909564031387
tw8024673103645414381
tw13721055762389481803
tw250672569862116795
tw15385140591493967758
tw4130421860138466441
tw12501783854825803977
tw17966212941679467928
tw12216689598506587833
tw16603561688026529306
tw16837477409703137377
tw1008244552887155356
tw16917178600700001275
tw2251337106891166862
tw18347263210079387837
tw13149291550249301409
tw17492797816359602567
tw3574123834927118845
tw556191655463761761
tw14027864732624407749
tw6854509840958905787
tw15364833281406583163
tw12497618875752438184
tw12288685062476937938
tw18244376069307111952
tw12672040267141227738
tw9843818581272927358
tw5742113037965260231
tw5291930640485763474
tw5098051688473815309
tw3069262939085555174
tw7038383644344253739
tw6138853086073910126
tw4335140259224874861
tw3405507672254416984
tw368419881213106002
tw8671668064650986785
tw18175402436863723552
tw12931484505080565632
tw2972585455030869363
tw2002405716419241579
tw7545117713592379978
tw9615289482476555794
tw12282227458507237202
tw15731680221410827817
tw3961866385923411376
tw1570072834696587758
tw5802408768336747565
tw14870350317825839468
tw10870977301468907774
tw4030590543796079941
tw1073735537432293095
tw12209404057045444918
tw12133523443925014915
tw5540036877411517079
tw8841698084786973771
tw11172664773572282698
tw12937183867416586475
tw8335078501608237698
tw17218809020572166461
tw7956197251188391051
tw6754648958737683184
tw17634492466433496537
tw8257216690361260516
tw4739016616288541569
tw17383590671806803556
tw12567268188343650438
tw9482059211959305122
tw8568475349126618760
tw16910238248673018294
tw6352235945335211003
tw15320915814367803682
tw16945339724187929341
tw9685673056585112210
tw18015047499816662423
tw12180437043258601223
tw14737115992125397255
tw10915594955074997942
tw8361195932089540746
tw5306177733673294870
tw12523828986127813670
tw17195819159537045302
tw3811067379945762683
tw12503890875632800239
tw728676577146657382
tw14918654321488890412
tw15902837960113717743
tw13346837677248726623
tw5815098582747747507
tw11947367693623570747
tw2258461387929210691
tw18331495366876040662
tw438712363199282259
tw401742411130188970
tw8947802123060778487
tw4778640955588267152
tw8604321607742585896
tw18033189650450007610
tw17090968915983965724
tw6957451105627517100
tw15978117376442228451
tw5042452808743400633
tw11205479128195707438
tw2287640686881040140
tw17481757909120598571
tw10422190030881793261
tw9850370671059594457
tw11672937534407086304
tw8172074709633059127
tw12544175156434016300
tw13537529794123701974
tw3392262998882910594
tw14525816653714109304
tw16170910614134080520
tw15104320578317913964
tw13197036001583744036
tw2870847489488857973
tw13855336936986839195
tw14086808455230167046
tw2000265872375985338
tw5352203226678736108
tw3322820445554334747
tw885695259533303640
tw15017668323182055560
tw14547309024037720949
tw3676762574374894971
tw10210691404848961615
tw16051254944176976595
tw9893630018505619212
tw8885532749638451609
tw6979817678825725765
tw930776515569029597
tw14199482792029637419
tw3860926094633392192
tw16275940758612680583
tw9923617916396937766
tw13224728196426107988
tw8124073968855901583
tw14699091297922202239
tw9332808656176259461
tw14409307928691762872
tw15605645035029711586
tw16107836176630142924
tw9160109805066428703
tw5709181192340125388
tw17020014210341147189
tw18439599125284753694
tw2490829623552665276
tw1830079194575423384
tw17029769423558585582
tw3821619587924418326
tw13085469826766531586
tw16742891866067417354
tw8223878064709968073
tw6138001687684317523
tw9245925691916632665
tw9053167769955416872
tw2602777839228190537
tw10536263752234496190
tw11234875776988763559
tw8278416807949584067
tw1479405135820441071
tw17807172929653986006
tw6877649959810966089
tw6852785255642571413
tw13068264388302539906
tw14903143722545876964
tw12375298627038247997
tw6131593970814642338
tw13035864561735851257
tw14849417153148379763
tw10304022387136357536
tw4138302432852749318
tw2080364321661752285
tw5752532011570021834:True)
set_option maxRecDepth 100000 in
set_option maxHeartbeats 0 in
theorem PySem.Challenge.cw_wakeorder_k55_too_many_plans_holds : PySem.Challenge.rw_wakeorder_k55_too_many_plans.Holds := by
 w_on;o_law;k_head;(case hw=>w_witness2)
 k_fill
 refine Tactic.walk (l:=PySem.Challenge.rw_wakeorder_k55_too_many_plans) rfl rfl (fun w h Y=>PySem.W.kIn_of Y) ?F
 case F=>
  intro w mg fa h KX G hmg;refine' Tactic.fin_mk KX G hmg ?z
  case z=>
   constructor
   all_goals first|exact Lake.dF KX G|exact PySem.W.mg_none_of KX G (by k_is)|exact ⟨_,mg_of KX G (by k_is)⟩|exact mg_of KX G (by k_is)|exact Lake.mF|exact Lake.kF KX G|exact Lake.tF KX G|exact Lake.iF|exact Lake.xF KX G|exact Lake.xM KX G Lake.mF|exact Lake.lF KX G|exact Lake.rS Lake.mF|k_is|kernel_rfl|exact ⟨mg_of KX G (by k_is),by k_is,by k_is⟩|exact ⟨by k_is,Lake.iF⟩|exact ⟨⟨_,_,_,rfl,by first|k_is|kernel_rfl,by first|k_is|kernel_rfl,by first|k_is|kernel_rfl⟩⟩|exact ⟨⟨_,_,_,_,rfl,by first|k_is|kernel_rfl,by first|k_is|kernel_rfl,by first|k_is|kernel_rfl,by first|k_is|kernel_rfl⟩⟩|decide +kernel|(constructor<;>first|k_is|kernel_rfl|rfl|decide +kernel)|(simp only [List.mem_cons,List.not_mem_nil,or_false,forall_eq_or_imp,forall_eq];repeat' constructor)<;>first|k_is|kernel_rfl
