import PyProof.Rows.All
import PyProof.StrBlockI
import PyProof.StrBlock2
import PyProof.Draws
import PyProof.EnumMake
import PyProof.Rows.StrNews
import KE.KIntText
import PyProof.PureStr
import PyProof.MeetsStr2
import PyProof.Rows.StrItems
import PyProof.StrLawsChain
import PyProof.StrLawsTight
import PyProof.StrLawsIn
import PyProof.StrWalks
import PyProof.FactsAll.str_7
import PyProof.FactsAll.list_1
import PyProof.FitsReplace
import PyProof.FactsAll.str_5
import PyProof.FString
import PyProof.StrLawsJoin
import PyProof.MeetsStr
import KE.KDictSum
import PyProof.Rows.RuleC_int
import PyProof.FactsAll.tuple_1
import KE.KEqDict
import PyProof.Rows.TupTab
import PyProof.AttrMissSeq
import KE.KDictOf
import KE.KPairComp
import PyProof.DictWalks
import PyProof.DictValues
import PyProof.DictItems
import PyProof.Rows.SetFrom
import KE.KRevIter
import PyProof.InstStoreFacts
import PyProof.ExcInit
import PyProof.IsiBase
import PyProof.ExcAttrAll.ValueError
import OpenK.KDescr
import KE.KIsAll
import PyProof.Rows.CatchOwn
import PyProof.RulesTry
import PyProof.RulesAs
import PyProof.RulesDel
import OpenK.KOwn
import PyProof.ExcBaseAll.ValueError
import PyProof.StationsW
import Wide.All
import OpenK.AllK
import Wide.FinOn
import Lean
import PyProof.EqAt
import PyProof.EqKinds
import PyProof.NeKinds
import PyProof.TupleCall
import PySem.Challenge.RW_wakeorder_k76_whole_bent_sheets
open Option renaming some->a_,none->c_,isSome_iff_exists->Jm,isSome_map->KQ,map_some->K9,getD_none->L0,map_eq_some_iff->M8,isSome_some->NL,any_eq_true->NM,getD_some->Oo,toList->O1
open Bool renaming false->b_,true->d_,and_eq_true->o_,false_ne_true->II,and_false->Jr,eq_iff_iff->Kt,not_eq_true'->K0,or_eq_true->Li,false_eq_true->LM,or_true->Nn,not_true->Pt,and_true->Pu
open PySem renaming Addr->e_,wpAny_bind->g_,sizeLine->h_,starEach->i_,Value->j_,Str->m_,Shared->v_,wpAny_pure->y_,boot_len->z_,wpAny->B_,model->C_,compareOp->Ht,sizeLine_eq->Hu,eval->Hv,mainGlobals->HG,backTo->HQ,wpAny_mono->HU,Program->HY,Heap->H_,Stmt->Ia,Expr->Ii,wpAny_truthy_bool->Ij,sysModules->Ir,mem_of_lookup->IB,World->IF,keywordEach->IK,cellsFrom->IL,cLine->IU,wpAny_Call_Name_kw->IY,attributeBase->IZ,swapsWith->Jb,assignEach->Jc,binaryOp->Jd,FuncData->Je,bootBuiltins->Jh,intText?->Jn,foldedSetIterable->Jo,codeAny_mono->Jp,wpAny_holding->Js,behindInMarks->Jt,backToKw->JH,Around->JK,NameKind->JT,codeAny_call_builtin->JY,strValues->JZ,Keyword->J0,tupleKind_room_in1->Ke,wpAny_field->Kf,wpAny_pyIter_list->Km,wpAny_loadPart_at->Kn,codeAny->Ko,call->Kp,Paired->Kq,Within->Kv,wpAny_standAt->Ky,wpAny_passesOwn->KJ,wpAny_execs_nil->KL,holding->KU,assign->K3,wpAny_dictEntries->La,sliceBounds->Lb,ExcAttrBase->Lc,Obj->Lg,wpAny_call_entry->Lm,tupleKind->Ln,wpAny_call->Lu,typeIs_str->Lv,getItem->Lw,ExcBaseFacts->Lx,letOwnedTupleGo->Lz,wpAny_setField->LN,excClassObj->LO,bindArgs->LP,setFlight->LV,lastMarks->LW,Env->LY,BindsTo->LZ,atKey->Me,Model->Mf,rawInt->Mm,call_meets->Mn,wpAny_newObj_type->Mx,standAt->My,slot_list_getitem->Mz,intKind->MA,concat_meets->MB,callerA->MC,Scope->MF,plainObj_wpAny_Assign_Attribute->MJ,wpAny_execs_cons->MQ,noFill_tuple_add->MR,getMethod->MS,checkBuiltinCall->MT,IsPart->MX,subscripted->M1,pushCells_keeps->M9,wpAny_richCompare_same_room->Ng,wpAny_loadPart->Nq,newFunctionEnv->Nr,intText_digits->Nt,callWith->Nu,wpAny_getItem_list_slice->NV,wpAny_comprehension_free->NW,swapsWithSole->NX,swappedStores->NY,seq_tuple_add->NZ,evalPart_none->N0,slicePick->Ob,numAt->Oc,noteFrame->Od,meetsH_dict_get_default->Oe,bindL->Of,bindC->Og,DictEntry->Om,wpAny_Assign_Subscript->Ot,valueAt->Ou,seqIndex_neg->Ov,isTrue->Ow,getAttr->Ox,call_meetsIn->Oy,Result->OC,wpAny_notOrdered_dict->OI,wpAny_isTrue_Compare1->OJ,Tok->OM,unbindBehindTheSuite->OU,seqIndex_of->OV,numAt_eq->OW,evalEach->OX,wpAny_isSubtype_exc->O7,wpAny_setItem_heap->Pa,wpAny_Name->Pb,wpAny_List_spliced->Pc,typeLookup->Pd,reduceHash->Pe,isInstance->Pf,builtinsNs->Pg,wpAny_pyIter_enum->Pw,wpAny_assign_Name->Px,wpAny_Call_method->Py,wpAny_Assign_Name->Pz,unaryOp->PB,storedH->PD,spliced->PF,setItem->PH,setAttr->PJ,leaving->PK,Sem->PQ,Pos->PR,OwnTail->PU,wpAny_pyIter_zip->P2,wpAny_lookBehind->P4,wpAny_isInstance->P5,wpAny_Dict_empty->P6,pastItsLine_dict->P7,getAttrBy->P8
open PySem.Heap renaming get?_push_of_some->l_,lt_size->u_,get?_push_size->Cb,get?_update_other->Hw,size_push->IW,get?_update_self->JP,SameBut->Kz
open PySem.Str renaming ofString->n_,join->Iy,empty->Jw
open List renaming getElem?_set_ne->p_,getElem?_set_self->sy,getElem?_eq_some_iff->s_,mem_cons->t_,lookup_cons->w_,length_map->A_,mem_cons_of_mem->E_,map_cons->F_,map_map->G_,length_cons->Hl,length_set->Hs,length_append->Hy,getElem?_eq_getElem->HA,mem_cons_self->HD,size_toArray->HI,getElem?_map->HJ,mem_map->HL,mem_append->HR,mem_of_getElem?->HS,exists_cons_of_length_eq_add_one->HZ,mem_append_right->Ib,find?_cons->Ic,replicate->Ie,not_mem_nil->Ig,mem_singleton->Ik,range->Iw,mem_filter->Iz,getElem?_append_left->IA,map_congr_left->ID,lookup->IE,map_append->IG,append_nil->IH,all_eq_true->IJ,length_take->IS,getElem?_append_right->Jf,filterMap_cons->Jq,mem_filterMap->JF,map_nil->JG,length_replicate->JQ,getElem?_eq_none->JR,getElem_mem->JV,drop_eq_getElem_cons->JX,nodup_cons->J5,length_eq_zero_iff->J8,getElem?_replicate->J9,getElem?_cons_succ->J_,findIdx?_eq_some_iff_getElem->Kb,append_assoc->Kc,length_drop->Kl,all_map->KA,reverse_cons->KZ,map->K6,getElem?_toArray->Ll,nodup_nil->Lr,mem_append_left->Ls,map_eq_nil_iff->LB,getElem_of_mem->LC,filterMap_map->LL,take_add_one->L4,nodup_append->L7,any_eq_true->Mj,length->Ms,of_mem_zip->Mu,nil_append->Mv,getD_eq_getElem?_getD->MO,drop_zero->MP,getElem?_cons_zero->Nd,take_of_length_le->Nj,range_succ_eq_map->Nk,drop_eq_nil_of_le->Nl,length_singleton->NF,mem_of_mem_take->NP,mem_of_mem_drop->NQ,map_id->NR,length_eraseIdx->NS,getElem_toArray->NT,length_reverse->N8,getElem?_range->N9,filter_eq_self->N_,contains_cons->Oq,mem_range'_1->OF,length_range->OG,getElem?_inj->OH,take_length->OO,getElem_inj->OP,filter_cons->OQ,ext_getElem->OR,drop_length->OS,cons_append->OT,length_nil->O3,foldl_cons->O4,sum_cons->Pm,all_cons->Pp,range'->Qj
open Decidable renaming decide->q_,byContradiction->Ih
open Nat renaming le_refl->r_,lt_of_lt_of_le->Hm,le_trans->HB,ne_of_lt->HC,zero_le->HX,lt_irrefl->Ip,le_succ->Iq,lt_succ_self->JW,toDigits->KC,ne_of_gt->KD,le_of_lt->KG,lt_trans->Lh,lt_succ_of_lt->Mc,not_lt->MZ,le_of_ble_eq_true->NO,mul_le_mul_right->N7,mul_le_mul->Pl,add_assoc->P0,zero_add->Qh,le_of_eq->Qi
open PySem.Value renaming ref->D_,int->Im,str->IM,none->JC,type->Kh,builtin->Kk,bool->ME,isInt->Ny,float->Nz,isStrOf->O9,bytes->PN
open PySem.W renaming findIn->Hq,kitOne->HV,emptyDict->Il,instObj->Ji,keepIn->Ju,cellsFrom_some->Jv,InstAt->JB,kia_one->JE,mroIn->JI,hasDictIn->JN,looks_findIn->J6,lookIn->KN,plainGet_of->Lo,methodObj->LD,kitx_list->LF,OpenLaw->LQ,specialIn->LX,fnOf->Ma,callWith_K->Mo,plainGet->MD,handedIn->MU,codeIn->MV,clsIn->MW,methodCall_KW->M3,looks_clsIn->M_,any_some->Na,callWith_K0->Nh,typeIn->Nv,kitx_tuple->Nw,isNs_of_in->Nx,kitx_none->NG,kitx_dict->NH,kitx_bool->NI,kitx_str->N2,kitx_int->N3,WalkO->N4,readsIn->Oh,plainOver->Oi,findCls->Oj,notCls->Oz,makesIn->OA,keq_eq->OB,nsIn->OY,kas_sort->OZ,findObj_own->O8,Frag->Ph,takesIn->PL,set_plain->PM
open Except renaming ok->Hr,error->JA,bind->Pq
open Option.some renaming inj->Hz,injEq->M7
open PySem.Builtin.Str renaming occurrences->HE,strSliceIndices->LJ,partsBetween->Mb,strKind->MN
open PySem.F renaming plainAttrs_list->HF,slot_list_append->HN,type_list_append->HW,slot_str_join->Io,type_str_join->IC,slot_str_split->Jx,slot_dict_get->JJ,attrBase_ValueError->JL,type_str_split->J7,slot_dict_eq->Kj,args_tuple_add_2->KO,entry_tuple_add->KW,args_dict_get_3->KY,slot_tuple_add->K4,entry_dict_get->K5,slot_str_startswith->Mg,excBase_ValueError->Mp,slot_list_index->ML,plainAttrs_dict->MM,args_dict_eq_2->MY,type_dict_get->M4,sub_dict_dict->M5,entry_dict_eq->M6,slot_list_extend->NB,typeOf_object_class->Ol,entry_bexc_ga->PX
open False renaming elim->HK
open Ne renaming symm->HM
open PySem.Txt renaming startswith->HP,split->Jl,slice->LA,mul->MK
open True renaming intro->Iu
open Nat.succ renaming inj->Iv
open Array renaming length_toList->IP,getElem?_eq_some_iff->KH,toList_append->Ly,toList->LU,find?_toList->Oa
open Pure renaming pure->IQ
open PySem.Obj renaming mapSeq->IT,isFreed_of_fields->Lp,mapFields->LH,data_mapFields->LR
open PySem.NumText renaming digitsVal->IV
open PyProof.Rows renaming boot_list->IX,boot_str->Ja,seqObj->Jy,slot_tuple_getitem->Jz,envOfC->JS,boot_int->J1,callWith_type1->Kg,pendingOf->Kw,boot_isinstance->KP,AllBare->Lf,boot_all->LS,subscriptTail->Mi,IntsAre->MH,Subscript_->NC,SortSt->ND,subscriptTail_builtinR->OD,failedOf->O0,chain_link->Pk,IsTup->PZ
open Except.ok renaming inj->I9
open PySem.NameKind renaming cell->I_
open LawfulBEq renaming eq_of_beq->Jj
open PySem.Calls renaming spliced_cons->JD,spliced_nil->KS,callWith_builtin->K8,evalArgs_plain->Lq,Name_function_global->MG
open PySem.Builtin.Slice renaming slicePlaces->JM,sliceAdjust->Kr,sliceApplied->LG,slicePartIndex->Qe,sliceFields->Qf
open PySem.Builtin.Dict renaming dictSlotArgs->JO,samePairs->Mh,showsAll->Mr
open PySem.Builtin.Tuple renaming tupleHashOf->JU,tupleItemsOf->Qc,tupleExact->Qd
open Int renaming emod_lt_of_pos->Ka,emod_nonneg->Kx,eq_ofNat_of_zero_le->K_,le_trans->Md,le_refl->Mw,mul_le_mul->M0,ediv_le_ediv->O5
open PySem.Builtin.List renaming listTooLong->Ks
open PySem.AutoSeq1 renaming wpAny_loadPart'->KI
open PySem.Paired renaming length->KR,snoc->Ni
open List.cons renaming injEq->K1
open ForInStep renaming yield->K2
open PySem.SeqAt renaming EqAt->K7,ne_of_list_tuple->Nb,RcNeAt->Nc,RcAt->N6
open PySem.EntryCells renaming newEntry->Le
open PySem.Code renaming quiet_builtin->LI
open Sum renaming inr->L_,inl->MI
open PySem.Heap.IsSliceOf renaming new->Mt
open Function renaming comp_apply->Nf
open PySem.Heap.Ns1 renaming of_empty->NA
open PySem.StrLaws renaming found_one->NJ
open PySem.PassesOwn renaming never->NK
open PySem.Within renaming cons->N1
open PySem.W.Looks renaming here->N5
open Min renaming min->OE
open PySem.Builtin.ObjectAttr renaming storeInOwnDict->ON
open PySem.Challenge renaming pw_wakeorder_k76_whole_bent_sheets->Pj
open PySem.Meets renaming of_wp->PV
open PySem.CmpOp renaming NotIn->PY
open PySem.EqMixed renaming ne_str_int->P9,ne_str_bool->P_,ne_int_str->Qa,ne_bool_str->Qb
open PySem.Builtin.Range renaming rangeSize->Qg
open List.Pairwise renaming nil->Qk
abbrev f_:=@if_pos
abbrev k_:=@if_neg
abbrev p9:=@decide_eq_false
abbrev x_:=@decide_eq_true
noncomputable abbrev Ho:=@absurd
abbrev Hx:=@decide_eq_true_eq
abbrev Jg:=@congrArg
abbrev Jk:=@of_decide_eq_true
abbrev Kd:=@or_false
abbrev Ku:=@beq_iff_eq
abbrev Lk:=@beq_eq_false_iff_ne
abbrev L8:=@decide_eq_false_iff_not
abbrev L9:=@beq_self_eq_true
abbrev Ml:=@trivial
abbrev Np:=@not_or
abbrev NU:=@decide_false
abbrev O6:=@if_true
abbrev O_:=@if_false
set_option Elab.async false
set_option linter.all false
set_option maxRecDepth 100000
set_option maxHeartbeats 4000000
open PySem.W (plainGet isFn plainOver takerIn makesIn typeIn keepIn specialIn takesIn kitOne kia_one callWith_K fnOf codeIn nsIn mg_of kitAny)
abbrev Pn:=Ph
abbrev Vp:=List (e_×Lg)
abbrev Mq:=j_->v_->Prop
abbrev Ld:=m_->Option j_
set_option compiler.extract_closed false
noncomputable section
theorem Jq0(_:True:=by rfl):True:=trivial
local macro_rules|`(~~~$t)=>`(autoParam $t Jq0._auto_1)
theorem Jq1(_:True:=by decide):True:=trivial
local macro_rules|`($t⁻¹)=>`(autoParam $t Jq1._auto_1)
theorem Jq2_(_:True:=by k_is):True:=trivial
def Jq2:Lean.Syntax:=Jq2_._auto_1
theorem Jq3_(_:True:=by first|exact .inl rfl|exact .inr rfl|assumption):True:=trivial
def Jq3:Lean.Syntax:=Jq3_._auto_1
theorem Jq4_(_:True:=by intro _;rfl):True:=trivial
def Jq4:Lean.Syntax:=Jq4_._auto_1
theorem Jq5_(_:True:=by first|exact Or.inl rfl|exact Or.inr (Or.inl rfl)|exact Or.inr (Or.inr rfl)):True:=trivial
def Jq5:Lean.Syntax:=Jq5_._auto_1
theorem Jq6_(_:True:=by first|exact Or.inl rfl|exact Or.inr rfl):True:=trivial
def Jq6:Lean.Syntax:=Jq6_._auto_1
theorem Jq7_(_:True:=by with_unfolding_all rfl):True:=trivial
def Jq7:Lean.Syntax:=Jq7_._auto_1
theorem Jq8_(_:True:=by first|k_is|kernel_rfl):True:=trivial
def Jq8:Lean.Syntax:=Jq8_._auto_1
theorem Jq9_(_:True:=by exact⟨rfl,rfl,rfl,by decide +kernel,rfl,by decide +kernel,by decide +kernel⟩):True:=trivial
def Jq9:Lean.Syntax:=Jq9_._auto_1
theorem Jq10_(_:True:=by first|exact BW _|with_unfolding_all rfl):True:=trivial
def Jq10:Lean.Syntax:=Jq10_._auto_1
theorem Jq11_(_:True:=by intro _ _ _ _ _ _ us hl;repeat' (first|(simp at hl;done)|rfl|(cases us<;>try rename_i us))):True:=trivial
def Jq11:Lean.Syntax:=Jq11_._auto_1
theorem Jq12_(_:True:=by exact λ_ _=>⟨_,rfl⟩):True:=trivial
def Jq12:Lean.Syntax:=Jq12_._auto_1
theorem dkK{p:Prop}(h:p:=by decide +kernel):p:=h
theorem ad{p:Prop}(h:p:=by lia):p:=h
theorem am{p:Prop}(h:p:=by simp):p:=h
theorem a8{p:Prop}(h:p:=by decide):p:=h
theorem a'{p:Prop}(h:p:=by grind):p:=h
theorem bb{p:Prop}(h:p:=by simp_all):p:=h
noncomputable abbrev PySem.Shared.z(s:PySem.Shared):=s.heap.objs.size
set_option bootstrap.genMatcherCode false
set_option genSizeOf false
set_option genInjectivity false
namespace Lake
open PySem PySem.Spec PyProof.Rows
abbrev ci:=List j_
abbrev ce:=List Nat
abbrev cc:=List Int
abbrev b8:=List m_
variable{κ:Type}{a b dx C:e_}{u:j_}{P prog:HY}{w:IF}{h h':H_}{x name m qual:m_}{e c tg:Ii}{A4:Vp}{s s':v_}{g':Array GenState}{ch fp:List e_}{N:List m_}{i n:Nat}{A:JK}{E:Mq}{Q:Unit->v_->Prop}{pos pos' p:PR}{op op':CmpOp}{K:Pn}{es:List Ii}{g:Int->Int->Int}{body:List Ia}{f:j_->j_->PQ j_}{us:List j_}{mA mg:Ld}{pl:PQ Bool}{kw:List (m_×j_)}{outer:List LY}{fd:Je}{scope:MF}
noncomputable abbrev Key:=Sum Int m_
noncomputable def DK:Key->j_->Bool
 |.inl k,v=>Ny k v|.inr x,v=>O9 x v
noncomputable def keyH(w:IF):Key->Int
 |.inl k=>hashInt k|.inr x=>hashStr w x
theorem d6:∀{k:Key} {v:j_},DK k v=d_->(∃i t,k=MI i/\v=Im i t)\/(∃x t,k=L_ x/\v=IM x t)
 |.inl i,v,h=>by obtain⟨t,e⟩:=Value.isInt_shape (k:=i) (v:=v) h;exact .inl ⟨i,t,rfl,e⟩
 |.inr x,v,h=>by obtain⟨t,e⟩:=Value.isStrOf_shape (x:=x) (v:=v) h;exact .inr ⟨x,t,rfl,e⟩
def FZ(i:Int)(t:OM):DK (.inl i) (.int i t)=d_:=by simp[DK,Ny]
def FY(x:m_)(t:OM):DK (.inr x) (.str x t)=d_:=by simp[DK,O9]
theorem key_ll(a b:Int):q_ ((MI a:Key)=MI b)=(a==b):=ad
def key_rr(a b:m_):q_ ((L_ a:Key)=L_ b)=q_ (a=b):=by simp
def key_lr(a:Int)(b:m_):q_ ((MI a:Key)=L_ b)=b_:=by rfl
def key_rl(a:m_)(b:Int):q_ ((L_ a:Key)=MI b)=b_:=by rfl
def dE(prog:HY)(w:IF):PySem.KeyKind prog w Key where
 is:=DK
 hash:=keyH w
 inj:=λv a b c I=>by
  rcases d6 c with⟨i,t,rfl,rfl⟩|⟨x,t,rfl,rfl⟩
  .rcases d6 I with⟨j,u,rfl,e⟩|⟨y,u,rfl,e⟩
   .simp_all
   simp_all
  .rcases d6 I with⟨j,u,rfl,e⟩|⟨y,u,rfl,e⟩
   .simp_all
   simp_all
 byValue:=λk v h=>by rcases d6 h with⟨i,t,rfl,rfl⟩|⟨x,t,rfl,rfl⟩<;>rfl
 pyHash:=λhv h=>by
  rcases d6 hv with⟨i,t,rfl,rfl⟩|⟨x,t,rfl,rfl⟩
  .exact wpAny_pyHash_int h
  .exact wpAny_pyHash_str h
 eqBool:=λY hv h=>by
  rcases d6 Y with⟨i,t,rfl,rfl⟩|⟨x,t,rfl,rfl⟩
  .rcases d6 hv with⟨j,u,rfl,rfl⟩|⟨y,u,rfl,rfl⟩
   .rw[key_ll]at h;exact wpAny_eqBool_int h
   .rw[key_lr]at h;exact SeqAt.EqAt.int_str i t y u _ _ _ _ h
  .rcases d6 hv with⟨j,u,rfl,rfl⟩|⟨y,u,rfl,rfl⟩
   .rw[key_rl]at h;exact SeqAt.EqAt.str_int x t j u _ _ _ _ h
   .rw[key_rr]at h;exact wpAny_eqBool_str h
 «strs»:=λk x t v h=>by
  rcases d6 h with⟨i,u,rfl,e⟩|⟨y,u,rfl,e⟩
  .simp_all
  .injection e with e1 _
   subst e1;cases v<;>rfl
def Az(prog:HY)(w:IF)(i:Int)(t:OM):(dE prog w).is (.inl i) (.int i t)=d_:=FZ i t
def Ay(prog:HY)(w:IF)(x:m_)(t:OM):(dE prog w).is (.inr x) (.str x t)=d_:=FY x t
set_option genInjectivity true in
set_option bootstrap.genMatcherCode true in
inductive V where
 |non|bl (b:Bool)|int (i:Int)|str (x:m_)|byt (b:Array UInt8)|flt (b:UInt64)|ref (a:e_)|ty (n:String)
 deriving DecidableEq
abbrev b9:=List V
variable{v y:V}{vs:List V}
def A':V->j_->Prop
 |.non,u=>u=JC|.bl b,u=>u=ME b|.int i,u=>∃t,u=Im i t
 |.str x,u=>∃t,u=IM x t
 |.byt b,u=>∃t,u=PN b t
 |.flt b,u=>∃t,u=Nz b t
 |.ref a,u=>u=D_ a|.ty n,u=>u=Kh n
abbrev B':b9->ci->Prop:=Kq A'
theorem B'.length{xs:b9}{us:ci}(r:B' xs us):xs.length=us.length:=KR r
theorem B'.get:∀{xs:b9} {us:ci} {i:Nat} {x:V},B' xs us->xs[i]?=a_ x->∃u,us[i]?=a_ u/\A' x u
 |_,_,_,_,.nil,e=>by simp at e|_,_,0,_,.cons r _,e=>by simp at e;subst e;exact⟨_,rfl,r⟩|_,_,i+1,x,.cons _ t,e=>by obtain⟨u,h1,h2⟩:=B'.get (i:=i) (x:=x) t (by simpa using e);exact⟨u,by simpa using h1,h2⟩
theorem B'.set{x:V}{u:j_}(r:A' x u):∀{xs:b9} {us:ci} (i:Nat),B' xs us->B' (xs.set i x) (us.set i u)
 |_,_,_,.nil=>.nil|_,_,0,.cons _ t=>.cons r t|_,_,i+1,.cons q t=>.cons q (B'.set r i t)
theorem B'.append:∀{xs ys:b9} {us ws:ci},B' xs us->B' ys ws->B' (xs++ys) (us++ws)
 |_,_,_,_,.nil,s=>s|_,_,_,_,.cons r t,s=>.cons r (B'.append t s)
theorem B'.take:∀{xs:b9} {us:ci} (n:Nat),B' xs us->B' (xs.take n) (us.take n)
 |_,_,0,_=>.nil|_,_,_+1,.nil=>.nil|_,_,n+1,.cons r t=>.cons r (B'.take n t)
theorem B'.drop:∀{xs:b9} {us:ci} (n:Nat),B' xs us->B' (xs.drop n) (us.drop n)
 |_,_,0,r=>r|_,_,_+1,.nil=>.nil|_,_,n+1,.cons _ t=>B'.drop n t
def qC:Option V->Option j_->Prop
 |some v,a_ u=>A' v u|none,c_=>True|_,_=>False
def KV:List (κ×V)->List (κ×j_)->Prop:=Kq λ(p:κ×V) (q:κ×j_)=>p.1=q.1/\A' p.2 q.2
noncomputable def kV:Key->V
 |.inl i=>.int i|.inr x=>.str x
set_option genInjectivity true in
inductive HO where
  |lst (xs:List V)
  |tup (xs:List V)
  |dK (A7:List (Key×V))|dT (A7:List (List Key×V))
  |set (S:Int->Bool) (n:Nat)
  |ins (C dx:e_) (fs:List (m_×V))
  |own (x:e_)
  |xd (fs:List (m_×V))
  |met (f x:e_)
  |rng (lo hi:Int)
  |frz (o:Lg) (u:HO)
  |tbl (ps:Array j_)
  |ext (φ:H_->Prop)
variable{o:HO}
noncomputable abbrev Hp:=e_->Option HO
variable{H H':Hp}
noncomputable def upd(H:Hp)(a:e_)(o:HO):Hp:=λb=>if b=a then a_ o else H b
def au:upd H a o a=a_ o:=by simp[upd,f_]
theorem aw(h:b≠a):upd H a o b=H b:=by simp_all[upd,k_]
def ne_of{u:HO}(h:H a=a_ o)(h':H b=a_ u)(d:o≠u):a≠b:=by intro e;subst e;rw[h]at h';exact d (Hz h')
theorem aQ(h:H a=a_ o)(h':H b=c_):a≠b:=ad
section
variable(P:HY)(w:IF)
def dj(H:Hp)(h:H_)(a:e_):HO->Prop
 |.lst xs=>xs.length<=h_/\∃(A8:ci) (n:Nat),B' xs A8/\h.get? a=a_ {cls:=.type "list",data:=.seq A8.toArray n}
 |.tup xs=>xs.length<=h_/\∃A8:ci,B' xs A8/\PZ h a A8.toArray
 |.dK A7=>A7.length<=h_/\(a==Ir)=b_/\∃vs,KV A7 vs/\h.DictOf (dE P w) a vs
 |.dT A7=>A7.length<=h_/\(a==Ir)=b_/\∃xs:List (List Key×e_×j_),
   Kq (λ(p:List Key×V) (q:List Key×e_×j_)=>p.1=q.1/\H q.2.1=a_ (.tup (p.1.map kV))/\A' p.2 q.2.2) A7 xs /\
   ∃o es ep,h.get? a=a_ o/\o.ExactDict/\o.data=.dict es ep/\es.toList=xs.map (entryOfKey (Ln (dE P w)))/\(xs.map (·.1)).Nodup
 |.set S n=>h.SetOf (MA P w) a S n|.ins C dx fs=>H dx=a_ (.own a)/\fs.length<=1000/\dx≠a/\h.get? a=a_ (Ji C dx) /\
   ∃mA,h.Ns1 dx mA/\(∀f,qC (fs.lookup f) (mA f))/\Kv mA (fs.map (·.1))
 |.own _=>∃o,h.get? a=a_ o
 |.xd fs=>∃mA,h.Ns1 a mA/\∀f,qC (fs.lookup f) (mA f)
 |.rng lo hi=>∃t u v,h.get? a=a_ {cls:=.type "range",data:=.fields #[.int lo t,.int hi u,.int 1 v]}
 |.frz o u=>h.get? a=a_ o/\dj H h a u|.tbl ps=>h.get? a=a_ {cls:=.none,data:=.fields ps}|.met f x=>h.get? a=a_ (LD (.ref f) (.ref x))|.ext I=>I h/\(∃o,h.get? a=a_ o)/\∀h1 h2:H_,I h1->(∀o,h1.get? a=a_ o->h2.get? a=a_ o)->I h2
def HOk(H:Hp)(h:H_):Prop:=∀a o,H a=a_ o->dj P w H h a o
end
theorem dj.lt(x:dj P w H h a o):a<h.objs.size:=by
 cases o with
 |lst xs=>obtain⟨_,_,_,_,e⟩:=x;exact u_ e
 |tup xs=>obtain⟨_,_,_,p⟩:=x;exact p.lt
 |dK A7=>obtain⟨_,_,_,_,o,_,_,e,_⟩:=x;exact u_ e
 |dT A7=>obtain⟨_,_,_,_,o,_,_,e,_⟩:=x;exact u_ e
 |set S n=>obtain⟨o,_,_,_,e,_⟩:=x;exact u_ e
 |ins C dx fs=>obtain⟨_,_,_,e,_⟩:=x;exact u_ e
 |own y=>obtain⟨_,e⟩:=x;exact u_ e
 |xd fs=>obtain⟨_,⟨_,_,_,e,_⟩,_⟩:=x;exact u_ e
 |rng lo hi=>obtain⟨_,_,_,e⟩:=x;exact u_ e
 |frz Y u=>obtain⟨e,_⟩:=x;exact u_ e
 |tbl ps=>exact u_ (show h.get? a=a_ _ from x)|met f y=>exact u_ (show h.get? a=a_ _ from x)|ext I=>obtain⟨_,⟨_,e⟩,_⟩:=x;exact u_ e
theorem Paired.mapP{α c:Type}{F G:α->c->Prop}:∀{Y:List α} {I:List c},Kq F Y I->(∀a b,F a b->G a b)->Kq G Y I
 |_,_,.nil,_=>.nil|_,_,.cons r t,f=>.cons (f _ _ r) (Paired.mapP t f)
def dj.zI(x:dj P w H h a o)(k:∀b u,(b=a\/H b=a_ (.own a))->h.get? b=a_ u->h'.get? b=a_ u)(j:∀b,H b=a_ (.own a)->H' b=a_ (.own a))(i:∀b xs,H b=a_ (.tup xs)->H' b=a_ (.tup xs)):dj P w H' h' a o:=by
 induction o with
 |lst xs=>obtain⟨z,A8,n,r,e⟩:=x;exact⟨z,A8,n,r,k _ _ (.inl rfl) e⟩
 |tup xs=>obtain⟨z,A8,r,I,e,c⟩:=x;exact⟨z,A8,r,I,k _ _ (.inl rfl) e,c⟩
 |dK A7=>obtain⟨z,y,vs,r,I,es,ep,e,c⟩:=x;exact⟨z,y,vs,r,I,es,ep,k _ _ (.inl rfl) e,c⟩
 |dT A7=>obtain⟨z,y,xs,r,I,es,ep,e,c⟩:=x;exact⟨z,y,xs,Paired.mapP r λp q z=>⟨z.1,i _ _ z.2.1,z.2.2⟩,I,es,ep,k _ _ (.inl rfl) e,c⟩
 |set S n=>obtain⟨I,es,ep,t,e,c⟩:=x;exact⟨I,es,ep,t,k _ _ (.inl rfl) e,c⟩
 |ins C dx fs=>obtain⟨d,z,Y,e,mA,⟨od,es,ep,e2,c⟩,r⟩:=x;exact⟨j _ d,z,Y,k _ _ (.inl rfl) e,mA,⟨od,es,ep,k _ _ (.inr d) e2,c⟩,r⟩
 |own y=>obtain⟨I,e⟩:=x;exact⟨I,k _ _ (.inl rfl) e⟩
 |xd fs=>obtain⟨mA,⟨od,es,ep,e,c⟩,r⟩:=x;exact⟨mA,⟨od,es,ep,k _ _ (.inl rfl) e,c⟩,r⟩
 |rng lo hi=>obtain⟨t,u,v,e⟩:=x;exact⟨t,u,v,k _ _ (.inl rfl) e⟩
 |frz I u g=>obtain⟨e,q⟩:=x;exact⟨k _ _ (.inl rfl) e,g q⟩
 |tbl ps=>have e:h.get? a=a_ {cls:=.none,data:=.fields ps}:=x;show h'.get? a=a_ {cls:=.none,data:=.fields ps};exact k a _ (.inl rfl) e|met f y=>have e:h.get? a=a_ (LD (.ref f) (.ref y)):=x;show h'.get? a=a_ (LD (.ref f) (.ref y));exact k a _ (.inl rfl) e|ext l=>obtain⟨p,⟨o,e⟩,st⟩:=x;exact⟨st _ _ p λo q=>k _ _ (.inl rfl) q,⟨o,k _ _ (.inl rfl) e⟩,st⟩
theorem HOk.lt(x:HOk P w H h)(e:H a=a_ o):a<h.objs.size:=(x a o e).lt
def HOk.fresh(x:HOk P w H h)(e:h.objs.size<=a):H a=c_:=by
 cases q:H a with
 |none=>rfl|some u=>exact Ho (Hm (x.lt q) e) (Ip _)
def HOk.kept(x:HOk P w H h)(k:∀b u,h.get? b=a_ u->h'.get? b=a_ u):HOk P w H h':=λa o e=>(x a o e).zI (λb u _ q=>k b u q) (λ_ q=>q) λ_ _ q=>q
theorem HOk.laid(x:HOk P w H h)(k:∀b u,h.get? b=a_ u->h'.get? b=a_ u)(d:h.objs.size<=a)(Y:dj P w (upd H a o) h' a o):HOk P w (upd H a o) h':=λb u e=>by
 have I:=x.fresh d;by_cases f:b=a
 .simp_all[au]
 .rw[aw f]at e;exact(x b u e).zI (λc v _ q=>k c v q) (λc q=>by rw[aw (aQ q I)];exact q) λc xs q=>by rw[aw (aQ q I)];exact q
def Rd(H:Hp)(a:e_)(u:HO):Prop:=H a=a_ u\/∃o,H a=a_ (.frz o u)
def Rd.ok{u:HO}(r:Rd H a u)(x:HOk P w H h):dj P w H h a u:=by
 rcases r with r|⟨o,r⟩
 .exact x a u r
 .obtain⟨_,q⟩:=x a _ r;exact q
def Mut:Option HO->Prop
 |some (.lst _)=>True|some (.dK _)=>True|some (.dT _)=>True|some (.set _ _)=>True|some (.ins _ _ _)=>True|some (.ext _)=>True|_=>False
section
variable{x e:e_}{o':HO}
theorem HOk.write(j:HOk P w H h)(d:Mut (H x))(m:e=x\/H e=a_ (.own x))(k:∀b u,b≠e->h.get? b=a_ u->h'.get? b=a_ u)(f:∃u,h'.get? e=a_ u)(l:dj P w (upd H x o') h' x o'):HOk P w (upd H x o') h':=λb u q=>by
 have a:∀c y,H c=a_ (.own y)->c≠x:=λc y r z=>by subst z;rw[r]at d;exact d
 have Y:∀c xs,H c=a_ (.tup xs)->c≠x:=λc xs r z=>by subst z;rw[r]at d;exact d
 by_cases i:b=x
 .simp_all[au]
 .rw[aw i]at q;by_cases I:b=e
  .have g:H b=a_ (.own x):=by
    rcases m with z|z
    .exact Ho (I.trans z) i
    .rw[I];exact z
   rw[q]at g;cases g;obtain⟨v,hv⟩:=f;exact⟨v,by rw[I];exact hv⟩
  .refine(j b u q).zI (λc v n r=>k c v ?_ r) (λc r=>by rw[aw (a c b r)];exact r) λc xs r=>by rw[aw (Y c xs r)];exact r
   grind
end
structure Un(fs ex:List e_)(H H':Hp)(h h':H_):Prop where
 keep:∀b o,h.get? b=a_ o->H b=c_->b∉fs->b∉ex->h'.get? b=a_ o
 slot:∀b o,h.get? b=a_ o->H b=c_->b∈fs->b∉ex->∃sl,h'.get? b=a_ {o with slots:=sl}
 free:∀b o,h.get? b=a_ o->H b=c_->b∉ex->H' b=c_
 there:∀b o,h.get? b=a_ o->b∉ex->∃o',h'.get? b=a_ o'
 tups:∀b xs,H b=a_ (.tup xs)->H' b=a_ (.tup xs)
 frzs:∀b o u,H b=a_ (.frz o u)->H' b=a_ (.frz o u)
 tbls:∀b ps,H b=a_ (.tbl ps)->∃more,H' b=a_ (.tbl (ps++more))
section
variable{fs ex:List e_}{H1 H2:Hp}{h1 h2:H_}{x e:e_}
def Un.any(u:Un fs ex H H1 h h1){I:Lg}(q:h.get? b=a_ I)(n:H b=c_)(Y:b∉ex):∃c,h1.get? b=a_ {I with slots:=c}:=by
 by_cases a:b∈fs
 .exact u.slot b I q n a Y
 .exact⟨I.slots,u.keep b I q n a Y⟩
theorem Un.trans(a:Un fs ex H H1 h h1)(b:Un fs ex H1 H2 h1 h2):Un fs ex H H2 h h2 where
 keep:=λc I q n d Y=>b.keep c I (a.keep c I q n d Y) (a.free c I q n Y) d Y
 slot:=λc I q n d Y=>by obtain⟨f,e1⟩:=a.slot c I q n d Y;obtain⟨e,e2⟩:=b.slot c _ e1 (a.free c I q n Y) d Y;exact⟨e,e2⟩
 free:=λc I q n Y=>by obtain⟨o',e1⟩:=a.there c I q Y;exact b.free c o' e1 (a.free c I q n Y) Y
 there:=λc I q Y=>by obtain⟨o',e1⟩:=a.there c I q Y;exact b.there c o' e1 Y
 tups:=λc xs q=>b.tups c xs (a.tups c xs q)
 frzs:=λc I xs q=>b.frzs c I xs (a.frzs c I xs q)
 tbls:=λc ps q=>by obtain⟨m1,e1⟩:=a.tbls c ps q;obtain⟨g,e2⟩:=b.tbls c _ e1;grind
theorem Un.kept(k:∀b u,h.get? b=a_ u->h'.get? b=a_ u):Un fs ex H H h h':=
 ⟨λb I q _ _ _=>k b I q,λb I q _ _ _=>⟨I.slots,k b I q⟩,λ_ _ _ n _=>n,λb I q _=>⟨I,k b I q⟩,λ_ _ q=>q,λ_ _ _ q=>q,λ_ ps q=>⟨#[],bb⟩⟩
def Un.refl:Un fs ex H H h h:=Un.kept λ_ _ q=>q
def Un.laid(k:∀b u,h.get? b=a_ u->h'.get? b=a_ u)(Y:h.objs.size<=a)(I:H a=c_):Un fs ex H (upd H a o) h h' where
 keep:=λb u q _ _ _=>k b u q
 slot:=λb u q _ _ _=>⟨u.slots,k b u q⟩
 free:=λb u q n _=>by rw[aw (HC (Hm (u_ q) Y))];exact n
 there:=λb u q _=>⟨u,k b u q⟩
 tups:=λb xs q=>by rw[aw (aQ q I)];exact q
 frzs:=λb u xs q=>by rw[aw (aQ q I)];exact q
 tbls:=λb ps q=>⟨#[],by rw[aw (aQ q I),q];simp⟩
theorem Un.write(c:Mut (H x))(g:e=x\/H e=a_ (.own x))(k:∀b u,b≠e->h.get? b=a_ u->h'.get? b=a_ u)(a:∃u,h'.get? e=a_ u):Un fs ex H (upd H x o) h h':=by
 have f:∀b,H b=c_->b≠x:=λb n z=>by subst z;rw[n]at c;exact c
 have d:∀b,H b=c_->b≠e:=λb n z=>by simp_all
 have Y:∀b u,H b=a_ u->¬Mut (a_ u)->b≠x:=λb u q nm z=>by simp_all
 refine⟨λb u q n _ _=>k b u (d b n) q,λb u q n _ _=>⟨u.slots,k b u (d b n) q⟩,λb u q n _=>by rw[aw (f b n)];exact n,λb u q _=>?_,
  λb xs q=>by rw[aw (Y b _ q λz=>z)];exact q,λb u xs q=>by rw[aw (Y b _ q λz=>z)];exact q,λb ps q=>⟨#[],by rw[aw (Y b _ q λz=>z),q];simp⟩⟩
 by_cases I:b=e
 .subst I;exact a
 .exact⟨u,k b u I q⟩
end
noncomputable def trk(h:H_)(H:Hp):List e_:=(Iw h.objs.size).filter λa=>(H a).isSome
def hidT(h:H_)(H:Hp):H_:=PySem.W.hideAll h (trk h H)
def Ga(h:H_)(H:Hp):(hidT h H).objs.size=h.objs.size:=PySem.W.hideAll_size _ _
theorem hidT_get{o:Lg}(e:h.get? b=a_ o)(n:H b=c_):(hidT h H).get? b=a_ o:=
 PySem.W.hideAll_get _ e λI=>by have q:(H b).isSome=d_:=(Iz.mp I).2;simp_all
theorem of_hidT{o:Lg}(e:(hidT h H).get? b=a_ o):h.get? b=a_ o/\H b=c_:=by
 have I:h.get? b=a_ o:=PySem.W.of_hideAll (trk h H) e;refine⟨I,?_⟩
 cases q:H b with
 |none=>rfl|some x=>have Y:b∈trk h H:=Iz.mpr ⟨List.mem_range.mpr (u_ I),by simp[q]⟩;have z:(hidT h H).get? b=c_:=PySem.W.hideAll_none (trk h H) Y;simp_all
structure Mod(K:Pn)(mg:Ld)(base:H_):Prop where
 kin:K.In base
 glob:base.Ns HG mg
 blt:∃mb,base.Ns Pg mb/\∀x:m_,x≠"__name__"->mb x=Jh x
 nolimit:base.NoLimit
structure Cx where
 prog:HY
 w:IF
 K:Pn
 mg:Ld
 base:H_
 A:JK
 N:b8
 s₀:v_
 H₀:Hp
 env:LY
 outer:List LY
 stack:List LY
 ex:List e_
 fn:m_->Bool
 calm:Bool
 pn:Vp
 xe:Mq
variable{X:Cx}
noncomputable def frs(l:List LY):List e_:=l.filterMap (·.frame)
abbrev Cx.fs(X:Cx):List e_:=frs X.outer
def Vis(sc:MF)(x:m_):Prop:=sc.names.lookup x=a_ .local\/sc.names.lookup x=a_ .cell\/sc.names.lookup x=a_ .free
def Loc(sc:MF)(x:m_):Prop:=sc.names.lookup x=a_ .local\/sc.names.lookup x=a_ .cell
def Look(env:LY)(h:H_)(m:Ld)(x:m_)(u:j_):Prop:=
 (env.kindOf x=a_ .local/\m x=a_ u)\/((env.kindOf x=a_ .cell\/env.kindOf x=a_ .free)/\∃c,env.cells.lookup x=a_ c/\h.IsCell c (a_ u))
structure Cx.Ok(X:Cx):Prop where
 mod:Mod X.K X.mg X.base
 kind:X.env.scope.kind=.function
 glob:X.env.globals=HG
 blt:X.env.builtins=Pg
 above:X.s₀.heap.objs.size<=X.env.locals
 inj:∀x y c,X.env.cells.lookup x=a_ c->X.env.cells.lookup y=a_ c->x=y
 has:∀x,(X.env.kindOf x=a_ .cell\/X.env.kindOf x=a_ .free)->∃c,X.env.cells.lookup x=a_ c
 cab:∀x c,X.fn x=d_->X.env.cells.lookup x=a_ c->X.s₀.heap.objs.size<=c
 hd:X.calm=d_->X.A.handled=c_
 frames:X.A.frames=a_ X.stack
 stk:X.stack=X.outer\/(X.stack=X.env::X.outer/\X.env.frame=a_ X.env.locals)
 exf:∀b∈X.ex,b≠X.env.locals/\∀x c,X.env.cells.lookup x=a_ c->c≠b
 bs:∀b o,X.base.get? b=a_ o->X.s₀.heap.get? b=a_ o/\X.H₀ b=c_
 bsz:X.base.objs.size<=X.s₀.heap.objs.size
 noex:∀b o,X.base.get? b=a_ o->b∉X.ex
 exfs:∀b∈X.ex,b∉X.fs
 yM:X.s₀.heap.FunFrames X.base X.outer
 frf:∀b∈X.fs,X.H₀ b=c_
structure A6(X:Cx)(A4:Vp)(σ:List (Option V))(H:Hp)(s:v_):Prop where
 ok:X.Ok
 os:s.os=X.s₀.os
 bare:Lf s.gens
 base:Un X.fs X.ex X.H₀ H X.s₀.heap s.heap
 loc:∃m,s.heap.Ns X.env.locals m/\∀(i:Nat) (x:m_) (v:V),X.N[i]?=a_ x->σ[i]?=a_ (a_ v)->Vis X.env.scope x->∃u,A' v u/\Look X.env s.heap m x u
 cell:∀x c,X.env.cells.lookup x=a_ c->∃v,s.heap.IsCell c v
 free:H X.env.locals=c_
 freeC:∀x c,X.env.cells.lookup x=a_ c->H c=c_
 pin:∀p∈X.pn++A4,s.heap.get? p.1=a_ p.2/\H p.1=c_/\p.1≠X.env.locals/\p.1∉X.fs/\∀v,p.2.data≠.cell v
 hok:HOk X.prog X.w H s.heap
 len:σ.length=X.N.length
section
variable{σ:List (Option V)}
theorem Cx.Ok.nofr(I:X.Ok){o:Lg}(e:X.base.get? b=a_ o):b∉X.fs:=λY=>by have:=(I.yM.mem Y).1;simp_all
theorem A6.bs(I:A6 X A4 σ H s):∀b o,X.base.get? b=a_ o->s.heap.get? b=a_ o/\H b=c_:=λb o e=>⟨I.base.keep b o (I.ok.bs b o e).1 (I.ok.bs b o e).2 (I.ok.nofr e) (I.ok.noex b o e),I.base.free b o (I.ok.bs b o e).1 (I.ok.bs b o e).2 (I.ok.noex b o e)⟩
def A6.bk(I:A6 X A4 σ H s):∀b o,X.base.get? b=a_ o->s.heap.get? b=a_ o:=λb o e=>(I.bs b o e).1
theorem A6.mod(I:A6 X A4 σ H s):Mod X.K X.mg X.base:=I.ok.mod
def A6.kIn(I:A6 X A4 σ H s):X.K.In s.heap:=I.ok.mod.kin.keeps I.bk
theorem A6.lt(I:A6 X A4 σ H s):X.env.locals<s.heap.objs.size:=let ⟨_,Y,_⟩:=I.loc;Y.lt
def A6.sz(I:A6 X A4 σ H s):X.s₀.heap.objs.size<=s.heap.objs.size:=HB I.ok.above (KG I.lt)
def A6.nofs(I:A6 X A4 σ H s)(h:s.heap.objs.size<=a):a∉X.fs:=λb=>by obtain⟨_,o,Y,_⟩:=I.ok.yM.mem b;exact Ho (Hm (u_ Y) (HB I.sz h)) (Ip _)
theorem A6.cne(I:A6 X A4 σ H s):∀x c,X.env.cells.lookup x=a_ c->c≠X.env.locals:=λx c e z=>by obtain⟨v,o,b,hd⟩:=I.cell x c e;obtain⟨m,⟨o',es,ep,Y,a,_⟩,_⟩:=I.loc;simp_all
theorem A6.yM(I:A6 X A4 σ H s):s.heap.FunFrames X.base X.outer:=by
 have d:∀(l:List LY),(∀b∈frs l,b∈X.fs)->X.s₀.heap.FunFrames X.base l->s.heap.FunFrames X.base l:=by
  intro l
  induction l with
  |nil=>intro _ _;trivial|cons env r g=>intro f k;obtain⟨m,⟨L,o,Y,j,i,hd⟩,h⟩:=k;have c:L∈X.fs:=f L (by unfold frs;rw[Jq,Y];exact HD);obtain⟨n,e⟩:=I.base.slot L o i (I.ok.frf L c) c λz=>I.ok.exfs L z c;exact⟨m,⟨L,_,Y,j,e,hd⟩,g (λb a=>f b (by unfold frs;rw[Jq,Y];exact E_ _ a)) h⟩
 exact d X.outer (λ_ a=>a) I.ok.yM
theorem A6.stack(I:A6 X A4 σ H s):s.heap.FunFrames X.base X.stack:=by
 rcases I.ok.stk with e|⟨e,a⟩
 .rw[e];exact I.yM
 .rw[e];obtain⟨m,Y,_⟩:=I.loc;refine .cons (by rw[I.ok.kind];decide) a Y ?_ I.yM;exact Heap.get?_none_of_le (HB I.ok.bsz I.ok.above)
def A6.uc(I:A6 X A4 σ H s):∀b∈frs X.stack,b∈X.env.locals::X.fs:=λb Y=>by
 rcases I.ok.stk with e|⟨e,a⟩
 .rw[e]at Y;exact E_ _ Y
 .rw[e]at Y;unfold frs at Y;rw[Jq,a]at Y;exact Y
def A6.ET(I:A6 X A4 σ H s):∀b∈frs X.stack,H b=c_:=λb Y=>by
 rcases t_.mp (I.uc b Y)with e|Y
 .rw[e];exact I.free
 .obtain⟨_,o,a,_⟩:=I.ok.yM.mem Y;exact I.base.free b o a (I.ok.frf b Y) λz=>I.ok.exfs b z Y
def A6.step{t':Nat}{d':Drawn}(I:A6 X A4 σ H s)(h:∀b∈ch,(b∈X.ex\/X.s₀.heap.objs.size<=b)/\b≠X.env.locals/\(∀x c,X.env.cells.lookup x=a_ c->c≠b)/\∀p∈X.pn++A4,p.1≠b)(g:∀b o,b≠X.env.locals->b∉X.fs->b∉ch->s.heap.get? b=a_ o->H b=c_->h'.get? b=a_ o)(w:∀b o,b≠X.env.locals->b∈X.fs->b∉ch->s.heap.get? b=a_ o->H b=c_->∃L,h'.get? b=a_ {o with slots:=L})(a:∀b o,b∉ch->s.heap.get? b=a_ o->H b=c_->H' b=c_)(y:∀b o,b∉ch->s.heap.get? b=a_ o->∃o',h'.get? b=a_ o')(C:∀b xs,H b=a_ (.tup xs)->H' b=a_ (.tup xs))(G:∀b o u,H b=a_ (.frz o u)->H' b=a_ (.frz o u))(D:∀b ps,H b=a_ (.tbl ps)->∃F,H' b=a_ (.tbl (ps++F)))(ns:∀m,s.heap.Ns X.env.locals m->h'.Ns X.env.locals m)(N:HOk X.prog X.w H' h')(W:Lf g'):
  A6 X A4 σ H' {s with heap:=h',gens:=g',drawn:=d',toks:=t'}:=by
 have E:∀b o,X.s₀.heap.get? b=a_ o->b≠X.env.locals:=λb o e=>HC (Hm (u_ e) I.ok.above);have t:∀b o,X.s₀.heap.get? b=a_ o->b∉X.ex->b∉ch:=λb o e Y A=>by
  rcases(h b A).1 with z|z
  .exact Y z
  .exact Ho (Hm (u_ e) z) (Ip _)
 have j:∀x c,X.env.cells.lookup x=a_ c->∀v,s.heap.IsCell c v->h'.IsCell c v:=λx c e v ⟨o,B,hd⟩=>by
  have f:c∉ch:=λz=>(h c z).2.2.1 x c e rfl;by_cases R:c∈X.fs
  .obtain⟨L,q⟩:=w c o (I.cne x c e) R f B (I.freeC x c e);exact⟨_,q,hd⟩
  .exact⟨o,g c o (I.cne x c e) R f B (I.freeC x c e),hd⟩
 refine⟨I.ok,I.os,W,⟨λb o e n A Y=>?_,λb o e n A Y=>?_,λb o e n Y=>?_,λb o e Y=>?_,λb xs e=>C b xs (I.base.tups b xs e),λb o xs e=>G b o xs (I.base.frzs b o xs e),λb ps e=>?_⟩,?_,λx c e=>?_,?_,λx c e=>?_,λp Q=>?_,N,I.len⟩
 .exact g b o (E b o e) A (t b o e Y) (I.base.keep b o e n A Y) (I.base.free b o e n Y)
 .obtain⟨L,e1⟩:=I.base.slot b o e n A Y;obtain⟨K,e2⟩:=w b _ (E b o e) A (t b o e Y) e1 (I.base.free b o e n Y);exact⟨K,e2⟩
 .obtain⟨o',e1⟩:=I.base.there b o e Y;exact a b o' (t b o e Y) e1 (I.base.free b o e n Y)
 .obtain⟨o',e1⟩:=I.base.there b o e Y;exact y b o' (t b o e Y) e1
 .obtain⟨m1,e1⟩:=I.base.tbls b ps e;obtain⟨S,e2⟩:=D b _ e1;exact⟨m1++S,by rw[e2,Array.append_assoc]⟩
 .obtain⟨m,T,U⟩:=I.loc;refine⟨m,ns m T,λi x v e1 e2 e3=>?_⟩
  obtain⟨u,r,l⟩:=U i x v e1 e2 e3;refine⟨u,r,?_⟩
  rcases l with l|⟨k,c,e,z⟩
  .exact .inl l
  .exact .inr ⟨k,c,e,j x c e _ z⟩
 .obtain⟨v,z⟩:=I.cell x c e;exact⟨v,j x c e v z⟩
 .obtain⟨m,⟨o,_,_,B,_⟩,_⟩:=I.loc;exact a _ o (λz=>(h _ z).2.1 rfl) B I.free
 .obtain⟨v,o,B,hd⟩:=I.cell x c e;exact a c o (λz=>(h c z).2.2.1 x c e rfl) B (I.freeC x c e)
 .obtain⟨e,n,P,O,d⟩:=I.pin p Q;have f:p.1∉ch:=λz=>(h p.1 z).2.2.2 p Q rfl;exact⟨g p.1 p.2 P O f e n,a p.1 p.2 f e n,P,O,d⟩
def A6.un{t':Nat}(I:A6 X A4 σ H s)(u:Un X.fs [] H H' s.heap h')(a:HOk X.prog X.w H' h'):A6 X A4 σ H' {s with heap:=h',toks:=t'}:=by
 obtain⟨m,⟨o,es,ep,f,r⟩,_⟩:=id I.loc;obtain⟨i,h⟩:=u.any f I.free am;exact I.step (g':=s.gens) (d':=s.drawn) (ch:=[]) (λ_ z=>nomatch z) (λb o _ c _ e n=>u.keep b o e n c am) (λb o _ c _ e n=>u.slot b o e n c am) (λb o _ e n=>u.free b o e n am) (λb o _ e=>u.there b o e am) u.tups u.frzs u.tbls (λj g=>by obtain⟨o',d,ep',Y,r'⟩:=g;rw[f]at Y;cases Y;exact⟨_,d,ep',h,r'⟩) a I.bare
def A6.call{t':Nat}{d':Drawn}(I:A6 X A4 σ H s)(u:Un (frs X.stack) ch H H' s.heap h')(f:HOk X.prog X.w H' h')(k:Lf g')(d:∀b∈ch,(b∈X.ex\/X.s₀.heap.objs.size<=b)/\b≠X.env.locals/\(∀x c,X.env.cells.lookup x=a_ c->c≠b)/\∀p∈X.pn++A4,p.1≠b):
  A6 X A4 σ H' {s with heap:=h',gens:=g',drawn:=d',toks:=t'}:=by
 obtain⟨m,⟨o,es,ep,i,r⟩,_⟩:=id I.loc;obtain⟨q,g⟩:=u.any i I.free λz=>(d _ z).2.1 rfl;exact I.step (ch:=ch) d (λb o g l Y e n=>u.keep b o e n (λz=>(t_.mp (I.uc b z)).elim g l) Y) (λb o _ _ Y e n=>u.any e n Y) (λb o Y e n=>u.free b o e n Y) (λb o Y e=>u.there b o e Y) u.tups u.frzs u.tbls (λt j=>by obtain⟨o',h,ep',a,r'⟩:=j;rw[i]at a;cases a;exact⟨_,h,ep',g,r'⟩) f k
theorem A6.turned{t':Nat}{Y:e_}(I:A6 X A4 σ H s)(k:∀b o,b≠Y->s.heap.get? b=a_ o->h'.get? b=a_ o)(l:H Y=c_)(f:Y≠X.env.locals)(h1:Y∈X.ex\/X.s₀.heap.objs.size<=Y)(h2:∀x c,X.env.cells.lookup x=a_ c->c≠Y)(j:∀p∈X.pn++A4,p.1≠Y):A6 X A4 σ H {s with heap:=h',toks:=t'}:=by
 have d:∀b u,H b=a_ u->b≠Y:=λb u e z=>by simp_all
 refine I.step (g':=s.gens) (d':=s.drawn) (ch:=[Y]) (λb i=>?_) (λb o _ _ a e _=>k b o (λz=>a (by simp[z])) e) (λb o _ _ a e _=>⟨o.slots,k b o (λz=>a (by simp[z])) e⟩) (λ_ _ _ _ n=>n)
  (λb o a e=>⟨o,k b o (λz=>a (by simp[z])) e⟩) (λ_ _ e=>e) (λ_ _ _ e=>e) (λb ps e=>⟨#[],bb⟩) (λm h=>?_) (λb u e=>?_) I.bare
 .have e:b=Y:=by simpa using i
  subst e;exact⟨h1,f,h2,j⟩
 .obtain⟨o,es,ep,g,r⟩:=h;exact⟨o,es,ep,k _ o (HM f) g,r⟩
 .refine(I.hok b u e).zI (λc v a q=>k c v ?_ q) (λ_ q=>q) λ_ _ q=>q;rcases a with z|z
  .rw[z];exact d b u e
  .exact d c _ z
def A6.tok(I:A6 X A4 σ H s)(t:Nat):A6 X A4 σ H {s with toks:=t}:=I.un (h':=s.heap) (t':=t) Un.refl I.hok
theorem A6.kept{t':Nat}(I:A6 X A4 σ H s)(k:∀b u,s.heap.get? b=a_ u->h'.get? b=a_ u):A6 X A4 σ H {s with heap:=h',toks:=t'}:=I.un (Un.kept k) (I.hok.kept k)
theorem A6.laid{a:e_}{o:HO}{t':Nat}(I:A6 X A4 σ H s)(k:∀b u,s.heap.get? b=a_ u->h'.get? b=a_ u)(c:s.heap.objs.size<=a)(Y:dj X.prog X.w (upd H a o) h' a o):
  A6 X A4 σ (upd H a o) {s with heap:=h',toks:=t'}:=I.un (Un.laid k c (I.hok.fresh c)) (I.hok.laid k c Y)
theorem A6.write{x e:e_}{o:HO}{t':Nat}(I:A6 X A4 σ H s)(c:Mut (H x))(d:e=x\/H e=a_ (.own x))(k:∀b u,b≠e->s.heap.get? b=a_ u->h'.get? b=a_ u)(Y:∃u,h'.get? e=a_ u)(a:dj X.prog X.w (upd H x o) h' x o):A6 X A4 σ (upd H x o) {s with heap:=h',toks:=t'}:=I.un (Un.write c d k Y) (I.hok.write c d k Y a)
def A6.weak{σ':List (Option V)}(I:A6 X A4 σ H s)(b:σ'.length=σ.length)(w:∀(i:Nat) v,σ'[i]?=a_ (a_ v)->σ[i]?=a_ (a_ v)):A6 X A4 σ' H s:=
 ⟨I.ok,I.os,I.bare,I.base,let ⟨m,a,Y⟩:=I.loc;⟨m,a,λi x v e1 e2 e3=>Y i x v e1 (w i v e2) e3⟩,I.cell,I.free,I.freeC,I.pin,I.hok,b.trans I.len⟩
def A6.vA{pins':Vp}(I:A6 X A4 σ H s)(h:∀p∈pins',s.heap.get? p.1=a_ p.2/\H p.1=c_/\p.1≠X.env.locals/\p.1∉X.fs/\∀v,p.2.data≠.cell v):A6 X pins' σ H s:=
 ⟨I.ok,I.os,I.bare,I.base,I.loc,I.cell,I.free,I.freeC,λp Y=>(HR.mp Y).elim (λz=>I.pin p (Ls _ z)) (h p),I.hok,I.len⟩
def vO(I:N.Nodup){j:Nat}(a:N[i]?=a_ x)(b:N[j]?=a_ x):i=j:=by obtain⟨h1,e1⟩:=s_.mp a;obtain⟨h2,e2⟩:=s_.mp b;exact(OP I).mp (e1.trans e2.symm)
theorem xA{M:Mf}(I:A6 X A4 σ H s)(hN:X.N.Nodup)(hi:X.N[i]?=a_ x)(g:Loc X.env.scope x)(r:A' v u)(h:∀s',A6 X A4 (σ.set i (a_ v)) H s'->(∃a,Kz a s.heap s'.heap/\(a=X.env.locals\/X.env.cells.lookup x=a_ a))->Q () s')(hf:autoParam (X.fn x=d_\/X.env.scope.names.lookup x=a_ .local) Jq3):B_ M A (storeName X.env x u) Q E s:=by
 obtain⟨m,hn,hl⟩:=id I.loc;have L:(X.env.scope.kind==.class||(X.env.scope.kind==.module&&X.env.locals != X.env.globals))=b_:=by rw[I.ok.kind];rfl
 have t:i<σ.length:=by rw[I.len];exact(s_.mp hi).1
 have D:=I.cne;have f:∀{a:e_} {h':H_},(∃o,s.heap.get? a=a_ o/\H a=c_)->Kz a s.heap h'->HOk X.prog X.w H h':=λ{a h'} ha Y b ob e=>by obtain⟨_,_,hfree⟩:=ha;refine(I.hok b ob e).zI (λc P l q=>(Y.2 c ?_).trans q) (λ_ q=>q) λ_ _ q=>q;lia
 rcases g with F|F
 .refine wpAny_storeName_local F hn (λh' hn' Y=>?_) L;obtain⟨oL,_,_,hoL,_⟩:=id hn;refine h _ ⟨I.ok,I.os,I.bare,⟨λb o e n C g=>?_,λb o e n C g=>?_,I.base.free,λb o e g=>?_,I.base.tups,I.base.frzs,I.base.tbls⟩,⟨_,hn',λj y T e1 e2 e3=>?_⟩,λy c e=>?_,I.free,I.freeC,λp hp=>?_,f ⟨oL,hoL,I.free⟩ Y,by simpa using I.len⟩ ⟨_,Y,.inl rfl⟩
  .exact(Y.2 b (HC (Hm (u_ e) I.ok.above))).trans (I.base.keep b o e n C g)
  .obtain⟨W,e1⟩:=I.base.slot b o e n C g;exact⟨W,(Y.2 b (HC (Hm (u_ e) I.ok.above))).trans e1⟩
  .obtain⟨o',e1⟩:=I.base.there b o e g;exact⟨o',(Y.2 b (HC (Hm (u_ e) I.ok.above))).trans e1⟩
  .by_cases w:j=i
   .subst w;rw[hi]at e1;cases e1;rw[sy t]at e2;cases e2;exact⟨u,r,.inl ⟨F,am⟩⟩
   .rw[p_ (HM w)]at e2;obtain⟨U,r',q⟩:=hl j y T e1 e2 e3;refine⟨U,r',?_⟩
    rcases q with⟨k,e⟩|⟨k,c,e,z⟩
    .refine .inl ⟨k,?_⟩;have:y≠x:=λe=>w (vO hN e1 (e▸hi));simp_all
    .exact .inr ⟨k,c,e,z.sameBut Y (D y c e)⟩
  .obtain⟨P,z⟩:=I.cell y c e;exact⟨P,z.sameBut Y (D y c e)⟩
  .obtain⟨e,n,R,Z,d⟩:=I.pin p hp;exact⟨(Y.2 p.1 R).trans e,n,R,Z,d⟩
 .have B:X.fn x=d_:=by
   rcases hf with z|z
   .exact z
   .simp_all
  obtain⟨c,l⟩:=I.ok.has x (.inl F);obtain⟨P,z⟩:=I.cell x c l;refine wpAny_storeName_cell I.ok.kind F l z (λh' O Y=>?_);obtain⟨oc,K,G⟩:=id z;refine h {s with heap:=h'} ⟨I.ok,I.os,I.bare,⟨λb o e n C g=>?_,λb o e n C g=>?_,I.base.free,λb o e g=>?_,I.base.tups,I.base.frzs,I.base.tbls⟩,⟨m,hn.sameBut Y (HM (D x c l)),λj y T e1 e2 e3=>?_⟩,λy S e=>?_,I.free,I.freeC,λp hp=>?_,f ⟨oc,K,I.freeC x c l⟩ Y,by simpa using I.len⟩ ⟨c,Y,.inr l⟩
  .exact(Y.2 b (HC (Hm (u_ e) (I.ok.cab x c B l)))).trans (I.base.keep b o e n C g)
  .obtain⟨W,e1⟩:=I.base.slot b o e n C g;exact⟨W,(Y.2 b (HC (Hm (u_ e) (I.ok.cab x c B l)))).trans e1⟩
  .obtain⟨o',e1⟩:=I.base.there b o e g;exact⟨o',(Y.2 b (HC (Hm (u_ e) (I.ok.cab x c B l)))).trans e1⟩
  .by_cases w:j=i
   .subst w;rw[hi]at e1;cases e1;rw[sy t]at e2;cases e2;exact⟨u,r,.inr ⟨.inl F,c,l,O⟩⟩
   .rw[p_ (HM w)]at e2;obtain⟨U,r',q⟩:=hl j y T e1 e2 e3;refine⟨U,r',?_⟩
    rcases q with q|⟨k,S,e,z'⟩
    .exact .inl q
    .refine .inr ⟨k,S,e,z'.sameBut Y ?_⟩;rintro rfl;exact w (vO hN e1 (I.ok.inj _ _ _ e l▸hi))
  .by_cases N:S=c
   .subst N;exact⟨_,O⟩
   .obtain⟨w2,z2⟩:=I.cell y S e;exact⟨w2,z2.sameBut Y N⟩
  .obtain⟨e,n,R,Z,d⟩:=I.pin p hp;refine⟨(Y.2 p.1 ?_).trans e,n,R,Z,d⟩
   intro q;rw[q,K]at e;have q':oc=p.2:=Hz e;exact d P (by rw[<- q'];exact G)
def mW{M:Mf}(I:A6 X A4 σ H s)(b:X.N.Nodup)(hi:X.N[i]?=a_ x)(Y:Loc X.env.scope x)(r:A' v u)(h:∀s',A6 X A4 (σ.set i (a_ v)) H s'->Q () s')(a:autoParam (X.fn x=d_\/X.env.scope.names.lookup x=a_ .local) Jq3):B_ M A (storeName X.env x u) Q E s:=
 xA I b hi Y r (λs' c _=>h s' c) a
def A6.call'(I:A6 X A4 σ H s)(d:s'.os=s.os)(u:Un (frs X.stack) ch H H' s.heap s'.heap)(Y:HOk X.prog X.w H' s'.heap)(f:Lf s'.gens)(a:∀b∈ch,(b∈X.ex\/X.s₀.heap.objs.size<=b)/\b≠X.env.locals/\(∀x c,X.env.cells.lookup x=a_ c->c≠b)/\∀p∈X.pn++A4,p.1≠b):A6 X A4 σ H' s':=by obtain⟨h',g',d',t',o'⟩:=s';have e:o'=s.os:=d;subst e;exact I.call (g':=g') (t':=t') (d':=d') u Y f a
end
abbrev XK:=j_->Option e_->Hp->Prop
noncomputable abbrev St:=List (Option V)
variable{σ:St}
abbrev VK:=V->Hp->Prop
abbrev TE:=St->Hp->VK->Prop
variable{ta tb te:TE}
abbrev TT:=St->Hp->(Bool->Hp->Prop)->Prop
abbrev TA:=St->Hp->(b9->Hp->Prop)->Prop
structure Ends where
 nx:St->Hp->Prop
 rt:VK
 bk:St->Hp->Prop:=λ_ _=>False
 ct:St->Hp->Prop:=λ_ _=>False
abbrev TS:=Ends->St->Hp->Prop
def EP(X:Cx)(A4:Vp)(σ:St)(Q:VK)(u:j_)(s':v_):Prop:=∃v H',A6 X A4 σ H' s'/\A' v u/\Q v H'
def TP(X:Cx)(A4:Vp)(σ:St)(Q:Bool->Hp->Prop)(b:Bool)(s':v_):Prop:=∃H',A6 X A4 σ H' s'/\Q b H'
def AP(X:Cx)(A4:Vp)(σ:St)(Q:b9->Hp->Prop)(us:ci)(s':v_):Prop:=∃vs H',A6 X A4 σ H' s'/\B' vs us/\Q vs H'
def SP(X:Cx)(A4:Vp)(D:Ends)(f:Flow)(s':v_):Prop:=
 match f with
 |.next=>∃σ' H',A6 X A4 σ' H' s'/\D.nx σ' H'
 |.brk=>∃σ' H',A6 X A4 σ' H' s'/\D.bk σ' H'
 |.cont=>∃σ' H',A6 X A4 σ' H' s'/\D.ct σ' H'
 |.ret u=>∃v σ' H',A6 X A4 σ' H' s'/\A' v u/\D.rt v H'
def PE(X:Cx)(e:Ii)(t:TE):Prop:=
 ∀(A4:Vp) (s:v_) (σ:St) (H:Hp) (Q:VK),A6 X A4 σ H s->t σ H Q->B_ (C_ X.prog X.w) X.A (Hv e X.env) (EP X A4 σ Q) X.xe s
def PT(X:Cx)(e:Ii)(t:TT):Prop:=
 ∀(A4:Vp) (s:v_) (σ:St) (H:Hp) (Q:Bool->Hp->Prop),A6 X A4 σ H s->t σ H Q->B_ (C_ X.prog X.w) X.A (Ow e X.env (Hv e X.env)) (TP X A4 σ Q) X.xe s
def PW(X:Cx)(e:Ii)(t:TT):Prop:=
 ∀(I:PQ j_) (A4:Vp) (s:v_) (σ:St) (H:Hp) (Q:Bool->Hp->Prop),A6 X A4 σ H s->t σ H Q->B_ (C_ X.prog X.w) X.A (Ow e X.env I) (TP X A4 σ Q) X.xe s
def PW.pt{t:TT}(h:PW X e t):PT X e t:=h _
def PA(X:Cx)(es:List Ii)(t:TA):Prop:=
 ∀(pos:PR) (A4:Vp) (s:v_) (σ:St) (H:Hp) (Q:b9->Hp->Prop),A6 X A4 σ H s->t σ H Q->B_ (C_ X.prog X.w) X.A (PF (HQ pos (i_ es X.env))) (AP X A4 σ Q) X.xe s
def PS(X:Cx)(st:Ia)(t:TS):Prop:=
 ∀(A4:Vp) (s:v_) (σ:St) (H:Hp) (D:Ends),A6 X A4 σ H s->t D σ H->B_ (C_ X.prog X.w) X.A (exec st X.env) (SP X A4 D) X.xe s
def PSs(X:Cx)(st:List Ia)(t:TS):Prop:=
 ∀(A4:Vp) (s:v_) (σ:St) (H:Hp) (D:Ends),A6 X A4 σ H s->t D σ H->B_ (C_ X.prog X.w) X.A (execs st X.env) (SP X A4 D) X.xe s
def C6{α:Type}{t:PQ α}{Q I:α->v_->Prop}{M:Mf}(h:B_ M A t Q E s)(Y:∀a s,Q a s->I a s):B_ M A t I E s:=HU h Y λ_ _ x=>x
section
noncomputable def cb(i:Nat):TE:=λσ H Q=>∃v,σ[i]?=a_ (a_ v)/\Q v H
noncomputable def tC(v:V):TE:=λ_ H Q=>Q v H
def pe_var(n:X.N[i]?=a_ x)(hv:Vis X.env.scope x)(hd:((x==("__debug__":m_))=b_)⁻¹)(d:((x==("__classdict__":m_))=b_)⁻¹):PE X (.Name x pos) (cb i):=by
 intro A4 s σ H Q I h;obtain⟨v,e,h⟩:=h;obtain⟨m,g,k⟩:=I.loc;obtain⟨u,r,l⟩:=k i x v n e hv;have b:EP X A4 σ Q u s:=⟨v,H,I,r,h⟩
 rcases l with⟨a,j⟩|⟨a,c,f,Y⟩
 .exact Pb (wpAny_loadName_local I.ok.kind a g j b) hd
 .rcases a with a|a
  .exact Pb (wpAny_loadName_cell I.ok.kind a f Y b) hd
  .exact Pb (wpAny_loadName_free I.ok.kind a f Y b d) hd
def BS{i j pos}:PE X (.Constant (.int i) j pos) (tC (.int i)):=λ_ _ _ H _ I h=>wpAny_Constant_int ⟨.int i,H,I.tok _,⟨_,rfl⟩,h⟩
def jM{b j pos}:PE X (.Constant (.bool b) j pos) (tC (.bl b)):=λ_ _ _ H _ I h=>Constant_bool ⟨.bl b,H,I,rfl,h⟩
def pe_non{j pos}:PE X (.Constant .none j pos) (tC .non):=λ_ _ _ H _ I h=>Constant_none ⟨.non,H,I,rfl,h⟩
def uq{x j pos}:PE X (.Constant (.str x) j pos) (tC (.str x)):=λ_ _ _ H _ I h=>Calls.Constant_str ⟨.str x,H,I.tok _,⟨_,rfl⟩,h⟩
def Gl(X:Cx)(x:m_):Prop:=X.env.kindOf x=a_ .globalImplicit
def jS{Q:Mq}(I:A6 X A4 σ H s)(a:Gl X x)(Y:X.mg x=a_ u)(h:Q u s)(hd:((x==("__debug__":m_))=b_)⁻¹):B_ (C_ X.prog X.w) X.A (Hv (.Name x pos) X.env) Q E s:=
 MG I.ok.kind a (Calls.loadGlobal_global (by rw[I.ok.glob];exact I.mod.glob.keeps I.bk) Y h) hd
def uv{Q:Mq}(I:A6 X A4 σ H s)(b:Gl X x)(a:X.mg x=c_)(hv:Jh x=a_ u)(h:Q u s)(Y:(x≠"__name__")⁻¹)(hd:((x==("__debug__":m_))=b_)⁻¹):B_ (C_ X.prog X.w) X.A (Hv (.Name x pos) X.env) Q E s:=by obtain⟨c,h1,h2⟩:=I.mod.blt;exact MG I.ok.kind b (Calls.loadGlobal_builtin (by rw[I.ok.glob];exact I.mod.glob.keeps I.bk) a (by rw[I.ok.blt];exact h1.keeps I.bk) ((h2 x Y).trans hv) h) hd
def vC(a:Gl X x)(Y:X.mg x=a_ u)(r:A' v u)(hd:((x==("__debug__":m_))=b_)⁻¹):PE X (.Name x pos) (tC v):=
 λ_ _ _ H _ I h=>jS I a Y ⟨v,H,I,r,h⟩ hd
def pe_bltn(b:Gl X x)(a:X.mg x=c_)(hv:Jh x=a_ u)(r:A' v u)(Y:(x≠"__name__")⁻¹)(hd:((x==("__debug__":m_))=b_)⁻¹):PE X (.Name x pos) (tC v):=
 λ_ _ _ H _ I h=>uv I b a hv ⟨v,H,I,r,h⟩ Y hd
variable{a b:Ii}
def PC(X:Cx)(op:CmpOp)(a b:Ii)(t:TE):Prop:=
 ∀(A4:Vp) (s:v_) (σ:St) (H:Hp) (Q:VK),A6 X A4 σ H s->t σ H Q ->
  B_ (C_ X.prog X.w) X.A (Hv a X.env) (λv Y=>B_ (C_ X.prog X.w) X.A (Hv b X.env) (λu I=>B_ (C_ X.prog X.w) X.A (Ht op v u) (EP X A4 σ Q) X.xe I) X.xe Y) X.xe s
def nobehind(b:Ii)(h:op≠.In)(h2:op≠.NotIn):Jt op b=b_:=by
 have e1:(op==CmpOp.In)=b_:=by cases op<;>first|rfl|exact Ho rfl h
 have e2:(op==PY)=b_:=by cases op<;>first|rfl|exact Ho rfl h2
 cases b<;>simp[Jt,e1,e2]
noncomputable def tIsN(ta:TE):TE:=λσ H Q=>ta σ H λx H1=>Q (.bl (q_ (x=.non))) H1
def A'.none_iff{x:V}{v:j_}(r:A' x v):(v==JC)=q_ (x=.non):=by
 cases x with
 |non=>cases r;rfl|bl _=>cases r;rfl|int _=>obtain⟨t,rfl⟩:=r;rfl
 |str _=>obtain⟨t,rfl⟩:=r;rfl
 |byt _=>obtain⟨t,rfl⟩:=r;rfl
 |flt _=>obtain⟨t,rfl⟩:=r;rfl
 |ref _=>cases r;rfl|ty _=>cases r;rfl
def pc_isN{j pos'}(d:PE X a ta):PC X .Is a (.Constant .none j pos') (tIsN ta):=by intro A4 s σ H Q I h;refine C6 (d A4 s σ H _ I h) λv f c=>?_;obtain⟨x,H1,e,Y,b⟩:=c;exact Constant_none (is_none_gen ⟨.bl _,H1,e,by rw[Y.none_iff];rfl,b⟩)
noncomputable def tB(t:TE):TT:=λσ H Q=>t σ H λx H1=>∃c,x=.bl c/\Q c H1
def pt_cmp{t:TE}(h:PC X op a b t)(h1:Jt op b=b_:=by first|exact nobehind _ a8 a8|rfl):PT X (.Compare a [op] [b] pos) (tB t):=by intro A4 s σ H Q I hw;refine OJ (C6 (h A4 s σ H _ I hw) λv k h1=>C6 h1 λu j h2=>C6 h2 λc i f=>?_) h1;obtain⟨x,H1,g,Y,e⟩:=f;obtain⟨d,rfl,q⟩:=e;cases Y;exact Ij ⟨H1,g,q⟩
variable{tA tB':TT}{rest:List Ii}
noncomputable def tAnd(t u:TT):TT:=λσ H Q=>t σ H λc H1=>if c=d_ then u σ H1 Q else Q b_ H1
noncomputable def tOr(t u:TT):TT:=λσ H Q=>t σ H λc H1=>if c=d_ then Q d_ H1 else u σ H1 Q
noncomputable def tNot(t:TT):TT:=λσ H Q=>t σ H λc H1=>Q (!c) H1
def Fp(Y:PT X a tA):PW X (.BoolOp .And [a] pos) tA:=by
 intro b A4 s σ H Q I h;refine isTrue_and (C6 (Y A4 s σ H Q I h) λc d e=>?_);cases c with
 |true=>exact isTrue_and_nil e|false=>exact e
def pw_or1(Y:PT X a tA):PW X (.BoolOp .Or [a] pos) tA:=by
 intro b A4 s σ H Q I h;refine isTrue_or (C6 (Y A4 s σ H Q I h) λc d e=>?_);cases c with
 |false=>exact isTrue_or_nil e|true=>exact e
def Fq(j:PT X a tA)(i:PW X (.BoolOp .And (b::rest) pos) tB'):PW X (.BoolOp .And (a::b::rest) pos) (tAnd tA tB'):=by
 intro e A4 s σ H Q I h;refine isTrue_and (C6 (j A4 s σ H _ I h) λc f g=>?_);obtain⟨H1,d,Y⟩:=g;cases c with
 |true=>exact i e A4 f σ H1 Q d Y|false=>exact⟨H1,d,Y⟩
def pw_or(j:PT X a tA)(i:PW X (.BoolOp .Or (b::rest) pos) tB'):PW X (.BoolOp .Or (a::b::rest) pos) (tOr tA tB'):=by
 intro e A4 s σ H Q I h;refine isTrue_or (C6 (j A4 s σ H _ I h) λc f g=>?_);obtain⟨H1,d,Y⟩:=g;cases c with
 |true=>exact⟨H1,d,Y⟩|false=>exact i e A4 f σ H1 Q d Y
def BN(Y:PT X a tA):PT X (.UnaryOp .Not a pos) (tNot tA):=by intro A4 s σ H Q I h;exact isTrue_not (Y A4 s σ H (λc H1=>Q (!c) H1) I h)
noncomputable def tAndV(ta tb:TE):TE:=λσ H Q=>ta σ H λx H1=>∃c,x=.bl c/\if c=d_ then tb σ H1 Q else Q (.bl b_) H1
noncomputable def tOrV(ta tb:TE):TE:=λσ H Q=>ta σ H λx H1=>∃c,x=.bl c/\if c=d_ then Q (.bl d_) H1 else tb σ H1 Q
noncomputable def tNotV(ta:TE):TE:=λσ H Q=>ta σ H λx H1=>∃c,x=.bl c/\Q (.bl (!c)) H1
def pe_one{op}{t:TE}(h:PE X a t):PE X (.BoolOp op [a] pos) t:=λA4 s σ H Q I hw=>BoolOp_one (h A4 s σ H Q I hw)
def pe_and(j:PE X a ta)(i:PE X (.BoolOp .And (b::rest) pos) tb):PE X (.BoolOp .And (a::b::rest) pos) (tAndV ta tb):=by
 intro A4 s σ H Q I h;refine BoolOp_and (C6 (j A4 s σ H _ I h) λv e g=>?_);obtain⟨x,H1,d,f,Y⟩:=g;obtain⟨c,rfl,Y⟩:=Y;cases f;refine Ij ?_;cases c with
 |true=>exact i A4 e σ H1 Q d Y|false=>exact⟨.bl b_,H1,d,rfl,Y⟩
def pe_or(j:PE X a ta)(i:PE X (.BoolOp .Or (b::rest) pos) tb):PE X (.BoolOp .Or (a::b::rest) pos) (tOrV ta tb):=by
 intro A4 s σ H Q I h;refine BoolOp_or (C6 (j A4 s σ H _ I h) λv e g=>?_);obtain⟨x,H1,d,f,Y⟩:=g;obtain⟨c,rfl,Y⟩:=Y;cases f;refine Ij ?_;cases c with
 |false=>exact i A4 e σ H1 Q d Y|true=>exact⟨.bl d_,H1,d,rfl,Y⟩
def pe_not(e:PE X a ta):PE X (.UnaryOp .Not a pos) (tNotV ta):=by intro A4 s σ H Q I h;refine UnaryOp_ (C6 (e A4 s σ H _ I h) λv g d=>?_);obtain⟨x,H1,f,b,Y⟩:=d;obtain⟨c,rfl,Y⟩:=Y;cases b;exact not_of (Ij ⟨.bl (!c),H1,f,rfl,Y⟩)
noncomputable def tIf(t:TT)(ta tb:TE):TE:=λσ H Q=>t σ H λc H1=>if c=d_ then ta σ H1 Q else tb σ H1 Q
def pe_ifExp(i:PT X c tA)(k:PE X a ta)(j:PE X b tb):PE X (.IfExp c a b pos) (tIf tA ta tb):=by
 intro A4 s σ H Q I h;refine wpAny_IfExp (C6 (i A4 s σ H _ I h) λd Y g=>?_);obtain⟨H1,f,e⟩:=g;cases d with
 |true=>exact k A4 Y σ H1 Q f e|false=>exact j A4 Y σ H1 Q f e
end
def SqL(K:Pn)(H:Hp)(a:e_)(xs:b9):Prop:=
 Rd H a (.lst xs) \/
  ∃(o:Lg) (A8:Array j_) (n:Nat),K.lookup a=a_ o/\o.cls=.type "list"/\o.dict=c_/\o.data=.seq A8 n/\A8.size<=h_/\B' xs A8.toList
def SqT(K:Pn)(H:Hp)(a:e_)(xs:b9):Prop:=
 Rd H a (.tup xs) \/
  ∃(o:Lg) (A8:Array j_) (n:Nat),K.lookup a=a_ o/\o.cls=.type "tuple"/\o.data=.seq A8 n/\A8.size<=h_/\B' xs A8.toList
noncomputable def absV:j_->Option V
 |.none=>a_ .non|.bool b=>a_ (.bl b)|.int i _=>a_ (.int i)|.str x _=>a_ (.str x)|.bytes b _=>a_ (.byt b)|.float b _=>a_ (.flt b)|.ref a=>a_ (.ref a)|.type n=>a_ (.ty n)|_=>c_
def A'.abs{x:V}(r:A' x u):absV u=a_ x:=by
 cases x with
 |non=>cases r;rfl|bl _=>cases r;rfl|int _=>obtain⟨t,rfl⟩:=r;rfl
 |str _=>obtain⟨t,rfl⟩:=r;rfl
 |byt _=>obtain⟨t,rfl⟩:=r;rfl
 |flt _=>obtain⟨t,rfl⟩:=r;rfl
 |ref _=>cases r;rfl|ty _=>cases r;rfl
def A'.inj{x y:V}{u:j_}(r:A' x u)(q:A' y u):x=y:=Hz (r.abs.symm.trans q.abs)
theorem B'.inj:∀{xs ys:b9} {us:ci},B' xs us->B' ys us->xs=ys
 |_,_,_,.nil,.nil=>rfl|_,_,_,.cons r t,.cons r' t'=>by rw[r.inj r',B'.inj t t']
section
variable{xs ys:List V}
def SqL.of(h:H a=a_ (.lst xs)):SqL K H a xs:=.inl (.inl h)
def SqT.of(h:H a=a_ (.tup xs)):SqT K H a xs:=.inl (.inl h)
theorem A6.list(I:A6 X A4 σ H s)(h:SqL X.K H a xs):∃A8:ci,B' xs A8/\PlainL s.heap a A8.toArray/\xs.length<=h_:=by
 rcases h with h|⟨o,A8,n,b,c,hd,Y,d,r⟩
 .obtain⟨z,A8,n,r,e⟩:=h.ok I.hok;exact⟨A8,r,⟨_,n,e,rfl,rfl,rfl⟩,z⟩
 .refine⟨A8.toList,r,⟨o,n,I.kIn a o b,c,hd,by simpa using Y⟩,?_⟩
  have e:=r.length;simp_all
theorem A6.tuple(I:A6 X A4 σ H s)(h:SqT X.K H a xs):∃A8:ci,B' xs A8/\PZ s.heap a A8.toArray/\xs.length<=h_:=by
 rcases h with h|⟨o,A8,n,b,c,Y,d,r⟩
 .obtain⟨z,A8,r,p⟩:=h.ok I.hok;exact⟨A8,r,p,z⟩
 .refine⟨A8.toList,r,⟨o,I.kIn a o b,c,n,by simpa using Y⟩,?_⟩
  have e:=r.length;simp only[IP]at e;lia
def A6.qo(I:A6 X A4 σ H s)(h:SqL X.K H a xs)(h':SqL X.K H a ys):xs=ys:=by
 obtain⟨A8,r,⟨o,n,e,_,_,d⟩,_⟩:=I.list h;obtain⟨its',r',⟨o',b,Y,_,_,d'⟩,_⟩:=I.list h';rw[e]at Y;cases Y;rw[d]at d';injection d' with d1 _
 have:A8=its':=by simpa using Jg LU d1
 subst this;exact r.inj r'
def A6.EC(I:A6 X A4 σ H s)(h:SqT X.K H a xs)(h':SqT X.K H a ys):xs=ys:=by
 obtain⟨A8,r,⟨o,e,_,n,d⟩,_⟩:=I.tuple h;obtain⟨its',r',⟨o',Y,_,b,d'⟩,_⟩:=I.tuple h';rw[e]at Y;cases Y;rw[d]at d';injection d' with d1 _
 have:A8=its':=by simpa using Jg LU d1
 subst this;exact r.inj r'
end
noncomputable abbrev Cx.xm(X:Cx)(E:Mq):Cx:={X with xe:=E}
abbrev Cx.nox(X:Cx):Cx:=X.xm λ_ _=>False
theorem Cx.Ok.xm{X:Cx}(I:X.Ok)(E:Mq):(X.xm E).Ok:=
 ⟨I.mod,I.kind,I.glob,I.blt,I.above,I.inj,I.has,I.cab,I.hd,I.frames,I.stk,I.exf,I.bs,I.bsz,I.noex,I.exfs,I.yM,I.frf⟩
def Cx.Ok.lN(I:(X.xm E).Ok):X.Ok:=
 ⟨I.mod,I.kind,I.glob,I.blt,I.above,I.inj,I.has,I.cab,I.hd,I.frames,I.stk,I.exf,I.bs,I.bsz,I.noex,I.exfs,I.yM,I.frf⟩
theorem A6.xm(I:A6 X A4 σ H s)(E:Mq):A6 (X.xm E) A4 σ H s:=⟨I.ok.xm E,I.os,I.bare,I.base,I.loc,I.cell,I.free,I.freeC,I.pin,I.hok,I.len⟩
theorem A6.lN(I:A6 (X.xm E) A4 σ H s):A6 X A4 σ H s:=⟨I.ok.lN,I.os,I.bare,I.base,I.loc,I.cell,I.free,I.freeC,I.pin,I.hok,I.len⟩
theorem SP.lN{D:Ends}{f:Flow}{s':v_}(h:SP (X.xm E) A4 D f s'):SP X A4 D f s':=by
 cases f with
 |next=>obtain⟨σ',H',I,q⟩:=h;exact⟨σ',H',I.lN,q⟩
 |brk=>obtain⟨σ',H',I,q⟩:=h;exact⟨σ',H',I.lN,q⟩
 |cont=>obtain⟨σ',H',I,q⟩:=h;exact⟨σ',H',I.lN,q⟩
 |ret u=>obtain⟨v,σ',H',I,r,q⟩:=h;exact⟨v,σ',H',I.lN,r,q⟩
theorem PSs.nox{st:List Ia}{t:TS}(h:PSs X.nox st t):PSs X st t:=λA4 s σ H D I hw=>HU (h A4 s σ H D (I.xm _) hw) (λ_ _ q=>q.lN) λ_ _ z=>HK z
section
variable{st:Ia}{rest:List Ia}{t u:TS}
def hI:TS:=λD σ H=>D.nx σ H
def eB(t u:TS):TS:=λD σ H=>t {D with nx:=u D} σ H
def bP:PSs X [] hI:=λ_ _ σ H _ I h=>KL ⟨σ,H,I,h⟩
def aA(h1:PS X st t)(h2:PSs X rest u):PSs X (st::rest) (eB t u):=by
 intro A4 s σ H D I h;refine MQ (C6 (h1 A4 s σ H {D with nx:=u D} I h) λf Y q=>?_);cases f with
 |next=>obtain⟨σ',H',a,q⟩:=q;exact h2 A4 Y σ' H' D a q
 |ret v=>exact q|brk=>exact q|cont=>exact q
def aZ(h1:PS X st t):PSs X [st] t:=by
 intro A4 s σ H D I h;refine MQ (C6 (h1 A4 s σ H D I h) λf Y q=>?_);cases f with
 |next=>exact KL q|ret v=>exact q|brk=>exact q|cont=>exact q
def A6.quiet(I:A6 X A4 σ H s):interactive X.env=b_:=by simp[interactive,I.ok.kind]
def sP(te:TE):TS:=λD σ H=>te σ H λ_ H1=>D.nx σ H1
def iA(c:PE X e te)(a: ~~~(Jb e c_ pos.line X.env=IQ b_)):PS X (.Expr e pos) (sP te):=by intro A4 s σ H D I h;refine wpAny_Expr_any (C6 (c A4 s σ H _ I h) λv f b=>?_) I.quiet a;obtain⟨x,H1,d,g,Y⟩:=b;exact⟨σ,H1,d,Y⟩
def sO(te:TE):TS:=λD σ H=>te σ H D.rt
def cF(c:PE X e te):PS X (.Return (a_ e) pos) (sO te):=by intro A4 s σ H D I h;refine wpAny_Return_some (C6 (c A4 s σ H _ I h) λv f b=>?_);obtain⟨x,H1,d,Y,a⟩:=b;exact⟨x,σ,H1,d,Y,a⟩
def ou(c:TT)(t u:TS):TS:=λD σ H=>c σ H λb H1=>if b=d_ then t D σ H1 else u D σ H1
def ib{a b:List Ia}{tc:TT}(i:PT X c tc)(k:PSs X a t)(j:PSs X b u):PS X (.If c a b pos) (ou tc t u):=by
 intro A4 s σ H D I h;refine wpAny_If (C6 (i A4 s σ H _ I h) λd Y g=>?_);obtain⟨H1,f,e⟩:=g;cases d with
 |true=>exact k A4 Y σ H1 D f e|false=>exact j A4 Y σ H1 D f e
noncomputable def tNever:TS:=λ_ _ _=>False
def yg{sts:List Ia}:PSs X sts tNever:=λ_ _ _ _ _ _ h=>h.elim
end
abbrev TG:=V->St->Hp->(St->Hp->Prop)->Prop
abbrev TGs:=b9->St->Hp->(St->Hp->Prop)->Prop
def PG(X:Cx)(I:Ii)(t:TG):Prop:=
 ∀(A4:Vp) (s:v_) (σ:St) (H:Hp) (v:V) (u:j_) (Q:St->Hp->Prop),A6 X A4 σ H s->A' v u->t v σ H Q ->
  B_ (C_ X.prog X.w) X.A (K3 I X.env u) (λ_ s'=>∃σ' H',A6 X A4 σ' H' s'/\Q σ' H') X.xe s
def PGs(X:Cx)(ts:List Ii)(t:TGs):Prop:=
 ∀(A4:Vp) (s:v_) (σ:St) (H:Hp) (vs:b9) (us:ci) (Q:St->Hp->Prop),A6 X A4 σ H s->B' vs us->t vs σ H Q ->
  B_ (C_ X.prog X.w) X.A (assignInOrder ((Jc ts X.env).map (·.2)) us) (λ_ s'=>∃σ' H',A6 X A4 σ' H' s'/\Q σ' H') X.xe s
abbrev TSet:=V->V->V->Hp->(Hp->Prop)->Prop
def PSet(X:Cx)(t:TSet):Prop:=
 ∀(A4:Vp) (s:v_) (σ:St) (H:Hp) (o i v:V) (I Y u:j_) (Q:Hp->Prop),A6 X A4 σ H s->A' o I->A' i Y->A' v u->t o i v H Q ->
  B_ (C_ X.prog X.w) X.A (PH I Y u) (λ_ s'=>∃H',A6 X A4 σ H' s'/\Q H') X.xe s
noncomputable def cK(i:Nat):TG:=λv σ H Q=>Q (σ.set i (a_ v)) H
def dJ(b:X.N.Nodup)(hi:X.N[i]?=a_ x)(Y:Loc X.env.scope x)(a:autoParam (X.fn x=d_\/X.env.scope.names.lookup x=a_ .local) Jq3):PG X (.Name x pos) (cK i):=by intro A4 s σ H v u Q I r h;exact Px (mW I b hi Y r (λs' c=>⟨_,H,c,h⟩) a)
noncomputable def gNil:TGs:=λvs σ H Q=>vs=[]/\Q σ H
noncomputable def lK(t:TG)(u:TGs):TGs:=λvs σ H Q=>∃v r,vs=v::r/\t v σ H λσ' H'=>u r σ' H' Q
def vB:PGs X [] gNil:=by intro A4 s σ H vs us Q I r h;obtain⟨e,h⟩:=h;subst e;cases r;exact assignInOrder_nil ⟨σ,H,I,h⟩
def dH{t:TG}{u:TGs}(h1:PG X e t)(h2:PGs X es u)(d: ~~~((Jc (e::es) X.env).map (·.2)=K3 e X.env::(Jc es X.env).map (·.2))):PGs X (e::es) (lK t u):=by
 intro A4 s σ H vs us Q I r h;obtain⟨v,i,e1,h⟩:=h;subst e1;cases r with
 |cons r b=>rw[d];refine assignInOrder_cons (C6 (h1 A4 s σ H _ _ _ I r h) λ_ a f=>?_);obtain⟨Y,H1,g,c⟩:=f;exact h2 A4 a Y H1 _ _ Q g b c
def gTup(K:Pn)(n:Nat)(t:TGs):TG:=λv σ H Q=>∃a xs,v=.ref a/\SqT K H a xs/\xs.length=n/\t xs σ H Q
theorem BR{k:Nat}{t:TGs}(l:X.calm=d_)(h:PGs X es t)(i: ~~~((Jc es X.env).length=n))(Y: ~~~((Jc es X.env).findIdx? (·.1)=c_)):PG X (.Tuple es k pos) (gTup X.K n t):=by intro A4 s σ H v u Q I r hw;obtain⟨a,xs,e1,g,j,hw⟩:=hw;subst e1;cases r;obtain⟨A8,c,f,p⟩:=I.tuple g;refine assign_Tuple_tuple (I.ok.hd l) f (by simp[i,<- j,c.length]) Y λh' d=>?_;have m:A6 X A4 σ H {s with heap:=h'}:=I.kept (t':=s.toks) λb o e=>d b o (HC (u_ e)) e;exact h A4 _ σ H xs _ Q m bb hw
noncomputable def gSub(to I:TE)(t:TSet):TG:=λv σ H Q=>to σ H λo H1=>I σ H1 λi H2=>t o i v H2 λY=>Q σ Y
def pg_sub{o i:Ii}{to c:TE}{t:TSet}(m:PE X o to)(hi:PE X i c)(l:PSet X t)(n:autoParam (∀v,K3 (.Subscript o i pos) X.env v=(do
   let Y <- KU [v] (Hv o X.env)
   let a <- KU [v,Y] (Hv i X.env)
   My pos
   KU [v,Y,a] (PH Y a v)
   release [v,Y,a] [])) Jq4):PG X (.Subscript o i pos) (gSub to c t):=by
 intro A4 s σ H v u Q I r h;rw[n];refine g_ (Js (C6 (m A4 s σ H _ I h) λY e b=>?_));obtain⟨x,H1,w,f,k⟩:=b;refine g_ (Js (C6 (hi A4 e σ H1 _ w k) λa d b=>?_));obtain⟨y,H2,q,r2,j⟩:=b;refine g_ (Ky (g_ (Js (C6 (l A4 d σ H2 x y v Y a u _ q f r2 r j) λ_ A b=>?_))));obtain⟨z,p,g⟩:=b;exact wpAny_release ⟨σ,z,p,g⟩
def sI(te:TE)(g:TG):TS:=λD σ H=>te σ H λx H1=>g x σ H1 D.nx
def BP{g:TG}(i:PE X e te)(f:PG X tg g)(c: ~~~(NX [tg] e pos.line X.env=IQ b_))(hw: ~~~(NY [tg] e X.env=IQ c_))(h1: ~~~((Jc [tg] X.env).map (·.2)=[K3 tg X.env])):PS X (.Assign [tg] e pos) (sI te g):=by intro A4 s σ H D I h;refine wpAny_Assign_stores (C6 (i A4 s σ H _ I h) λv Y d=>?_) c hw;obtain⟨x,H1,j,a,b⟩:=d;rw[h1];exact C6 (f A4 Y σ H1 x v _ j a b) λ_ k q=>q
def km(j:X.N.Nodup)(hi:X.N[i]?=a_ x)(b:Loc X.env.scope x)(g:PE X e te)(c: ~~~(Jb e (a_ (.Name x pos')) pos.line X.env=IQ b_))(f:autoParam (X.fn x=d_\/X.env.scope.names.lookup x=a_ .local) Jq3):
  PS X (.Assign [.Name x pos'] e pos) (sI te (cK i)):=by
 intro A4 s σ H D I h;refine Pz (C6 (g A4 s σ H _ I h) λv n d=>?_) c;obtain⟨y,H1,l,Y,a⟩:=d;exact mW l j hi b Y (λm k=>⟨_,H1,k,a⟩) f
structure It where
 go:Nat->Hp->Prop
 yld:Nat->Hp->V->Hp->Prop
 stop:Nat->Hp->Prop
def Eu(X:Cx)(A4:Vp)(H:Hp)(b:e_):Prop:=
 H b=c_/\b≠X.env.locals/\b∉X.fs/\(b∈X.ex\/X.s₀.heap.objs.size<=b)/\(∀x c,X.env.cells.lookup x=a_ c->c≠b)/\∀p∈X.pn++A4,p.1≠b
theorem A6.fpOk(I:A6 X A4 σ H s)(Y:s.heap.objs.size<=b)(d:H' b=c_):Eu X A4 H' b:=by
 refine⟨d,KD (Hm I.lt Y),I.nofs Y,.inr (HB I.sz Y),λx c e z=>?_,λp a z=>?_⟩
 .obtain⟨v,q⟩:=I.cell x c e;exact Ho (Hm q.lt bb) (Ip _)
 .exact Ho (Hm (u_ (I.pin p a).1) bb) (Ip _)
structure Turn(P:HY)(w:IF)(K:Pn)(tg:Ii)(J:It)(fp:List e_)(it:e_)(tn:Nat->H_->Prop):Prop where
 mem:it∈fp
 obj:∀i h,tn i h->∀b∈fp,∃o,h.get? b=a_ o/\∀v,o.data≠.cell v
 keep:∀i h h',tn i h->(∀b∈fp,∀o,h.get? b=a_ o->h'.get? b=a_ o)->tn i h'
 item:∀(X:Cx),X.prog=P->X.w=w->X.K=K->X.calm=d_->∀(i:Nat) (A4:Vp) (s:v_) (σ:St) (H:Hp) (E:Mq),A6 X A4 σ H s->(∀b∈fp,Eu X A4 H b)->tn i s.heap->J.go i H ->
  B_ (C_ P w) X.A (pyNext (.ref it)) (λr s1=>∃u,r=a_ u /\
   B_ (C_ P w) X.A (Lz tg (.ref it) u) (λ_ s2=>∃x H',A6 X A4 σ H' s2/\A' x u/\J.yld i H x H'/\tn (i+1) s2.heap/\∀b∈fp,H' b=c_) E s1) E s
 done:∀(X:Cx),X.prog=P->X.w=w->X.K=K->X.calm=d_->∀(i:Nat) (A4:Vp) (s:v_) (σ:St) (H:Hp) (E:Mq),A6 X A4 σ H s->(∀b∈fp,Eu X A4 H b)->tn i s.heap->J.stop i H ->
  B_ (C_ P w) X.A (pyNext (.ref it)) (λr s1=>r=c_/\A6 X A4 σ H s1) E s
 self:∀(A:JK) (i:Nat) (s:v_) (Q:Mq) (E:Mq),tn i s.heap->Q (.ref it) s->B_ (C_ P w) A (pyIter (.ref it)) Q E s
abbrev TI:=St->Hp->(It->Hp->Prop)->Prop
def PIE(X:Cx)(A4:Vp)(σ:St)(tg:Ii)(R:It->Hp->Prop)(I:j_)(a:v_):Prop:=
 ∃(c:e_) (fp:List e_) (Y:Nat->H_->Prop) (J:It) (H':Hp),I=.ref c/\A6 X A4 σ H' a/\Turn X.prog X.w X.K tg J fp c Y/\Y 0 a.heap/\(∀b∈fp,Eu X A4 H' b)/\R J H'
def PI(X:Cx)(tg iter:Ii)(wi:TI):Prop:=
 ∀(A4:Vp) (s:v_) (σ:St) (H:Hp) (R:It->Hp->Prop),A6 X A4 σ H s->wi σ H R ->
  B_ (C_ X.prog X.w) X.A (Hv iter X.env) (λv I=>B_ (C_ X.prog X.w) X.A (pyIter v) (PIE X A4 σ tg R) X.xe I) X.xe s
def go_of{M : Mf}{A : JK}{E : j_ -> v_ -> Prop}{s : v_}{tg : Ii}{Y : e_}{u : j_}{o : Lg}{n : String}{vs : Array j_}{Q : Unit -> v_ -> Prop}(a : s.heap.get? Y = a_ o)(c : o.cls = .type n)(hd : o.data = .fields vs)(b : ["enumerate", "zip", "dict_itemiterator", "dict_reverseitemiterator", "odict_iterator", "itertools.zip_longest", "itertools.pairwise"].contains n = b_)(I : Q () s): B_ M A (Lz tg (.ref Y) u) Q E s := by
  unfold Lz;cases tg <;> first
    | exact y_ I
    | (cases u <;> first
        | exact y_ I
        | (refine g_ (wpAny_load a ?_)
           rw[c,hd];show B_ M A (if (["enumerate", "zip", "dict_itemiterator", "dict_reverseitemiterator", "odict_iterator", "itertools.zip_longest", "itertools.pairwise"].contains n && vs[0]?== a_ (Mm _)) = d_ then _ else _) Q E s;rw[k_ (by intro h; rw[b,Bool.false_and]at h; cases h)];exact y_ I))
noncomputable def Itl(K:Pn)(a:e_):It:=
 ⟨λi H=>∃xs x,SqL K H a xs/\xs[i]?=a_ x,λi H x H'=>H'=H/\∀xs,SqL K H a xs->xs[i]?=a_ x,λi H=>∃xs,SqL K H a xs/\xs.length<=i⟩
noncomputable def Itt(K:Pn)(a:e_):It:=
 ⟨λi H=>∃xs x,SqT K H a xs/\xs[i]?=a_ x,λi H x H'=>H'=H/\∀xs,SqT K H a xs->xs[i]?=a_ x,λi H=>∃xs,SqT K H a xs/\xs.length<=i⟩
noncomputable def Itr(lo:Int)(n:Nat):It:=⟨λi _=>i<n,λi H x H'=>H'=H/\x=.int (lo+i),λi _=>n<=i⟩
theorem xq(a Y:e_):Turn P w K tg (Itl K a) [Y] Y (λi h=>h.IsListIter Y a i) where
 mem:=by simp
 obj:=λi h st b f=>by
  have e:b=Y:=by simpa using f
  subst e;obtain⟨o,e,c,d⟩:=st;exact⟨o,e,λv z=>by rw[d]at z;cases z⟩
 keep:=λi h h' st k=>st.at λo e=>k Y am o e
 item:=by intro X r hw t y i A4 s σ H E I l st q;subst r hw t;obtain⟨xs,x,j,n⟩:=q;obtain⟨A8,m,p,C⟩:=I.list j;obtain⟨u,F,B⟩:=m.get n;obtain⟨f0,f1,f2,f3,f4,f5⟩:=l Y am;refine wpAny_pyNext_list_item st p.isList (x:=u) (by simpa using F) λh' g A=>?_;have L:A6 X A4 σ H {s with heap:=h'}:=I.turned (t':=s.toks) (λb o f e=>(A.2 b f).trans e) f0 f1 f3 f4 f5;obtain⟨o,e,c,d⟩:=id g;exact⟨u,rfl,go_of (s:={s with heap:=h'}) e c d a8 ⟨x,H,L,B,⟨rfl,λys D=>by rw[I.qo D j];exact n⟩,g,λb f=>(l b f).1⟩⟩
 done:=by intro X r hw t y i A4 s σ H E I l st q;subst r hw t;obtain⟨xs,j,n⟩:=q;obtain⟨A8,m,p,C⟩:=I.list j;obtain⟨f0,f1,f2,f3,f4,f5⟩:=l Y am;have N:=m.length;exact wpAny_pyNext_list_end (I.ok.hd y) st p.isList (by simp;lia) λh' G=>⟨rfl,I.turned (t':=s.toks) (λb o f e=>G b o f e) f0 f1 f3 f4 f5⟩
 self:=λ_ _ _ _ _ st h=>wpAny_pyIter_listiter st h
theorem CO(a Y:e_):Turn P w K tg (Itt K a) [Y] Y (λi h=>h.IsTupleIter Y a i) where
 mem:=by simp
 obj:=λi h st b f=>by
  have e:b=Y:=by simpa using f
  subst e;obtain⟨o,e,c,d⟩:=st;exact⟨o,e,λv z=>by rw[d]at z;cases z⟩
 keep:=λi h h' st k=>st.at λo e=>k Y am o e
 item:=by intro X r hw t y i A4 s σ H E I l st q;subst r hw t;obtain⟨xs,x,j,n⟩:=q;obtain⟨A8,m,p,C⟩:=I.tuple j;obtain⟨u,F,B⟩:=m.get n;obtain⟨f0,f1,f2,f3,f4,f5⟩:=l Y am;refine wpAny_pyNext_tuple_item st (show s.heap.IsTuple a A8.toArray from p) (x:=u) (by simpa using F) λh' g A=>?_;have L:A6 X A4 σ H {s with heap:=h'}:=I.turned (t':=s.toks) (λb o f e=>(A.2 b f).trans e) f0 f1 f3 f4 f5;obtain⟨o,e,c,d⟩:=id g;exact⟨u,rfl,go_of (s:={s with heap:=h'}) e c d a8 ⟨x,H,L,B,⟨rfl,λys D=>by rw[I.EC D j];exact n⟩,g,λb f=>(l b f).1⟩⟩
 done:=by intro X r hw t y i A4 s σ H E I l st q;subst r hw t;obtain⟨xs,j,n⟩:=q;obtain⟨A8,m,p,C⟩:=I.tuple j;obtain⟨f0,f1,f2,f3,f4,f5⟩:=l Y am;have N:=m.length;exact wpAny_pyNext_tuple_end (I.ok.hd y) st (show s.heap.IsTuple a A8.toArray from p) (by simp;lia) λh' G=>⟨rfl,I.turned (t':=s.toks) (λb o f e=>G b o f e) f0 f1 f3 f4 f5⟩
 self:=λ_ _ _ _ _ st h=>wpAny_pyIter_tupleiter st h
theorem CQ(Y:e_)(lo:Int)(n:Nat):Turn P w K tg (Itr lo n) [Y] Y (λi h=>IsRangeIter h Y (lo+(i:Nat)*1) ((n:Int)-(i:Nat)) 1) where
 mem:=by simp
 obj:=λi h st b a=>by simp_all
 keep:=λi h h' st k=>k Y am _ st
 item:=by
  intro X j hw l g i A4 s σ H E I d st f;subst j hw l;obtain⟨f0,f1,f2,f3,f4,f5⟩:=d Y am;have W:=Walks.range (prog:=X.prog) (w:=X.w) (I.ok.hd g) Y lo 1 n;refine W.item i s _ _ f st λv h' tk hv c m=>?_;obtain⟨t,rfl⟩:=hv;have q:A6 X A4 σ H {s with heap:=h',toks:=tk}:=I.turned (λb o a e=>m b o (by simpa using a) e) f0 f1 f3 f4 f5;refine⟨_,rfl,go_of (s:={s with heap:=h',toks:=tk}) (n:="range_iterator") c rfl rfl a8 ⟨.int (lo+i),H,q,⟨t,?_⟩,⟨rfl,rfl⟩,c,λb a=>(d b a).1⟩⟩
  simp
 done:=by intro X j hw l g i A4 s σ H E I d st f;subst j hw l;obtain⟨f0,f1,f2,f3,f4,f5⟩:=d Y am;exact wpAny_pyNext_range_end (I.ok.hd g) st (by have:n<=i:=f;lia) λh' p=>⟨rfl,I.turned (t':=s.toks) (λb o a e=>p b o a e) f0 f1 f3 f4 f5⟩
 self:=λ_ _ _ _ _ st h=>wpAny_pyIter_rangeiter st h
def iList(K:Pn)(tl:TE):TI:=λσ H R=>tl σ H λx H1=>∃a,x=.ref a/\(∃xs,SqL K H1 a xs)/\R (Itl K a) H1
def Aj{l:Ii}{tl:TE}(j:PE X l tl):PI X tg l (iList X.K tl):=by
 intro A4 s σ H R I h;refine C6 (j A4 s σ H _ I h) λv Y i=>?_;obtain⟨x,H1,c,d,f⟩:=i;obtain⟨a,e,⟨xs,g⟩,q⟩:=f;subst e;cases d;obtain⟨A8,m,p,n⟩:=c.list g;refine Km p.isList ?_;refine⟨Y.z,[Y.z],_,_,H1,rfl,c.kept (t':=Y.toks) λb o e=>l_ _ e,xq a _,⟨_,Cb _ rfl,rfl,rfl⟩,λb k=>?_,q⟩
 have e:b=Y.z:=by simpa using k
 subst e;exact c.fpOk (r_ _) (c.hok.fresh (r_ _))
theorem range_it{R:It->Hp->Prop}{lo hi:Int}{t u v:OM}{tk:Nat}(I:A6 X A4 σ H s)(h1: -(2^62)<=lo)(h2:lo<2^62)(d: -(2^62)<=hi)(c:hi<2^62)(q:R (Itr lo (hi-lo).toNat) H):B_ (C_ X.prog X.w) X.A (pyIter (.ref s.heap.objs.size)) (PIE X A4 σ tg R) E {s with heap:=s.heap.push {cls:=.type "range",data:=.fields #[.int lo t,.int hi u,.int 1 v]},toks:=tk}:=by
 refine wpAny_pyIter_range (IsRange.new ..) (small_one h1 h2 d c) ?_;have Y:A6 X A4 σ H {s with heap:=s.heap.push {cls:=.type "range",data:=.fields #[.int lo t,.int hi u,.int 1 v]},toks:=tk}:=I.kept λb o e=>l_ _ e;refine⟨(s.heap.push {cls:=.type "range",data:=.fields #[.int lo t,.int hi u,.int 1 v]}).objs.size,[(s.heap.push {cls:=.type "range",data:=.fields #[.int lo t,.int hi u,.int 1 v]}).objs.size],_,_,H,rfl,
  Y.kept (t':=tk) λb o e=>l_ _ e,CQ _ lo (hi-lo).toNat,?_,λb a=>?_,q⟩
 .have e1:lo+((0:Nat):Int)*1=lo:=by simp
  have e2:(((hi-lo).toNat:Nat):Int)-((0:Nat):Int)=Qg lo hi 1:=by rw[rangeSize_one];split<;>lia
  show IsRangeIter _ _ (lo+((0:Nat):Int)*1) ((((hi-lo).toNat:Nat):Int)-((0:Nat):Int)) 1;rw[e1,e2];exact Cb _ rfl
 .have e:b=(s.heap.push {cls:=.type "range",data:=.fields #[.int lo t,.int hi u,.int 1 v]}).objs.size:=by simpa using a
  subst e;exact Y.fpOk (r_ _) (Y.hok.fresh (r_ _))
def iRng1(ta:TA):TI:=λσ H R=>ta σ H λvs H1=>∃j:Int,vs=[.int j]/\ -(2^62)<=j/\j<2^62/\R (Itr 0 j.toNat) H1
theorem yj{a:Ii}{ta:TA}(k:Gl X "range")(i:X.mg "range"=c_)(l:PA X [a] ta)(f: ~~~(i_ [a] X.env=[(b_,Hv a X.env)])):PI X tg (.Call (.Name "range" p) [a] [] pos) (iRng1 ta):=by
 intro A4 s σ H R I h;refine Call_ (uv I k i boot_range (Kg (C6 (l pos A4 s σ H _ I h) λus n g=>?_) f rfl));obtain⟨vs,H1,m,c,Y⟩:=g;obtain⟨j,e,Y,d,q⟩:=Y;subst e;cases c with
 |cons r b=>cases b;obtain⟨t,rfl⟩:=r;exact call_range_1 (range_it m ad ad Y d bb)
def tFor(wi:TI)(g:TG)(tb:TS):TS:=λD σ H=>wi σ H λJ H1=>∃W:Nat->Nat->St->Hp->Prop,(∃m,W 0 m σ H1)/\∀i m σ H,W i m σ H ->
 (J.stop i H/\D.nx σ H)\/(J.go i H/\∃N:St->Hp->Prop,(∀σ' H',N σ' H'->∃Y,Y<m/\W (i+1) Y σ' H')/\∀x H',J.yld i H x H'->g x σ H' λI H2=>tb {D with nx:=N,ct:=N,bk:=D.nx} I H2)
noncomputable def yi(fp:List e_)(h:H_):Vp:=fp.filterMap λb=>(h.get? b).map λo=>(b,o)
def lr{o:Lg}(I:b∈fp)(e:h.get? b=a_ o):(b,o)∈yi fp h:=JF.mpr ⟨b,I,by rw[e];rfl⟩
theorem FE{p:e_×Lg}(I:p∈yi fp h):p.1∈fp/\h.get? p.1=a_ p.2:=by
 obtain⟨b,Y,e⟩:=JF.mp I;cases q:h.get? b with
 |none=>simp_all|some o=>rw[q]at e;have a:(b,o)=p:=Hz e;subst a;exact⟨Y,q⟩
def A6.pinned(I:A6 X A4 σ H s)(g:∀b∈fp,Eu X A4 H b)(f:∀b∈fp,∃o,s.heap.get? b=a_ o/\∀v,o.data≠.cell v):A6 X (A4++yi fp s.heap) σ H s:=
 I.vA λp c=>(HR.mp c).elim (λz=>I.pin p (Ib _ z)) λz=>by obtain⟨Y,e⟩:=FE z;obtain⟨f0,f1,f2,_⟩:=g p.1 Y;obtain⟨o,a,d⟩:=f p.1 Y;rw[e]at a;cases a;exact⟨e,f0,f1,f2,d⟩
def A6.uU{pl:Vp}(I:A6 X (A4++pl) σ H s):A6 X A4 σ H s:=I.vA λp Y=>I.pin p (Ib _ (Ls _ Y))
def BO{iter:Ii}{wi:TI}{g:TG}{tb:TS}(a:PassesOwn (C_ X.prog X.w) X.A X.env X.xe)(Z:X.calm=d_)(hi:PI X tg iter wi)(hg:PG X tg g)(k:PSs X body tb)(hs:autoParam (∀x,Jo iter X.env x=IQ x) Jq4):PS X (.For tg iter body [] pos) (tFor wi g tb):=by
 intro A4 s σ H D I h;refine wpAny_For (C6 (hi A4 s σ H _ I h) λv s1 h1=>C6 h1 λitv s2 h2=>?_) hs;obtain⟨it,fp,R,J,H2,e,I2,T,K,f2,W,⟨m0,w0⟩,y⟩:=h2;subst e;have j:∀{H':Hp},(∀b∈fp,H' b=c_)->∀b∈fp,Eu X A4 H' b:=λhn b k=>⟨hn b k,(f2 b k).2⟩
 refine codeAny_forLoop_any (λn s'=>∃i σ' H',A6 X A4 σ' H' s'/\R i s'.heap/\(∀b∈fp,H' b=c_)/\W i n σ' H') ?_ m0 ⟨0,σ,H2,I2,K,λb k=>(f2 b k).1,w0⟩;rintro n U ⟨i,c,F,I3,B,E,w3⟩;rcases y i n c F w3 with⟨z,qn⟩|⟨go,N,hN,A⟩
 .refine KJ a (C6 (T.done X rfl rfl rfl Z i A4 U c F X.xe I3 (j E) B z) λr s4 a=>?_);obtain⟨O,I4⟩:=a;subst O;exact KL ⟨c,F,I4,qn⟩
 .refine KJ a (C6 (T.item X rfl rfl rfl Z i A4 U c F X.xe I3 (j E) B go) λr s4 a=>?_);obtain⟨u,O,h4⟩:=a;subst O;refine KJ a (C6 h4 λ_ S a=>?_);obtain⟨x,H5,I5,r5,y5,w,P⟩:=a;have Q:=I5.pinned (j P) (T.obj _ _ w);refine KJ a (C6 (hg _ S c H5 x u _ Q r5 (A x H5 y5)) λ_ s6 a=>?_);obtain⟨G,H6,I6,q6⟩:=a;refine KJ a (C6 (k _ s6 G H6 _ I6 q6) λf L t=>?_);have l:∀{Y:St} {q:Hp},A6 X (A4++yi fp S.heap) Y q L->N Y q->∃m,m<n/\∃i σ' H',A6 X A4 σ' H' L/\R i L.heap/\(∀b∈fp,H' b=c_)/\W i m σ' H':=λ{Y q} p C=>by
   obtain⟨m',hm,w7⟩:=hN Y q C;refine⟨m',hm,i+1,Y,q,p.uU,T.keep _ _ _ w λb k o e=>(p.pin (b,o) (Ib _ (Ib _ (lr k e)))).1,λb k=>?_,w7⟩
   obtain⟨o,e,d⟩:=T.obj _ _ w b k;exact(p.pin (b,o) (Ib _ (Ib _ (lr k e)))).2.1
  cases f with
  |next=>obtain⟨Y,q,p,C⟩:=t;exact l p C
  |cont=>obtain⟨Y,q,p,C⟩:=t;exact l p C
  |brk=>obtain⟨Y,q,p,t⟩:=t;exact⟨Y,q,p.uU,t⟩
  |ret v=>obtain⟨x7,Y,q,p,r7,t⟩:=t;exact⟨x7,Y,q,p.uU,r7,t⟩
abbrev R2:=V->V->Hp->VK->Prop
variable{r r':R2}
def OpR(X:Cx)(f:j_->j_->PQ j_)(r:R2):Prop:=
 ∀(A4:Vp) (s:v_) (σ:St) (H:Hp) (x y:V) (v u:j_) (Q:VK),A6 X A4 σ H s->A' x v->A' y u->r x y H Q ->
  B_ (C_ X.prog X.w) X.A (f v u) (EP X A4 σ Q) X.xe s
def UnR(X:Cx)(f:j_->PQ j_)(r:V->Hp->VK->Prop):Prop:=
 ∀(A4:Vp) (s:v_) (σ:St) (H:Hp) (x:V) (v:j_) (Q:VK),A6 X A4 σ H s->A' x v->r x H Q ->
  B_ (C_ X.prog X.w) X.A (f v) (EP X A4 σ Q) X.xe s
def fj(X:Cx)(f:j_)(r:b9->Hp->VK->Prop):Prop:=
 ∀(A4:Vp) (s:v_) (σ:St) (H:Hp) (xs:b9) (us:ci) (Q:VK),A6 X A4 σ H s->B' xs us->r xs H Q ->
  B_ (C_ X.prog X.w) X.A (Kp f us) (EP X A4 σ Q) X.xe s
def TruR(X:Cx)(r:V->Hp->(Bool->Hp->Prop)->Prop):Prop:=
 ∀(A4:Vp) (s:v_) (σ:St) (H:Hp) (x:V) (v:j_) (Q:Bool->Hp->Prop),A6 X A4 σ H s->A' x v->r x H Q ->
  B_ (C_ X.prog X.w) X.A (truthy v) (TP X A4 σ Q) X.xe s
noncomputable def tOp(r:R2)(ta tb:TE):TE:=λσ H Q=>ta σ H λx H1=>tb σ H1 λy H2=>r x y H2 Q
noncomputable def tUn(r:V->Hp->VK->Prop)(ta:TE):TE:=λσ H Q=>ta σ H λx H1=>r x H1 Q
def rI(C:Int->Int->Prop)(g:Int->Int->V):R2:=λx y H Q=>∃i j,x=.int i/\y=.int j/\C i j/\Q (g i j) H
def rI0(g:Int->Int->V):R2:=λx y H Q=>∃i j,x=.int i/\y=.int j/\Q (g i j) H
def rU(g:Int->V):V->Hp->VK->Prop:=λx H Q=>∃i,x=.int i/\Q (g i) H
section
variable{a b:Ii}
def binT(n:PE X a ta)(m:PE X b tb){R:V->V->Hp->Prop}(I:A6 X A4 σ H s)(h:ta σ H λx H1=>tb σ H1 λy H2=>R x y H2){Q:Mq}(l:∀v u d x y H2,A6 X A4 σ H2 d->A' x v->A' y u->R x y H2->B_ (C_ X.prog X.w) X.A (f v u) Q X.xe d):
  B_ (C_ X.prog X.w) X.A (Hv a X.env) (λv c=>B_ (C_ X.prog X.w) X.A (Hv b X.env) (λu Y=>B_ (C_ X.prog X.w) X.A (f v u) Q X.xe Y) X.xe c) X.xe s:=by
 refine C6 (n A4 s σ H _ I h) λv g e=>?_;obtain⟨x,H1,p,i,k⟩:=e;refine C6 (m A4 g σ H1 _ p k) λu d e=>?_;obtain⟨y,H2,o,r2,j⟩:=e;exact l v u d x y H2 o i r2 j
def pe_op{op:Operator}(e:OpR X (Jd op) r)(g:PE X a ta)(f:PE X b tb):PE X (.BinOp a op b pos) (tOp r ta tb):=by intro A4 s σ H Q I h;exact wpAny_BinOp (binT g f I h λv u Y x y H2 i d c q=>e A4 Y σ H2 x y v u Q i d c q)
def pe_un{op:UnaryOp}{r:V->Hp->VK->Prop}(e:UnR X (PB op) r)(f:PE X a ta):PE X (.UnaryOp op a pos) (tUn r ta):=by intro A4 s σ H Q I h;refine UnaryOp_ (C6 (f A4 s σ H _ I h) λv Y d=>?_);obtain⟨x,H1,g,b,c⟩:=d;exact e A4 Y σ H1 x v Q g b c
def opI{C:Int->Int->Prop}(Y:∀(i j:Int) (t u:OM) (s:v_) (Q:Mq) (E:Mq),C i j->Q (.int (g i j) s.toks) {s with toks:=s.toks+1}->B_ (C_ X.prog X.w) X.A (f (.int i t) (.int j u)) Q E s):
  OpR X f (rI C λi j=>.int (g i j)):=by
 intro A4 s σ H x y v u Q I b a h;obtain⟨i,j,rfl,rfl,c,q⟩:=h;obtain⟨t,rfl⟩:=b;obtain⟨t',rfl⟩:=a;exact Y i j t t' s _ _ c ⟨.int (g i j),H,I.tok _,⟨_,rfl⟩,q⟩
def opI0(Y:∀(i j:Int) (t u:OM) (s:v_) (Q:Mq) (E:Mq),Q (.int (g i j) s.toks) {s with toks:=s.toks+1}->B_ (C_ X.prog X.w) X.A (f (.int i t) (.int j u)) Q E s):
  OpR X f (rI0 λi j=>.int (g i j)):=by
 intro A4 s σ H x y v u Q I b a h;obtain⟨i,j,rfl,rfl,q⟩:=h;obtain⟨t,rfl⟩:=b;obtain⟨t',rfl⟩:=a;exact Y i j t t' s _ _ ⟨.int (g i j),H,I.tok _,⟨_,rfl⟩,q⟩
def opB0{g:Int->Int->Bool}(Y:∀(i j:Int) (t u:OM) (s:v_) (Q:Mq) (E:Mq),Q (.bool (g i j)) s->B_ (C_ X.prog X.w) X.A (f (.int i t) (.int j u)) Q E s):
  OpR X f (rI0 λi j=>.bl (g i j)):=by
 intro A4 s σ H x y v u Q I b a h;obtain⟨i,j,rfl,rfl,q⟩:=h;obtain⟨t,rfl⟩:=b;obtain⟨t',rfl⟩:=a;exact Y i j t t' s _ _ ⟨.bl (g i j),H,I,rfl,q⟩
def CPow(i j:Int):Prop:=0<=j/\j<=1000000/\i.natAbs<2^64
def CMul(i j:Int):Prop:=(-(2^64)<i/\i<2^64)\/(-(2^64)<j/\j<2^64)
def CMul.ok{i j:Int}(h:CMul i j):IntMulOk i j:=by
 rcases h with⟨h1,h2⟩|⟨h1,h2⟩
 .exact .of_left (intBits_le_64 h1 h2)
 .exact .of_right (intBits_le_64 h1 h2)
def op_add:OpR X (Jd .Add) (rI0 λi j=>.int (i+j)):=opI0 λ_ _ _ _ _ _ _ q=>add_int q
def op_mul:OpR X (Jd .Mult) (rI CMul λi j=>.int (i*j)):=opI λ_ _ _ _ _ _ _ I q=>mul_int q I.ok
theorem op_mod:OpR X (Jd .Mod) (rI (λ_ j=>0<j) λi j=>.int (i%j)):=opI λi j _ _ _ _ _ I q=>by have h1:(0:Int)<j:=I;exact mod_int' ad (by rw[Int.fmod_eq_emod_of_nonneg i ad];exact q)
def op_pow:OpR X (Jd .Pow) (rI CPow λi j=>.int (i^j.toNat)):=opI λ_ _ _ _ _ _ _ I q=>pow_int_small I.1 I.2.1 I.2.2 q
def unI{f:j_->PQ j_}{g:Int->Int}(Y:∀(i:Int) (t:OM) (s:v_) (Q:Mq) (E:Mq),Q (.int (g i) s.toks) {s with toks:=s.toks+1}->B_ (C_ X.prog X.w) X.A (f (.int i t)) Q E s):
  UnR X f (rU λi=>.int (g i)):=by
 intro A4 s σ H x v Q I a h;obtain⟨i,rfl,q⟩:=h;obtain⟨t,rfl⟩:=a;exact Y i t s _ _ ⟨.int (g i),H,I.tok _,⟨_,rfl⟩,q⟩
def un_neg:UnR X (PB .USub) (rU λi=>.int (-i)):=unI λ_ _ _ _ _ q=>neg_int q
end
noncomputable def scal:V->V->Bool
 |.non,.non=>d_|.non,.int _=>d_|.int _,.non=>d_|.non,.bl _=>d_|.bl _,.non=>d_|.non,.str _=>d_|.str _,.non=>d_|.int _,.int _=>d_|.bl _,.bl _=>d_|.str _,.str _=>d_|.byt _,.byt _=>d_|.int _,.str _=>d_|.str _,.int _=>d_|.bl _,.str _=>d_|.str _,.bl _=>d_|_,_=>b_
def rNe:R2:=λx y H Q=>scal x y=d_/\Q (.bl (!decide (x=y))) H
def dec_int{i j:Int}:q_ (V.int i=V.int j)=(i==j):=by rw[Kt];simp
def dec_bl{i j:Bool}:q_ (V.bl i=V.bl j)=(i==j):=by rw[Kt];simp
def dec_str{i j:m_}:q_ (V.str i=V.str j)=(i==j):=by rw[Kt];simp
def dec_byt{i j:Array UInt8}:q_ (V.byt i=V.byt j)=(i.toList==j.toList):=by rw[Kt];simp
section
variable{a b:Ii}{tc:TE}
def gq{Q:VK}{k Y:Bool}(I:A6 X A4 σ H s)(q:Q (.bl k) H)(e:k=Y):EP X A4 σ Q (.bool Y) s:=by subst e;exact⟨.bl k,H,I,rfl,q⟩
def op_ne:OpR X (Ht .NotEq) rNe:=by
 intro A4 s σ H x y v u Q I b Y h;obtain⟨a,q⟩:=h;cases x with
 |non=>
  cases b;cases y with
  |non=>cases Y;exact PySem.EqNone.ne_none_none (gq I q am)|bl j=>cases Y;exact PySem.EqNone.ne_none_bool (gq I q am)|int j=>obtain⟨t',rfl⟩:=Y;exact PySem.EqNone.ne_none_int (gq I q am)
  |str j=>obtain⟨t',rfl⟩:=Y;exact PySem.EqNone.ne_none_str (gq I q am)
  |_=>exact Ho (show b_=d_ from a) II
 |bl i=>
  cases b;cases y with
  |non=>cases Y;exact PySem.EqNone.ne_bool_none (gq I q am)|bl j=>cases Y;exact ne_bool (gq I q (Jg not dec_bl))|str j=>obtain⟨t',rfl⟩:=Y;exact Qb (gq I q am)
  |_=>exact Ho (show b_=d_ from a) II
 |int i=>
  obtain⟨t,rfl⟩:=b;cases y with
  |non=>cases Y;exact PySem.EqNone.ne_int_none (gq I q am)|int j=>obtain⟨t',rfl⟩:=Y;exact ne_int (gq I q (Jg not dec_int))
  |str j=>obtain⟨t',rfl⟩:=Y;exact Qa (gq I q am)
  |_=>exact Ho (show b_=d_ from a) II
 |str i=>
  obtain⟨t,rfl⟩:=b;cases y with
  |non=>cases Y;exact PySem.EqNone.ne_str_none (gq I q am)|bl j=>cases Y;exact P_ (gq I q am)|int j=>obtain⟨t',rfl⟩:=Y;exact P9 (gq I q am)
  |str j=>obtain⟨t',rfl⟩:=Y;exact ne_str (gq I q (Jg not dec_str))
  |_=>exact Ho (show b_=d_ from a) II
 |byt i=>
  obtain⟨t,rfl⟩:=b;cases y with
  |byt j=>obtain⟨t',rfl⟩:=Y;exact PySem.W.ne_bytes (gq I q (Jg not dec_byt))
  |_=>exact Ho (show b_=d_ from a) II
 |_=>cases y<;>exact Ho (show b_=d_ from a) II
def op_lt:OpR X (Ht .Lt) (rI0 λi j=>.bl (q_ (i<j))):=opB0 λ_ _ _ _ _ _ _ q=>lt_int q
def op_le:OpR X (Ht .LtE) (rI0 λi j=>.bl (q_ (i<=j))):=opB0 λ_ _ _ _ _ _ _ q=>le_int q
def op_gt:OpR X (Ht .Gt) (rI0 λi j=>.bl (q_ (j<i))):=opB0 λ_ _ _ _ _ _ _ q=>gt_int q
def op_ge:OpR X (Ht .GtE) (rI0 λi j=>.bl (q_ (j<=i))):=opB0 λ_ _ _ _ _ _ _ q=>ge_int q
def Fy:OpR X (Ht .In) (λx y H Q=>∃i j,x=.str i/\y=.str j/\Q (.bl (!(HE j i 0 j.length 1).isEmpty)) H):=by intro A4 s σ H x y v u Q I a Y h;obtain⟨i,j,rfl,rfl,q⟩:=h;obtain⟨t,rfl⟩:=a;obtain⟨t',rfl⟩:=Y;exact in_str (gq I q rfl)
def op_isN:OpR X (Ht .Is) (λx y H Q=>y=.non/\Q (.bl (q_ (x=.non))) H):=by
 intro A4 s σ H x y v u Q I Y a h;obtain⟨rfl,q⟩:=h;cases a;refine is_none_gen (gq I q ?_);cases x<;>first
  |(cases Y;rfl)
  |(obtain⟨t,rfl⟩:=Y;rfl)
def op_notN:OpR X (Ht .IsNot) (λx y H Q=>y=.non/\Q (.bl (!decide (x=.non))) H):=by
 intro A4 s σ H x y v u Q I Y a h;obtain⟨rfl,q⟩:=h;cases a;refine isnot_none_gen (gq I q ?_);cases x<;>first
  |(cases Y;rfl)
  |(obtain⟨t,rfl⟩:=Y;rfl)
def ym:OpR X (Ht .NotIn) (λx y H Q=>∃i j,x=.str i/\y=.str j/\Q (.bl (!(!(HE j i 0 j.length 1).isEmpty))) H):=by intro A4 s σ H x y v u Q I a Y h;obtain⟨i,j,rfl,rfl,q⟩:=h;obtain⟨t,rfl⟩:=a;obtain⟨t',rfl⟩:=Y;exact notIn_str (gq I q rfl)
def OpR.or(h:OpR X f r)(h':OpR X f r'):OpR X f (λx y H Q=>r x y H Q\/r' x y H Q):=by
 intro A4 s σ H x y v u Q I a Y q;rcases q with q|q
 .exact h A4 s σ H x y v u Q I a Y q
 .exact h' A4 s σ H x y v u Q I a Y q
def BW(b:Ii)(h:(op≠.In)⁻¹)(h2:(op≠.NotIn)⁻¹):Jt op b=b_:=by
 have e1:(op==CmpOp.In)=b_:=by cases op<;>first|rfl|exact Ho rfl h
 have e2:(op==PY)=b_:=by cases op<;>first|rfl|exact Ho rfl h2
 cases b<;>simp[Jt,e1,e2]
def pe_cmpR(e:OpR X (Ht op) r)(i:PE X a ta)(g:PE X b tb)(f:Jt op b=b_):PE X (.Compare a [op] [b] pos) (tOp r ta tb):=by intro A4 s σ H Q I h;exact wpAny_Compare1 (binT i g I h λv u Y x y H2 j d c q=>e A4 Y σ H2 x y v u Q j d c q) f
noncomputable def tTest(t:TE):TT:=λσ H Q=>t σ H λx H'=>∃k,x=.bl k/\Q k H'
def Ah(m:OpR X (Ht op) r)(p:PE X a ta)(o:PE X b tb)(n:Jt op b=b_):PT X (.Compare a [op] [b] pos) (tTest (tOp r ta tb)):=by
 intro A4 s σ H Q I h;refine OJ (C6 (p A4 s σ H _ I h) λv d ⟨x,H1,w,g,l⟩=>C6 (o A4 d σ H1 _ w l) λu Y ⟨y,H2,t,r2,j⟩=>C6 (m A4 Y σ H2 x y v u _ t g r2 j) λc B ⟨z,A,q,f,k,e,i⟩=>?_) n
 subst e;cases f;exact Ij ⟨A,q,i⟩
noncomputable def EO(r r':R2)(ta tb tc:TE):TE:=λσ H Q=>ta σ H λx H1=>tb σ H1 λy H2=>r x y H2 λz I=>∃k,z=.bl k /\
 (if k=d_ then tc σ I λY a=>r' y Y a Q else Q (.bl b_) I)
def pe_chain(D:OpR X (Ht op) r)(Y:OpR X (Ht op') r')(K:PE X a ta)(G:PE X b tb)(F:PE X c tc)(E:autoParam (LW [op,op'] [b,c]=b_) Jq7):PE X (.Compare a [op,op'] [b,c] pos) (EO r r' ta tb tc):=by
 intro A4 s σ H Q I h;refine Compare_chain (C6 (K A4 s σ H _ I h) λv p ⟨x,H1,O,w,C⟩=>Pk (C6 (G A4 p σ H1 _ O C) λu o ⟨y,H2,N,r2,B⟩=>C6 (D A4 o σ H2 x y v u _ N w r2 B) λd n ⟨z,i,g,t,k,e,f⟩=>?_)) E
 subst e;cases t;refine Ij ?_;cases k with
 |false=>exact ite_ff ⟨.bl b_,i,g,rfl,f⟩|true=>exact ite_tt (chain_last (C6 (F A4 n σ i _ g f) λl m ⟨j,P,L,q,A⟩=>Y A4 m σ P y j u l Q L r2 q A))
def pt_chain(K:OpR X (Ht op) r)(f:OpR X (Ht op') r')(P:PE X a ta)(O:PE X b tb)(N:PE X c tc)(L:autoParam (LW [op,op'] [b,c]=b_) Jq7):PT X (.Compare a [op,op'] [b,c] pos) (tTest (EO r r' ta tb tc)):=by
 intro A4 s σ H Q I h;refine isTrue_chain (C6 (P A4 s σ H _ I h) λv q ⟨x,H1,W,B,F⟩=>test_link (C6 (O A4 q σ H1 _ W F) λu p ⟨y,H2,U,r2,E⟩=>C6 (K A4 p σ H2 x y v u _ U B r2 E) λd o ⟨z,j,i,A,k,e,g⟩=>?_)) L
 subst e;cases A;refine Ij ?_;cases k with
 |false=>obtain⟨k',R,G⟩:=g;cases R;exact ite_ff ⟨j,i,G⟩
 |true=>refine ite_tt (test_last (C6 (N A4 o σ j _ i g) λm n Y=>?_));obtain⟨l,H4,T,w,D⟩:=Y;refine C6 (f A4 n σ H4 y l u m _ T r2 w D) λd' s5 Y=>?_;obtain⟨z2,Z,S,t,k2,e2,C⟩:=Y;subst e2;cases t;exact Ij ⟨Z,S,C⟩
def TruV(K:Pn)(x:V)(H:Hp)(k:Bool):Prop:=
 match x with
 |.non=>k=b_|.bl b=>k=b|.int i=>k=(i != 0)|.str y=>y.length<=h_/\k=((y.length:Int) != 0)|.byt y=>y.size<=h_/\k=((y.size:Int) != 0)|.ref p=>(∃xs,SqL K H p xs/\k= !xs.isEmpty)\/(∃xs,SqT K H p xs/\k= !xs.isEmpty)\/∃A7,H p=a_ (.dK A7)/\k= !A7.isEmpty
 |_=>False
def DQ{A7:List (κ×V)}{vs:List (κ×j_)}(r:KV A7 vs):(!vs.isEmpty)= !A7.isEmpty:=by cases r<;>rfl
def uA{xs:b9}{A8:ci}(r:B' xs A8):(!A8.toArray.isEmpty)= !xs.isEmpty:=by cases r<;>simp
def rC:(h_:Nat)<2^63:=by simp[Hu]
theorem tru_ok:TruR X (λx H Q=>∃k,TruV X.K x H k/\Q k H):=by
 intro A4 s σ H x v Q I c h;obtain⟨k,e,q⟩:=h;have n:=rC;have l:h_=16777216:=Hu;cases x with
 |non=>cases c;have Y:k=b_:=e;subst Y;exact truthy_none ⟨H,I,q⟩|bl b=>cases c;have Y:k=b:=e;subst Y;exact Ij ⟨H,I,q⟩|int i=>obtain⟨t,rfl⟩:=c;have Y:k=(i != 0):=e;subst Y;exact PySem.P.truthy_int ⟨H,I,q⟩
 |str y=>obtain⟨t,rfl⟩:=c;obtain⟨g,Y⟩:y.length<=h_/\k=((y.length:Int) != 0):=e;subst Y;exact PySem.P.truthy_str ad ⟨H,I.tok _,q⟩
 |byt y=>obtain⟨t,rfl⟩:=c;obtain⟨g,Y⟩:y.size<=h_/\k=((y.size:Int) != 0):=e;subst Y;exact PySem.W.truthy_bytes ad ⟨H,I.tok _,q⟩
 |ref p=>
  cases c;have Y:(∃xs,SqL X.K H p xs/\k= !xs.isEmpty)\/(∃xs,SqT X.K H p xs/\k= !xs.isEmpty)\/∃A7,H p=a_ (.dK A7)/\k= !A7.isEmpty:=e;rcases Y with⟨xs,d,Y⟩|⟨xs,d,Y⟩|⟨A7,d,Y⟩
  .subst Y;obtain⟨A8,r,pl,f⟩:=I.list d;have a:=r.length;exact wpAny_truthy_list pl.isList (by simp only[HI];lia) ⟨H,I.tok _,by rw[uA r];exact q⟩
  .subst Y;obtain⟨A8,r,pl,f⟩:=I.tuple d;have a:=r.length;exact truthy_tuple pl (by simp only[HI];lia) ⟨H,I.tok _,by rw[uA r];exact q⟩
  .subst Y;obtain⟨f,j,vs,r,m⟩:A7.length<=h_/\(p==Ir)=b_/\∃vs,KV A7 vs/\s.heap.DictOf (dE X.prog X.w) p vs:=I.hok p _ d;have a:A7.length=vs.length:=KR r;exact wpAny_truthy_dict j m ad ⟨H,I.tok _,by rw[DQ r];exact q⟩
 |_=>exact(show False from e).elim
def qh(g:PE X a ta)(f:∀Y,Ow a X.env Y=(do let v <- Y;My a.pos;KU [v] (truthy v))):
  PT X a (λσ H Q=>ta σ H λx H'=>∃k,TruV X.K x H' k/\Q k H'):=by
 intro A4 s σ H Q I h;refine isTrue_plain (C6 (g A4 s σ H _ I h) λv b e=>?_) (f _);obtain⟨x,H1,i,c,d⟩:=e;exact tru_ok A4 b σ H1 x v Q i c d
def Dl:OpR X (Jd .Add) (λx y H Q=>∃i j,x=.str i/\y=.str j/\i.length+j.length<=h_/\Q (.str (i++j)) H):=by intro A4 s σ H x y v u Q I a Y h;obtain⟨i,j,rfl,rfl,b,q⟩:=h;obtain⟨t,rfl⟩:=a;obtain⟨t',rfl⟩:=Y;exact add_str (λt' tk=>⟨.str (i++j),H,I.tok _,⟨_,rfl⟩,q⟩) b
def vals1{x:V}(r:B' [x] us):∃u,us=[u]/\A' x u:=by
 cases r with
 |cons I r2=>cases r2;exact⟨_,rfl,I⟩
def vals2{x:V}(r:B' [x,y] us):∃u I,us=[u,I]/\A' x u/\A' y I:=by
 cases r with
 |cons b r2=>
  cases r2 with
  |cons a Y=>cases Y;exact⟨_,_,rfl,b,a⟩
def GU(a:X.calm=d_):fj X (.builtin "max") (λxs H Q=>∃i j,xs=[.int i,.int j]/\Q (.int (if j>i then j else i)) H):=by
 intro A4 s σ H xs us Q I r h;obtain⟨i,j,rfl,q⟩:=h;obtain⟨u,b,rfl,⟨t,rfl⟩,⟨t',rfl⟩⟩:=vals2 r;refine max_two_ints (I.ok.hd a) λh' tk k=>⟨_,H,I.kept k,?_,q⟩
 by_cases Y:j>i
 .rw[f_ Y,f_ Y];exact⟨_,rfl⟩
 .rw[k_ Y,k_ Y];exact⟨_,rfl⟩
def GR(a:X.calm=d_):fj X (.builtin "min") (λxs H Q=>∃i j,xs=[.int i,.int j]/\Q (.int (if j<i then j else i)) H):=by
 intro A4 s σ H xs us Q I r h;obtain⟨i,j,rfl,q⟩:=h;obtain⟨u,b,rfl,⟨t,rfl⟩,⟨t',rfl⟩⟩:=vals2 r;refine min_two_ints (I.ok.hd a) λh' tk k=>⟨_,H,I.kept k,?_,q⟩
 by_cases Y:j<i
 .rw[f_ Y,f_ Y];exact⟨_,rfl⟩
 .rw[k_ Y,k_ Y];exact⟨_,rfl⟩
def GW:fj X (.type "int") (λxs H Q=>(∃i,xs=[.int i]/\Q (.int i) H)\/∃k,xs=[.bl k]/\Q (.int (if k then 1 else 0)) H):=by
 intro A4 s σ H xs us Q I r h;rcases h with⟨i,rfl,q⟩|⟨k,rfl,q⟩
 .obtain⟨u,rfl,t,rfl⟩:=vals1 r;exact call_int_int ⟨.int i,H,I,⟨_,rfl⟩,q⟩
 .obtain⟨u,rfl,Y⟩:=vals1 r;cases Y;exact call_int_bool ⟨.int (if k then 1 else 0),H,I.tok _,⟨_,rfl⟩,q⟩
def zg:fj X (.type "str") (λxs H Q=>∃i,xs=[.int i]/\i.natAbs.log2<1920/\Q (.str (toString i)) H):=by intro A4 s σ H xs us Q I r h;obtain⟨i,rfl,Y,q⟩:=h;obtain⟨u,rfl,t,rfl⟩:=vals1 r;exact PySem.P.str_of_int Y ⟨.str _,H,I.tok _,⟨_,rfl⟩,q⟩
end
structure ObjM(h:H_)(x dx C:e_)(mA:Ld):Prop where
 obj:h.get? x=a_ (Ji C dx)
 ns:h.Ns1 dx mA
 ne:dx≠x
theorem yA(n:h.Ns1 dx mA):∃od,h.get? dx=a_ od/\∀name,KN name od=a_ (mA name):=by
 obtain⟨o,es,ep,b,hd,d,_,c⟩:=n;refine⟨o,b,λname=>?_⟩
 have e:=c name;unfold nsFind findBy at e;rw[<- Oa]at e;unfold KN;rw[hd];dsimp only;split
 .simp_all
 .rename_i q;rw[q]at e;have a:es.toList.any (·.refKey)=b_:=by
   rw[List.any_eq_false];intro y Y;obtain⟨z,t,I⟩:=d y (Array.mem_toList_iff.mp Y);simp[DictEntry.refKey,I]
  grind
def ObjM.look{x:e_}(I:ObjM h x dx C mA):∃od,JB h x (Ji C dx) C (a_ od)/\∀name,KN name od=a_ (mA name):=
 let ⟨od,Y,a⟩:=yA I.ns
 ⟨od,⟨I.obj,rfl,rfl,Y⟩,a⟩
section
variable{x f:e_}{v:j_}
def get_map{Y:Bool}{Q:Mq}(X:K.In s.heap)(I:ObjM s.heap x dx C mA)(c:MD K C name=d_)(hh:JN K C=d_)(d:Hq K (.ref C) name=a_ c_)(hv:mA name=a_ v)(a:MU v=d_)(h:Q v {s with toks:=s.toks+1}):
  B_ (C_ prog w) A (Ox (.ref x) name Y) Q E s:=by
 obtain⟨od,J,b⟩:=I.look;exact PySem.W.get_value X J (Lo c).1 (O8 hh d rfl (by rw[b,hv])) a h
def get_meth{Q:j_×ci->v_->Prop}(X:K.In s.heap)(I:ObjM s.heap x dx C mA)(Y:MD K C name=d_)(c:Hq K (.ref C) name=a_ (a_ (.ref f)))(a:isFn K (.ref f)=d_)(hv:mA name=c_)(h:Q (.ref f,[.ref x]) s):
  B_ (C_ prog w) A (MS (.ref x) name pl) Q E s:=by
 obtain⟨od,J,b⟩:=I.look;exact PySem.W.method_fn X J (Lo Y).1 (Lo Y).2 c (Ku.mp a) (by show(KN name od).map (·.isSome)=a_ b_;rw[b,hv];rfl) h
theorem set_map{ns:b8}(X:K.In s.heap)(I:ObjM s.heap x dx C mA)(k:Hq K (.ref C) "__setattr__"=a_ (a_ (.builtin "object.__setattr__")))(l:Oi K C=d_)(j:takerIn K C name=a_ c_)(hh:JN K C=d_)(hw:Kv mA ns)(hsz:ns.length<=h_)(h:∀h',ObjM h' x dx C (λy=>if y=name then a_ v else mA y)->Kz dx s.heap h'->Q () {s with heap:=h',toks:=s.toks+2}):
  B_ (C_ prog w) A (PJ (.ref x) name v) Q E s:=by
 obtain⟨od,J,q⟩:=I.look;refine PM X J k (PySem.W.osa_open (s:={s with toks:=s.toks+1}) (r:=c_) X J l j λb=>?_);obtain⟨cd,m,f⟩:=Na hh;have i:s.heap.get? x=a_ ⟨.ref C,a_ dx,.plain,#[]⟩:=I.obj;refine g_ (y_ (g_ (g_ (Nq i (g_ (N5 (s:={s with toks:=s.toks+1}) (M_ X m) ?_))))));rw[f];refine y_ (a:=a_ dx) (g_ (y_ (g_ ?_)));refine wpAny_nsSet1 (s:={s with toks:=s.toks+1}) I.ns λh' c Y=>?_;obtain⟨p,n,o,d,e,g⟩:=c.count (N1 name v hw);refine g_ (P4 d (by rw[e];exact P7 (HB g bb)) ?_);exact y_ (h _ ⟨(Y.2 _ (HM I.ne)).trans I.obj,c,I.ne⟩ Y)
def make_map{R:OC->v_->Prop}{vs:ci}(X:K.In s.heap)(Y:OA K C=d_)(hi:Hq K (.ref C) "__init__"=a_ (a_ (.ref f)))(a:Nv K (.ref f)=a_ (.type "function"))(h:Ko (C_ prog w) (A.under (.builtin "type.__call__" ⟨.ref C::vs,kw⟩)) (.call (.ref f) ⟨.ref (s.heap.objs.size+1)::vs,kw⟩) (PySem.W.InitBack (s.heap.objs.size+1) R)
   {s with heap:=(s.heap.push Il).push (Ji C s.heap.objs.size)}):
  Ko (C_ prog w) A (.call (.ref C) ⟨vs,kw⟩) R s:=by
 obtain⟨hh,g,d,t,os⟩:=s;exact PySem.W.make_core (PySem.W.makes_of X Y) (J6 X hi) (λI=>PySem.W.bind_fn X I a) (.inl rfl) h
end
noncomputable def um(f:m_)(v:V):List (m_×V)->List (m_×V)
 |[]=>[(f,v)]|(g,x)::r=>if g=f then(g,v)::r else(g,x)::um f v r
theorem rB(f g:m_)(v:V):∀fs:List (m_×V),(um f v fs).lookup g=if g=f then a_ v else fs.lookup g
 |[]=>by show IE g [(f,v)]=_;grind|(k,x)::r=>by have I:=rB f g v r;rw[show um f v ((k,x)::r)=(if k=f then(k,v)::r else(k,x)::um f v r)from rfl];grind
theorem rG(f:m_)(v:V):∀fs:List (m_×V),f∈(um f v fs).map (·.1)/\∀g,g∈fs.map (·.1)->g∈(um f v fs).map (·.1)
 |[]=>⟨by simp[um],λg h=>by simp at h⟩|(k,x)::r=>by obtain⟨Y,I⟩:=rG f v r;rw[show um f v ((k,x)::r)=(if k=f then(k,v)::r else(k,x)::um f v r)from rfl];grind
theorem rD(f:m_)(v:V):∀fs:List (m_×V),(um f v fs).length<=fs.length+1
 |[]=>by simp[um]|(k,x)::r=>by
  have Y:=rD f v r;rw[show um f v ((k,x)::r)=(if k=f then(k,v)::r else(k,x)::um f v r)from rfl];by_cases I:k=f
  .rw[f_ I,Hl,Hl];lia
  .rw[k_ I,Hl,Hl];lia
def qC.some_of{o:Option j_}(r:qC (a_ v) o):∃u,o=a_ u/\A' v u:=by
 cases o with
 |none=>exact(show False from r).elim|some u=>exact⟨u,rfl,r⟩
def qC.none_of{o:Option j_}(r:qC c_ o):o=c_:=by
 cases o with
 |none=>rfl|some u=>exact(show False from r).elim
def yH(r:A' v u):MU u=d_:=by
 cases v with
 |non=>cases(show u=JC from r);rfl|bl b=>cases(show u=ME b from r);rfl|int i=>obtain⟨t,e⟩:=(show ∃t,u=Im i t from r);cases e;rfl
 |str x=>obtain⟨t,e⟩:=(show ∃t,u=IM x t from r);cases e;rfl
 |byt b=>obtain⟨t,e⟩:=(show ∃t,u=PN b t from r);cases e;rfl
 |flt b=>obtain⟨t,e⟩:=(show ∃t,u=Nz b t from r);cases e;rfl
 |ref a=>cases(show u=D_ a from r);rfl|ty n=>cases(show u=Kh n from r);rfl
section
variable{fs:List (m_×V)}
def vY(I:HOk P w H h)(e:H a=a_ (.ins C dx fs)):∃mA,ObjM h a dx C mA/\(∀f,qC (fs.lookup f) (mA f))/\Kv mA (fs.map (·.1))/\fs.length<=1000/\H dx=a_ (.own a):=by
 obtain⟨d,z,b,Y,mA,n,r,q⟩:=(show dj P w H h a (.ins C dx fs)from I a _ e)
 exact⟨mA,⟨Y,n,b⟩,r,q,z,d⟩
end
structure Cls(K:Pn)(C:e_):Prop where
 pg:MD K C Jw=d_
 hd:JN K C=d_
 po:Oi K C=d_
 sa:Hq K (.ref C) "__setattr__"=a_ (a_ (.builtin "object.__setattr__"))
def Cls.get(c:Cls K C)(f:m_):MD K C f=d_:=c.pg
def bu(K:Pn)(C:e_)(f:m_):Prop:=Hq K (.ref C) f=a_ c_
def bu.taker{f:m_}(n:bu K C f):takerIn K C f=a_ c_:=by unfold takerIn;rw[show Hq K (.ref C) f=a_ c_ from n];rfl
structure Meth(K:Pn)(C:e_)(m:m_)(f:e_):Prop where
 at_:Hq K (.ref C) m=a_ (a_ (.ref f))
 fn:isFn K (.ref f)=d_
 kp:Ju K (.ref f)=d_
section
variable{fs:List (m_×V)}{f:m_}
def DU{b:Bool}{Q:Mq}(I:A6 X A4 σ H s)(e:H a=a_ (.ins C dx fs))(c:Cls X.K C)(n:bu X.K C f)(l:fs.lookup f=a_ v)(h:∀u s',A6 X A4 σ H s'->A' v u->Q u s'):B_ (C_ X.prog X.w) A (Ox (.ref a) f b) Q E s:=by obtain⟨mA,O,r,_,_,_⟩:=vY I.hok e;obtain⟨u,d,Y⟩:=qC.some_of (v:=v) (o:=mA f) (by rw[<- l];exact r f);exact get_map I.kIn O (c.get f) c.hd n d (yH Y) (h u _ (I.tok _) Y)
def DR{g:e_}{Q:j_×ci->v_->Prop}(I:A6 X A4 σ H s)(e:H a=a_ (.ins C dx fs))(c:Cls X.K C)(k:Meth X.K C m g)(l:fs.lookup m=c_)(h:Q (.ref g,[.ref a]) s):B_ (C_ X.prog X.w) A (MS (.ref a) m pl) Q E s:=by obtain⟨mA,O,r,_,_,_⟩:=vY I.hok e;have Y:mA m=c_:=qC.none_of (by rw[<- l];exact r m);exact get_meth I.kIn O (c.get m) k.at_ k.fn Y h
theorem CY(I:A6 X A4 σ H s)(e:H a=a_ (.ins C dx fs))(c:Cls X.K C)(n:bu X.K C f)(p:fs.length<1000)(i:A' y u)(h:∀s',A6 X A4 σ (upd H a (.ins C dx (um f y fs))) s'->Q () s'):B_ (C_ X.prog X.w) A (PJ (.ref a) f u) Q E s:=by
 obtain⟨mA,O,r,wi,_,Y⟩:=vY I.hok e;have j:(fs.map (·.1)).length<=h_:=by rw[A_,Hu];lia
 refine set_map I.kIn O c.sa c.po n.taker c.hd wi j λh' O' d=>h _ ?_;have hd:∃o,h'.get? dx=a_ o:=let ⟨o,_,_,m,_⟩:=O'.ns;⟨o,m⟩;refine I.write (x:=a) (e:=dx) (by rw[e];exact Iu) (.inr Y) (λb q l z=>(d.2 b l).trans z) hd ?_;refine⟨by rw[aw O.ne];exact Y,?_,O.ne,O'.obj,_,O'.ns,λg=>?_,λg k=>?_⟩
 .have:=rD f y fs;lia
 .show qC ((um f y fs).lookup g) (if g=f then a_ u else mA g);rw[rB];by_cases q:g=f
  .rw[f_ q,f_ q];exact i
  simp_all
 .by_cases q:g=f
  .rw[q];exact(rG f y fs).1
  .refine(rG f y fs).2 g (wi g λz=>k ?_);simp_all
def A6.made(I:A6 X A4 σ H s):A6 X A4 σ (upd (upd H s.heap.objs.size (.own (s.heap.objs.size+1))) (s.heap.objs.size+1) (.ins C s.heap.objs.size []))
  {s with heap:=(s.heap.push Il).push (Ji C s.heap.objs.size)}:=by
 have e1:(s.heap.push Il).get? s.z=a_ Il:=Cb s.heap rfl;have e2:((s.heap.push Il).push (Ji C s.z)).get? (s.z+1)=a_ (Ji C s.z):=by
  have:=Cb (s.heap.push Il) (o:=Ji C s.z) rfl
  rwa [IW]at this
 have e3:(s.heap.push Il).Ns s.z (λ_=>c_):=⟨Il,#[],_,e1,rfl,(λe d=>Ho d am),λ_=>rfl⟩
 have f:=I.laid (a:=s.z) (o:=.own (s.z+1)) (h':=s.heap.push Il) (t':=s.toks) (λb u q=>l_ _ q) (r_ _) ⟨_,e1⟩;refine f.laid (a:=s.z+1) (o:=.ins C s.z []) (t':=s.toks) (λb u q=>l_ _ q) (Qi (IW _ _)) ?_;have Y:s.z≠s.z+1:=HC (JW _);refine⟨by rw[aw Y,au],HX _,Y,e2,λ_=>c_,(NA e3).at λo q=>l_ _ q,λ_=>Iu,λy c=>Ho rfl c⟩
def Hb{env:LY}{f:m_}{Q:Mq}(Y:IZ e f env (Hv e env)=Hv e env)(h:B_ (C_ prog w) A (Hv e env) (λo I=>B_ (C_ prog w) A (Ox o f d_) Q E I) E s):B_ (C_ prog w) A (Hv (.Attribute e f pos) env) Q E s:=
 Attribute_any_ h (by rw[arm_eval_Attribute,Y])
end
def uX(K:Pn)(ta:TE)(f:m_):TE:=λσ H Q=>ta σ H λx H1=>∃a C dx fs v,x=.ref a/\H1 a=a_ (.ins C dx fs)/\Cls K C/\bu K C f/\fs.lookup f=a_ v/\Q v H1
def BA(K:Pn)(ta tv:TE)(f:m_):TS:=λD σ H=>tv σ H λy H1=>ta σ H1 λx H2=>∃a C dx fs,x=.ref a/\H2 a=a_ (.ins C dx fs)/\Cls K C/\bu K C f/\fs.length<1000 /\
 D.nx σ (upd H2 a (.ins C dx (um f y fs)))
section
variable{o value:Ii}{f:m_}{tv:TE}
def iB(g:PE X e ta)(i:IZ e f X.env (Hv e X.env)=Hv e X.env):PE X (.Attribute e f pos) (uX X.K ta f):=by intro A4 s σ H Q I h;refine Hb i (C6 (g A4 s σ H _ I h) λu r d=>?_);obtain⟨x,H1,m,Y,a,C,dx,fs,v,ex,j,c,n,l,q⟩:=d;subst ex;obtain rfl:u=D_ a:=Y;exact DU m j c n l λo p k b=>⟨v,H1,k,b,q⟩
def iW(k:PE X o ta)(hv:PE X value tv)(j:Jb value (a_ (.Attribute o f pos')) pos.line X.env=IQ b_):PS X (.Assign [.Attribute o f pos'] value pos) (BA X.K ta tv f):=by intro A4 s σ H D I h;refine MJ (C6 (hv A4 s σ H _ I h) λu b Y=>?_) j;obtain⟨y,H1,t,d,q⟩:=Y;refine C6 (k A4 b σ H1 _ t q) λi w Y=>?_;obtain⟨x,H2,r,e,a,C,dx,fs,ex,m,c,n,l,g⟩:=Y;subst ex;obtain rfl:i=D_ a:=e;exact CY r m c n l d λv p=>⟨σ,_,p,g⟩
end
section
variable{Q:Mq}{c:j_}{b:Bool}
inductive Ek(K:Pn)(H:Hp):V->j_->Prop where
 |non:Ek K H .non (.type "NoneType")
 |bl (x:Bool):Ek K H (.bl x) (.type "bool")
 |int (i:Int):Ek K H (.int i) (.type "int")
 |str (x:m_):Ek K H (.str x) (.type "str")
 |flt (x:UInt64):Ek K H (.flt x) (.type "float")
 |lst {a:e_} {xs:List V} (e:H a=a_ (.lst xs)):Ek K H (.ref a) (.type "list")
 |frz {a:e_} {o:Lg} {xs:List V} (e:H a=a_ (.frz o (.lst xs))):Ek K H (.ref a) (.type "list")
 |tup {a:e_} {xs:List V} (e:H a=a_ (.tup xs)):Ek K H (.ref a) (.type "tuple")
 |dK {a:e_} {A7:List (Key×V)} (e:H a=a_ (.dK A7)):Ek K H (.ref a) (.type "dict")
 |dT {a:e_} {A7:List (List Key×V)} (e:H a=a_ (.dT A7)):Ek K H (.ref a) (.type "dict")
 |ins {a C dx:e_} {fs:List (m_×V)} (e:H a=a_ (.ins C dx fs)) (cl:Cls K C) (ha:Hq K (.ref C) "__class__"=a_ (a_ (.builtin "object.__class__")))
   (hn:LX K (.builtin "object.__class__") "__get__"=a_ (a_ (.builtin "getset_descriptor.__get__"))) (htk:PL K (.builtin "object.__class__")=a_ d_)
   (hm:JI K C (.type "object")=a_ d_):Ek K H (.ref a) (.ref C)
def G5{x:V}{t:j_}(I:A6 X A4 σ H s)(Y:A' x u)(ty:Ek X.K H x t)(e:HV X.K t c=a_ b)(h:∀tk,Q (.bool b) {s with toks:=tk}):
  B_ (C_ X.prog X.w) A (Kp (.builtin "isinstance") [u,c]) Q E s:=by
 cases ty with
 |non=>cases(show u=JC from Y);exact JE NG I.kIn Iu e (λz=>nomatch z) h
 |bl y=>cases(show u=ME y from Y);exact JE NI I.kIn Iu e (λz=>nomatch z) h
 |int i=>obtain⟨t,q⟩:=(show ∃t,u=Im i t from Y);cases q;exact JE N3 I.kIn Iu e (λz=>nomatch z) h
 |str y=>obtain⟨t,q⟩:=(show ∃t,u=IM y t from Y);cases q;exact JE N2 I.kIn Iu e (λz=>nomatch z) h
 |flt y=>obtain⟨t,q⟩:=(show ∃t,u=Nz y t from Y);cases q;exact JE PySem.W.kitx_float I.kIn Iu e (λz=>nomatch z) h
 |@lst a xs d=>
  cases(show u=D_ a from Y);obtain⟨_,_,n,_,h1⟩:=(show dj X.prog X.w H s.heap a (.lst xs)from I.hok a _ d)
  exact JE LF I.kIn ⟨_,h1,rfl⟩ e (λz=>nomatch z) h
 |@frz a j xs d=>
  cases(show u=D_ a from Y);obtain⟨_,_,_,n,_,h1⟩:=(show dj X.prog X.w H s.heap a (.frz j (.lst xs))from I.hok a _ d)
  exact JE LF I.kIn ⟨_,h1,rfl⟩ e (λz=>nomatch z) h
 |@tup a xs d=>
  cases(show u=D_ a from Y);obtain⟨_,_,_,p⟩:=(show dj X.prog X.w H s.heap a (.tup xs)from I.hok a _ d)
  obtain⟨o,h1,h2,_⟩:=p;exact JE Nw I.kIn ⟨o,h1,h2⟩ e (λz=>nomatch z) h
 |@dK a A7 d=>
  cases(show u=D_ a from Y);obtain⟨_,_,vs,_,p⟩:=(show dj X.prog X.w H s.heap a (.dK A7)from I.hok a _ d)
  obtain⟨o,es,ep,h1,h2,_⟩:=p;exact JE NH I.kIn ⟨o,h1,h2.1⟩ e (λz=>nomatch z) h
 |@dT a A7 d=>
  cases(show u=D_ a from Y);obtain⟨_,_,xs,_,o,es,ep,h1,h2,_⟩:=(show dj X.prog X.w H s.heap a (.dT A7)from I.hok a _ d)
  exact JE NH I.kIn ⟨o,h1,h2.1⟩ e (λz=>nomatch z) h
 |@ins a C dx fs d g m k f l=>cases(show u=D_ a from Y);obtain⟨mA,O,_⟩:=vY I.hok d;obtain⟨od,J,_⟩:=O.look;exact JE (PySem.W.kitx_own (g.get _) g.hd m k f l) I.kIn J e (λz=>nomatch z) h
end
structure iu(k:Nat)(A:JK):Prop where
 hd:A.handled=c_
 dp:A.depth+3*k+5<recursionLimit
 un:A.units+16*k+200<IU
theorem iu.mono{j k:Nat}(r:iu k A)(h:j<=k):iu j A:=⟨r.hd,by have:=r.dp;lia,by have:=r.un;lia⟩
theorem iu.deeper{k:Nat}{A:JK}(r:iu (k+1) A)(env:LY):iu k (A.deeper env):=
 ⟨r.hd,by have:=r.dp;show A.depth+1+3*k+5<_;lia,by have:=r.un;show A.units+3+16*k+200<_;lia⟩
def Dx:(A.under (.builtin "type.__call__" ⟨.ref C::us,kw⟩)).depth=A.depth+1:=by rfl
def Dw:(A.under (.builtin "type.__call__" ⟨.ref C::us,kw⟩)).units=A.units+1:=by rfl
theorem iu.make{k:Nat}(r:iu (k+1) A)(C:e_)(us:ci)(kw:List (m_×j_)):iu k (A.under (.builtin "type.__call__" ⟨.ref C::us,kw⟩)):=
 ⟨r.hd,by have:=r.dp;rw[Dx];lia,by have:=r.un;rw[Dw];lia⟩
theorem iu.depth{k:Nat}{A:JK}(r:iu k A):A.depth<recursionLimit:=by have:=r.dp;lia
theorem iu.units{k:Nat}{A:JK}(r:iu k A):A.units+64<IU:=by have:=r.un;lia
noncomputable def eP:TA:=λ_ H Q=>Q [] H
def aR(ta:TE)(I:TA):TA:=λσ H Q=>ta σ H λx H1=>I σ H1 λxs H2=>Q (x::xs) H2
section
variable{t:TA}
def aP:PA X [] eP:=λ_ _ _ _ H Q I h=>KS ⟨[],H,I,.nil,h⟩
def ax(i:PE X e te)(g:PA X es t)(f: ~~~(i_ (e::es) X.env=(b_,Hv e X.env)::i_ es X.env)):PA X (e::es) (aR te t):=by intro pos A4 s σ H Q I h;rw[f];show B_ _ _ (PF ((b_,Hv e X.env)::HQ pos (i_ es X.env))) _ _ s;refine JD (C6 (i A4 s σ H _ I h) λu a Y=>?_);obtain⟨x,H1,k,b,d⟩:=Y;refine C6 (g pos A4 a σ H1 _ k d) λus l Y=>?_;obtain⟨xs,H2,j,r2,c⟩:=Y;exact⟨x::xs,H2,j,.cons b r2,c⟩
def tTup(t:TA):TE:=λσ H Q=>t σ H λxs H1=>xs.length<=h_/\∀p,H1 p=c_->Q (.ref p) (upd H1 p (.tup xs))
def Bu(t:TA):TE:=λσ H Q=>t σ H λxs H1=>xs.length<=h_/\∀p,H1 p=c_->Q (.ref p) (upd H1 p (.lst xs))
def yk{c}(h:PA X es t):PE X (.Tuple es c pos) (tTup t):=by
 intro A4 s σ H Q I d;refine wpAny_Tuple_spliced (C6 (h pos A4 s σ H _ I d) λus Y f=>?_);obtain⟨xs,H1,a,r,z,q⟩:=f;refine⟨by rw[<- r.length];exact z,?_⟩
 have g:H1 Y.z=c_:=a.hok.fresh (r_ _);refine⟨.ref Y.z,upd H1 Y.z (.tup xs),a.laid (t':=Y.toks) (λb u e=>l_ _ e) (r_ _) ?_,rfl,q _ g⟩
 exact⟨z,us,r,⟨_,Cb _ rfl,rfl,_,rfl⟩⟩
def k8(h:PA X es t):PE X (.List es pos) (Bu t):=by
 intro A4 s σ H Q I c;refine Pc (C6 (h pos A4 s σ H _ I c) λus Y d=>?_);obtain⟨xs,H1,a,r,z,q⟩:=d;refine⟨by rw[<- r.length];exact z,?_⟩
 have f:H1 Y.z=c_:=a.hok.fresh (r_ _);refine⟨.ref Y.z,upd H1 Y.z (.lst xs),a.laid (t':=Y.toks) (λb u e=>l_ _ e) (r_ _) ?_,rfl,q _ f⟩
 exact⟨z,us,0,r,Cb _ rfl⟩
end
abbrev Sp:=b9->Hp->VK->XK->Prop
variable{sp:Sp}
abbrev CXT:=List LY->Hp->v_->XK->Mq
variable{CX:CXT}
structure Env0(P:HY)(w:IF)(K:Pn)(mg:Ld)(base:H_)(A:JK)(outer:List LY)(s:v_)(H:Hp):Prop where
 frames:A.frames=a_ outer
 mod:Mod K mg base
 bs:∀b o,base.get? b=a_ o->s.heap.get? b=a_ o/\H b=c_
 bsz:base.objs.size<=s.heap.objs.size
 yM:s.heap.FunFrames base outer
 frf:∀b∈frs outer,H b=c_
 hok:HOk P w H s.heap
 bare:Lf s.gens
def CE(outer:List LY)(P:HY)(w:IF)(H:Hp)(s:v_)(Q:VK)(u:j_)(s':v_):Prop:=
 ∃v H',s'.os=s.os/\Lf s'.gens/\Un (frs outer) [] H H' s.heap s'.heap/\HOk P w H' s'.heap/\A' v u/\Q v H'
def CR(CX:CXT)(outer:List LY)(P:HY)(w:IF)(H:Hp)(s:v_)(Q:VK)(E:XK)(r:OC)(s':v_):Prop:=
 match r with
 |.ok (.ret u)=>CE outer P w H s Q u s'|.ok _=>False|.error e=>CX outer H s E e s'
structure iS(P:HY)(w:IF)(K:Pn)(mg:Ld)(base:H_)(CX:CXT)(k:Nat)(f:e_)(fd:Je)(ps:b8)(sp:Sp):Prop where
 len:∀vs H Q E,sp vs H Q E->vs.length=ps.length
 run:∀(A:JK) (outer:List LY) (s:v_) (H:Hp) (args:Args) (us:ci) (vs:b9) (Q:VK) (E:XK),iu k A->Env0 P w K mg base A outer s H->LZ s fd args (ps.zip us)->B' vs us->sp vs H Q E ->
  Ko (C_ P w) A (.call (.ref f) args) (CR CX outer P w H s Q E) s
def Env0.make{base:H_}(e:Env0 P w K mg base A outer s H)(C:e_)(us:ci)(kw:List (m_×j_)):
  Env0 P w K mg base (A.under (.builtin "type.__call__" ⟨.ref C::us,kw⟩)) outer s H:=⟨by first|exact e.frames|(simpa[Around.under,Code.envs,Code.isFrame,pushEnvs] using e.frames),e.mod,e.bs,e.bsz,e.yM,e.frf,e.hok,e.bare⟩
def A6.env0(I:A6 X A4 σ H s):Env0 X.prog X.w X.K X.mg X.base X.A X.stack s H:=
 ⟨I.ok.frames,I.ok.mod,I.bs,HB I.ok.bsz I.sz,I.stack,I.ET,I.hok,I.bare⟩
def A6.after{Q:VK}(I:A6 X A4 σ H s)(h:CE X.stack X.prog X.w H s Q u s'):EP X A4 σ Q u s':=by obtain⟨v,H',os,Y,e,c,r,q⟩:=h;obtain⟨hh,g,d,t,a⟩:=s';obtain rfl:a=s.os:=os;exact⟨v,H',I.call (h':=hh) (g':=g) (d':=d) (t':=t) (ch:=[]) e c Y (λb z=>Ho z am),r,q⟩
noncomputable def ia(sp:Sp)(dvs:b9)(E:XK)(t:TA):TE:=λσ H Q=>t σ H λvs H1=>sp (vs++dvs) H1 Q E
def tMeth(C:e_)(m:m_)(sp:Sp)(dvs:b9)(E:XK)(ta:TE)(t:TA):TE:=λσ H Q=>ta σ H λx H1=>∃a dx fs,x=.ref a/\H1 a=a_ (.ins C dx fs)/\fs.lookup m=c_ /\
 t σ H1 λvs H2=>sp (x::(vs++dvs)) H2 Q E
def tMake(C:e_)(sp:Sp)(dvs:b9)(E:XK)(t:TA):TE:=λσ H Q=>t σ H λvs H1=>∀x dx,H1 x=c_->H1 dx=c_->dx≠x ->
 sp (.ref x::(vs++dvs)) (upd (upd H1 dx (.own x)) x (.ins C dx [])) (λv H2=>v=.non/\Q (.ref x) H2) E
def Binds(K:Pn)(fd:Je)(ps:b8)(ds:ci):Prop:=
 ∀(s:v_) (us:ci),K.In s.heap->(us++ds).length=ps.length->LZ s fd ⟨us,[]⟩ (ps.zip (us++ds))
def Binds.all{ps:b8}(h:∀us:ci,us.length=ps.length->LP fd ⟨us,[]⟩=IQ (ps.zip us)):Binds K fd ps []:=λs us _ I=>by rw[IH]at I ⊢;exact .of_eq (h us I)
def Passes(CX:CXT)(X:Cx)(E:XK):Prop:=∀(A4:Vp) (σ:St) (H:Hp) (s:v_) (e:j_) (s':v_),A6 X A4 σ H s->CX X.stack H s E e s'->X.xe e s'
section
variable{k:Nat}{f:e_}{ps:List m_}{dvs:List V}{ds:List j_}{E:XK}{apos:PR}{o:Ii}{t:TA}
theorem Fb{Q:VK}(F:iS X.prog X.w X.K X.mg X.base CX k f fd ps sp)(b:iu k X.A)(d:Binds X.K fd ps ds)(hd:B' dvs ds)(a:Passes CX X E)(I:A6 X A4 σ H s)(r:B' vs us)(h:sp (vs++dvs) H Q E):B_ (C_ X.prog X.w) X.A (Kp (.ref f) us) (EP X A4 σ Q) X.xe s:=by
 have r2:B' (vs++dvs) (us++ds):=r.append hd;have c:(us++ds).length=ps.length:=by rw[<- r2.length];exact F.len _ _ _ _ h
 refine Lu (Jp (F.run X.A X.stack s H ⟨us,[]⟩ (us++ds) (vs++dvs) Q E b I.env0 (d s us I.kIn c) r2 h) λr s' Y=>?_);cases r with
 |error e=>exact a A4 σ H s e s' I Y|ok fl=>
  cases fl with
  |ret u=>exact I.after Y|next=>exact HK Y|brk=>exact HK Y|cont=>exact HK Y
def oB(F:iS X.prog X.w X.K X.mg X.base CX k f fd ps sp)(d:iu k X.A)(l:Gl X x)(i:X.mg x=a_ (.ref f))(j:Ju X.K (.ref f)=d_)(n:Binds X.K fd ps ds)(hd:B' dvs ds)(c:Passes CX X E)(o:PA X (e::es) t)(a:((x==("__debug__":m_))=b_)⁻¹)(m: ~~~(i_ (e::es) X.env=(b_,Hv e X.env)::i_ es X.env))(Y: ~~~((HQ pos (i_ es X.env)).any (·.1)=b_)):
  PE X (.Call (.Name x p) (e::es) [] pos) (ia sp dvs E t):=by
 intro A4 s σ H Q I h;refine IY (jS I l i ?_ a);refine Mo (h₀:=X.base) I.ok.mod.kin j (C6 (o pos A4 s σ H _ I h) λus u g=>?_) m Y;obtain⟨vs,H1,b,r,q⟩:=g;refine⟨b.kIn,?_⟩
 exact Fb F d n hd c b r q
def pe_meth0(p:PE X o ta)(c:Cls X.K C)(d:Meth X.K C m f)(F:iS X.prog X.w X.K X.mg X.base CX k f fd ps sp)(j:iu k X.A)(r:Binds X.K fd ps ds)(hd:B' dvs ds)(g:Passes CX X E)(i: ~~~(Hv (.Call (.Attribute o m apos) [] [] pos) X.env=(do
   let b <- Hv o X.env
   My apos.atName
   let (f,first) <- KU [b] (MS b m pl)
   Nu pos f first (HQ pos (i_ [] X.env)) (JH pos (IK [] X.env))))):
  PE X (.Call (.Attribute o m apos) [] [] pos) (tMeth C m sp dvs E ta eP):=by
 intro A4 s σ H Q I h;refine M3 (pl:=pl) (C6 (p A4 s σ H _ I h) λu v n=>?_) i;obtain⟨x,H1,Y,e,a,dx,fs,ex,t,l,q⟩:=n;subst ex;obtain rfl:u=D_ a:=e;refine DR Y t c d l ?_;exact Nh (first:=[.ref a]) Y.kIn d.kp (Fb (us:=[.ref a]) (vs:=[.ref a]) F j r hd g Y (.cons rfl .nil) q)
structure Mk(K:Pn)(C f:e_):Prop where
 makes:OA K C=d_
 init:Hq K (.ref C) "__init__"=a_ (a_ (.ref f))
 fn:isFn K (.ref f)=d_
 kp:Ju K (.ref C)=d_
theorem BB{Q:VK}(M:Mk X.K C f)(F:iS X.prog X.w X.K X.mg X.base CX k f fd ps sp)(i:iu (k+1) X.A)(l:Binds X.K fd ps ds)(hd:B' dvs ds)(g:Passes CX X E)(I:A6 X A4 σ H s)(r:B' vs us)(h:∀x dx,H x=c_->H dx=c_->dx≠x->sp (.ref x::(vs++dvs)) (upd (upd H dx (.own x)) x (.ins C dx [])) (λv H2=>v=.non/\Q (.ref x) H2) E):
  B_ (C_ X.prog X.w) X.A (Kp (.ref C) us) (EP X A4 σ Q) X.xe s:=by
 have b:=h (s.z+1) s.z (I.hok.fresh (Iq _)) (I.hok.fresh (r_ _)) (HC (JW _));have a:=A6.made (C:=C) I;have r2:B' (V.ref (s.z+1)::(vs++dvs)) (D_ (s.z+1)::(us++ds)):=.cons rfl (r.append hd);have j:(D_ (s.z+1)::us++ds).length=ps.length:=by have e:=r2.length;rw[F.len _ _ _ _ b]at e;exact e.symm
 refine Lu (make_map (f:=f) I.kIn M.makes M.init (Ku.mp M.fn) (Jp (F.run _ X.stack _ _ ⟨D_ (s.z+1)::us,[]⟩ (D_ (s.z+1)::(us++ds)) _ _ E (i.make C us [])
  (a.env0.make C us []) (l _ (D_ (s.z+1)::us) a.kIn j) r2 b) λr s' Y=>?_))
 cases r with
 |error e=>exact g A4 σ _ _ e s' a Y|ok fl=>
  cases fl with
  |ret u=>obtain⟨v,H',n,c,m,d⟩:=a.after Y;subst m;exact⟨c,⟨V.ref (s.z+1),H',n,rfl,d⟩⟩
  |next=>exact HK Y|brk=>exact HK Y|cont=>exact HK Y
def Al(M:Mk X.K C f)(F:iS X.prog X.w X.K X.mg X.base CX k f fd ps sp)(d:iu (k+1) X.A)(j:Gl X x)(i:X.mg x=a_ (.ref C))(m:Binds X.K fd ps ds)(hd:B' dvs ds)(c:Passes CX X E)(n:PA X (e::es) t)(a:((x==("__debug__":m_))=b_)⁻¹)(l: ~~~(i_ (e::es) X.env=(b_,Hv e X.env)::i_ es X.env))(Y: ~~~((HQ pos (i_ es X.env)).any (·.1)=b_)):
  PE X (.Call (.Name x p) (e::es) [] pos) (tMake C sp dvs E t):=by
 intro A4 s σ H Q I h;refine IY (jS I j i ?_ a);refine Mo (h₀:=X.base) I.ok.mod.kin M.kp (C6 (n pos A4 s σ H _ I h) λus o g=>?_) l Y;obtain⟨vs,H1,b,r,q⟩:=g;refine⟨b.kIn,?_⟩
 exact BB M F d m hd c b r q
def pe_make0(M:Mk X.K C f)(F:iS X.prog X.w X.K X.mg X.base CX k f fd ps sp)(b:iu (k+1) X.A)(d:Gl X x)(c:X.mg x=a_ (.ref C))(e:Binds X.K fd ps ds)(hd:B' dvs ds)(a:Passes CX X E)(Y:((x==("__debug__":m_))=b_)⁻¹):PE X (.Call (.Name x p) [] [] pos) (tMake C sp dvs E eP):=by intro A4 s σ H Q I h;refine IY (jS I d c ?_ Y);exact Nh I.kIn M.kp (BB (us:=[]) M F b e hd a I .nil h)
end
structure gM(N P:b8)(sc:MF):Prop where
 kind:sc.kind=.function
 co:sc.isCoroutine=b_
 gen:sc.isGenerator=b_
 nd:N.Nodup
 pre:N.take P.length=P
 par:∀x∈P,sc.names.lookup x=a_ .local\/sc.names.lookup x=a_ .cell
 nofree:∀y∈sc.names,y.2≠.free
theorem zp{Y:m_->Option JT}{x:m_}:∀{I:List (m_×j_)} {m:Ld},(∀v,(x,v)∉I)->Of Y I m x=m x
 |[],_,_=>rfl|(n,v)::r,m,h=>by
  unfold Of;rw[zp λw hw=>h w (E_ _ hw)];split
  .have:x≠n:=by rintro rfl;exact h v HD
   simp[this]
  .rfl
theorem zr{Y:m_->Option JT}{x:m_}:∀{I:List (m_×j_)} {m:Ld},(∀v,(x,v)∉I)->Og Y I m x=m x
 |[],_,_=>rfl|(n,v)::r,m,h=>by
  unfold Og;rw[zr λw hw=>h w (E_ _ hw)];split
  .rfl
  .have:x≠n:=by rintro rfl;exact h v HD
   simp[this]
theorem zq{I:m_->Option JT}{x:m_}{v:j_}:∀{P:b8} {vs:ci} {i:Nat} {m:Ld},P.Nodup->P[i]?=a_ x->vs[i]?=a_ v->I x=a_ .local ->
  Of I (P.zip vs) m x=a_ v
 |[],_,_,_,_,h,_,_=>by simp at h|_::_,[],_,_,_,_,h,_=>by simp at h|p::P,w::vs,0,m,Y,h1,h2,a=>by simp at h1 h2;subst h1;subst h2;show Of I ((p,w)::P.zip vs) m p=_;unfold Of;rw[zp λv hv=>(J5.mp Y).1 (Mu hv).1,f_ a];simp|p::P,w::vs,i+1,m,Y,h1,h2,a=>by show Of I ((p,w)::P.zip vs) m x=_;unfold Of;exact zq (i:=i) (J5.mp Y).2 (by simpa using h1) (by simpa using h2) a
theorem zt{I:m_->Option JT}{x:m_}{v:j_}:∀{P:b8} {vs:ci} {i:Nat} {m:Ld},P.Nodup->P[i]?=a_ x->vs[i]?=a_ v->I x≠a_ .local ->
  Og I (P.zip vs) m x=a_ v
 |[],_,_,_,_,h,_,_=>by simp at h|_::_,[],_,_,_,_,h,_=>by simp at h|p::P,w::vs,0,m,Y,h1,h2,a=>by simp at h1 h2;subst h1;subst h2;show Og I ((p,w)::P.zip vs) m p=_;unfold Og;rw[zr λv hv=>(J5.mp Y).1 (Mu hv).1,k_ a];simp|p::P,w::vs,i+1,m,Y,h1,h2,a=>by show Og I ((p,w)::P.zip vs) m x=_;unfold Og;exact zt (i:=i) (J5.mp Y).2 (by simpa using h1) (by simpa using h2) a
noncomputable def start(N:b8)(vs:b9):St:=vs.map a_++Ie (N.length-vs.length) c_
noncomputable def Bb(CX:CXT)(P:HY)(w:IF)(K:Pn)(mg:Ld)(base:H_)(N:b8)(qual:m_)(scope:MF)(f:e_)(cd:j_)(A:JK)(outer:List LY)(s:v_)(H:Hp)(E:XK):Cx where
 prog:=P
 w:=w
 K:=K
 mg:=mg
 base:=base
 A:=A.deeper (JS qual scope s.heap.objs.size f cd)
 N:=N
 s₀:=s
 H₀:=H
 env:=JS qual scope s.heap.objs.size f cd
 outer:=outer
 stack:=JS qual scope s.heap.objs.size f cd::outer
 ex:=[]
 calm:=d_
 fn:=λ_=>d_
 pn:=[]
 xe:=λe s'=>B_ (C_ P w) (A.deeper (JS qual scope s.heap.objs.size f cd)) (PK (JS qual scope s.heap.objs.size f cd) e) (λ_ I=>CX outer H s E e I) (λY I=>CX outer H s E Y I) s'
def CC{sc:MF}(h:sc.names.lookup x=a_ .cell):∃c,(IL n sc.names []).lookup x=a_ c:=by have q:=Jv sc.names n [] (.inl h);exact Jm.mp q
theorem G6{base:H_}{ps:b8}{f:e_}{cd:j_}{j:v_}{E:XK}(S:gM N ps scope)(hd:A.handled=c_)(e0:Env0 P w K mg base A outer s H)(C:vs.length=ps.length)(r:B' vs us)(x:InCallC s s.heap.objs.size (Of (JS qual scope s.heap.objs.size f cd).kindOf (ps.zip us) λ_=>c_) (IL (s.heap.objs.size+1) scope.names []) (Og (JS qual scope s.heap.objs.size f cd).kindOf (ps.zip us) λ_=>c_) j):
  A6 (Bb CX P w K mg base N qual scope f cd A outer s H E) [] (start N vs) H j:=by
 have t:ps.length<=N.length:=by have:=Jg Ms S.pre;rw[IS]at this;lia
 obtain⟨h1,tk,rfl,m⟩:=x.done;have I:∀b:e_,b∉(Bb CX P w K mg base N qual scope f cd A outer s H E).ex:=λb z=>Ho (show b∈([]:List e_)from z) am;refine⟨⟨e0.mod,S.kind,rfl,rfl,r_ _,λy z c h1 h2=>?_,λy Y=>?_,λy c _ h=>?_,λ_=>hd,Around.frames_deeper e0.frames,.inr ⟨rfl,rfl⟩,λb z=>Ho z (I b),e0.bs,e0.bsz,λb _ _=>I b,λb z=>Ho z (I b),e0.yM,e0.frf⟩,
  rfl,e0.bare,Un.kept m,⟨_,x.toInCall.ns,λi y v h1 h2 D=>?_⟩,λy c h=>⟨_,x.cell y c h⟩,e0.hok.fresh (r_ _),λy c h=>?_,λp g=>Ho (show p∈([]:Vp)from g) am,e0.hok.kept m,?_⟩
 .exact name_of_addr x.apart (IB h1) (IB h2)
 .have Y:scope.names.lookup y=a_ .cell\/scope.names.lookup y=a_ .free:=Y;rcases Y with Y|Y
  .exact CC Y
  .exact Ho rfl (S.nofree _ (IB Y))
 .exact KG (x.above y c (IB h))
 .have hi:i<vs.length:=by
   unfold start at h2;by_cases hi:i<vs.length
   .exact hi
   .simp_all[Jf,J9]
  have B:vs[i]?=a_ v:=by
   unfold start at h2;rw[IA (by simpa using hi),HJ]at h2;cases e:vs[i]? with
   |none=>simp_all|some a=>simp_all
  obtain⟨u,l,o⟩:=r.get B;have g:ps[i]?=a_ y:=by rw[<- S.pre,List.getElem?_take_of_lt ad];exact h1
  have d:ps.Nodup:=by rw[<- S.pre];exact S.nd.sublist (List.take_sublist _ _)
  refine⟨u,o,?_⟩
  rcases S.par y (HS g)with k|k
  .exact .inl ⟨k,zq d g l k⟩
  .obtain⟨c,e⟩:=CC (n:=s.z+1) k;refine .inr ⟨.inl k,c,e,?_⟩;have q:=x.cell y c e;rw[zt d g l (by show scope.names.lookup y≠_;rw[k];decide)]at q;exact q
 .exact e0.hok.fresh (KG (x.above y c (IB h)))
 .unfold start;show _=N.length;simp_all
theorem fn_of{base:H_}{k:Nat}{f:e_}{Y:Arguments}{B kV doc pm cdv ct oc:j_}{an od:Option e_}{osl:Array (Option j_)}{ps:b8}(F:K.lookup f=a_ ⟨oc,od,.func (Ma name qual Y body scope B kV doc pm an cdv ct),osl⟩)(p:MV K cdv qual=d_)(S:gM N ps scope)(g:∀vs H Q E,sp vs H Q E->vs.length=ps.length)(c:∀(A:JK) (outer:List LY) (s:v_) (H:Hp) (vs:b9) (Q:VK) (E:XK),iu k (A.deeper (JS qual scope s.heap.objs.size f cdv))->sp vs H Q E ->
   ∃t,PSs (Bb CX P w K mg base N qual scope f cdv A outer s H E) body t/\t {nx:=λ_ H'=>Q .non H',rt:=Q} (start N vs) H):
  iS P w K mg base CX (k+1) f (Ma name qual Y body scope B kV doc pm an cdv ct) ps sp:=by
 refine⟨g,λA outer s H C us vs Q E m e0 U r h=>?_⟩
 have R:=g _ _ _ _ h;have D:K.In s.heap:=e0.mod.kin.keeps λb o e=>(e0.bs b o e).1;have l:s.heap.NoLimit:=e0.mod.nolimit.keeps λb o e=>(e0.bs b o e).1;have a:∀y∈ps.zip us,scope.names.lookup y.1=a_ .local\/(scope.names.lookup y.1=a_ .cell/\((IL (s.z+1) scope.names []).lookup y.1).isSome=d_):=λ⟨n,v⟩ G=>by
  rcases S.par n (Mu G).1 with q|q
  .exact .inl q
  .exact .inr ⟨q,Jv _ _ _ (.inl q)⟩
 refine codeAny_call_function m.depth (D _ _ F) rfl S.co S.gen rfl (PySem.W.codeRec_of D p) (U _ _ _ _ ?_);refine wpAny_newFunctionEnv_cells S.kind a λenv T z x=>?_;subst T;refine⟨l.keeps x.toInCall.keep,codeAny_func ?_⟩
 obtain⟨t,L,O⟩:=c A outer s H vs Q E (m.deeper _) h;have I:A6 (Bb CX P w K mg base N qual scope f cdv A outer s H E) [] (start N vs) H z:=G6 S m.hd e0 R r x;refine HU (L [] z (start N vs) H _ I O) (λfl s' d=>?_) λe s' d=>d;have i:∀{σ':St} {H':Hp} {v:V} {u:j_},A6 (Bb CX P w K mg base N qual scope f cdv A outer s H E) [] σ' H' s'->A' v u->Q v H'->CE outer P w H s Q u s':=
  λ{σ' H' v u} J j q=>⟨v,H',J.os,J.bare,J.base,J.hok,j,q⟩
 cases fl with
 |ret u=>obtain⟨v,σ',H',J,j,q⟩:=d;exact i J j q
 |next=>obtain⟨σ',H',J,q⟩:=d;exact i (v:=V.non) (u:=JC) J rfl q
 |brk=>obtain⟨_,_,_,q⟩:=d;simp_all
 |cont=>obtain⟨_,_,_,q⟩:=d;simp_all
section
variable{t:TA}{id T:String}{r:List V->Hp->VK->Prop}
noncomputable def tCB(r:b9->Hp->VK->Prop)(t:TA):TE:=λσ H Q=>t σ H λvs H1=>r vs H1 Q
def iX(l:fj X (.builtin id) r)(j:Gl X x)(i:X.mg x=c_)(hv:Jh x=a_ (.builtin id))(m:PA X (e::es) t)(g:(x≠"__name__")⁻¹)(a:((x==("__debug__":m_))=b_)⁻¹)(k: ~~~(i_ (e::es) X.env=(b_,Hv e X.env)::i_ es X.env))(Y: ~~~((HQ pos (i_ es X.env)).any (·.1)=b_)):PE X (.Call (.Name x p) (e::es) [] pos) (tCB r t):=by intro A4 s σ H Q I h;refine IY (uv I j i hv ?_ g a);refine PyProof.Rows.callWith_builtin1 (C6 (m pos A4 s σ H _ I h) λus b f=>?_) k Y;obtain⟨vs,H1,n,c,d⟩:=f;exact l A4 b σ H1 vs us Q n c d
def ko(l:fj X (.type T) r)(j:Gl X x)(i:X.mg x=c_)(hv:Jh x=a_ (.type T))(m:PA X (e::es) t)(g:(x≠"__name__")⁻¹)(a:((x==("__debug__":m_))=b_)⁻¹)(k: ~~~(i_ (e::es) X.env=(b_,Hv e X.env)::i_ es X.env))(Y: ~~~((HQ pos (i_ es X.env)).any (·.1)=b_)):PE X (.Call (.Name x p) (e::es) [] pos) (tCB r t):=by intro A4 s σ H Q I h;refine IY (uv I j i hv ?_ g a);refine Kg (C6 (m pos A4 s σ H _ I h) λus b f=>?_) k Y;obtain⟨vs,H1,n,c,d⟩:=f;exact l A4 b σ H1 vs us Q n c d
end
end Lake
namespace Lake.HT
open PySem PyProof.Rows
section
open PySem.SeqAt
open PySem.AutoSeq1 (wpAny_loadPart')
open PySem.MeetsSeq PySem.MeetsSeq2 PySem.MeetsSeq3
end
section
variable{prog:HY}{w:IF}{A:JK}{E:Mq}{s:v_}
theorem cat_tup{t b:e_}{vs ws:ci}{Q:Mq}(k:PZ s.heap t vs.toArray)(l:PZ s.heap b ws.toArray)(hv:vs≠[])(h1:ws=[]->Q (.ref t) s)(h2:ws≠[]->Q (.ref s.heap.objs.size) {s with heap:=s.heap.push {cls:=.type "tuple",data:=.seq (vs++ws).toArray}})(hsz:vs.length+ws.length<=h_):B_ (C_ prog w) A (Jd .Add (.ref t) (.ref b)) Q E s:=by
 obtain⟨⟨cls,dd,data,h⟩,f,i,n,hd⟩:=id k;obtain⟨⟨j,d,g,Y⟩,I,c,n2,a⟩:=id l;simp only at i hd c a;subst i hd c a;have e:vs.toArray++ws.toArray=(vs++ws).toArray:=by simp
 by_cases hw:ws=[]
 .exact MB ⟨_,f,rfl⟩ ⟨_,I,rfl⟩ MR NZ K4 KW (KO _ _)
   (tuple_addW1 t b vs.toArray ws.toArray n n2 dd d h Y (by simpa using hv) (by simp[hw])) ⟨f,I,h1 hw⟩
 .refine MB ⟨_,f,rfl⟩ ⟨_,I,rfl⟩ MR NZ K4 KW (KO _ _)
   (tuple_addW2 t b vs.toArray ws.toArray n n2 dd d h Y bb bb bb) ⟨f,I,?_⟩
  rw[e];exact h2 hw
def sIx(n d:Nat):Option Int->Nat
 |none=>d|some v=>if v<0 then(v+(n:Int)).toNat else OE v.toNat n
theorem sIx_le(n d:Nat)(hd:d<=n)(o:Option Int):sIx n d o<=n:=by
 cases o with
 |none=>exact hd|some v=>
  show(if v<0 then(v+(n:Int)).toNat else OE v.toNat n)<=n;by_cases hv:v<0
  .rw[f_ hv];lia
  .rw[k_ hv];exact Nat.min_le_right _ _
theorem GP(v:Int)(n d:Nat):(if v<0 then max (v+(n:Int)) 0 else OE v (n:Int))=((sIx n d (a_ v):Nat):Int):=by
 show(if v<0 then max (v+(n:Int)) 0 else OE v (n:Int))=(((if v<0 then(v+(n:Int)).toNat else OE v.toNat n):Nat):Int)
 grind
theorem Ej(lo hi:Option Int)(n:Nat):Kr lo hi 1 (n:Int)=(((sIx n 0 lo:Nat):Int),((sIx n n hi:Nat):Int)):=by
 have h1:¬((1:Int)<0):=ad
 unfold Kr;simp only[h1,O_];refine Prod.ext ?_ ?_
 .cases lo with
  |none=>rfl|some v=>exact GP v n 0
 .cases hi with
  |none=>rfl|some v=>exact GP v n n
theorem Dj(i j:Nat):JM (i:Int) (j:Int) 1=j-i:=by
 unfold JM;have h1:(1:Int)>0:=ad
 simp only[h1,O6,Int.ediv_one];split<;>lia
def ue{v:j_}{o:Option Int}{Q:Option Int->v_->Prop}(p:MX v o)(h:Q o s):B_ (C_ prog w) A (Qe v) Q E s:=by
 cases p with
 |none=>exact slicePart_none h|int i t=>exact slicePart_int h
def pE{c:e_}{b a:j_}{lo hi:Option Int}{n:Nat}{Q:Int×Int×Nat->v_->Prop}(e:s.heap.IsSliceOf c b a .none)(pl:MX b lo)(d:MX a hi)(h:Q (((sIx n 0 lo:Nat):Int),1,sIx n n hi-sIx n 0 lo) s):B_ (C_ prog w) A (LG (.ref c) (IQ (n:Int))) Q E s:=by obtain⟨os,I,f,Y⟩:=id e;unfold LG Qf;refine g_ (g_ (Kf I Y (x:=b) rfl (g_ (Kf I Y (x:=a) rfl (g_ (Kf I Y (x:=.none) rfl (y_ ?_)))))));refine g_ (slicePart_none ?_);show B_ _ _ (if ((1:Int)==0)=d_ then _ else _) _ _ s;rw[k_ a8];refine g_ (ue pl (g_ (ue d (g_ (y_ ?_)))));show B_ _ _ (match Kr lo hi 1 (n:Int)with|(lo,hi)=>IQ (lo,(1:Int),JM lo hi 1)) _ _ s;rw[Ej lo hi n];show B_ _ _ (IQ (((sIx n 0 lo:Nat):Int),(1:Int),JM ((sIx n 0 lo:Nat):Int) ((sIx n n hi:Nat):Int) 1)) _ _ s;rw[Dj];exact y_ h
theorem pick_gen(xs:Array j_)(i k:Nat):((Iw k).filterMap λ(m:Nat)=>xs[((i:Int)+(m:Int)*1).toNat]?).toArray=((xs.toList.drop i).take k).toArray:=by
 have e:(λ(m:Nat)=>xs[((i:Int)+(m:Int)*1).toNat]?)=λm=>xs[i+m]?:=by
  funext m
  have:((i:Int)+(m:Int)*1).toNat=i+m:=ad
  rw[this]
 rw[e];have:=pick_run xs i k;rw[LL]at this;have e2:((λx=>xs[x]?)∘λx=>i+x)=λm=>xs[i+m]?:=rfl;rw[e2]at this;rw[this]
theorem oJ{t a:e_}{I:Array j_}{g f:j_}{lo hi:Option Int}{Q:Mq}(Y:PZ s.heap t I)(i:s.heap.IsSliceOf a g f .none)(pl:MX g lo)(j:MX f hi)(hw:¬(sIx I.size 0 lo=0/\sIx I.size I.size hi=I.size))(h:Q (.ref s.heap.objs.size) {s with heap:=s.heap.push {cls:=.type "tuple",data:=.seq ((I.toList.drop (sIx I.size 0 lo)).take (sIx I.size I.size hi-sIx I.size 0 lo)).toArray}})(hsz:I.size<=h_):B_ (C_ prog w) A (Lw (.ref t) (.ref a)) Q E s:=by
 have htake:sizeOk (.seq ((I.toList.drop (sIx I.size 0 lo)).take (sIx I.size I.size hi-sIx I.size 0 lo)).toArray):=by show((I.toList.drop (sIx I.size 0 lo)).take (sIx I.size I.size hi-sIx I.size 0 lo)).toArray.size<=h_;rw[HI,IS,Kl,IP];lia
 have o:sIx I.size I.size hi<=I.size:=sIx_le _ _ (r_ _) hi;obtain⟨os,b,d,k⟩:=id i;have e:s.TypeIs (.ref a) "slice":=⟨os,b,d⟩
 unfold Lw
 try with_reducible refine Js ?_
 first|refine g_ (y_ ?_)|skip
 refine g_ (wpAny_sequenceKey Y.typeIs a8 ?_);refine g_ (wpAny_callSpecial?_slot (name:=n_ "__getitem__") Y.typeIs Jz
  (Lm Jz Y.typeIs entry_tuple_getitem ?_ (args_tuple_getitem _ _)))
 show B_ _ _ (Qc (.ref t) >>= _) _ _ s;refine g_ (tupleItemsOf_ Y ?_);refine g_ (wpAny_typeOf e ?_);rw[f_ a8];refine g_ (pE i pl j ?_);have c:¬((((sIx I.size 0 lo:Nat):Int)==0&&(1:Int)==1&&(sIx I.size I.size hi-sIx I.size 0 lo)==I.size)=d_):=by intro q;rw[o_,o_]at q;have n:((sIx I.size 0 lo:Nat):Int)=0:=Jj q.1.1;have l:sIx I.size I.size hi-sIx I.size 0 lo=I.size:=Jj q.2;exact hw ⟨ad,ad⟩
 show B_ _ _ (if (((sIx I.size 0 lo:Nat):Int)==0&&(1:Int)==1&&(sIx I.size I.size hi-sIx I.size 0 lo)==I.size)=d_ then _ else _) _ _ s;rw[k_ c,pick_gen]
 first
  |exact g_ (m:=Qd _) (Mx (y_ ⟨_,rfl,y_ h⟩) htake)
  |exact wpAny_bind (m:=Builtin.Tuple.tupleExact _) (wpAny_newObj_type (wpAny_bind (wpAny_pure (wpAny_pure ⟨_,rfl,wpAny_pure h⟩))) htake)
  |exact wpAny_bind (wpAny_bind (m:=Builtin.Tuple.tupleExact _) (wpAny_newObj_type (wpAny_pure (wpAny_pure ⟨_,rfl,wpAny_pure h⟩)) htake))
  |exact wpAny_bind (wpAny_bind (m:=Builtin.Tuple.tupleExact _) (wpAny_newObj_type (wpAny_pure ⟨_,rfl,wpAny_pure h⟩) htake))
end
end Lake.HT
namespace Lake
open PySem PySem.Spec PyProof.Rows
variable{X:Cx}{e:Ii}{pos:PR}{r:V->Option Int->Option Int->Hp->VK->Prop}{us A8 its':List j_}{α:Type}{n:Nat}{i:Int}{A4:Vp}{σ:St}{H:Hp}{s:v_}{T:String}{x:V}
abbrev TO:=St->Hp->(Option Int->Hp->Prop)->Prop
def PO(X:Cx)(e:Option Ii)(t:TO):Prop:=
 ∀(A4:Vp) (s:v_) (σ:St) (H:Hp) (Q:Option Int->Hp->Prop),A6 X A4 σ H s->t σ H Q ->
  B_ (C_ X.prog X.w) X.A (evalPart e X.env) (λu s'=>∃o H',A6 X A4 σ H' s'/\MX u o/\Q o H') X.xe s
noncomputable def tNoPart:TO:=λ_ H Q=>Q c_ H
noncomputable def tPart(t:TE):TO:=λσ H Q=>t σ H λx H1=>∃i,x=.int i/\Q (a_ i) H1
def intsAre_of{ns:cc}:∀{us:ci},B' (ns.map V.int) us->MH us ns:=by
 induction ns with
 |nil=>intro us r;rw[JG]at r;cases r;exact .nil|cons n ns Y=>
  intro us r;rw[F_]at r;cases r with
  |cons I r2=>obtain⟨t,e⟩:=I;subst e;exact .cons n t (Y r2)
section
variable{te:TE}{lo hi:Option Ii}{tl th:TO}{p2:PR}
def po_none:PO X c_ tNoPart:=by intro A4 s σ H Q I h;rw[N0];exact y_ ⟨c_,H,I,.none,h⟩
def po_some(h:PE X e te):PO X (a_ e) (tPart te):=by intro A4 s σ H Q I hw;rw[evalPart_some];refine C6 (h A4 s σ H _ I hw) λu d b=>?_;obtain⟨x,H1,c,Y,a⟩:=b;obtain⟨i,rfl,q⟩:=a;obtain⟨t,rfl⟩:=Y;exact⟨a_ i,H1,c,.int i t,q⟩
def SlR(X:Cx)(r:V->Option Int->Option Int->Hp->VK->Prop):Prop:=
 ∀(A4:Vp) (s:v_) (σ:St) (H:Hp) (x:V) (v Y I:j_) (lo hi:Option Int) (a:e_) (Q:VK),A6 X A4 σ H s->A' x v->s.heap.IsSliceOf a Y I .none->MX Y lo->MX I hi->r x lo hi H Q ->
  ∃T id,Pd (.type T) "__getitem__"=IQ (a_ (.builtin id))/\s.TypeIs v T/\B_ (C_ X.prog X.w) X.A (Lw v (.ref a)) (EP X A4 σ Q) X.xe s
def SlR.or{r':V->Option Int->Option Int->Hp->VK->Prop}(h:SlR X r)(h':SlR X r'):SlR X (λx lo hi H Q=>r x lo hi H Q\/r' x lo hi H Q):=by
 intro A4 s σ H x v a Y lo hi b Q I c e pl d q;rcases q with q|q
 .exact h A4 s σ H x v a Y lo hi b Q I c e pl d q
 .exact h' A4 s σ H x v a Y lo hi b Q I c e pl d q
noncomputable def tSl(r:V->Option Int->Option Int->Hp->VK->Prop)(te:TE)(tl th:TO):TE:=λσ H Q=>te σ H λx H1=>tl σ H1 λl H2=>th σ H2 λu I=>r x l u I Q
def pe_slice(w:SlR X r)(A:PE X e te)(y:PO X lo tl)(p:PO X hi th):PE X (.Subscript e (.Slice lo hi c_ p2) pos) (tSl r te tl th):=by intro A4 s σ H Q I h;refine NC (C6 (A A4 s σ H _ I h) λv i a=>?_);obtain⟨x,H1,F,j,n⟩:=a;refine wpAny_Slice (C6 (y A4 i σ H1 _ F n) λd g a=>?_);obtain⟨l,H2,E,pl,m⟩:=a;refine C6 (p A4 g σ H2 _ E m) λc Y a=>?_;obtain⟨u,f,D,o,k⟩:=a;rw[N0];refine y_ ?_;have C:A6 X A4 σ f {Y with heap:=Y.heap.push {cls:=.type "slice",data:=.fields #[d,c,.none]}}:=D.kept (t':=Y.toks) λb G q=>l_ _ q;obtain⟨T,id,B,t,z⟩:=w A4 {Y with heap:=Y.heap.push {cls:=.type "slice",data:=.fields #[d,c,.none]}} σ f x v d c l u Y.z Q C j (Mt ..) pl o k;show B_ (C_ X.prog X.w) X.A (Mi e (.Slice lo hi c_ p2) v (.ref Y.z)) (EP X A4 σ Q) X.xe {Y with heap:=Y.heap.push {cls:=.type "slice",data:=.fields #[d,c,.none]}};exact tail_any (ops:=[.ref Y.z,v]) t B z (by rfl)
noncomputable def cutV(xs:b9)(lo hi:Option Int):b9:=(xs.drop (HT.sIx xs.length 0 lo)).take (HT.sIx xs.length xs.length hi-HT.sIx xs.length 0 lo)
theorem sm(xs:b9)(lo hi:Option Int):(cutV xs lo hi).length<=xs.length:=by unfold cutV;rw[IS,Kl];lia
def rSlT(K:Pn):V->Option Int->Option Int->Hp->VK->Prop:=λx lo hi H Q=>∃a xs,x=.ref a/\SqT K H a xs /\
 ¬(HT.sIx xs.length 0 lo=0/\HT.sIx xs.length xs.length hi=xs.length)/\∀p,H p=c_->Q (.ref p) (upd H p (.tup (cutV xs lo hi)))
def sl_tup:SlR X (rSlT X.K):=by
 intro A4 s σ H x v k j lo hi l Q I e i pl f h;obtain⟨a,xs,rfl,g,hw,q⟩:=h;cases e;obtain⟨A8,r,d,c⟩:=I.tuple g;have Y:A8.toArray.size=xs.length:=by rw[HI];exact r.length.symm
 refine⟨"tuple",_,Jz.lookup,d.typeIs,?_⟩
 refine HT.oJ d i pl f (by rw[Y];exact hw) ?_ (by rw[Y];exact c);rw[Y];refine⟨.ref s.z,_,I.laid (t':=s.toks) (o:=.tup (cutV xs lo hi)) (λb m q=>l_ _ q) (r_ _) ?_,rfl,q _ (I.hok.fresh (r_ _))⟩
 exact⟨HB (sm xs lo hi) c,_,(r.drop (HT.sIx xs.length 0 lo)).take (HT.sIx xs.length xs.length hi-HT.sIx xs.length 0 lo),IsTup.new _ _⟩
def rCatT(K:Pn):R2:=λx y H Q=>∃a b xs ys,x=.ref a/\y=.ref b/\SqT K H a xs/\SqT K H b ys/\xs≠[]/\xs.length+ys.length<=h_ /\
 (ys=[]->Q (.ref a) H)/\(ys≠[]->∀p,H p=c_->Q (.ref p) (upd H p (.tup (xs++ys))))
def B'.Au{xs:b9}(r:B' xs us):us=[]↔xs=[]:=by
 cases r with
 |nil=>simp|cons _ _=>simp
theorem op_catT:OpR X (Jd .Add) (rCatT X.K):=by
 intro A4 s σ H x y v u Q I e d h;obtain⟨a,b,xs,ys,rfl,rfl,l,k,j,i,g,f⟩:=h;cases e;cases d;obtain⟨A8,Y,p1,_⟩:=I.tuple l;obtain⟨c,r2,p2,_⟩:=I.tuple k;refine HT.cat_tup p1 p2 (λz=>j (Y.Au.mp z)) (λz=>⟨.ref a,H,I,rfl,g (r2.Au.mp z)⟩) (λz=>?_) (by rw[<- Y.length,<- r2.length];exact i);refine⟨.ref s.z,_,I.laid (t':=s.toks) (o:=.tup (xs++ys)) (λb m q=>l_ _ q) (r_ _) ?_,rfl,f (λw=>z (r2.Au.mpr w)) _ (I.hok.fresh (r_ _))⟩
 exact⟨bb,_,Y.append r2,IsTup.new _ _⟩
end
noncomputable def ixN(n:Nat)(i:Int):Option Nat:=if 0<=i then(if i<n then a_ i.toNat else c_)else if -(n:Int)<=i then a_ (i+n).toNat else c_
def atI(xs:List α)(i:Int):Option α:=(ixN xs.length i).bind λj=>xs[j]?
theorem G1{j:Nat}(h:ixN n i=a_ j):seqIndex? i n=a_ j/\j<n/\ -(n:Int)<=i/\i<n:=by
 unfold ixN at h;by_cases I:0<=i
 .rw[f_ I]at h;by_cases h1:i<n
  .rw[f_ h1]at h;have e:i.toNat=j:=Hz h;exact⟨by rw[OV I h1,e],ad,ad,h1⟩
  simp_all
 .rw[k_ I]at h;by_cases h1: -(n:Int)<=i
  .rw[f_ h1]at h;grind[Ov]
  simp_all
theorem Bi{xs:List α}{v:α}(h:atI xs i=a_ v):∃j,seqIndex? i xs.length=a_ j/\xs[j]?=a_ v/\j<xs.length/\ -(xs.length:Int)<=i/\i<xs.length:=by
 unfold atI at h;cases e:ixN xs.length i with
 |none=>simp_all|some j=>rw[e]at h;obtain⟨h1,h2,Y,I⟩:=G1 e;exact⟨j,h1,h,h2,Y,I⟩
def Hf(b:Ii):Prop:=∀o i,M1 b b_ o i=operate [o,i] (Lw o i)
def IxR(X:Cx)(r:R2):Prop:=
 ∀(value I:Ii) (A4:Vp) (s:v_) (σ:St) (H:Hp) (x y:V) (v u:j_) (Q:VK),A6 X A4 σ H s->A' x v->A' y u->r x y H Q ->
  M1 I b_ v u=operate [v,u] (Lw v u)->B_ (C_ X.prog X.w) X.A (Mi value I v u) (EP X A4 σ Q) X.xe s
def MtR(X:Cx)(id:String)(r:V->b9->Hp->VK->Prop):Prop:=
 ∀(A4:Vp) (s:v_) (σ:St) (H:Hp) (x:V) (xs:b9) (v:j_) (us:ci) (Q:VK),A6 X A4 σ H s->A' x v->B' xs us->r x xs H Q ->
  B_ (C_ X.prog X.w) X.A (Kp (.builtin id) (v::us)) (EP X A4 σ Q) X.xe s
section
variable{a b:Ii}{ta tb:TE}
def IxR.or{r r':R2}(h:IxR X r)(h':IxR X r'):IxR X (λx y H Q=>r x y H Q\/r' x y H Q):=by
 intro value Y A4 s σ H x y v u Q I b a q c;rcases q with q|q
 .exact h value Y A4 s σ H x y v u Q I b a q c
 .exact h' value Y A4 s σ H x y v u Q I b a q c
def pe_ix{r:R2}(f:IxR X r)(i:PE X a ta)(g:PE X b tb)(e:Hf b):PE X (.Subscript a b pos) (tOp r ta tb):=by intro A4 s σ H Q I h;exact NC (binT i g I h λv u Y x y H2 j d c q=>f a b A4 Y σ H2 x y v u Q j d c q (e _ _))
def rIxL(K:Pn):R2:=λx y H Q=>∃p xs i v,x=.ref p/\y=.int i/\SqL K H p xs/\atI xs i=a_ v/\Q v H
def rIxT(K:Pn):R2:=λx y H Q=>∃p xs i v,x=.ref p/\y=.int i/\SqT K H p xs/\atI xs i=a_ v/\Q v H
def rIxS:R2:=λx y H Q=>∃z i c,x=.str z/\y=.int i/\z.length<=h_/\atI z.cps.toList i=a_ c/\Q (.str ⟨#[c]⟩) H
theorem ix_list:IxR X (rIxL X.K):=by
 intro value a A4 s σ H x y v u Q I k g h d;obtain⟨p,xs,i,z,rfl,rfl,l,n,q⟩:=h;cases k;obtain⟨t,rfl⟩:=g;obtain⟨A8,r,pl,B⟩:=I.list l;obtain⟨j,h1,h2,D,A,o⟩:=Bi n;obtain⟨w,f,b⟩:=r.get h2;have m:=r.length;have C:=rC;have Y:EP X A4 σ Q w s:=⟨z,H,I,b,q⟩
 by_cases e:0<=i
 .have c:i.toNat=j:=by
   rw[OV e o]at h1;exact Hz h1
  exact item_listR pl.isList e ad (by rw[c];simpa using f) Y d
 .have c:(i+(A8.toArray.size:Int)).toNat=j:=by
   rw[Ov ad A]at h1;rw[HI,<- m];exact Hz h1
  exact OD (x:=w) pl.isList.typeIs Mz.lookup
   (wpAny_getItem_list_neg (Q:=λr s'=>r=w/\EP X A4 σ Q r s') pl.isList ad bb ad (by rw[c];simpa using f) ⟨rfl,Y⟩) d
theorem ix_tup:IxR X (rIxT X.K):=by
 intro value Y A4 s σ H x y v u Q I d c h e;obtain⟨p,xs,i,z,rfl,rfl,f,g,q⟩:=h;cases d;obtain⟨t,rfl⟩:=c;obtain⟨A8,r,pl,l⟩:=I.tuple f;obtain⟨j,h1,h2,B,A,o⟩:=Bi g;obtain⟨w,k,a⟩:=r.get h2;have n:=r.length;have m:=rC;have b:EP X A4 σ Q w s:=⟨z,H,I,a,q⟩
 exact OD (x:=w) pl.typeIs Jz.lookup
  (getItem_tuple (j:=j) (Q:=λr s'=>r=w/\EP X A4 σ Q r s') pl ad ad bb (by simpa using k) ⟨rfl,b⟩) e
theorem ix_str:IxR X rIxS:=by
 intro value Y A4 s σ H x y v u Q I b a h d;obtain⟨z,i,c,rfl,rfl,l,f,q⟩:=h;obtain⟨t,rfl⟩:=b;obtain⟨t',rfl⟩:=a;obtain⟨j,h1,h2,n,k,g⟩:=Bi f;have e:z.cps.toList.length=z.length:=by simp[Str.length]
 rw[e]at h1 k g;have m:=rC;exact tail_any (Lv s z t) slot_str_getitem.lookup (getItem_str (c:=c) ad (by rw[h1];simpa using h2) ⟨.str ⟨#[c]⟩,H,I.tok _,⟨_,rfl⟩,q⟩) d
def rIx(K:Pn):R2:=λx y H Q=>rIxL K x y H Q\/rIxT K x y H Q\/rIxS x y H Q
def ix_seq:IxR X (rIx X.K):=ix_list.or (ix_tup.or ix_str)
def Dv(A8:ci)(n j:Nat)(u:j_):IT (·.setIfInBounds j u) {cls:=.type "list",data:=.seq A8.toArray n}={cls:=.type "list",data:=.seq (A8.set j u).toArray n}:=by simp[IT]
theorem A6.lst{A4:Vp}{σ:St}{H:Hp}{s:v_}{p:e_}{xs:b9}(I:A6 X A4 σ H s)(h:H p=a_ (.lst xs)):
  ∃(A8:ci) (n:Nat),B' xs A8/\s.heap.get? p=a_ {cls:=.type "list",data:=.seq A8.toArray n}/\xs.length<=h_:=by
 obtain⟨z,A8,n,r,e⟩:=I.hok p _ h;exact⟨A8,n,r,e,z⟩
def A6.lstUpd{p:e_}{xs ys:b9}{Y:Nat}{f:Lg->Lg}(I:A6 X A4 σ H s)(h:H p=a_ (.lst xs))(d:s.heap.get? p=a_ {cls:=.type "list",data:=.seq A8.toArray n})(a:f {cls:=.type "list",data:=.seq A8.toArray n}={cls:=.type "list",data:=.seq its'.toArray Y})(r:B' ys its')(c:ys.length<=h_)(t:Nat):
  A6 X A4 σ (upd H p (.lst ys)) {s with heap:=s.heap.update p f,toks:=t}:=by
 have e:(s.heap.update p f).get? p=a_ {cls:=.type "list",data:=.seq its'.toArray Y}:=by rw[JP f d (by rw[a]<;>rfl),a]
 refine I.write (x:=p) (e:=p) (by rw[h];trivial) (.inl rfl) (λb u g q=>(Hw _ _ (HM g)).trans q) ⟨_,e⟩ ?_;exact⟨c,its',Y,r,e⟩
def rSetL:V->V->V->Hp->(Hp->Prop)->Prop:=λo i v H Q=>∃p xs k j,o=.ref p/\i=.int k/\H p=a_ (.lst xs)/\ixN xs.length k=a_ j/\Q (upd H p (.lst (xs.set j v)))
theorem set_list:PSet X rSetL:=by
 intro A4 s σ H o i v w x u Q I ro ri e h;obtain⟨p,xs,k,j,rfl,rfl,b,g,q⟩:=h;cases ro;obtain⟨t,rfl⟩:=ri;obtain⟨A8,n,r,Y,y⟩:=I.lst b;obtain⟨h1,h2,m,l⟩:=G1 g;have f:=r.length;have z:=rC;have d:A6 X A4 σ (upd H p (.lst (xs.set j v))) {s with heap:=s.heap.update p (IT (·.setIfInBounds j u))}:=
  I.lstUpd b Y (Dv A8 n j u) (r.set e j) bb s.toks
 by_cases c:0<=k
 .have a:k.toNat=j:=by
   rw[OV c l]at h1;exact Hz h1
  exact PySem.W.ki_setAt Y c ad bb (by rw[a];exact⟨_,d,q⟩)
 .have a:(k+(A8.toArray.size:Int)).toNat=j:=by
   rw[Ov ad m]at h1;rw[HI,<- f];exact Hz h1
  exact PySem.W.ki_setBack Y ad bb ad (by rw[a];exact⟨_,d,q⟩)
theorem xD(lo hi:Option Int)(n:Nat):(Lb lo hi c_ n).1=((HT.sIx n 0 lo:Nat):Int)/\(Lb lo hi c_ n).2.1=((HT.sIx n n hi:Nat):Int)/\(Lb lo hi c_ n).2.2=1:=by
 refine⟨?_,?_,rfl⟩
 .cases lo with
  |none=>rfl|some i=>simp only[Lb,HT.sIx,L0,show(1:Int)>0 by decide,O6];grind
 .cases hi with
  |none=>rfl|some i=>simp only[Lb,HT.sIx,L0,show(1:Int)>0 by decide,O6];grind
def vg(A8:ci)(lo hi:Option Int):Ob A8.toArray lo hi c_=((A8.drop (HT.sIx A8.length 0 lo)).take (HT.sIx A8.length A8.length hi-HT.sIx A8.length 0 lo)).toArray:=by obtain⟨h1,h2,I⟩:=xD lo hi A8.toArray.size;unfold Ob;rw[h1,h2,I];simp only[sliceRange_one,pick_run,HI]<;>rfl
def rSlL(K:Pn):V->Option Int->Option Int->Hp->VK->Prop:=λx lo hi H Q=>∃a xs,x=.ref a/\SqL K H a xs/\∀p,H p=c_->Q (.ref p) (upd H p (.lst (cutV xs lo hi)))
theorem sl_list:SlR X (rSlL X.K):=by
 intro A4 s σ H x v k j lo hi l Q I d i pl e h;obtain⟨a,xs,rfl,g,q⟩:=h;cases d;obtain⟨A8,r,c,f⟩:=I.list g;have Y:=r.length;refine⟨"list",_,Mz.lookup,c.isList.typeIs,?_⟩
 refine NV c.isList i pl e .none am ?_ bb;rw[vg,<- Y];refine⟨.ref s.z,_,I.laid (t':=s.toks) (o:=.lst (cutV xs lo hi)) (λb m q=>l_ _ q) (r_ _) ?_,rfl,q _ (I.hok.fresh (r_ _))⟩
 exact⟨HB (sm xs lo hi) f,_,0,(r.drop (HT.sIx xs.length 0 lo)).take (HT.sIx xs.length xs.length hi-HT.sIx xs.length 0 lo),Cb _ rfl⟩
theorem l9:fj X (.builtin "len") (λxs H Q=>∃p ys,xs=[.ref p]/\(SqL X.K H p ys\/SqT X.K H p ys)/\Q (.int ys.length) H):=by
 intro A4 s σ H xs us Q I r h;obtain⟨p,ys,rfl,Y,q⟩:=h;obtain⟨u,rfl,b⟩:=vals1 r;cases b;have d:=rC;rcases Y with Y|Y
 .obtain⟨A8,r',pl,c⟩:=I.list Y;have a:=r'.length;exact Calls.call_len_list pl.isList (by simp only[HI]<;>lia) ⟨.int ys.length,H,I.tok _,⟨s.toks+1,bb⟩,q⟩
 .obtain⟨A8,r',pl,c⟩:=I.tuple Y;have a:=r'.length;exact len_tuple pl (by simp only[HI]<;>lia) ⟨.int ys.length,H,I.tok _,⟨s.toks+1,bb⟩,q⟩
theorem zm:fj X (.builtin "len") (λxs H Q=>∃z,xs=[.str z]/\z.length<=h_/\Q (.int z.length) H):=by intro A4 s σ H xs us Q I r h;obtain⟨z,rfl,Y,q⟩:=h;obtain⟨u,rfl,t,rfl⟩:=vals1 r;have a:=rC;exact len_str ad ⟨.int z.length,H,I.tok _,⟨_,rfl⟩,q⟩
def fj.or{f:j_}{r r':b9->Hp->VK->Prop}(h:fj X f r)(h':fj X f r'):fj X f (λxs H Q=>r xs H Q\/r' xs H Q):=by
 intro A4 s σ H xs us Q I rs q;rcases q with q|q
 .exact h A4 s σ H xs us Q I rs q
 .exact h' A4 s σ H xs us Q I rs q
theorem gW:fj X (.type "list") (λxs H Q=>∃p ys,xs=[.ref p]/\(SqL X.K H p ys\/SqT X.K H p ys)/\∀l,H l=c_->Q (.ref l) (upd H l (.lst ys))):=by
 intro A4 s σ H xs us Q I r h;obtain⟨p,ys,rfl,d,q⟩:=h;obtain⟨u,rfl,k⟩:=vals1 r;cases k;have g:∀(A8:ci),B' ys A8->ys.length<=h_->∀(h':H_) (Y:Nat),(∀b o',s.heap.get? b=a_ o'->h'.get? b=a_ o') ->
   h'.get? s.z=a_ {cls:=.type "list",dict:=c_,data:=.seq A8.toArray Y,slots:=#[]}->EP X A4 σ Q (.ref s.z) {s with heap:=h'}:=λA8 r' c h' Y a e=>
  ⟨.ref s.z,_,I.laid (t':=s.toks) a (r_ _) (show dj X.prog X.w _ h' _ (.lst ys)from⟨c,A8,Y,r',e⟩),rfl,q _ (I.hok.fresh (r_ _))⟩
 rcases d with d|d
 .obtain⟨A8,r',pl,c⟩:=I.list d;have f:=r'.length;obtain⟨o,i,j,n,hd⟩:=pl.isList;exact call_list_seq p (.inl rfl) i j hd (λh' Y a e=>g A8 r' c h' Y a e) bb
 .obtain⟨A8,r',pl,c⟩:=I.tuple d;have f:=r'.length;obtain⟨o,i,j,n,hd⟩:=pl;exact call_list_seq p (.inr rfl) i j hd (λh' Y a e=>g A8 r' c h' Y a e) bb
def tyV(K:Pn)(T:String)(x:V)(H:Hp):Prop:=match x with
 |.str _=>T="str"|.int _=>T="int"|.ref p=>(T="list"/\∃xs,SqL K H p xs)\/(T="tuple"/\∃o,K.lookup p=a_ o/\o.cls=.type "tuple"/\o.dict=c_) \/
   (T="dict"/\((∃A7,H p=a_ (.dK A7))\/∃A7,H p=a_ (.dT A7)))\/(T="set"/\∃S n,H p=a_ (.set S n))
 |_=>False
def tyV_is{v:j_}(I:A6 X A4 σ H s)(r:A' x v)(ty:tyV X.K T x H):
  s.TypeIs v T/\∀a,v=.ref a->∃b,s.heap.get? a=a_ b/\b.dict=c_:=by
 cases x with
 |str z=>obtain⟨t,rfl⟩:=r;cases(show T="str" from ty);exact⟨Lv s z t,λ_ e=>nomatch e⟩
 |int i=>obtain⟨t,rfl⟩:=r;cases(show T="int" from ty);exact⟨typeIs_int s i t,λ_ e=>nomatch e⟩
 |ref p=>
  cases r;rcases ty with⟨rfl,xs,d⟩|⟨rfl,o,Y,f,hd⟩|⟨rfl,Y⟩|⟨rfl,S,n,Y⟩
  .obtain⟨A8,_,pl,_⟩:=I.list d;refine⟨pl.isList.typeIs,λa e=>?_⟩
   cases e;obtain⟨o,n,e,c,hd,_⟩:=pl;exact⟨o,e,hd⟩
  .refine⟨⟨o,I.kIn p o Y,f⟩,λa e=>?_⟩
   cases e;exact⟨o,I.kIn _ o Y,hd⟩
  .have z:∃o,s.heap.get? p=a_ o/\o.ExactDict:=by
    rcases Y with⟨A7,Y⟩|⟨A7,Y⟩
    .obtain⟨_,_,_,_,o,_,_,e,ex,_⟩:=I.hok p _ Y;exact⟨o,e,ex⟩
    .obtain⟨_,_,_,_,o,_,_,e,ex,_⟩:=I.hok p _ Y;exact⟨o,e,ex⟩
   obtain⟨o,e,ex⟩:=z;refine⟨⟨o,e,ex.1⟩,λa e2=>?_⟩
   cases e2;exact⟨o,e,ex.2.1⟩
  .obtain⟨o,_,_,_,e,ex,_⟩:=I.hok p _ Y;refine⟨⟨o,e,ex.1⟩,λa e2=>?_⟩
   cases e2;exact⟨o,e,ex.2.1⟩
 |_=>exact HK ty
def tBM(K:Pn)(T:String)(r:V->b9->Hp->VK->Prop)(to:TE)(t:TA):TE:=λσ H Q=>to σ H λx H1=>tyV K T x H1/\t σ H1 λxs H2=>r x xs H2 Q
variable{o:Ii}{es:List Ii}{to:TE}{t:TA}{name:m_}{apos cpos:PR}{id:String}{r:V->List V->Hp->VK->Prop}
def pG(q:PlainAttrs T)(c:Slot T name id)(f:typeOf (.builtin id)=IQ (.type "method_descriptor"))(y:MtR X id r)(w:PE X o to)(z:PA X (e::es) t)(b: ~~~(IZ o name X.env (Hv o X.env)=Hv o X.env))(d: ~~~(((HQ cpos (i_ (e::es) X.env)).all (λx=> !x.1)&&(JH cpos (IK [] X.env)).all (λx=>x.1.isSome)
   &&q_ ((e::es).length+([]:List J0).length+(if ([]:List J0).isEmpty then 0 else 1)<30))=d_))(a: ~~~((apos.endLine==cpos.line)=d_))(u: ~~~(i_ (e::es) X.env=(b_,Hv e X.env)::i_ es X.env))(Y: ~~~((HQ cpos (i_ es X.env)).any (·.1)=b_)):
  PE X (.Call (.Attribute o name apos) (e::es) [] cpos) (tBM X.K T r to t):=by
 intro A4 s σ H Q I h;refine wpAny_Call_method_late b d a rfl (C6 (w A4 s σ H _ I h) λv m g=>?_);obtain⟨x,H1,k,i,ty,p⟩:=g;obtain⟨h1,h2⟩:=tyV_is k i ty;refine⟨T,id,q,c,f,h1,h2,?_⟩
 have j:=z cpos A4 m σ H1 _ k p;rw[u]at j ⊢;refine K8 (by show(b_||(HQ cpos (i_ es X.env)).any (·.1))=b_;rw[Y]<;>rfl) (Lq ?_);refine C6 j λus l g=>?_;obtain⟨vs,H2,A,r2,n⟩:=g;exact y A4 l σ H2 x vs v us Q A i r2 n
/- xs.append(e),list.index on a module's tuple .. are MtR facts of 06m -/
end
def MtM(X:Cx)(id:String)(r:V->b9->Hp->VK->Prop):Prop:=
 ∀(A4:Vp) (s:v_) (σ:St) (H:Hp) (x:V) (xs:b9) (v:j_) (us:ci) (Q:VK),A6 X A4 σ H s->A' x v->B' xs us->r x xs H Q ->
  B_ (C_ X.prog X.w) X.A (Kp (.builtin id) (v::us)) (EP X A4 σ Q) X.xe s
def B'.one(h:B' [x] us):∃u,us=[u]/\A' x u:=by
 cases h with
 |cons r t=>cases t;exact⟨_,rfl,r⟩
def B'.two{y:V}(h:B' [x,y] us):∃u v,us=[u,v]/\A' x u/\A' y v:=by
 cases h with
 |cons r t=>obtain⟨v,rfl,q⟩:=B'.one t;exact⟨_,_,rfl,r,q⟩
theorem B'.zero:∀{us:ci},B' [] us->us=[]
 |_,.nil=>rfl
theorem B'.reverse{xs:b9}{us:ci}(h:B' xs us):B' xs.reverse us.reverse:=by
 induction h with
 |nil=>exact .nil|cons r t I=>rw[KZ,KZ];exact B'.append I (.cons r .nil)
section
variable{l:e_}{xs ys:List V}
def A6.lset{f:Array j_->Array j_}{t':Nat}(I:A6 X A4 σ H s)(d:H l=a_ (.lst xs))(e:s.heap.get? l=a_ {cls:=.type "list",data:=.seq A8.toArray n})(b:f A8.toArray=its'.toArray)(hv:B' ys its')(Y:ys.length<=h_):
  A6 X A4 σ (upd H l (.lst ys)) {s with heap:=s.heap.update l (IT f),toks:=t'}:=by
 have q:=PySem.IsL.update e f;rw[b]at q;refine I.write (x:=l) (e:=l) (by rw[d];exact Ml) (.inl rfl) (λg u c a=>(Hw s.heap (IT f) (HM c)).trans a) ⟨_,q⟩ ?_;exact⟨Y,its',_,hv,q⟩
def A6.lnew{t':Nat}(I:A6 X A4 σ H s)(hv:B' ys A8)(Y:ys.length<=h_):
  A6 X A4 σ (upd H s.heap.objs.size (.lst ys)) {s with heap:=s.heap.push {cls:=.type "list",data:=.seq A8.toArray},toks:=t'}:=
 I.laid (λ_ _ q=>l_ _ q) (r_ _) ⟨Y,A8,0,hv,Cb _ rfl⟩
theorem A6.fresh(I:A6 X A4 σ H s):H s.heap.objs.size=c_:=I.hok.fresh (r_ _)
def A6.lstM(I:A6 X A4 σ H s)(Y:H l=a_ (.lst xs)):xs.length<=h_/\∃(A8:ci) (n:Nat),B' xs A8/\xs.length=A8.length/\s.heap.get? l=a_ {cls:=.type "list",data:=.seq A8.toArray n}:=by obtain⟨z,A8,n,r,e⟩:=I.hok l _ Y;exact⟨z,A8,n,r,r.length,e⟩
theorem notLongL(h:n<=h_):Ks n=b_:=by simp_all[Ks]
end
def jK:V->b9->Hp->VK->Prop:=λx vs H Q=>∃l xs y,x=.ref l/\vs=[y]/\H l=a_ (.lst xs)/\xs.length<h_/\Q .non (upd H l (.lst (xs++[y])))
theorem g6:MtM X "list.append" jK:=by
 intro A4 s σ H x vs v us Q I a b h;obtain⟨l,xs,y,rfl,rfl,Y,d,q⟩:=h;cases a;obtain⟨u,rfl,c⟩:=b.one;obtain⟨z,A8,n,r,f,e⟩:=I.lstM Y;refine Mn HN ⟨_,e,rfl⟩ F.entry_list_append (F.args_list_append_2 _ _) (PySem.list_append l A8.toArray n u bb) ⟨e,?_⟩;refine⟨.non,_,I.lset (its':=A8++[u]) Y e am (r.append (.cons c .nil)) ?_,rfl,q⟩
 rw[Hy,NF];lia
def Fl:V->b9->Hp->VK->Prop:=λx vs H Q=>∃l b xs I,x=.ref l/\vs=[.ref b]/\H l=a_ (.lst xs)/\H b=a_ (.lst I)/\xs.length+I.length<=h_/\Q .non (upd H l (.lst (xs++I)))
theorem FO:MtM X "list.extend" Fl:=by
 intro A4 s σ H x vs v us Q I d f h;obtain⟨l,b,xs,k,rfl,rfl,c,j,o,q⟩:=h;cases d;obtain⟨u,rfl,g⟩:=f.one;cases g;obtain⟨z,A8,n,r,p,e⟩:=I.lstM c;obtain⟨m,Y,n2,r2,i,e2⟩:=I.lstM j;have hsz:A8.toArray.size+Y.toArray.size<=h_:=by rw[HI,HI];lia
 have a:¬(!A8.toArray.isEmpty&&Ks (A8.toArray.size+Y.toArray.size))=d_:=by rw[notLongL hsz,Jr];exact II
 refine Mn NB ⟨_,e,rfl⟩ F.entry_list_extend (F.args_list_extend_2 _ _)
  (AutoSeq1.list_extend_list_list_0 l A8.toArray n b Y.toArray n2 a bb ad) ⟨e,e2,?_⟩
 refine⟨.non,_,I.lset (its':=A8++Y) c e am (r.append r2) ?_,rfl,q⟩
 simp_all
end Lake
namespace Lake.Att
open PySem PySem.W PySem.Calls PyProof.Rows
def rL{P:Params}{h:H_}:∀(ns:cc) (vs:ci),WellAll P h vs (ns.map WData.int)->MH vs ns:=by
 intro ns
 induction ns with
 |nil=>intro vs w;rw[JG]at w;cases w;exact .nil|cons n ns I=>
  intro vs w;rw[F_]at w;cases w with
  |cons a b=>cases a;exact .cons _ _ (I _ b)
theorem EW{l:LQ}{n:Nat}(k:l.most=a_ n){P:Params}{h:H_}{args:List WData}{I:ci}(Y:l.row.toRowW.claim.pre args=d_)(f:WellAll P h I args):
  ∃a vs ns,I=[D_ a]/\args=[WData.list (ns.map WData.int)]/\h.get? a=a_ {cls:=.type "list",data:=.seq vs.toArray}/\MH vs ns/\ns.length<=n:=by
 have g:WShape.hasAll [] args [.list .int]=d_:=(pre_splitW Y).1;have i:l.pre.holds [] {args:=args}=d_:=(pre_splitW Y).2;obtain⟨d,r,rfl,h1,h2⟩:=hasAllW_cons g;obtain rfl:=hasAllW_nil h2;obtain⟨xs,rfl,m⟩:=hasW_list h1;obtain⟨ns,rfl⟩:=items_int m;have b:ns.length<=n:=by
  unfold OpenLaw.pre at i;have e:(WTm.not (.lt (.lit (.int (n:Int))) (.len (.arg 0)))).holds [] {args:=[.list (ns.map .int)]}=d_:=by have e:=(holds_andW i).1;rw[k]at e;exact e
  have h5:=condW_of e (w_not (w_lt w_lit (w_len_list (w_arg rfl))));rw[A_]at h5;refine Nat.le_of_not_lt λq=>?_;have o:(n:Int)<((ns.length:Nat):Int):=ad
  first
   |simp_all
   |(simp at h5;lia)
 cases f with
 |cons w1 w2=>
  cases w2;cases w1 with
  |list j c=>exact⟨_,_,ns,rfl,rfl,j,rL ns _ c,b⟩
def Ft(l:LQ)(args:List WData):l.row.toRowW.claim.post args (.bool d_) args=d_:=
 postW_of (r:=l.row.toRowW) (X:=(d_==d_))
  (show WShape.has [] (.bool d_) .bool=d_ by rfl)
  (show(WTm.eq .res (.lit (.bool d_))).value [] {args:=args,res:=a_ (.bool d_),after:=args}=a_ (.bool (d_==d_))from w_eq_bool (w_res rfl) w_lit) rfl
def Bh{l:LQ}{n:Nat}{q:HY}{c:b8}{A:(Ld)->H_->Prop}{z:IF->H_->Prop}{d:DefRec}(E:l.most=a_ n)(s:d.params.defaults=[])(j:∀(w:IF) (b I:v_) (mg k:Ld) (fa:e_) (o:Lg) (pm cd doc:j_) (a:e_) (vs:ci) (ns:cc),
   Ground q c [] A w b mg k I.heap->z w I.heap ->
   I.heap.get? fa=a_ o->o.data=.func (docDef d.name d.params d.body d.scope pm cd doc)->I.heap.CodeRec cd d.name->mg d.name=a_ (.ref fa) ->
   I.heap.get? a=a_ {cls:=.type "list",data:=.seq vs.toArray}->MH vs ns->ns.length<=n->I.gens=#[] ->
   Ko (C_ l.prog w) MC (.call (.ref fa) ⟨[.ref a],[]⟩) (λr s'=>r=.ok (.ret (.bool d_))/\OldK I.heap s'.heap/\s'.os=I.os/\Lf s'.gens) I):
  N4 q c A z l.row.toRowW d [] (λf vs=>Kp f vs):=by
 intro w b I mg k G Y fa o pm cd doc O kV D hd t x p K y u as g v B m H;obtain rfl:O=.none:=Dflts.none x s;obtain rfl:kV=.none:=Dflts.noKw x;obtain⟨a,vs,ns,rfl,rfl,h,e,i⟩:=EW E g m;refine enter_call (Jp (j w b I mg k fa o pm cd doc a vs ns G Y D (fd_plain hd) t p h e i K) λr s' C=>?_);obtain⟨rfl,h2,N,L⟩:=C;exact⟨.inl ⟨.bool d_,.bool d_,[],rfl,λ_=>rfl,.bool d_,Ft l _,λ_=>⟨Qk,λ_ F=>(nomatch F)⟩⟩,h2,N,L⟩
end Lake.Att
namespace Lake
open PySem PySem.Spec PyProof.Rows
variable{P prog:HY}{w:IF}{K:Pn}{mg:Ld}{CX:CXT}{a f l b c L C dx fad C2 fI C1 CN:e_}{fd fdI:Je}{x qual m z nm:m_}{sp:Sp}{n i nN nN2 n2 ep ep' lo di ni ri:Nat}{X:Cx}{st b₀:Ia}{oc doc pm cdv ct u hv cd:j_}{od dd:Option e_}{osl:Array (Option j_)}{pos spos py p apos pos' q p2 p3 cpos np hpos p1:PR}{A:JK}{B T newId initId:String}{H H1 H2 H' F F' H0 F1 F0 FB G Hc:Hp}{scope sc:MF}{E E1 E2 E3:XK}{s:v_}{A4:Vp}{σ σ':St}{ix:List (Option Nat)}{fp as ch:List e_}{R:Bool->Hp->Prop}{elt tg iter e value e1 e2 e3 e4 e5:Ii}{ifs es elts:List Ii}{tt:TT}{te ta tb tc td:TE}{y v vw:V}{us bmB sub:List j_}{N sn:List m_}{h h':H_}{cs:List (m_×e_)}{rows:List (List Int)}{dvs vs:List V}{pl:PQ Bool}{S:e_->Prop}{o:HO}{Q:VK}{O O2 OL:List Nat}{ro hdct ab b1 b2 b3:Bool}{α:Type}{op op' op'':CmpOp}{sts body suite:List Ia}{r':R2}{κ:SortKind}{A7:List (List Key×V)}{trs:List (TE×TE)}{outer:List LY}{oe:Lg}{ts:e_->Option e_->TS}{os:OsState}{tk:OM}{col:Option Bool}{k0 k2 k3 k5:Option j_}{U:TS}{u3 u4 u5 u6 u7 u8 u9 u10 u11:Option V}
theorem xp:∀{vs:ci} {ns:cc},MH vs ns->B' (ns.map V.int) vs
 |_,_,.nil=>.nil|_,_,.cons n t h=>.cons ⟨t,rfl⟩ (xp h)
def Only(H:Hp):Prop:=∀b,H b=c_\/∃o xs,H b=a_ (.frz o (.lst xs))
theorem law_call{C:Ld}{k:Nat}{fa:e_}{I:v_}{vs:ci}{ns:cc}(S:K.In I.heap)(p:I.heap.Ns HG mg)(c:I.heap.Ns Pg C)(G:∀x:m_,x≠"__name__"->C x=Jh x)(t:I.heap.NoLimit)(hg:I.gens=#[])(L:I.heap.get? a=a_ {cls:=.type "list",data:=.seq vs.toArray})(hi:MH vs ns)(hl:ns.length<=h_)(hr:iu k MC)(F:∀base:H_,K.In base->base.Ns HG mg->iS P w K mg base CX k fa fd [x] sp)(i:∀(s:v_) (u:j_),LZ s fd ⟨[u],[]⟩ [(x,u)])(D:∀H:Hp,Only H->SqL K H a (ns.map V.int)->sp [.ref a] H (λv _=>v=.bl d_) λ_ _ _=>False)(N:∀H e s',CX [] H I (λ_ _ _=>False) e s'->False):
  Ko (C_ P w) MC (.call (.ref fa) ⟨[.ref a],[]⟩) (λr s'=>r=.ok (.ret (.bool d_))/\OldK I.heap s'.heap/\s'.os=I.os/\Lf s'.gens) I:=by
 have W:=xp hi;have Q:=hi.length;have g:∀H:Hp,Only H->SqL K H a (ns.map V.int)->HOk P w H I.heap->(∀b,H b≠c_->b=a)->(H a≠c_->K.lookup a=c_) ->
   Ko (C_ P w) MC (.call (.ref fa) ⟨[.ref a],[]⟩) (λr s'=>r=.ok (.ret (.bool d_))/\OldK I.heap s'.heap/\s'.os=I.os/\Lf s'.gens) I:=by
  intro H R hS l hA hK;have Y:∀{b:e_} {o:Lg},I.heap.get? b=a_ o->H b=c_->(hidT I.heap H).get? b=a_ o:=λe n=>hidT_get e n;have B:∀{b:e_} {o:Lg} {es:Array Om} {ep:Nat},I.heap.get? b=a_ o->o.data=.dict es ep->H b=c_:=λ{b o es ep} e d=>by grind
  have f:∀{b:e_} {m:Ld},I.heap.Ns b m->(hidT I.heap H).Ns b m:=λ{b m} ⟨o,es,ep,e,d,r⟩=>⟨o,es,ep,Y e (B e d),d,r⟩
  have y:K.In (hidT I.heap H):=λb o e=>Y (S b o e) a'
  have hM:Mod K mg (hidT I.heap H):=⟨y,f p,⟨C,f c,G⟩,let ⟨mc,h1,h2⟩:=t;⟨mc,f h1,h2⟩⟩
  have e0:Env0 P w K mg (hidT I.heap H) MC [] I H:=⟨rfl,hM,λb o e=>of_hidT e,Qi (Ga _ _),Ml,λb c=>Ho (show b∈([]:List e_)from c) am,l,.of_eq hg⟩
  refine Jp ((F _ y (f p)).run MC [] I H ⟨[.ref a],[]⟩ [.ref a] [.ref a] _ _ hr e0 (i I (.ref a)) (.cons rfl .nil) (D H R hS)) λr s' h=>?_;cases r with
  |error e=>exact(N H e s' h).elim|ok fl=>
   cases fl with
   |next=>exact HK h|brk=>exact HK h|cont=>exact HK h|ret u=>
    obtain⟨v,H',os,A,O,j,r',q⟩:=h;have X:v=.bl d_:=q;subst X;obtain rfl:u=ME d_:=r';refine⟨rfl,OldK.of_keep λb o e=>?_,os,A⟩
    cases q:H b with
    |none=>exact O.keep b o e q (by intro z;exact Ho (show b∈([]:List e_)from z) am) am|some u=>
     rcases R b with z|⟨Z,xs,z⟩
     .simp_all
     .have T:=O.frzs b Z _ z;obtain⟨e1,_⟩:=l b _ z;obtain⟨e2,_⟩:=j b _ T;simp_all
 cases E:K.lookup a with
 |some o=>have e:=S a o E;rw[L]at e;cases e;refine g (λ_=>c_) (λ_=>.inl rfl) (.inr ⟨_,vs.toArray,_,E,rfl,rfl,rfl,bb,bb⟩) (λb u z=>by simp_all) (λb z=>Ho rfl z) λz=>Ho rfl z|none=>
  refine g (λb=>if b=a then a_ (.frz {cls:=.type "list",data:=.seq vs.toArray} (.lst (ns.map V.int)))else c_) (λb=>?_) (.inl (.inr ⟨{cls:=.type "list",data:=.seq vs.toArray},f_ rfl⟩)) (λb u z=>?_) (λb z=>?_) λ_=>E
  .by_cases c:b=a
   .exact .inr ⟨_,_,f_ c⟩
   .exact .inl (k_ c)
  .by_cases c:b=a
   .have U:=(f_ c).symm.trans z;cases U;subst c;exact⟨L,bb,vs,_,W,L⟩
   simp_all
  .by_cases c:b=a
   .exact c
   .exact Ho (k_ c) z
def walk_of{l:LQ}{k:Nat}{q:HY}{b:b8}{R:(Ld)->H_->Prop}{z:IF->H_->Prop}{d:DefRec}{K:Params->Pn}{CX:IF->CXT}{sp:IF->Sp}(C:l.most=a_ n)(m:n<=h_)(r:d.params.defaults=[])(B:iu k MC)(N:∀(w:IF) (h:H_),z w h->(K w.params).In h)(F:∀(w:IF) (mg:Ld) (fa:e_) (h:H_),(K w.params).In h->h.Ns HG mg->mg d.name=a_ (.ref fa) ->
   ∃fd:Je,(∀(s:v_) (u:j_),LZ s fd ⟨[u],[]⟩ [(x,u)]) /\
    ∀base:H_,(K w.params).In base->base.Ns HG mg->iS l.prog w (K w.params) mg base (CX w) k fa fd [x] (sp w))(j:∀(w:IF) (H:Hp) (a:e_) (ns:cc),ns.length<=n->Only H->SqL (K w.params) H a (ns.map V.int)->sp w [.ref a] H (λv _=>v=.bl d_) λ_ _ _=>False)(t:∀(w:IF) (H:Hp) (s:v_) (e:j_) (s':v_),CX w [] H s (λ_ _ _=>False) e s'->False):
  N4 q b R z l.row.toRowW d [] (λf vs=>Kp f vs):=by
 refine Att.Bh C r λw y g mg S fa o pm cd doc a vs ns G Y T hd E p i c I D=>?_;have A:=N w _ Y;obtain⟨fd,L,Q⟩:=F w mg fa _ A G.T.g p;exact law_call A G.T.g G.T.b G.T.builtins G.T.nolimit D i c (HB I m) B Q L (λH P O=>j w H a ns I P O) λH e s'=>t w H g e s'
noncomputable def inClass(s:Ia)(j:Nat):Ia:=match s with
 |.ClassDef _ _ _ body _ _ _ _ _ _ _=>body.getD j (.Pass ⟨0,0,0,0⟩)|_=>.Pass ⟨0,0,0,0⟩
noncomputable def eu(s:Ia):Arguments:=match s with
 |.FunctionDef _ a _ _ _ _ _ _ _ _=>a|_=>{posonlyargs:=[],args:=[],vararg:=c_,kwonlyargs:=[],kw_defaults:=[],kwarg:=c_,defaults:=[]}
noncomputable def bY(s:Ia):List Ia:=match s with
 |.FunctionDef _ _ b _ _ _ _ _ _ _=>b|_=>[]
noncomputable def aK(s:Ia):MF:=match s with
 |.FunctionDef _ _ _ _ _ _ sc _ _ _=>sc|_=>{kind:=.function,names:=[],isGenerator:=b_,isCoroutine:=b_}
noncomputable abbrev CX0:CXT:=λ_ _ _ _ _ _=>False
noncomputable abbrev E0:XK:=λ_ _ _=>False
def r9:Passes CX0 X E0:=λ_ _ _ _ _ _ _ h=>h.elim
structure Fun(K:Pn)(x qual:m_)(st:Ia)(f:e_)(fd:Je):Prop where
 ex:∃(oc:j_) (od:Option e_) (kV doc pm:j_) (an:Option e_) (cdv ct:j_) (osl:Array (Option j_)),
  fd=Ma x qual (eu st) (bY st) (aK st) .none kV doc pm an cdv ct/\K.lookup f=a_ ⟨oc,od,.func fd,osl⟩/\MV K cdv qual=d_
 kp:Ju K (.ref f)=d_
theorem Fun.binds{ps:b8}(F:Fun K x qual st f fd)(h:∀(kV doc pm:j_) (an:Option e_) (cdv ct:j_) (us:ci),us.length=ps.length->LP (Ma x qual (eu st) (bY st) (aK st) .none kV doc pm an cdv ct) ⟨us,[]⟩=IQ (ps.zip us)):Binds K fd ps []:=by obtain⟨oc,od,kV,doc,pm,an,cdv,ct,osl,rfl,Y,I⟩:=F.ex;exact .all (h kV doc pm an cdv ct)
def Ck{an:Option e_}{kV:j_}(l:K.lookup f=a_ ⟨oc,od,.func (Ma x qual (eu st) (bY st) (aK st) .none kV doc pm an cdv ct),osl⟩)(c:MV K cdv qual=d_)(k:Ju K (.ref f)=d_):Fun K x qual st f (Ma x qual (eu st) (bY st) (aK st) .none kV doc pm an cdv ct):=⟨⟨oc,od,kV,doc,pm,an,cdv,ct,osl,rfl,l,c⟩,k⟩
def pv(i:Nat)(Y: ~~~(X.N[i]?=a_ x))(hv:autoParam (Vis X.env.scope x) Jq5)(hd:((x==("__debug__":m_))=b_)⁻¹)(I:((x==("__classdict__":m_))=b_)⁻¹):PE X (.Name x pos) (cb i):=pe_var Y hv hd I
theorem iteF{A B:Prop}(h:B):if b_=d_ then A else B:=by simp_all
theorem iteNS{c A B:Prop}[Decidable c](I:c)(h:B):if (!decide c)=d_ then A else B:=by simp_all
def aM(H H':Hp):Prop:=∀b o,H b=a_ o->H' b=a_ o
def aM.refl(H:Hp):aM H H:=λ_ _ h=>h
def aM.trans(a:aM H H1)(b:aM H1 H2):aM H H2:=λc o h=>b c o (a c o h)
theorem aM.free(e:aM H H')(h:H' l=c_):H l=c_:=by
 cases q:H l with
 |none=>rfl|some o=>rw[e l o q]at h;lia
noncomputable def uM(cells:List (m_×e_)):List (m_×JT)->List (m_×e_)->List (m_×e_)
 |[],I=>I|(x,k)::r,I=>uM cells r (if (k==NameKind.free)=d_ then(x,(cells.lookup x).getD 0)::I else I)
def gt_ne(h1:b<a)(h2:a<c):c≠b:=by rintro rfl;exact Ho (Lh h1 h2) (Ip _)
def DF(h1:a<n)(h2:n<=b):a≠b:=by rintro rfl;exact Ho (Hm h1 h2) (Ip _)
theorem uL{cells:List (m_×e_)}{x:m_}{c:e_}:∀(ns:List (m_×JT)) (I:List (m_×e_)),(uM cells ns I).lookup x=a_ c ->
  ((x,NameKind.free)∈ns/\c=(cells.lookup x).getD 0)\/I.lookup x=a_ c
 |[],_,h=>.inr h|(y,k)::r,I,h=>by
  unfold uM at h;rcases uL r _ h with⟨m,e⟩|q
  .exact .inl ⟨E_ _ m,e⟩
  .by_cases a:(k==NameKind.free)=d_
   .rw[f_ a,w_]at q;cases Y:x==y with
    |true=>rw[Y]at q;have e1:=Jj Y;have e2:=Jj a;subst e1 e2;exact .inl ⟨HD,(Hz q).symm⟩|false=>rw[Y]at q;exact .inr q
   .rw[k_ a]at q;exact .inr q
theorem sv{cells:List (m_×e_)}{x:m_}:∀(ns:List (m_×JT)) (I:List (m_×e_)),((x,NameKind.free)∈ns\/(I.lookup x).isSome=d_)->((uM cells ns I).lookup x).isSome=d_
 |[],_,h=>h.elim (λz=>nomatch z) id
 |(y,k)::r,I,h=>by
  unfold uM;refine sv r _ ?_;rcases h with h|h
  .rcases t_.mp h with e|h
   .cases e;refine .inr ?_;rw[f_ a8,w_];simp
   .exact .inl h
  .refine .inr ?_;by_cases Y:(k==NameKind.free)=d_
   .rw[f_ Y,w_];cases a:x==y with
    |true=>rfl|false=>exact h
   .rw[k_ Y];exact h
theorem mB{x:m_}{c:e_}:∀(ns:List (m_×JT)) (n:Nat) (I:List (m_×e_)),(IL n ns I).lookup x=a_ c->(n<=c/\(x,I_)∈ns)\/I.lookup x=a_ c
 |[],_,_,h=>.inr h|(y,k)::r,n,I,h=>by
  unfold IL at h;by_cases b:(k==I_)=d_
  .rw[f_ b]at h;rcases mB r (n+1) _ h with⟨a,m⟩|q
   .exact .inl ⟨ad,E_ _ m⟩
   .rw[w_]at q;cases Y:x==y with
    |true=>rw[Y]at q;have e1:=Jj Y;have e2:=Jj b;have e3:=Hz q;subst e1 e2 e3;exact .inl ⟨r_ _,HD⟩|false=>rw[Y]at q;exact .inr q
  .rw[k_ b]at h;rcases mB r n I h with⟨a,m⟩|q
   .exact .inl ⟨a,E_ _ m⟩
   .exact .inr q
theorem sx:∀(ns:List (m_×JT)) (n:Nat) (I:List (m_×e_)),(∀x y c,I.lookup x=a_ c->I.lookup y=a_ c->x=y)->(∀x c,I.lookup x=a_ c->c<n) ->
  ∀x y c,(IL n ns I).lookup x=a_ c->(IL n ns I).lookup y=a_ c->x=y
 |[],_,_,hi,_=>hi|(z,k)::r,n,I,hi,d=>by
  unfold IL;by_cases e:(k==I_)=d_
  .rw[f_ e];refine sx r (n+1) _ (λx y c h1 h2=>?_) (λx c h1=>?_)
   .rw[w_]at h1 h2;cases Y:x==z with
    |true=>
     rw[Y]at h1;have e1:=Hz h1;cases a:y==z with
     |true=>rw[Jj Y,Jj a]|false=>rw[a]at h2;have b:=d y c h2;rw[<- e1]at b;exact Ho b (Ip _)
    |false=>
     rw[Y]at h1;cases a:y==z with
     |true=>rw[a]at h2;have e2:=Hz h2;have b:=d x c h1;rw[<- e2]at b;exact Ho b (Ip _)|false=>rw[a]at h2;exact hi x y c h1 h2
   .rw[w_]at h1;cases Y:x==z with
    |true=>rw[Y]at h1;have e1:=Hz h1;rw[<- e1];exact JW _|false=>rw[Y]at h1;exact Mc (d x c h1)
  .rw[k_ e];exact sx r n I hi d
theorem oA{x:m_}{c:e_}:∀(ns:List (m_×JT)) (h:H_) (I:List (m_×e_)),(IL h.objs.size ns I).lookup x=a_ c ->
  I.lookup x=a_ c\/(h.objs.size<=c/\(pushCells h ns).IsCell c c_)
 |[],_,_,e=>.inl e|(y,k)::r,h,I,e=>by
  unfold IL at e;unfold pushCells;by_cases a:(k==I_)=d_
  .rw[f_ a]at e ⊢;have q:=oA (x:=x) (c:=c) r (h.push {cls:=.type "cell",data:=.cell c_}) ((y,h.objs.size)::I) (by rw[IW];exact e);rcases q with q|⟨d,b⟩
   .rw[w_]at q;cases Y:x==y with
    |true=>rw[Y]at q;have e1:=Hz q;subst e1;exact .inr ⟨r_ _,Heap.IsCell.keeps ⟨_,Cb _ rfl,rfl⟩ (M9 r _)⟩|false=>rw[Y]at q;exact .inl q
   .rw[IW]at d;exact .inr ⟨ad,b⟩
  .rw[k_ a]at e ⊢;exact oA r h I e
theorem oM{env:LY}(f:m_×JT->List (m_×e_)->PQ (ForInStep (List (m_×e_))))(b:∀n k cs,f (n,k) cs=if (k==NameKind.free)=d_ then(do let a <- cellOf env n;IQ (.yield ((n,a)::cs)))else IQ (.yield cs)):
  ∀(ns:List (m_×JT)) (I:List (m_×e_)),(∀x∈ns,x.2=NameKind.free->∃c,env.cells.lookup x.1=a_ c)->forIn ns I f=(IQ (uM env.cells ns I):PQ _)
 |[],I,_=>by rfl|(y,k)::r,I,g=>by
  have d:∀x∈r,x.2=NameKind.free->∃c,env.cells.lookup x.1=a_ c:=λx i=>g x (E_ _ i);rw[List.forIn_cons,b];unfold uM;by_cases Y:(k==NameKind.free)=d_
  .rw[f_ Y,f_ Y];obtain⟨c,e⟩:=g (y,k) HD (Jj Y);have h:env.cells.lookup y=a_ c:=e;have e2:cellOf env y=IQ c:=by unfold cellOf;rw[h]
   rw[e2,h];exact oM f b r _ d
  .rw[k_ Y,k_ Y];exact oM f b r _ d
def uK{env:LY}(I:∀x∈scope.names,x.2=NameKind.free->∃c,env.cells.lookup x.1=a_ c):closureFor scope env=IQ (uM env.cells scope.names []):=by simp only[closureFor];rw[oM (env:=env) _ (λn k cs=>by rfl) scope.names [] I];rfl
theorem FK{M:Mf}{E:Mq}{f:e_}{Y:List (m_×e_)}{I:LY}{Q:LY->v_->Prop}(h:∀h1:H_,(∀b o,s.heap.get? b=a_ o->h1.get? b=a_ o)->h1.Ns s.heap.objs.size (λ_=>c_) ->
   (∀x c,(IL (s.heap.objs.size+1) scope.names Y).lookup x=a_ c->Y.lookup x=a_ c\/(s.heap.objs.size<c/\h1.IsCell c c_)) ->
   Q {scope:=scope,locals:=s.heap.objs.size,globals:=f,cells:=IL (s.heap.objs.size+1) scope.names Y,qual:=qual,func:=c_,code:=I.code,frame:=I.frame,builtins:=I.builtins} {s with heap:=h1}):
  B_ M A (Nr scope f Y [] qual c_ .none (a_ I)) Q E s:=by
 simp only[Nr,NL,O6];refine g_ (wpAny_alloc ?_);refine g_ (wpAny_layCells _ (λname d cells=>by rfl) _ _ _ _ ?_);rw[show({s with heap:=s.heap.push {cls:=.type "dict",data:=.dict #[]}}:v_).heap.objs.size=s.z+1 from IW ..];rw[List.forIn_nil];refine g_ (y_ (y_ ?_));refine h _ (λb o e=>M9 _ _ b o (l_ _ e)) ((Heap.Ns.new s.heap (.type "dict")).keeps (M9 _ _)) λx c e=>?_;have q:=oA (x:=x) (c:=c) scope.names (s.heap.push {cls:=.type "dict",data:=.dict #[]}) Y (by rw[IW];exact e);rw[IW]at q;refine q.imp id λg=>?_;obtain⟨a,b⟩:=g;exact⟨ad,b⟩
theorem uj{env:LY}{x:m_}:∀{ns:List (m_×JT)},ns.lookup x=a_ .free ->
  (ns.map λ(n,k)=>if (k==NameKind.free&&env.scope.kind==.function&&env.kindOf n==a_ .cell)then(n,I_)else(n,k)).lookup x=a_ .cell \/
  (ns.map λ(n,k)=>if (k==NameKind.free&&env.scope.kind==.function&&env.kindOf n==a_ .cell)then(n,I_)else(n,k)).lookup x=a_ .free
 |[],h=>by simp at h|(n,k)::r,h=>by
  have Y:=@uj env x r;rw[F_];dsimp only;by_cases a:(k==NameKind.free&&env.scope.kind==.function&&env.kindOf n==a_ .cell)=d_
  .rw[f_ a,w_];cases I:x==n with
   |true=>exact .inl rfl|false=>rw[w_,I]at h;exact Y h
  .rw[k_ a,w_];cases I:x==n with
   |true=>rw[w_,I]at h;have e:=Hz h;subst e;exact .inr rfl|false=>rw[w_,I]at h;exact Y h
theorem uk{env:LY}{x:m_}:∀{ns:List (m_×JT)},
  ((ns.map λ(n,k)=>if (k==NameKind.free&&env.scope.kind==.function&&env.kindOf n==a_ .cell)then(n,I_)else(n,k)).lookup x=a_ .cell \/
  (ns.map λ(n,k)=>if (k==NameKind.free&&env.scope.kind==.function&&env.kindOf n==a_ .cell)then(n,I_)else(n,k)).lookup x=a_ .free) ->
  ns.lookup x=a_ .cell\/ns.lookup x=a_ .free
 |[],h=>by simp at h|(n,k)::r,h=>by
  have a:=@uk env x r;rw[F_]at h;dsimp only at h;by_cases Y:(k==NameKind.free&&env.scope.kind==.function&&env.kindOf n==a_ .cell)=d_
  .rw[f_ Y,w_]at h;rw[w_];cases I:x==n with
   |true=>
    have:k=NameKind.free:=by rw[o_,o_]at Y;exact Jj Y.1.1
    subst this;exact .inr rfl
   |false=>rw[I]at h;exact a h
  .rw[k_ Y,w_]at h;rw[w_];cases I:x==n with
   |true=>rw[I]at h;exact h|false=>rw[I]at h;exact a h
noncomputable def bA(X:Cx)(N':b8)(sc:MF)(L:e_)(cs:List (m_×e_))(s:v_)(H:Hp)(fp:List e_):Cx:=
 {X with
  N:=N',s₀:=s,H₀:=H,outer:=X.stack,ex:=fp,pn:=[],xe:=λ_ _=>False
  fn:=λx=> !(sc.names.any λp=>p.1==x&&p.2==NameKind.free)
  env:={scope:=relabel sc X.env,locals:=L,globals:=X.env.globals,cells:=cs,qual:=X.env.qual,func:=c_,code:=X.env.code,frame:=X.env.frame,builtins:=X.env.builtins}}
noncomputable def inS(ix:List (Option Nat))(σ:St):St:=ix.map λo=>match o with
 |none=>c_|some j=>(σ[j]?).join
noncomputable def bV(N:b8)(I:MF)(N':b8)(sc:MF)(ix:List (Option Nat)):Bool:=
 q_ (ix.length=N'.length) &&
 ((Iw ix.length).all λi=>match ix[i]? with
  |some (a_ j)=>(match N'[i]?,N[j]? with
   |some x,a_ y=>x==y&&sc.names.lookup x==a_ NameKind.free|_,_=>b_)
  |_=>d_) &&
 (sc.names.all λp=>(p.2 != NameKind.free||(I.names.lookup p.1==a_ I_||I.names.lookup p.1==a_ NameKind.free))&&(p.2 != NameKind.local||sc.names.lookup p.1==a_ NameKind.local)) &&
 (sc.names.all λp=>sc.names.all λq=> !(p.1==q.1)||p.2==q.2)
section
variable{N':List m_}
def bV.len(I:bV X.N X.env.scope N' sc ix=d_):ix.length=N'.length:=by unfold bV at I;rw[o_,o_,o_]at I;exact Jk I.1.1.1
theorem bV.at(I:bV X.N X.env.scope N' sc ix=d_){i j:Nat}{x:m_}(h:ix[i]?=a_ (a_ j))(Y:N'[i]?=a_ x):X.N[j]?=a_ x/\sc.names.lookup x=a_ .free:=by
 unfold bV at I;rw[o_,o_,o_]at I;have q:=IJ.mp I.1.1.2 i (List.mem_range.mpr (s_.mp h).1);rw[h,Y]at q;dsimp only at q;cases e:X.N[j]? with
 |none=>rw[e]at q;cases q|some y=>rw[e]at q;dsimp only at q;rw[o_]at q;exact⟨by rw[Jj q.1],Jj q.2⟩
theorem bV.fr(I:bV X.N X.env.scope N' sc ix=d_)(h:(x,NameKind.free)∈sc.names):X.env.kindOf x=a_ .cell\/X.env.kindOf x=a_ .free:=by
 unfold bV at I;rw[o_,o_]at I;have q:=IJ.mp I.1.2 _ h;rw[o_]at q;have Y:=q.1;rw[Li]at Y;rcases Y with z|z
 .simp_all
 .rw[Li]at z;exact z.imp (λe=>Jj e) λe=>Jj e
def bV.loc(I:bV X.N X.env.scope N' sc ix=d_):∀x∈sc.names,x.2=NameKind.local->sc.names.lookup x.1=a_ .local:=λx a e=>by
 unfold bV at I;rw[o_,o_]at I;have q:=IJ.mp I.1.2 _ a;rw[o_]at q;have Y:=q.2;rw[Li]at Y;rcases Y with z|z
 .rw[e]at z;exact Ho z a8
 .exact Jj z
def bV.apart(I:bV X.N X.env.scope N' sc ix=d_)(h1:(x,I_)∈sc.names)(h2:(x,NameKind.free)∈sc.names):False:=by unfold bV at I;rw[o_]at I;have q:=IJ.mp (IJ.mp I.2 _ h1) _ h2;simp at q
def sr(I:A6 X A4 σ H s)(Y:bV X.N X.env.scope N' sc ix=d_):∀x∈sc.names,x.2=NameKind.free->∃c,X.env.cells.lookup x.1=a_ c:=λx a e=>by obtain⟨n,k⟩:=x;have b:k=NameKind.free:=e;subst b;exact I.ok.has n (bV.fr Y a)
theorem GO(I:A6 X A4 σ H s)(Y:bV X.N X.env.scope N' sc ix=d_)(h:(uM X.env.cells sc.names []).lookup x=a_ c):(x,NameKind.free)∈sc.names/\X.env.cells.lookup x=a_ c:=by
 rcases uL _ _ h with⟨m,e⟩|z
 .obtain⟨d,hd⟩:=sr I Y _ m rfl;simp_all
 simp_all
theorem comp_inv{h1:H_}(I:A6 X A4 σ H s)(E:∀b∈fp,Eu X A4 H b)(hb:∀b∈fp,∃o,s.heap.get? b=a_ o)(h:bV X.N X.env.scope N' sc ix=d_)(hk:sc.kind=.function)(f:s.heap.objs.size<=L)(D:∀b o,s.heap.get? b=a_ o->h1.get? b=a_ o)(ns:h1.Ns L λ_=>c_)(n:∀x c,(IL (L+1) sc.names (uM X.env.cells sc.names [])).lookup x=a_ c->(uM X.env.cells sc.names []).lookup x=a_ c\/(L<c/\h1.IsCell c c_)):
  A6 (bA X N' sc L (IL (L+1) sc.names (uM X.env.cells sc.names [])) s H fp) [] (inS ix σ) H {s with heap:=h1}:=by
 have a:∀x c,(uM X.env.cells sc.names []).lookup x=a_ c->(x,NameKind.free)∈sc.names/\X.env.cells.lookup x=a_ c/\(∃v,s.heap.IsCell c v)/\c<s.z:=λx c e=>by obtain⟨m,W⟩:=GO I h e;obtain⟨v,z⟩:=I.cell x c W;exact⟨m,W,⟨v,z⟩,z.lt⟩
 have A:∀b∈fp,b<s.z:=λb z=>let ⟨o,e⟩:=hb b z;u_ e;have R:∀b∈fp,∀x c,(IL (L+1) sc.names (uM X.env.cells sc.names [])).lookup x=a_ c->c≠b:=λb z x c e=>by
  have g:=A b z;rcases n x c e with q|⟨q,_⟩
  .exact(E b z).2.2.2.2.1 x c (a x c q).2.1
  .exact gt_ne (Hm g f) q
 have G:(bA X N' sc L (IL (L+1) sc.names (uM X.env.cells sc.names [])) s H fp).Ok:=by
  refine⟨I.ok.mod,hk,I.ok.glob,I.ok.blt,f,?_,?_,?_,I.ok.hd,I.ok.frames,.inl rfl,?_,I.bs,HB I.ok.bsz I.sz,?_,?_,I.stack,I.ET⟩
  .refine sx sc.names (L+1) _ (λx y c e1 e2=>I.ok.inj x y c (a x c e1).2.1 (a y c e2).2.1) λx c e=>?_;exact Mc (Hm (a x c e).2.2.2 f)
  .intro x hx;have K:=uk (env:=X.env) (x:=x) (ns:=sc.names) hx;have q:((IL (L+1) sc.names (uM X.env.cells sc.names [])).lookup x).isSome=d_:=by
    rcases K with z|z
    .exact Jv _ _ _ (.inl z)
    .exact Jv _ _ _ (.inr (sv _ _ (.inl (IB z))))
   exact Jm.mp q
  .intro x c P e;show s.z<=c;rcases n x c e with q|⟨q,_⟩
   .have m:=(a x c q).1;have d:(!(sc.names.any λp=>p.1==x&&p.2==NameKind.free))=d_:=P;have z:(sc.names.any λp=>p.1==x&&p.2==NameKind.free)=d_:=Mj.mpr ⟨_,m,am⟩;rw[z]at d;cases d
   .exact HB f (KG q)
  .intro b z;have g:=A b z;exact⟨HC (Hm g f),R b z⟩
  .intro b o e z;rcases(E b z).2.2.2.1 with q|q
   .exact I.ok.noex b o e q
   .exact Ho (Hm (u_ e) (HB I.ok.bsz q)) (Ip _)
  .intro b z hs;rcases t_.mp (I.uc b hs)with q|q
   .exact(E b z).2.1 q
   .exact(E b z).2.2.1 q
 refine⟨G,rfl,I.bare,Un.kept D,⟨_,ns,λi x v Q h2 h3=>?_⟩,λx c e=>?_,I.hok.fresh f,λx c e=>?_,λp hp=>Ho hp (by simp[bA]),I.hok.kept D,?_⟩
 .have N:∃j,ix[i]?=a_ (a_ j)/\σ[j]?=a_ (a_ v):=by
   unfold inS at h2;rw[HJ]at h2;cases e:ix[i]? with
   |none=>simp_all|some o=>
    rw[e]at h2;cases o with
    |none=>cases h2|some j=>
     have Y:(σ[j]?).join=a_ v:=Hz h2;refine⟨j,rfl,?_⟩
     cases e2:σ[j]? with
     |none=>rw[e2]at Y;cases Y|some w=>rw[e2]at Y;have t:w=a_ v:=Y;rw[t]
  obtain⟨j,e1,e2⟩:=N;obtain⟨e3,e4⟩:=bV.at h e1 Q;have O:=bV.fr h (IB e4);obtain⟨m,hn,hl⟩:=I.loc;obtain⟨u,r,l⟩:=hl j x v e3 e2 (O.elim (λz=>.inr (.inl z)) λz=>.inr (.inr z));refine⟨u,r,.inr ⟨uj (env:=X.env) (x:=x) (ns:=sc.names) e4,?_⟩⟩
  rcases l with⟨k,_⟩|⟨k,c,e,z⟩
  .simp_all
  .have U:=sv (cells:=X.env.cells) sc.names [] (.inl (IB e4));obtain⟨c2,C⟩:=Jm.mp U;have T:=(a x c2 C).2.1;rw[e]at T;cases T;have Z:=Jv (x:=x) sc.names (L+1) (uM X.env.cells sc.names []) (.inr U);obtain⟨c3,F⟩:=Jm.mp Z;rcases n x c3 F with B|⟨B,q7⟩
   .rw[C]at B;cases B;exact⟨c,F,z.keeps D⟩
   .exfalso;rcases mB _ _ _ F with⟨_,m'⟩|S
    .exact bV.apart h m' (IB e4)
    .rw[C]at S;cases S;exact Ho (Lh (Hm (a x c C).2.2.2 f) B) (Ip _)
 .rcases n x c e with q|⟨_,q⟩
  .obtain⟨v,z⟩:=(a x c q).2.2.1;exact⟨v,z.keeps D⟩
  .exact⟨_,q⟩
 .rcases n x c e with q|⟨q,_⟩
  .exact I.freeC x c (a x c q).2.1
  .exact I.hok.fresh (HB f (KG q))
 .show(inS ix σ).length=N'.length;unfold inS;rw[A_];exact bV.len h
end
def PTs(X:Cx)(ifs:List Ii)(t:TT):Prop:=
 ∀(A4:Vp) (s:v_) (σ:St) (H:Hp) (Q:Bool->Hp->Prop),A6 X A4 σ H s->t σ H Q ->
  B_ (C_ X.prog X.w) X.A (forIn ifs d_ λc r=>if r=d_ then do let I <- Ow c X.env (Hv c X.env);IQ (K2 I)else IQ (K2 r)) (TP X A4 σ Q) X.xe s
noncomputable def tYes:TT:=λ_ H Q=>Q d_ H
def Ag:PTs X [] tYes:=λ_ _ _ H _ I h=>wpAny_tests_nil ⟨H,I,h⟩
def vz{c:Ii}{t:TT}(h:PT X c t):PTs X [c] t:=λA4 s σ H Q I q=>wpAny_tests_one (h A4 s σ H Q I q)
def zf{R:OC->v_->Prop}{d I:j_}{env:LY}(J:Nat->v_->Prop)(Y:∀n s,J n s->B_ (C_ prog w) A (pyNext d) (λr f=>match r with
   |none=>R (.ok .next) f|some v=>B_ (C_ prog w) A (Lz tg d v) (λ_ a=>B_ (C_ prog w) A (K3 tg env v) (λ_ k=>
     B_ (C_ prog w) A (forIn ifs d_ λc r=>if r=d_ then do let b <- Ow c env (Hv c env);IQ (K2 b)else IQ (K2 r)) (λb e=>
      if b=d_ then B_ (C_ prog w) A (Hv elt env) (λx j=>B_ (C_ prog w) A (Kp (.builtin "list.append") [I,x]) (λ_ i=>∃m,m<n/\J m i) (λ_ _=>False) j) (λ_ _=>False) e
      else ∃m,m<n/\J m e) (λ_ _=>False) k) (λ_ _=>False) a) (λ_ _=>False) f) (λ_ _=>False) s)(n:Nat)(h:J n s):Ko (C_ prog w) A (.compLoop (.ListComp elt [⟨tg,iter,ifs,0⟩] scope pos) 0 d I env) R s:=by
 refine codeAny_loop rfl J (λn s o=>?_) n h;show B_ _ A ((compTurn (.ListComp elt [⟨tg,iter,ifs,0⟩] scope pos) 0 d I env).onRaise (λx=>do Od x env;theTreesLotGoes x)) _ _ s;refine wpAny_noted ?_;rw[compTurn_list];refine g_ (Ky (g_ (HU (Y n s o) (λr f h1=>?_) λ_ _ z=>z.elim)));cases r with
 |none=>exact y_ h1|some v=>
  refine g_ (HU h1 (λ_ a g=>?_) λ_ _ z=>z.elim);refine g_ (HU g (λ_ k h2=>g_ (HU h2 (λb e l=>?_) λ_ _ z=>z.elim)) λ_ _ z=>z.elim);cases b with
  |false=>exact y_ ⟨rfl,l⟩|true=>exact g_ (g_ (HU l (λx j q=>g_ (HU q (λ_ i p=>y_ (y_ ⟨rfl,p⟩)) λ_ _ z=>z.elim)) λ_ _ z=>z.elim))
def o7(J:It)(ix:List (Option Nat))(g:TG)(tt:TT)(te:TE)(σ:St)(F:b9->Hp->Prop)(H:Hp):Prop:=
 ∃W:Nat->Nat->b9->Hp->Prop,(∃m,W 0 m [] H)/\∀i m ys H,W i m ys H ->
  (J.stop i H/\ys.length<=h_/\F ys H)\/(J.go i H/\ys.length<=h_/\∃N:b9->Hp->Prop,(∀Y H',N Y H'->∃a,a<m/\W (i+1) a Y H') /\
   ∀x H',J.yld i H x H'->g x (inS ix σ) H' λI H2=>tt I H2 λb c=>if b=d_ then te I c λy d=>N (ys++[y]) d else N ys c)
section
variable{N':List m_}
def A6.slots0(I:A6 X A4 σ' H s)(h:∀(i:Nat) v,(inS ix σ)[i]?=a_ (a_ v)->σ'[i]?=a_ (a_ v))(Y:(inS ix σ).length=X.N.length):A6 X A4 (inS ix σ) H s:=
 I.weak (by rw[Y,I.len]) h
theorem ze{g:TG}{J:It}{it:e_}{tn:Nat->H_->Prop}{F:b9->Hp->Prop}{E:Mq}(hc:X.calm=d_)(I:A6 X A4 σ H s)(T:Turn X.prog X.w X.K tg J fp it tn)(st:tn 0 s.heap)(hf:∀b∈fp,Eu X A4 H b)(ok:bV X.N X.env.scope N' sc ix=d_)(hk:sc.kind=.function)(hg:∀L cs s H fp,PG (bA X N' sc L cs s H fp) tg g)(hkeep:∀x σ' H' (Q:St->Hp->Prop),g x σ' H' Q->g x σ' H' λσ2 H2=>Q σ2 H2/\∀(i:Nat) v,σ'[i]?=a_ (a_ v)->(∃j,ix[i]?=a_ (a_ j))->σ2[i]?=a_ (a_ v))(ht:∀L cs s H fp,PTs (bA X N' sc L cs s H fp) ifs tt)(he:∀L cs s H fp,PE (bA X N' sc L cs s H fp) elt te)(tr:o7 J ix g tt te σ F H):
  B_ (C_ X.prog X.w) X.A (newList []) (λacc s3=>B_ (C_ X.prog X.w) X.A (Nr sc X.env.globals (uM X.env.cells sc.names []) [] X.env.qual c_ .none (a_ X.env)) (λf s4=>
   Ko (C_ X.prog X.w) X.A (.compStart (.ListComp elt [⟨tg,iter,ifs,0⟩] sc pos) 0 (.ref it) acc {f with scope:=relabel sc X.env}) (λr s'=>(∃fl,r=.ok fl) /\
    ∃(p:e_) (ys:b9) (H2:Hp),acc=.ref p/\A6 X A4 σ (upd H2 p (.lst ys)) s'/\H2 p=c_/\F ys H2/\(∃m,s'.heap.Ns f.locals m)/\(upd H2 p (.lst ys)) f.locals=c_/\f.locals≠X.env.locals /\
     X.s₀.heap.objs.size<=f.locals/\(∀x c,X.env.cells.lookup x=a_ c->c≠f.locals)/\∀q∈X.pn++A4,q.1≠f.locals) s4) E s3) E s:=by
 obtain⟨W,⟨m0,w0⟩,turn⟩:=tr;refine Mx (FK λh1 kp ns hcl=>?_);dsimp only at kp ns hcl ⊢;generalize hH2:s.heap.push {cls:=.type "list",dict:=c_,data:=.seq ([]:ci).toArray}=w at kp ns hcl ⊢;have eL:w.objs.size=s.z+1:=by rw[<- hH2,IW]
 have kp0:∀b o,s.heap.get? b=a_ o->h1.get? b=a_ o:=λb o e=>kp b o (hH2▸l_ _ e);have hD0:h1.PlainList s.z #[]:=⟨_,kp _ _ (hH2▸Cb _ rfl)⟩
 have fpo:∀b∈fp,∃o,s.heap.get? b=a_ o:=λb z=>let ⟨o,e,_⟩:=T.obj 0 _ st b z;⟨o,e⟩;have fpl:∀b∈fp,b<s.z:=λb z=>let ⟨o,e⟩:=fpo b z;u_ e;have sL:s.z<=w.objs.size:=by rw[eL];exact Iq _
 have U:s.z<w.objs.size:=by rw[eL];exact JW _
 have I0:=comp_inv (h1:=h1) I hf fpo ok hk sL kp0 ns hcl;generalize a:bA X N' sc w.objs.size (IL (w.objs.size+1) sc.names (uM X.env.cells sc.names [])) s H fp=Y at I0;have B:Y.prog=X.prog:=by subst a;rfl
 have A:Y.w=X.w:=by subst a;rfl
 have eY3:Y.K=X.K:=by subst a;rfl
 have eY4:Y.calm=d_:=by subst a;exact hc
 have K:Y.A=X.A:=by subst a;rfl
 have l:Y.env={scope:=relabel sc X.env,locals:=w.objs.size,globals:=X.env.globals,cells:=IL (w.objs.size+1) sc.names (uM X.env.cells sc.names []),qual:=X.env.qual,func:=c_,code:=X.env.code,frame:=X.env.frame,builtins:=X.env.builtins}:=by subst a;rfl
 have eY7:Y.xe=λ_ _=>False:=by subst a;rfl
 have eY8:Y.pn=[]:=by subst a;rfl
 have eY9:Y.fs=frs X.stack:=by subst a;rfl
 have N:Y.s₀=s:=by subst a;rfl
 have eY11:Y.H₀=H:=by subst a;rfl
 have eY12:Y.ex=fp:=by subst a;rfl
 have eY13:Y.N=N':=by subst a;rfl
 have hgY:PG Y tg g:=by subst a;exact hg _ _ _ _ _
 have htY:PTs Y ifs tt:=by subst a;exact ht _ _ _ _ _
 have heY:PE Y elt te:=by subst a;exact he _ _ _ _ _
 have lenI:(inS ix σ).length=Y.N.length:=by rw[eY13];unfold inS;rw[A_];exact bV.len ok
 have O:∀(b:e_),b<=w.objs.size->(∀x c,X.env.cells.lookup x=a_ c->c≠b)->∀x c,Y.env.cells.lookup x=a_ c->c≠b:=λb h hx x c e=>by
  rw[l]at e;rcases hcl x c e with q|⟨q,_⟩
  .exact hx x c (GO I ok q).2
  .exact(DF (Nat.lt_of_le_of_lt h (JW _)) q).symm
 have oldc:∀x c,X.env.cells.lookup x=a_ c->c<s.z:=λx c e=>let ⟨v,z⟩:=I.cell x c e;z.lt;have nfs:∀b,s.z<=b->b∉frs X.stack:=λb h z=>by
  rcases t_.mp (I.uc b z)with q|q
  .exact DF I.lt h q.symm
  .exact I.nofs h q
 have fpY:∀(pp:Vp) (H':Hp),(∀b∈fp,H' b=c_)->(∀q∈pp,q.1∉fp)->∀b∈fp,Eu Y pp H' b:=λpp H' hn hq b z=>by
  have hlt:=fpl b z;refine⟨hn b z,?_,?_,.inl bb,O b (KG (Lh hlt U)) ((hf b z).2.2.2.2.1),λq D e=>?_⟩
  .rw[l];exact DF hlt sL
  .rw[eY9];intro hs;rcases t_.mp (I.uc b hs)with q|q
   .exact(hf b z).2.1 q
   .exact(hf b z).2.2.1 q
  .rw[eY8]at D;exact hq q (by simpa using D) (by rw[e];exact z)
 have Dfp:s.z∉fp:=λz=>Ho (fpl _ z) (Ip _);have Dok:∀(pp:Vp) (H':Hp),H' s.z=c_->(∀q∈pp,q.1≠s.z)->Eu Y pp H' s.z:=λpp H' hn hq=>by
  refine⟨hn,?_,by rw[eY9];exact nfs _ (r_ _),.inr (by rw[N];exact r_ _),O _ sL (λx c e=>HC (oldc x c e)),λq D=>?_⟩
  .rw[l];exact HC U
  .rw[eY8]at D;exact hq q (by simpa using D)
 have C:Ko (C_ X.prog X.w) X.A (.compLoop (.ListComp elt [⟨tg,iter,ifs,0⟩] sc pos) 0 (.ref it) (.ref s.z) Y.env) (λr s'=>(∃fl,r=.ok fl) /\
    ∃(p:e_) (ys:b9) (H2:Hp),D_ s.z=.ref p/\A6 X A4 σ (upd H2 p (.lst ys)) s'/\H2 p=c_/\F ys H2/\(∃m,s'.heap.Ns w.objs.size m)/\(upd H2 p (.lst ys)) w.objs.size=c_/\w.objs.size≠X.env.locals /\
     X.s₀.heap.objs.size<=w.objs.size/\(∀x c,X.env.cells.lookup x=a_ c->c≠w.objs.size)/\∀q∈X.pn++A4,q.1≠w.objs.size) {s with heap:=h1}:=by
  refine zf (λn s'=>∃i ys A8 H',A6 Y [] (inS ix σ) H' s'/\tn i s'.heap/\(∀b∈fp,H' b=c_)/\H' s.z=c_/\s'.heap.PlainList s.z A8/\B' ys A8.toList/\W i n ys H') ?_ m0
   ⟨0,[],#[],H,I0,T.keep _ _ _ st λb _ o e=>kp0 b o e,λb z=>(hf b z).1,I.hok.fresh (r_ _),hD0,.nil,w0⟩
  rintro n s3 ⟨i,ys,A8,P,I3,st3,fr3,t,pl3,R,w3⟩;obtain⟨Z,oD⟩:=pl3;have hpD:∀q∈[((s.z:e_),({cls:=.type "list",data:=.seq A8 Z}:Lg))],q.1∉fp:=λq hq=>by have:q=_:=Ik.mp hq;rw[this];exact Dfp
  have I3':A6 Y [((s.z:e_),({cls:=.type "list",data:=.seq A8 Z}:Lg))] (inS ix σ) P s3:=I3.vA λq hq=>by have e:q=_:=Ik.mp hq;obtain⟨d0,d1,d2,_⟩:=Dok [] P t (λ_ z=>nomatch z);rw[e];exact⟨oD,d0,d1,d2,λv z=>by cases z⟩
  rcases turn i n ys P w3 with⟨stop,ln,qn⟩|⟨go,ln,NN,hNN,step⟩
  .have h1:=T.done Y B A eY3 eY4 i _ s3 _ P (λ_ _=>False) I3' (fpY _ P fr3 hpD) st3 stop;rw[K]at h1;refine HU h1 (λr s4 G=>?_) λ_ _ z=>z;obtain⟨hr,I4⟩:=G;subst hr;obtain⟨oD4,hD4,_⟩:=I4.pin ((s.z:e_),({cls:=.type "list",data:=.seq A8 Z}:Lg)) am;refine⟨⟨_,rfl⟩,s.z,ys,P,rfl,?_,t,qn,?_,?_,?_,?_,?_,?_⟩
   .have S:Un (frs X.stack) fp H P s.heap s4.heap:=by
     have:=I4.base;rw[eY9,N,eY11,eY12]at this;exact this
    have hok4:HOk X.prog X.w P s4.heap:=by have:=I4.hok;rw[B,A]at this;exact this
    refine I.call' (ch:=fp) (by have:=I4.os;rw[N]at this;exact this) ⟨S.keep,S.slot,λb o e nn hx=>?_,S.there,λb xs q=>?_,λb o u q=>?_,λb ps q=>?_⟩ (λb u e=>?_) I4.bare (λb h=>?_)
    .rw[aw (HC (u_ e))];exact S.free b o e nn hx
    .rw[aw (aQ (S.tups b xs q) t)];exact S.tups b xs q
    .rw[aw (aQ (S.frzs b o u q) t)];exact S.frzs b o u q
    .obtain⟨more,z⟩:=S.tbls b ps q;exact⟨more,by rw[aw (aQ z t)];exact z⟩
    .by_cases h:b=s.z
     .subst h;rw[au]at e;cases e;exact⟨ln,A8.toList,Z,R,by simpa using oD4⟩
     .rw[aw h]at e;exact(hok4 b u e).zI (λ_ _ _ q=>q) (λc q=>by rw[aw (aQ q t)];exact q) λc xs q=>by rw[aw (aQ q t)];exact q
    .obtain⟨f0,f1,f2,f3,f4,f5⟩:=hf b h;exact⟨f3,f1,f4,f5⟩
   .obtain⟨m,hn,_⟩:=I4.loc;rw[l]at hn;exact⟨m,hn⟩
   .rw[aw (KD U)];have:=I4.free;rw[l]at this;exact this
   .exact KD (Lh I.lt U)
   .exact HB I.sz sL
   .exact λx c e=>DF (oldc x c e) sL
   .exact λq hq=>DF (u_ (I.pin q hq).1) sL
  .have h1:=T.item Y B A eY3 eY4 i _ s3 _ P (λ_ _=>False) I3' (fpY _ P fr3 hpD) st3 go;rw[K]at h1;refine HU h1 (λr s4 G=>?_) λ_ _ z=>z;obtain⟨u,hr,h4⟩:=G;subst hr;refine HU h4 (λ_ s5 G=>?_) λ_ _ z=>z;obtain⟨x,H5,I5,r5,y5,st5,fr5⟩:=G;have I5':=I5.pinned (fpY _ H5 fr5 hpD) (T.obj _ _ st5);have h5:=hgY _ s5 _ H5 x u _ I5' r5 (hkeep x _ H5 _ (step x H5 y5));rw[B,A,K,eY7]at h5;refine HU h5 (λ_ s6 G=>?_) λ_ _ z=>z;obtain⟨σ6,H6,I6,q6,k6⟩:=G;have h6:=htY _ s6 σ6 H6 _ I6 q6;rw[B,A,K,eY7]at h6;refine HU h6 (λb s7 G=>?_) λ_ _ z=>z;obtain⟨H7,I7,q7⟩:=G;have back:∀{s8:v_} {H8:Hp},A6 Y ([((s.z:e_),({cls:=.type "list",data:=.seq A8 Z}:Lg))]++yi fp s5.heap) σ6 H8 s8->A6 Y [] (inS ix σ) H8 s8/\tn (i+1) s8.heap/\(∀b∈fp,H8 b=c_)/\H8 s.z=c_/\s8.heap.get? s.z=a_ {cls:=.type "list",data:=.seq A8 Z}:=λ{s8 H8} I8=>by
    obtain⟨a1,a2,_⟩:=I8.pin ((s.z:e_),({cls:=.type "list",data:=.seq A8 Z}:Lg)) am;refine⟨(I8.vA (pins':=[]) λ_ z=>nomatch z).slots0 (λk v e=>?_) lenI,T.keep _ _ _ st5 λb h o e=>(I8.pin (b,o) (Ib _ (Ib _ (lr h e)))).1,λb h=>?_,a2,a1⟩
    .refine k6 k v e ?_;unfold inS at e;rw[HJ]at e;cases e2:ix[k]? with
     |none=>rw[e2]at e;cases e|some o=>
      cases o with
      |none=>rw[e2]at e;cases e|some j=>exact⟨j,rfl⟩
    .obtain⟨o,e,d⟩:=T.obj _ _ st5 b h;exact(I8.pin (b,o) (Ib _ (Ib _ (lr h e)))).2.1
   cases b with
   |false=>rw[k_ II]at q7 ⊢;obtain⟨m',hm,w7⟩:=hNN _ _ q7;obtain⟨b1,b2,b3,b4,b5⟩:=back I7;exact⟨m',hm,i+1,ys,A8,H7,b1,b2,b3,b4,⟨Z,b5⟩,R,w7⟩
   |true=>
    rw[f_ rfl]at q7 ⊢;have h7:=heY _ s7 σ6 H7 _ I7 q7;rw[B,A,K,eY7,l]at h7;rw[l];refine HU h7 (λuu s8 G=>?_) λ_ _ z=>z;obtain⟨y,H8,I8,r8,q8⟩:=G;obtain⟨m',hm,w8⟩:=hNN _ _ q8;obtain⟨b1,b2,b3,b4,b5⟩:=back I8;have ez:A8.size<=h_:=by
     have h1:=R.length;have h2:A8.toList.length=A8.size:=by simp
     lia
    refine wpAny_list_append_plain (hsz:=ez) ⟨Z,b5⟩ λh9 pl9 sb9=>?_;obtain⟨d0,d1,d2,d3,d4,d5⟩:=Dok [] H8 b4 (λ_ z=>nomatch z);refine⟨m',hm,i+1,ys++[y],A8.push uu,H8,b1.turned (t':=s8.toks) (λb o h e=>(sb9.2 b h).trans e) d0 d1 d3 d4 d5,T.keep _ _ _ b2 λb h o e=>(sb9.2 b ?_).trans e,b3,b4,pl9,?_,w8⟩
    .exact DF (fpl b h) (r_ _)
    .rw[Array.toList_push];exact R.append (.cons r8 .nil)
 rw[l]at C;exact codeAny_compStart_list C (T.self X.A 0 _ _ _ (T.keep _ _ _ st λb _ o e=>kp0 b o e) C)
end
def tComp(wi:TI)(ix:List (Option Nat))(g:TG)(tt:TT)(te:TE):TE:=λσ H Q=>wi σ H λJ H1=>o7 J ix g tt te σ (λys H2=>∀p,H2 p=c_->Q (.ref p) (upd H2 p (.lst ys))) H1
def sE(ix:List (Option Nat))(g:TG):Prop:=∀x σ' H' (Q:St->Hp->Prop),g x σ' H' Q->g x σ' H' λI H2=>Q I H2/\∀(i:Nat) v,σ'[i]?=a_ (a_ v)->(∃j,ix[i]?=a_ (a_ j))->I[i]?=a_ (a_ v)
def aH{k:Nat}(h:ix[k]?=a_ c_):sE ix (cK k):=λx σ' H' Q q=>⟨q,λi v e ⟨j,I⟩=>by
 have:k≠i:=by rintro rfl;rw[h]at I;cases I
 rw[p_ this];exact e⟩
section
variable{N':List m_}{wi:TI}{g:TG}
def An(N':b8)(ix:List (Option Nat))(B:X.calm=d_)(hi:PI X tg iter wi)(z:∀L cs s H fp,PG (bA X N' sc L cs s H fp) tg g)(y:sE ix g)(l:∀L cs s H fp,PTs (bA X N' sc L cs s H fp) ifs tt)(A:∀L cs s H fp,PE (bA X N' sc L cs s H fp) elt te)(a: ~~~(bV X.N X.env.scope N' sc ix=d_))(c: ~~~(sc.kind=.function))(n:autoParam (∀x,Jo iter X.env x=IQ x) Jq4):
  PE X (.ListComp elt [⟨tg,iter,ifs,0⟩] sc pos) (tComp wi ix g tt te):=by
 intro A4 s σ H Q I h;rw[eval_ListComp];refine NW (use:=c_) rfl n (uK (sr I a)) c (bV.loc a) (C6 (hi A4 s σ H _ I h) λv s1 h1=>C6 h1 λk s2 h2=>?_);obtain⟨it,fp,U,J,H2,e,S,T,Y,f2,f⟩:=h2;subst e;refine C6 (ze B S T Y f2 a c z y l A f) λP Z E=>C6 E λd W D=>Jp D λr j t=>?_;obtain⟨⟨fl,e1⟩,p,ys,H5,e2,R,u,q,⟨m,w⟩,O,N,K,G,F⟩:=t;subst e1;subst e2;exact⟨m,w,λh' i=>⟨.ref p,_,R.turned (t':=j.toks) (λb o C e=>(i.2 b C).trans e) O N (.inr K) G F,rfl,q p u⟩⟩
def tSetComp(j:Nat)(wi:TI)(ix:List (Option Nat))(g:TG)(tt:TT)(te:TE):TS:=λD σ H=>wi σ H λJ H1=>o7 J ix g tt te σ (λys H2=>∀p,H2 p=c_->D.nx (σ.set j (a_ (.ref p))) (upd H2 p (.lst ys))) H1
def uo(N':b8)(ix:List (Option Nat)){j:Nat}{y:m_}(hN:X.N.Nodup)(R:X.N[j]?=a_ y)(l:X.env.scope.names.lookup y=a_ .local)(W:X.calm=d_)(hi:PI X tg iter wi)(S:∀L cs s H fp,PG (bA X N' sc L cs s H fp) tg g)(P:sE ix g)(F:∀L cs s H fp,PTs (bA X N' sc L cs s H fp) ifs tt)(U:∀L cs s H fp,PE (bA X N' sc L cs s H fp) elt te)(i: ~~~(Jb (.ListComp elt [⟨tg,iter,ifs,0⟩] sc pos) (a_ (.Name y py)) spos.line X.env=IQ d_))(f: ~~~(bV X.N X.env.scope N' sc ix=d_))(n: ~~~(sc.kind=.function))(G:autoParam (∀x,Jo iter X.env x=IQ x) Jq4):
  PS X (.Assign [.Name y py] (.ListComp elt [⟨tg,iter,ifs,0⟩] sc pos) spos) (tSetComp j wi ix g tt te):=by
 intro A4 s σ H D I h;rw[exec_Assign_Name_used _ _ _ _ i];refine g_ (Ky (g_ ?_));show B_ _ X.A (do let _ <- comprehension (.ListComp elt [⟨tg,iter,ifs,0⟩] sc pos) sc X.env _ (newList []) b_ (Hv iter X.env) (a_ (K3 (.Name y py) X.env))) _ _ s;refine g_ (HU (NW (use:=a_ (K3 (.Name y py) X.env)) (Q:=λ_ s'=>SP X A4 D .next s') rfl G (uK (sr I f)) n (bV.loc f) (C6 (hi A4 s σ H _ I h) λv s1 h1=>C6 h1 λE s2 h2=>?_)) (λ_ s' N=>y_ (y_ N)) λ_ _ z=>z);obtain⟨it,fp,tn,J,H2,e,I2,T,c,f2,w⟩:=h2;subst e;refine C6 (ze W I2 T c f2 f n S P F U w) λacc s3 h3=>C6 h3 λY s4 h4=>Jp h4 λr C K=>?_;obtain⟨⟨fl,e1⟩,p,ys,H5,e2,I5,k,q,⟨m,O⟩,c0,u,c2,t,c4⟩:=K;subst e1;subst e2;show B_ _ X.A (K3 (.Name y py) X.env (.ref p)) _ _ C;refine Px (xA (v:=.ref p) I5 hN R (.inl l) rfl (λB I6 k=>?_) (.inr l));obtain⟨a,A,ha⟩:=k;have ea:Y.locals≠a:=by
  rcases ha with z|z
  .rw[z];exact u
  .exact λe=>t y a z e.symm
 refine⟨m,O.sameBut A ea,λh' d=>?_⟩
 exact⟨_,_,I6.turned (t':=B.toks) (λb o Z e=>(d.2 b Z).trans e) c0 u (.inr c2) t c4,q p k⟩
end
theorem zd{xs:b9}{g:TG}{F:b9->Hp->Prop}(I:Nat->b9->Hp->Prop)(l:I 0 [] H)(k:∀i ys H,i<=xs.length->I i ys H->SqL K H a xs/\ys.length<=h_)(j:∀i x ys H,xs[i]?=a_ x->I i ys H->g x (inS ix σ) H λY H2=>tt Y H2 λb d=>if b=d_ then te Y d λy n=>I (i+1) (ys++[y]) n else I (i+1) ys d)(hd:∀ys H,I xs.length ys H->F ys H):o7 (Itl K a) ix g tt te σ F H:=by
 refine⟨λi m ys H=>m=xs.length-i/\i<=xs.length/\I i ys H,⟨xs.length,am,HX _,l⟩,?_⟩
 rintro i m ys H ⟨rfl,hi,p⟩;obtain⟨q,z⟩:=k i ys H hi p;by_cases c:i<xs.length
 .refine .inr ⟨⟨xs,xs[i],q,am⟩,z,I (i+1),λf H' h=>⟨xs.length-(i+1),ad,rfl,c,h⟩,λx H' y=>?_⟩;obtain⟨e,y⟩:=y;subst e;exact j i x ys _ (y xs q) p
 .have e:i=xs.length:=ad
  subst e;exact .inl ⟨⟨xs,q,r_ _⟩,z,hd ys H p⟩
theorem CG:∀{bs:List Bool} {us:ci},B' (bs.map V.bl) us->LSm.BoolsAre us bs
 |[],_,.nil=>.nil|b::r,_,.cons e t=>by cases e;exact .cons b (CG t)
def call_all(m:X.calm=d_):fj X (.builtin "all") (λxs H Q=>∃(a:e_) (bs:List Bool),xs=[.ref a]/\SqL X.K H a (bs.map V.bl)/\Q (.bl (bs.all id)) H):=by
 intro A4 s σ H xs us Q I r h;obtain⟨a,bs,rfl,k,q⟩:=h;obtain⟨u,rfl,j⟩:=r.one;cases j;obtain⟨A8,g,p,o⟩:=I.list k;have d:=CG g;have c:=p.isList;have Y:a<s.z:=by obtain⟨_,e,_⟩:=c;exact u_ e
 refine call_all_walk (Km c ?_);refine⟨s.z,[s.z,a],[s.z],A8.toArray.size,_,_,λi=>(bs[i]?).getD d_,rfl,Walks.list (A:=X.A.in1) (I.ok.hd m) _ a (HC Y) A8.toArray,
  ⟨⟨_,Cb _ rfl,rfl,rfl⟩,c.push _⟩,λi v s' t w n f=>?_,λh' tk l=>?_⟩
 .obtain⟨b,e,rfl⟩:=d.get i v (by simpa using n);simp only[e,Oo]at f;exact Ij f
 .have e:((Iw A8.toArray.size).all λi=>(bs[i]?).getD d_)=bs.all id:=by
   rw[HI,d.length];exact LSm.range_all bs
  rw[e];exact⟨.bl (bs.all id),H,I.kept (LSm.kept_iter l),rfl,q⟩
def B'.atA{xs:b9}(r:B' xs us){j:Nat}(h:j<us.toArray.size):∃x,xs[j]?=a_ x/\A' x us.toArray[j]:=by
 have I:=r.length;have Y:j<xs.length:=by rw[I];simpa using h
 obtain⟨u,e1,e2⟩:=r.get (i:=j) (x:=xs[j]) am;refine⟨xs[j],by simp[Y],?_⟩
 have:us.toArray[j]=u:=by
  have h':j<us.length:=by simpa using h
  rw[HA h']at e1;simpa using Hz e1
 rw[this];exact e2
def pe_tyN(a:Gl X x)(Y:X.mg x=c_)(hv:Jh x=a_ (.type T))(I:(x≠"__name__")⁻¹)(hd:((x==("__debug__":m_))=b_)⁻¹):PE X (.Name x pos) (tC (.ty T)):=pe_bltn (v:=.ty T) a Y hv rfl I hd
def pe_gint{n:Int}(Y:Gl X x)(I:∃t,X.mg x=a_ (.int n t))(hd:((x==("__debug__":m_))=b_)⁻¹):PE X (.Name x pos) (tC (.int n)):=by obtain⟨t,e⟩:=I;exact vC (v:=.int n) Y e ⟨t,rfl⟩ hd
section
variable{base:H_}
theorem Fun.okX{ps:b8}{k:Nat}(F:Fun K x qual st f fd)(S:gM N ps (aK st))(Y:∀vs H Q E,sp vs H Q E->vs.length=ps.length)(I:∀(cdv:j_) (A:JK) (outer:List LY) (s:v_) (H:Hp) (vs:b9) (Q:VK) (E:XK),iu k (A.deeper (JS qual (aK st) s.heap.objs.size f cdv))->sp vs H Q E ->
   ∃t,PSs (Bb CX P w K mg base N qual (aK st) f cdv A outer s H E).nox (bY st) t/\t {nx:=λ_ H'=>Q .non H',rt:=Q} (start N vs) H):iS P w K mg base CX (k+1) f fd ps sp:=by
 obtain⟨oc,od,kV,doc,pm,an,cdv,ct,osl,rfl,c,b⟩:=F.ex;refine fn_of c b S Y λA outer s H vs Q E d a=>?_;obtain⟨t,h,q⟩:=I cdv A outer s H vs Q E d a;exact⟨t,h.nox,q⟩
structure Def(K:Pn)(mg:Ld)(x:m_)(st:Ia)(ps:b8)(f:e_)(fd:Je):Prop where
 fn:Fun K x x st f fd
 mg:mg x=a_ (.ref f)
 bd:Binds K fd ps []
def def_of(Y:K.In h)(G:h.Ns HG mg){ps:b8}{an:Option e_}{kV:j_}(a:OY K HG x=a_ (a_ (.ref f)))(l:K.lookup f=a_ ⟨oc,od,.func (Ma x x (eu st) (bY st) (aK st) .none kV doc pm an cdv ct),osl⟩)(c:MV K cdv x=d_)(k:Ju K (.ref f)=d_)(I:∀(kV doc pm:j_) (an:Option e_) (cdv ct:j_) (us:ci),us.length=ps.length->LP (Ma x x (eu st) (bY st) (aK st) .none kV doc pm an cdv ct) ⟨us,[]⟩=IQ (ps.zip us)):
  Def K mg x st ps f (Ma x x (eu st) (bY st) (aK st) .none kV doc pm an cdv ct):=
 ⟨Ck l c k,mg_of Y G a,(Ck l c k).binds I⟩
structure Mth(K:Pn)(C:e_)(x qual:m_)(st:Ia)(ps:b8)(f:e_)(fd:Je):Prop where
 fn:Fun K x qual st f fd
 mt:Meth K C x f
 bd:Binds K fd ps []
def mth_of{ps:b8}{an:Option e_}{kV:j_}(a:Hq K (.ref C) x=a_ (a_ (.ref f)))(i:isFn K (.ref f)=d_)(l:K.lookup f=a_ ⟨oc,od,.func (Ma x qual (eu st) (bY st) (aK st) .none kV doc pm an cdv ct),osl⟩)(c:MV K cdv qual=d_)(k:Ju K (.ref f)=d_)(I:∀(kV doc pm:j_) (an:Option e_) (cdv ct:j_) (us:ci),us.length=ps.length->LP (Ma x qual (eu st) (bY st) (aK st) .none kV doc pm an cdv ct) ⟨us,[]⟩=IQ (ps.zip us)):
  Mth K C x qual st ps f (Ma x qual (eu st) (bY st) (aK st) .none kV doc pm an cdv ct):=
 ⟨Ck l c k,⟨a,i,k⟩,(Ck l c k).binds I⟩
structure Kls(K:Pn)(mg:Ld)(x:m_)(C:e_):Prop where
 cl:Cls K C
 mg:mg x=a_ (.ref C)
 mks:OA K C=d_
 kp:Ju K (.ref C)=d_
 c1:Hq K (.ref C) "__class__"=a_ (a_ (.builtin "object.__class__"))
 c2:LX K (.builtin "object.__class__") "__get__"=a_ (a_ (.builtin "getset_descriptor.__get__"))
 c3:PL K (.builtin "object.__class__")=a_ d_
 c4:JI K C (.type "object")=a_ d_
def Kls.ty{fs:List (m_×V)}(k:Kls K mg x C)(e:H a=a_ (.ins C dx fs)):Ek K H (.ref a) (.ref C):=.ins e k.cl k.c1 k.c2 k.c3 k.c4
def kls_of(i:K.In h)(G:h.Ns HG mg)(a:OY K HG x=a_ (a_ (.ref C)))(b:MD K C Jw=d_)(hd:JN K C=d_)(Y:Oi K C=d_)(I:Hq K (.ref C) "__setattr__"=a_ (a_ (.builtin "object.__setattr__")))(mk:OA K C=d_)(c:Ju K (.ref C)=d_)(g:Hq K (.ref C) "__class__"=a_ (a_ (.builtin "object.__class__")))(f:LX K (.builtin "object.__class__") "__get__"=a_ (a_ (.builtin "getset_descriptor.__get__")))(e:PL K (.builtin "object.__class__")=a_ d_)(d:JI K C (.type "object")=a_ d_):Kls K mg x C:=
 ⟨⟨b,hd,Y,I⟩,mg_of i G a,mk,c,g,f,e,d⟩
end
def pg_c{N':b8}(a:N'.Nodup)(hi:N'[i]?=a_ x)(I:Loc (bA X N' sc L cs s H fp).env.scope x)(Y:autoParam ((bA X N' sc L cs s H fp).fn x=d_\/(bA X N' sc L cs s H fp).env.scope.names.lookup x=a_ .local) Jq3):PG (bA X N' sc L cs s H fp) (.Name x pos) (cK i):=dJ a hi I Y
structure Grid(H:Hp)(a:e_)(as:List e_)(rows:List cc):Prop where
 top:H a=a_ (.lst (as.map V.ref))
 len:as.length=rows.length
 row:∀(i:Nat) (b:e_) (r:cc),as[i]?=a_ b->rows[i]?=a_ r->H b=a_ (.lst (r.map V.int))
def Grid.same(g:Grid H a as rows)(h:aM H H'):Grid H' a as rows:=
 ⟨h _ _ g.top,g.len,λi b r e1 e2=>h _ _ (g.row i b r e1 e2)⟩
theorem aM.upd{H:Hp}{a:e_}{o:HO}(h:H a=c_):aM H (upd H a o):=λb u e=>by rw[aw (aQ e h)];exact e
section
variable{k:Nat}{ps:List m_}{ds:List j_}{t:TA}{mc:j_}
structure Stat(K:Pn)(C:e_)(mc:j_)(m:m_)(f:e_):Prop where
 s1:LX K (.ref C) "__getattribute__"=a_ (a_ (.builtin "type.__getattribute__"))
 s2:Oh K C mc=d_
 s3:Oj K (.ref C) mc m=a_ (.val (.ref f))
 s4:Ju K (.ref f)=d_
def pe_cmeth(S:Stat X.K C mc m f)(q:Gl X x)(o:X.mg x=a_ (.ref C))(F:iS X.prog X.w X.K X.mg X.base CX k f fd ps sp)(l:iu k X.A)(u:Binds X.K fd ps ds)(hd:B' dvs ds)(i:Passes CX X E)(v:PA X (e::es) t)(b:((x==("__debug__":m_))=b_)⁻¹)(Y: ~~~(i_ (e::es) X.env=(b_,Hv e X.env)::i_ es X.env))(a: ~~~((HQ pos (i_ es X.env)).any (·.1)=b_))(j: ~~~(Hv (.Call (.Attribute (.Name x p) m apos) (e::es) [] pos) X.env=(do
   let c <- Hv (.Name x p) X.env
   My apos.atName
   let (f,first) <- KU [c] (MS c m pl)
   Nu pos f first (HQ pos (i_ (e::es) X.env)) (JH pos (IK [] X.env))))):
  PE X (.Call (.Attribute (.Name x p) m apos) (e::es) [] pos) (ia sp dvs E t):=by
 intro A4 s σ H Q I h;refine M3 (pl:=pl) (jS I q o ?_ b) j;refine PySem.W.method_cls I.kIn S.s1 (PySem.W.cls_value I.kIn S.s2 S.s3 rfl ?_);refine Mo (first:=[]) (h₀:=X.base) I.ok.mod.kin S.s4 (C6 (v pos A4 _ σ H _ (I.tok (s.toks+1)) h) λus w n=>?_) Y a;obtain⟨vs,H2,d,r,g⟩:=n;refine⟨d.kIn,?_⟩
 exact Fb (us:=us) (vs:=vs) F l u hd i d r g
end
def Keeps(S:e_->Prop)(H H':Hp):Prop:=∀b o,H b=a_ o->¬S b->H' b=a_ o
def Keeps.same(k:Keeps S H H1)(s:aM H1 H2):Keeps S H H2:=λb o e n=>s b o (k b o e n)
def Grid.keeps(g:Grid H a as rows)(k:Keeps S H H')(h1:¬S a)(h2:∀x∈as,¬S x):Grid H' a as rows:=
 ⟨k _ _ g.top h1,g.len,λi b r e1 e2=>k _ _ (g.row i b r e1 e2) (h2 b (HS e1))⟩
section
variable{a:Ii}
def EN(r r' I:R2)(ta tb tc td:TE):TE:=λσ H Q=>ta σ H λx H1=>tb σ H1 λy H2=>r x y H2 λz c=>∃k,z=.bl k /\
 (if k=d_ then tc σ c λY g=>r' y Y g λd b=>∃a,d=.bl a/\(if a=d_ then td σ b λe f=>I Y e f Q else Q (.bl b_) b)else Q (.bl b_) c)
def aM.tup{a:e_}{xs:b9}(e:aM H H')(h:SqT K H a xs):SqT K H' a xs:=by
 rcases h with(h|⟨o,h⟩)|h
 .exact .inl (.inl (e _ _ h))
 .exact .inl (.inr ⟨o,e _ _ h⟩)
 .exact .inr h
end
def jH{xs:b9}(h:H a=a_ (.lst xs)):tyV K "list" (.ref a) H:=.inl ⟨rfl,_,SqL.of h⟩
set_option genSizeOf true in
set_option genInjectivity true in
inductive A3 where
 |non|bl (b:Bool)|int (i:Int)|str (x:m_)|tup (ds:List A3)|lst (ds:List A3)|ins (C:e_) (fs:List (m_×A3))|dic (ks:List (List Int×A3))|dil (ks:List (Int×List (List Int)))
abbrev bv:=List A3
variable{r:Bool×List A3}{d' d1 d2:A3}{ds' ws:List A3}{ks:List (List Int×A3)}
noncomputable abbrev om:=cc×e_×V
noncomputable def tHash(ks:cc):Int:=Pe (JU (ks.map hashInt))
def rowE(x:cc×e_×j_):Om:=⟨tHash x.1,.ref x.2.1,x.2.2⟩
def oi(p:om)(q:cc×e_×j_):Prop:=p.1=q.1/\p.2.1=q.2.1/\A' p.2.2 q.2.2
def oU(h:H_)(a:e_)(xs:List om)(ep:Nat):Prop:=∃vs:List (cc×e_×j_),Kq oi xs vs/\(a==Ir)=b_/\xs.length<=h_/\(vs.map (·.1)).Nodup/\∃o es,h.get? a=a_ o/\o.ExactDict/\o.data=.dict es ep/\es.toList=vs.map rowE
noncomputable def zx(a:e_)(xs:List om)(ep:Nat):HO:=.ext λh=>oU h a xs ep
noncomputable abbrev LK:=Int×List cc
def lHash(k:LK):Int:=Pe (JU [hashInt k.1,Pe (JU (k.2.map tHash))])
def rowL(x:LK×e_):Om:=⟨lHash x.1,.ref x.2,.bool d_⟩
def DilOk(h:H_)(a:e_)(xs:List (LK×e_))(ep:Nat):Prop:=(a==Ir)=b_/\xs.length<=h_/\(xs.map (·.1)).Nodup/\∃o es,h.get? a=a_ o/\o.ExactDict/\o.data=.dict es ep/\es.toList=xs.map rowL
noncomputable def DilO(a:e_)(xs:List (LK×e_))(ep:Nat):HO:=.ext λh=>DilOk h a xs ep
def LabAt(K:Pn)(F:Hp)(b:e_)(k:LK):Prop:=∃(r:e_) (bs:List e_),SqT K F b [V.int k.1,V.ref r]/\SqT K F r (bs.map V.ref)/\bs.length=k.2.length/\∀(j:Nat) (I:cc) (c:e_),k.2[j]?=a_ I->bs[j]?=a_ c->SqT K F c (I.map V.int)
def Em(K:Pn)(F:Hp)(ks:List LK)(xs:List (LK×e_)):Prop:=xs.map (·.1)=ks/\∀x∈xs,LabAt K F x.2 x.1
mutual
noncomputable def aU(K:Pn)(F:Hp):A3->V->Prop
 |.non,v=>v=.non|.bl b,v=>v=.bl b|.int i,v=>v=.int i|.str x,v=>v=.str x|.tup ds,v=>∃a xs,v=.ref a/\SqT K F a xs/\aD K F ds xs
 |.lst ds,v=>∃a xs,v=.ref a/\SqL K F a xs/\aD K F ds xs
 |.ins C gs,v=>∃a dx fs,v=.ref a/\F a=a_ (.ins C dx fs)/\jD K F gs fs
 |.dic ks,v=>∃a xs,v=.ref a/\(∃ep,F a=a_ (zx a xs ep))/\dG K F ks xs
 |.dil ks,v=>∃a xs,v=.ref a/\(∃ep,F a=a_ (DilO a xs ep))/\Em K F ks xs
noncomputable def aD(K:Pn)(F:Hp):bv->b9->Prop
 |[],xs=>xs=[]|d::ds,xs=>∃v vs,xs=v::vs/\aU K F d v/\aD K F ds vs
noncomputable def jD(K:Pn)(F:Hp):List (m_×A3)->List (m_×V)->Prop
 |[],fs=>fs=[]|(f,d)::gs,fs=>∃v r,fs=(f,v)::r/\aU K F d v/\jD K F gs r
noncomputable def dG(K:Pn)(F:Hp):List (cc×A3)->List om->Prop
 |[],xs=>xs=[]|(k,d)::ks,xs=>∃b v r,xs=(k,b,v)::r/\SqT K F b (k.map .int)/\aU K F d v/\dG K F ks r
end
mutual
noncomputable def ik:A3->Bool
 |.tup ds=>uG ds|.lst _=>b_|.ins _ _=>b_|.dic _=>b_|.dil _=>b_|_=>d_
noncomputable def uG:bv->Bool
 |[]=>d_|d::ds=>ik d&&uG ds
end
def aM.lst{xs:b9}(e:aM H H')(h:SqL K H a xs):SqL K H' a xs:=by
 rcases h with(h|⟨o,h⟩)|h
 .exact .inl (.inl (e _ _ h))
 .exact .inl (.inr ⟨o,e _ _ h⟩)
 .exact .inr h
def LabAt.mono(s:aM F F'){k:LK}(h:LabAt K F b k):LabAt K F' b k:=
 let ⟨r,bs,t1,t2,l,t3⟩:=h;⟨r,bs,s.tup t1,s.tup t2,l,λj I c e1 e2=>s.tup (t3 j I c e1 e2)⟩
theorem Em.mono{K:Pn}{F F':Hp}(s:aM F F'){ks:List LK}{xs:List (LK×e_)}(h:Em K F ks xs):Em K F' ks xs:=⟨h.1,λx I=>(h.2 x I).mono s⟩
mutual
theorem aU.mono{K:Pn}{F F':Hp}(s:aM F F'):∀{d:A3} {v:V},aU K F d v->aU K F' d v
 |.non,_,h=>h|.bl _,_,h=>h|.int _,_,h=>h|.str _,_,h=>h|.tup _,_,⟨a,xs,e,q,r⟩=>⟨a,xs,e,s.tup q,aD.mono s r⟩|.lst _,_,⟨a,xs,e,q,r⟩=>⟨a,xs,e,s.lst q,aD.mono s r⟩|.ins _ _,_,⟨a,dx,fs,e,q,r⟩=>⟨a,dx,fs,e,s _ _ q,jD.mono s r⟩|.dic _,_,⟨a,xs,e,⟨ep,q⟩,r⟩=>⟨a,xs,e,⟨ep,s _ _ q⟩,dG.mono s r⟩|.dil _,_,⟨a,xs,e,⟨ep,q⟩,r⟩=>⟨a,xs,e,⟨ep,s _ _ q⟩,Em.mono s r⟩
theorem aD.mono{K:Pn}{F F':Hp}(s:aM F F'):∀{ds:bv} {xs:b9},aD K F ds xs->aD K F' ds xs
 |[],_,h=>h|_::_,_,⟨v,vs,e,q,r⟩=>⟨v,vs,e,aU.mono s q,aD.mono s r⟩
theorem jD.mono{K:Pn}{F F':Hp}(s:aM F F'):∀{gs:List (m_×A3)} {fs:List (m_×V)},jD K F gs fs->jD K F' gs fs
 |[],_,h=>h|(_,_)::_,_,⟨v,r,e,q,t⟩=>⟨v,r,e,aU.mono s q,jD.mono s t⟩
theorem dG.mono{K:Pn}{F F':Hp}(s:aM F F'):∀{ks:List (cc×A3)} {xs:List om},dG K F ks xs->dG K F' ks xs
 |[],_,h=>h|(_,_)::_,_,⟨b,v,r,e,t,q,z⟩=>⟨b,v,r,e,s.tup t,aU.mono s q,dG.mono s z⟩
end
mutual
theorem aU.flat{K:Pn}{F F':Hp}(s:∀a xs,SqT K F a xs->SqT K F' a xs):∀{d:A3} {v:V},ik d=d_->aU K F d v->aU K F' d v
 |.non,_,_,h=>h|.bl _,_,_,h=>h|.int _,_,_,h=>h|.str _,_,_,h=>h|.tup ds,_,f,⟨a,xs,e,q,r⟩=>⟨a,xs,e,s _ _ q,aD.flat s (by simpa[ik] using f) r⟩|.lst _,_,f,_=>by simp_all[ik]|.ins _ _,_,f,_=>by simp_all[ik]|.dic _,_,f,_=>by simp_all[ik]|.dil _,_,f,_=>by simp_all[ik]
theorem aD.flat{K:Pn}{F F':Hp}(s:∀a xs,SqT K F a xs->SqT K F' a xs):∀{ds:bv} {xs:b9},uG ds=d_->aD K F ds xs->aD K F' ds xs
 |[],_,_,h=>h|d::ds,_,f,⟨v,vs,e,q,r⟩=>by simp only[uG,o_]at f;exact⟨v,vs,e,aU.flat s f.1 q,aD.flat s f.2 r⟩
end
theorem aD.length{K:Pn}{F:Hp}:∀{ds:bv} {xs:b9},aD K F ds xs->xs.length=ds.length
 |[],_,h=>by rw[show _=[]from h];rfl|_::_,_,⟨_,_,e,_,r⟩=>by rw[e,Hl,Hl,aD.length r]
theorem aD.get{K:Pn}{F:Hp}:∀{ds:bv} {xs:b9} {i:Nat} {d:A3},aD K F ds xs->ds[i]?=a_ d->∃v,xs[i]?=a_ v/\aU K F d v
 |[],_,_,_,_,e=>by simp at e|_::_,_,0,_,⟨v,vs,e,q,_⟩,h=>by simp only[Nd,M7]at h;subst h e;exact⟨v,rfl,q⟩|_::_,_,i+1,_,⟨v,vs,e,_,r⟩,h=>by subst e;simp only[J_]at h ⊢;exact aD.get r h
theorem aD.at{K:Pn}{F:Hp}{ds:bv}{xs:b9}{i:Nat}{v:V}(r:aD K F ds xs)(h:xs[i]?=a_ v):∃d,ds[i]?=a_ d/\aU K F d v:=by
 have hi:i<ds.length:=by rw[<- r.length];exact(s_.mp h).1
 obtain⟨w,e,q⟩:=r.get (i:=i) (d:=ds[i]) am;simp_all
def aD.cons{d:A3}{ds:bv}{xs:b9}(q:aU K F d v)(r:aD K F ds xs):aD K F (d::ds) (v::xs):=⟨v,xs,rfl,q,r⟩
theorem aD.append{K:Pn}{F:Hp}:∀{ds es:bv} {xs ys:b9},aD K F ds xs->aD K F es ys->aD K F (ds++es) (xs++ys)
 |[],_,_,_,h,r=>by rw[show _=[]from h];exact r|_::_,_,_,_,⟨v,vs,e,q,t⟩,r=>by subst e;exact⟨v,_,rfl,q,aD.append t r⟩
theorem aD.take{K:Pn}{F:Hp}:∀{ds:bv} {xs:b9} (n:Nat),aD K F ds xs->aD K F (ds.take n) (xs.take n)
 |_,_,0,_=>rfl|[],_,_+1,h=>by rw[show _=[]from h];rfl|_::_,_,n+1,⟨v,vs,e,q,r⟩=>by subst e;exact⟨v,_,rfl,q,aD.take n r⟩
theorem aD.drop{K:Pn}{F:Hp}:∀{ds:bv} {xs:b9} (n:Nat),aD K F ds xs->aD K F (ds.drop n) (xs.drop n)
 |_,_,0,h=>h|[],_,_+1,h=>by rw[show _=[]from h];rfl|_::_,_,n+1,⟨v,vs,e,q,r⟩=>by subst e;exact aD.drop n r
theorem aD.set{K:Pn}{F:Hp}{d:A3}{v:V}(q:aU K F d v):∀{ds:bv} {xs:b9} (n:Nat),aD K F ds xs->aD K F (ds.set n d) (xs.set n v)
 |[],_,_,h=>by rw[show _=[]from h];rfl|_::_,_,0,⟨w,vs,e,_,r⟩=>by subst e;exact⟨v,_,rfl,q,r⟩|_::_,_,n+1,⟨w,vs,e,p,r⟩=>by subst e;exact⟨w,_,rfl,p,aD.set q n r⟩
theorem aD.reverse{K:Pn}{F:Hp}:∀{ds:bv} {xs:b9},aD K F ds xs->aD K F ds.reverse xs.reverse
 |[],_,h=>by rw[show _=[]from h];rfl|_::_,_,⟨w,vs,e,p,r⟩=>by subst e;rw[KZ,KZ];exact aD.append (aD.reverse r) ⟨w,[],rfl,p,rfl⟩
structure A5(F H F' H':Hp):Prop where
 ff:aM F F'
 hh:aM H H'
 fh:aM F' H'
 nw:∀b o,F' b=a_ o->F b=a_ o\/H b=c_
theorem A5.refl{F H:Hp}(s:aM F H):A5 F H F H:=⟨aM.refl _,aM.refl _,s,λ_ _ h=>.inl h⟩
theorem A5.trans{F H F1 H1 F2 H2:Hp}(a:A5 F H F1 H1)(b:A5 F1 H1 F2 H2):A5 F H F2 H2:=
 ⟨a.ff.trans b.ff,a.hh.trans b.hh,b.fh,λx o h=>(b.nw x o h).elim (λz=>a.nw x o z) λz=>.inr (a.hh.free z)⟩
theorem A5.lay{p:e_}(s:aM F H)(I:H p=c_):A5 F H (upd F p o) (upd H p o):=
 ⟨aM.upd (s.free I),aM.upd I,λb u h=>by
  by_cases e:b=p
  .simp_all[au]
  .rw[aw e]at h ⊢;exact s b u h,λb u h=>by
  by_cases e:b=p
  .subst e;exact .inr I
  .rw[aw e]at h;exact .inl h⟩
def A5.grow{p:e_}(s:aM F H)(I:H p=c_):A5 F H F (upd H p o):=
 ⟨aM.refl _,aM.upd I,s.trans (aM.upd I),λ_ _ h=>.inl h⟩
def A5.same(s:aM F H)(h:aM H H'):A5 F H F H':=⟨aM.refl _,h,s.trans h,λ_ _ z=>.inl z⟩
def mL(K:Pn)(F H0 H:Hp):A3->V->Prop
 |.lst ds,v=>∃a xs,v=.ref a/\H a=a_ (.lst xs)/\F a=c_/\H0 a=c_/\aD K F ds xs
 |.dic ks,v=>∃a xs,v=.ref a/\(∃ep,H a=a_ (zx a xs ep))/\F a=c_/\H0 a=c_/\dG K F ks xs
 |.dil ks,v=>∃a xs,v=.ref a/\(∃ep,H a=a_ (DilO a xs ep))/\F a=c_/\H0 a=c_/\Em K F ks xs
 |d,v=>aU K F d v
noncomputable def isO:A3->Bool
 |.lst _=>d_|.dic _=>d_|.dil _=>d_|_=>b_
noncomputable def isMu:HO->Bool
 |.lst _=>d_|.ext _=>d_|_=>b_
def mL.non{d:A3}(hd:isO d=b_):mL K F H0 H d v=aU K F d v:=by cases d<;>first|rfl|cases hd
def mL.top{d:A3}(hd:isO d=d_)(q:mL K F H0 H d v):∃a o,v=.ref a/\H a=a_ o/\isMu o=d_/\F a=c_/\H0 a=c_:=by
 cases d with
 |lst ds=>obtain⟨a,xs,e,p,f,z,_⟩:=q;exact⟨a,_,e,p,rfl,f,z⟩
 |dic ks=>obtain⟨a,xs,e,⟨ep,p⟩,f,z,_⟩:=q;exact⟨a,_,e,p,rfl,f,z⟩
 |dil ks=>obtain⟨a,xs,e,⟨ep,p⟩,f,z,_⟩:=q;exact⟨a,_,e,p,rfl,f,z⟩
 |_=>cases hd
def mL.re{d:A3}(hd:isO d=d_)(q:mL K F H0 H d (.ref a))(I:aM F F')(fa:F' a=c_)(hh:∀o,H a=a_ o->H' a=a_ o):mL K F' H0 H' d (.ref a):=by
 cases d with
 |lst ds=>obtain⟨b,xs,e,p,f,z,r⟩:=q;cases e;exact⟨a,xs,rfl,hh _ p,fa,z,r.mono I⟩
 |dic ks=>obtain⟨b,xs,e,⟨ep,p⟩,f,z,r⟩:=q;cases e;exact⟨a,xs,rfl,⟨ep,hh _ p⟩,fa,z,r.mono I⟩
 |dil ks=>obtain⟨b,xs,e,⟨ep,p⟩,f,z,r⟩:=q;cases e;exact⟨a,xs,rfl,⟨ep,hh _ p⟩,fa,z,r.mono I⟩
 |_=>cases hd
def mL.give{d:A3}(hd:isO d=d_)(q:mL K F H0 H d (.ref a))(I:aM F F')(fa:F' a=H a):aU K F' d (.ref a):=by
 cases d with
 |lst ds=>obtain⟨b,xs,e,p,f,z,r⟩:=q;cases e;exact⟨a,xs,rfl,SqL.of (fa.trans p),r.mono I⟩
 |dic ks=>obtain⟨b,xs,e,⟨ep,p⟩,f,z,r⟩:=q;cases e;exact⟨a,xs,rfl,⟨ep,fa.trans p⟩,r.mono I⟩
 |dil ks=>obtain⟨b,xs,e,⟨ep,p⟩,f,z,r⟩:=q;cases e;exact⟨a,xs,rfl,⟨ep,fa.trans p⟩,r.mono I⟩
 |_=>cases hd
def Val(K:Pn)(own:Bool)(F H0 H:Hp)(d:A3)(v:V):Prop:=if own=d_ then mL K F H0 H d v else aU K F d v
def mL.back{d:A3}(s:aM H0 H1)(h:mL K F H1 H d v):mL K F H0 H d v:=by
 cases d with
 |lst ds=>obtain⟨a,xs,e,p,q,z,r⟩:=h;exact⟨a,xs,e,p,q,s.free z,r⟩
 |dic ks=>obtain⟨a,xs,e,p,q,z,r⟩:=h;exact⟨a,xs,e,p,q,s.free z,r⟩
 |dil ks=>obtain⟨a,xs,e,p,q,z,r⟩:=h;exact⟨a,xs,e,p,q,s.free z,r⟩
 |_=>exact h
theorem Val.back{K:Pn}{own:Bool}{F H0 H1 H:Hp}{d:A3}{v:V}(s:aM H0 H1)(h:Val K own F H1 H d v):Val K own F H0 H d v:=by
 cases own with
 |true=>exact mL.back s h|false=>exact h
theorem mL.freeze{d:A3}(s:aM F H)(h:mL K F H0 H d v):∃F',aM F F'/\aM F' H/\(∀b o,F' b=a_ o->F b=a_ o\/H0 b=c_)/\aU K F' d v:=by
 cases hd:isO d with
 |true=>
  obtain⟨a,u,e,p,_,q,z⟩:=h.top hd;subst e;refine⟨upd F a u,aM.upd q,λb o h=>?_,λb o h=>?_,h.give hd (aM.upd q) (by rw[au,p])⟩
  .by_cases e:b=a
   .simp_all[au]
   .rw[aw e]at h;exact s b o h
  .by_cases e:b=a
   .subst e;exact .inr z
   .rw[aw e]at h;exact .inl h
 |false=>rw[mL.non hd]at h;exact⟨F,aM.refl _,s,λ_ _ z=>.inl z,h⟩
inductive Err where
 |stuck|exc (C:e_) (fs:List (m_×A3))
noncomputable abbrev M:=Except Err
variable{g g' g'':A3->A3->M A3}{mk mf mw:List A3->M A3}{mr:List A3->List A3->M (Bool×List A3)}
noncomputable abbrev ai:=List (Option A3)
variable{ρ ρ':ai}{fa fb fc fe fk f3 f5 fw f8 f0:ai->M A3}{ft fu f4 t1 t3 t4 t5:ai->M Bool}{fl:ai->M (Option Int)}{fx:List (m_×A3)->ai->M ai}
structure eZ where
 p:Err->Hp->Hp->Prop
 mono:∀{e:Err} {F H F' H':Hp},p e F H->A5 F H F' H'->p e F' H'
 ns:∀{F H:Hp},p .stuck F H->False
noncomputable def D':eZ:=⟨λ_ _ _=>False,λh _=>h,λh=>h⟩
def aJ(K:Pn)(W:eZ)(own:Bool)(F H:Hp)(r:M A3)(Q:VK):Prop:=match r with
 |.ok d=>∀v F' H',A5 F H F' H'->Val K own F' H H' d v->Q v H'|.error e=>W.p e F H
def aJ.step{W:eZ}{own:Bool}{r:M A3}(p:aJ K W own F H r Q)(s:A5 F H F1 H1):aJ K W own F1 H1 r Q:=by
 cases r with
 |ok d=>exact λv F' H' t q=>p v F' H' (s.trans t) (q.back s.hh)|error e=>exact W.mono p s
def aJ.frz{W:eZ}{r:M A3}(p:aJ K W b_ F H r Q):aJ K W d_ F H r Q:=by
 cases r with
 |ok d=>intro v F' H' t q;obtain⟨F2,Y,I,n,z⟩:=mL.freeze t.fh q;exact p v F2 H' ⟨t.ff.trans Y,t.hh,I,λb o h=>(n b o h).elim (λz=>t.nw b o z) .inr⟩ z
 |error e=>exact p
structure ee(K:Pn)(F:Hp)(σ:St)(ρ:ai):Prop where
 len:ρ.length=σ.length
 sl:∀(i:Nat) (d:A3),ρ[i]?=a_ (a_ d)->∃v,σ[i]?=a_ (a_ v)/\aU K F d v
theorem ee.mono{K:Pn}{F F':Hp}{σ:St}{ρ:ai}(r:ee K F σ ρ)(s:aM F F'):ee K F' σ ρ:=
 ⟨r.len,λi d e=>let ⟨v,h,q⟩:=r.sl i d e;⟨v,h,q.mono s⟩⟩
theorem ee.set{K:Pn}{F:Hp}{σ:St}{ρ:ai}{d:A3}{v:V}(r:ee K F σ ρ)(q:aU K F d v)(i:Nat):ee K F (σ.set i (a_ v)) (ρ.set i (a_ d)):=
 ⟨by rw[Hs,Hs,r.len],λj e h=>by
  by_cases I:i=j
  .subst I;have hi:i<ρ.length:=by
    have:=(s_.mp h).1;simpa using this
   rw[sy hi]at h;cases h;exact⟨v,by rw[sy (by rw[<- r.len];exact hi)],q⟩
  .rw[p_ I]at h;obtain⟨w,h1,h2⟩:=r.sl j e h;simp_all⟩
def tD(K:Pn)(W:eZ)(own:Bool)(f:ai->M A3):TE:=λσ H Q=>∃F ρ,ee K F σ ρ/\aM F H/\aJ K W own F H (f ρ) Q
def aT{W:eZ}{own:Bool}{f:ai->M A3}{R:VK}(r:ee K F σ ρ)(s:aM F H)(Y:∀e,f ρ=.error e->W.p e F H)(I:∀d,f ρ=.ok d->∀v F1 H1,A5 F H F1 H1->Val K own F1 H H1 d v->R v H1):tD K W own f σ H R:=by
 refine⟨F,ρ,r,s,?_⟩
 cases e:f ρ with
 |ok d=>exact I d e|error x=>exact Y x e
def tDT(K:Pn)(W:eZ)(f:ai->M Bool):TT:=λσ H Q=>∃F ρ,ee K F σ ρ/\aM F H/\(match f ρ with
 |.ok b=>∀F' H',A5 F H F' H'->Q b H'|.error e=>W.p e F H)
def iy{W:eZ}{f:ai->M Bool}(r:ee K F σ ρ)(s:aM F H)(Y:∀e,f ρ=.error e->W.p e F H)(I:∀b,f ρ=.ok b->∀F1 H1,A5 F H F1 H1->R b H1):tDT K W f σ H R:=by
 refine⟨F,ρ,r,s,?_⟩
 cases e:f ρ with
 |ok d=>exact I d e|error x=>exact Y x e
def tDA(K:Pn)(W:eZ)(f:ai->M bv):TA:=λσ H Q=>∃F ρ,ee K F σ ρ/\aM F H/\(match f ρ with
 |.ok ds=>∀vs F' H',A5 F H F' H'->aD K F' ds vs->Q vs H'|.error e=>W.p e F H)
def qK{W:eZ}{f:ai->M bv}{R:b9->Hp->Prop}(r:ee K F σ ρ)(s:aM F H)(Y:∀e,f ρ=.error e->W.p e F H)(I:∀ds,f ρ=.ok ds->∀vs F1 H1,A5 F H F1 H1->aD K F1 ds vs->R vs H1):tDA K W f σ H R:=by
 refine⟨F,ρ,r,s,?_⟩
 cases e:f ρ with
 |ok d=>exact I d e|error x=>exact Y x e
noncomputable def ah(i:Nat):ai->M A3:=λρ=>match ρ[i]? with
 |some (a_ d)=>.ok d|_=>.error .stuck
noncomputable def fC(d:A3):ai->M A3:=λ_=>.ok d
noncomputable abbrev bm(k:Int):=fC (.int k)
noncomputable def f1(g:A3->M A3)(fa:ai->M A3):ai->M A3:=λρ=>(fa ρ).bind g
noncomputable def f2(g:A3->A3->M A3)(fa fb:ai->M A3):ai->M A3:=λρ=>(fa ρ).bind λa=>(fb ρ).bind λb=>g a b
noncomputable def aB:ai->M bv:=λ_=>.ok []
noncomputable def aa(fa:ai->M A3)(fr:ai->M bv):ai->M bv:=λρ=>(fa ρ).bind λa=>(fr ρ).bind λr=>.ok (a::r)
noncomputable def fL(g:bv->M A3)(fr:ai->M bv):ai->M A3:=λρ=>(fr ρ).bind g
noncomputable def iU(ds:bv):M A3:=if ds.length<=h_ then .ok (.tup ds)else .error .stuck
noncomputable def bQ(ds:bv):M A3:=if ds.length<=h_ then .ok (.lst ds)else .error .stuck
noncomputable def fIte(ft:ai->M Bool)(fa fb:ai->M A3):ai->M A3:=λρ=>(ft ρ).bind λb=>if b=d_ then fa ρ else fb ρ
noncomputable def rV(ft fu:ai->M Bool):ai->M Bool:=λρ=>(ft ρ).bind λb=>if b=d_ then fu ρ else .ok b_
noncomputable def fOr(ft fu:ai->M Bool):ai->M Bool:=λρ=>(ft ρ).bind λb=>if b=d_ then .ok d_ else fu ρ
noncomputable def oP(ft:ai->M Bool):ai->M Bool:=λρ=>(ft ρ).bind λb=>.ok (!b)
noncomputable def asB:A3->M Bool
 |.bl b=>.ok b|_=>.error .stuck
def fB(fa:ai->M A3):ai->M Bool:=λρ=>(fa ρ).bind asB
def hZ(fa fb:ai->M A3):ai->M A3:=λρ=>(fa ρ).bind λa=>(asB a).bind λb=>if b=d_ then fb ρ else .ok (.bl b_)
def AS(fa fb:ai->M A3):ai->M A3:=λρ=>(fa ρ).bind λa=>(asB a).bind λb=>if b=d_ then .ok (.bl d_)else fb ρ
noncomputable def notD:A3->M A3
 |.bl b=>.ok (.bl (!b))|_=>.error .stuck
noncomputable def truD:A3->M Bool
 |.non=>.ok b_|.bl b=>.ok b|.int i=>.ok (i != 0)|.str x=>if x.length<=h_ then .ok ((x.length:Int) != 0)else .error .stuck
 |.tup ds=>.ok (!ds.isEmpty)|.lst ds=>.ok (!ds.isEmpty)|_=>.error .stuck
noncomputable def ke(fa:ai->M A3):ai->M Bool:=λρ=>(fa ρ).bind truD
def jA(g g':A3->A3->M A3)(fa fb fc:ai->M A3):ai->M A3:=λρ=>(fa ρ).bind λa=>(fb ρ).bind λb=>(g a b).bind λx=>(asB x).bind λk=>if k=d_ then(fc ρ).bind λc=>g' b c else .ok (.bl b_)
def rD2(K:Pn)(W:eZ)(own:Bool)(g:A3->A3->M A3):R2:=λx y H Q=>∃F a b,aM F H/\aU K F a x/\aU K F b y/\aJ K W own F H (g a b) Q
def rD1(K:Pn)(W:eZ)(own:Bool)(g:A3->M A3):V->Hp->VK->Prop:=λx H Q=>∃F a,aM F H/\aU K F a x/\aJ K W own F H (g a) Q
def rDL(K:Pn)(W:eZ)(own:Bool)(g:bv->M A3):b9->Hp->VK->Prop:=λxs H Q=>∃F ds,aM F H/\aD K F ds xs/\aJ K W own F H (g ds) Q
section
variable{W:eZ}{own:Bool}
def rd_var(h:tD K W b_ (ah i) σ H Q):cb i σ H Q:=by
 obtain⟨F,ρ,r,s,p⟩:=h;unfold ah at p
 match e:ρ[i]? with
 |some (a_ d)=>rw[e]at p;obtain⟨v,e1,q⟩:=r.sl i d e;exact⟨v,e1,p v F H (A5.refl s) q⟩
 |some c_=>rw[e]at p;exact(W.ns p).elim|none=>rw[e]at p;exact(W.ns p).elim
def rd_c{d:A3}(hd:∀F,aU K F d v)(h:tD K W b_ (fC d) σ H Q):tC v σ H Q:=by obtain⟨F,ρ,r,s,p⟩:=h;exact p v F H (A5.refl s) (hd F)
def aJ.err{x:M A3}{e:Err}(p:aJ K W own F H x Q)(h:x=.error e):W.p e F H:=by rw[h]at p;exact p
def rd_1{g:A3->M A3}(h:tD K W own (f1 g fa) σ H Q):tUn (rD1 K W own g) (tD K W b_ fa) σ H Q:=by
 obtain⟨F,ρ,r,s,p⟩:=h;refine aT r s (λe b=>p.err (by unfold f1;rw[b];rfl)) λa c x F1 H1 I Y=>?_;refine⟨F1,a,I.fh,Y,?_⟩
 have e:f1 g fa ρ=g a:=by unfold f1;rw[c];rfl
 rw[e]at p;exact p.step I
def rd_2(h:tD K W own (f2 g fa fb) σ H Q):tOp (rD2 K W own g) (tD K W b_ fa) (tD K W b_ fb) σ H Q:=by
 obtain⟨F,ρ,r,s,p⟩:=h;refine aT r s (λe c=>p.err (by unfold f2;rw[c];rfl)) λa d x F1 H1 I i=>?_;refine aT (r.mono I.ff) I.fh (λe c=>(p.step I).err (by unfold f2;rw[d];show(fb ρ).bind _=_;rw[c];rfl)) λb j y F2 H2 Y f=>?_;refine⟨F2,a,b,Y.fh,aU.mono Y.ff i,f,?_⟩
 have e:f2 g fa fb ρ=g a b:=by unfold f2;rw[d];show(fb ρ).bind _=_;rw[j];rfl
 rw[e]at p;exact p.step (I.trans Y)
def rd_nil{R:b9->Hp->Prop}(h:tDA K W aB σ H R):eP σ H R:=by obtain⟨F,ρ,r,s,p⟩:=h;exact p [] F H (A5.refl s) rfl
theorem rd_cons{fr:ai->M bv}{R:b9->Hp->Prop}(h:tDA K W (aa fa fr) σ H R):aR (tD K W b_ fa) (tDA K W fr) σ H R:=by
 obtain⟨F,ρ,r,s,p⟩:=h;refine aT r s (λe Y=>?_) λa c x F1 H1 I f=>qK (r.mono I.ff) I.fh (λe Y=>?_) λds hd xs F2 H2 b d=>?_
 .have z:aa fa fr ρ=.error e:=by unfold aa;rw[Y];rfl
  simp_all
 .have z:aa fa fr ρ=.error e:=by unfold aa;rw[c];show(fr ρ).bind _=_;rw[Y];rfl
  rw[z]at p;exact W.mono p I
 .have z:aa fa fr ρ=.ok (a::ds):=by unfold aa;rw[c];show(fr ρ).bind _=_;rw[hd];rfl
  rw[z]at p;exact p (x::xs) F2 H2 (I.trans b) ⟨x,xs,rfl,aU.mono b.ff f,d⟩
def rd_L{g:bv->M A3}{fr:ai->M bv}(h:tD K W own (fL g fr) σ H Q):tDA K W fr σ H λxs H1=>rDL K W own g xs H1 Q:=by
 obtain⟨F,ρ,r,s,p⟩:=h;refine qK r s (λe a=>p.err (by unfold fL;rw[a];rfl)) λds hd xs F1 H1 I Y=>⟨F1,ds,I.fh,Y,?_⟩
 have e:fL g fr ρ=g ds:=by unfold fL;rw[hd];rfl
 rw[e]at p;exact p.step I
theorem rd_tup{fr:ai->M bv}(h:tD K W own (fL iU fr) σ H Q):tTup (tDA K W fr) σ H Q:=by
 obtain⟨F,ρ,r,s,p⟩:=rd_L h;refine⟨F,ρ,r,s,?_⟩
 cases e:fr ρ with
 |error x=>simp_all|ok ds=>
  rw[e]at p;intro vs F' H' t q;obtain⟨F1,es,Y,b,z⟩:=p vs F' H' t q;unfold iU at z;by_cases I:es.length<=h_
  .rw[f_ I]at z;refine⟨by rw[b.length];exact I,λa c=>z (.ref a) _ _ (A5.lay Y c) ?_⟩
   have:aU K (upd F1 a (.tup vs)) (.tup es) (.ref a):=⟨a,vs,rfl,SqT.of au,b.mono (aM.upd (Y.free c))⟩
   cases own with
   |true=>exact this|false=>exact this
  .rw[k_ I]at z;exact(W.ns z).elim
theorem rd_lst{fr:ai->M bv}(h:tD K W d_ (fL bQ fr) σ H Q):Bu (tDA K W fr) σ H Q:=by
 obtain⟨F,ρ,r,s,p⟩:=rd_L h;refine⟨F,ρ,r,s,?_⟩
 cases e:fr ρ with
 |error x=>simp_all|ok ds=>
  rw[e]at p;intro vs F' H' t q;obtain⟨F1,es,b,c,z⟩:=p vs F' H' t q;unfold bQ at z;by_cases I:es.length<=h_
  .rw[f_ I]at z;exact⟨by rw[c.length];exact I,λa Y=>z (.ref a) F1 _ (A5.grow b Y) ⟨a,vs,rfl,au,b.free Y,Y,c⟩⟩
  .rw[k_ I]at z;exact(W.ns z).elim
def rd_ite(h:tD K W own (fIte ft fa fb) σ H Q):tIf (tDT K W ft) (tD K W own fa) (tD K W own fb) σ H Q:=by
 obtain⟨F,ρ,r,s,p⟩:=h;refine iy r s (λe Y=>p.err (by unfold fIte;rw[Y];rfl)) λb a F1 H1 I=>?_;have e:fIte ft fa fb ρ=if b=d_ then fa ρ else fb ρ:=by unfold fIte;rw[a];rfl
 rw[e]at p;cases b with
 |true=>exact⟨F1,ρ,r.mono I.ff,I.fh,p.step I⟩|false=>exact⟨F1,ρ,r.mono I.ff,I.fh,p.step I⟩
theorem Bv{f:ai->M Bool}(r:ee K F σ ρ)(I:A5 F H F1 H1)(p:match f ρ with
 |.ok b=>∀F' H',A5 F H F' H'->R b H'|.error e=>W.p e F H):tDT K W f σ H1 R:=by
 refine⟨F1,ρ,r.mono I.ff,I.fh,?_⟩
 cases e:f ρ with
 |ok b=>rw[e]at p;exact λF' H' t=>p F' H' (I.trans t)|error x=>rw[e]at p;exact W.mono p I
theorem rd_and(h:tDT K W (rV ft fu) σ H R):tAnd (tDT K W ft) (tDT K W fu) σ H R:=by
 obtain⟨F,ρ,r,s,p⟩:=h;refine iy r s (λe Y=>?_) λb a F1 H1 I=>?_
 .have z:rV ft fu ρ=.error e:=by unfold rV;rw[Y];rfl
  simp_all
 .have z:rV ft fu ρ=if b=d_ then fu ρ else .ok b_:=by unfold rV;rw[a];rfl
  rw[z]at p;cases b with
  |true=>exact Bv r I p|false=>exact p F1 H1 I
theorem rd_or(h:tDT K W (fOr ft fu) σ H R):tOr (tDT K W ft) (tDT K W fu) σ H R:=by
 obtain⟨F,ρ,r,s,p⟩:=h;refine iy r s (λe Y=>?_) λb a F1 H1 I=>?_
 .have z:fOr ft fu ρ=.error e:=by unfold fOr;rw[Y];rfl
  simp_all
 .have z:fOr ft fu ρ=if b=d_ then .ok d_ else fu ρ:=by unfold fOr;rw[a];rfl
  rw[z]at p;cases b with
  |false=>exact Bv r I p|true=>exact p F1 H1 I
theorem rd_not(h:tDT K W (oP ft) σ H R):tNot (tDT K W ft) σ H R:=by
 obtain⟨F,ρ,r,s,p⟩:=h;refine iy r s (λe Y=>?_) λb a F1 H1 I=>?_
 .have z:oP ft ρ=.error e:=by unfold oP;rw[Y];rfl
  simp_all
 .have z:oP ft ρ=.ok (!b):=by unfold oP;rw[a];rfl
  rw[z]at p;exact p F1 H1 I
theorem rd_B(h:tDT K W (fB fa) σ H R):tTest (tD K W b_ fa) σ H R:=by
 obtain⟨F,ρ,r,s,p⟩:=h;refine aT r s (λe c=>?_) λa d x F1 H1 I Y=>?_
 .have z:fB fa ρ=.error e:=by unfold fB;rw[c];rfl
  simp_all
 .have z:fB fa ρ=asB a:=by unfold fB;rw[d];rfl
  rw[z]at p;cases a with
  |bl b=>exact⟨b,Y,p F1 H1 I⟩|_=>exact(W.ns p).elim
theorem tru_of{a:A3}{x:V}{b:Bool}(s:aM F H1)(q:aU K F a x)(h:truD a=.ok b):TruV K x H1 b:=by
 cases a with
 |non=>rw[show x=.non from q];exact(I9 h).symm|bl c=>rw[show x=.bl c from q];exact(I9 h).symm|int i=>rw[show x=.int i from q];exact(I9 h).symm|str y=>
  rw[show x=.str y from q];have h':(if y.length<=h_ then Hr ((y.length:Int) != 0)else JA Err.stuck)=Hr b:=h;by_cases I:y.length<=h_
  .rw[f_ I]at h';exact⟨I,(I9 h').symm⟩
  simp_all
 |tup ds=>
  obtain⟨p,xs,e,t,r⟩:=q;subst e;refine .inr (.inl ⟨xs,s.tup t,?_⟩);rw[<- I9 h];cases ds with
  |nil=>rw[show xs=[]from r];rfl|cons d ds=>obtain⟨v,vs,e,_⟩:=r;rw[e];rfl
 |lst ds=>
  obtain⟨p,xs,e,t,r⟩:=q;subst e;refine .inl ⟨xs,s.lst t,?_⟩;rw[<- I9 h];cases ds with
  |nil=>rw[show xs=[]from r];rfl|cons d ds=>obtain⟨v,vs,e,_⟩:=r;rw[e];rfl
 |ins C fs=>cases h|dic ks=>cases h|dil ks=>cases h
theorem rd_tru(h:tDT K W (ke fa) σ H R):tD K W b_ fa σ H λx H1=>∃k,TruV K x H1 k/\R k H1:=by
 obtain⟨F,ρ,r,s,p⟩:=h;refine aT r s (λe c=>?_) λa d x F1 H1 I Y=>?_
 .have z:ke fa ρ=.error e:=by unfold ke;rw[c];rfl
  simp_all
 .have z:ke fa ρ=truD a:=by unfold ke;rw[d];rfl
  rw[z]at p;cases e:truD a with
  |ok b=>rw[e]at p;exact⟨b,tru_of I.fh Y e,p F1 H1 I⟩|error x=>
   rw[e]at p;have:x=.stuck:=by
    cases a with
    |str y=>have f:(if y.length<=h_ then Hr ((y.length:Int) != 0)else JA Err.stuck)=JA x:=e;lia
    |ins C fs=>cases e;rfl|dic ks=>cases e;rfl|dil ks=>cases e;rfl|_=>cases e
   subst this;exact(W.ns p).elim
def rd_andV(h:tD K W b_ (hZ fa fb) σ H Q):tAndV (tD K W b_ fa) (tD K W b_ fb) σ H Q:=by
 obtain⟨F,ρ,r,s,p⟩:=h;refine aT r s (λe c=>p.err (by unfold hZ;rw[c];rfl)) λa d x F1 H1 I Y=>?_;have z:hZ fa fb ρ=(asB a).bind λb=>if b=d_ then fb ρ else .ok (.bl b_):=by unfold hZ;rw[d];rfl
 rw[z]at p;cases a with
 |bl b=>
  refine⟨b,Y,?_⟩
  cases b with
  |true=>exact⟨F1,ρ,r.mono I.ff,I.fh,aJ.step (own:=b_) (r:=fb ρ) p I⟩|false=>exact p (.bl b_) F1 H1 I rfl
 |_=>exact(W.ns p).elim
def rd_orV(h:tD K W b_ (AS fa fb) σ H Q):tOrV (tD K W b_ fa) (tD K W b_ fb) σ H Q:=by
 obtain⟨F,ρ,r,s,p⟩:=h;refine aT r s (λe c=>p.err (by unfold AS;rw[c];rfl)) λa d x F1 H1 I Y=>?_;have z:AS fa fb ρ=(asB a).bind λb=>if b=d_ then .ok (.bl d_)else fb ρ:=by unfold AS;rw[d];rfl
 rw[z]at p;cases a with
 |bl b=>
  refine⟨b,Y,?_⟩
  cases b with
  |false=>exact⟨F1,ρ,r.mono I.ff,I.fh,aJ.step (own:=b_) (r:=fb ρ) p I⟩|true=>exact p (.bl d_) F1 H1 I rfl
 |_=>exact(W.ns p).elim
def rd_notV(h:tD K W b_ (f1 notD fa) σ H Q):tNotV (tD K W b_ fa) σ H Q:=by
 obtain⟨F,ρ,r,s,p⟩:=h;refine aT r s (λe c=>p.err (by unfold f1;rw[c];rfl)) λa d x F1 H1 I Y=>?_;have z:f1 notD fa ρ=notD a:=by unfold f1;rw[d];rfl
 rw[z]at p;cases a with
 |bl b=>exact⟨b,Y,p (.bl (!b)) F1 H1 I rfl⟩|_=>exact(W.ns p).elim
def BK(h:tD K W b_ (jA g g' fa fb fc) σ H Q):EO (rD2 K W b_ g) (rD2 K W b_ g') (tD K W b_ fa) (tD K W b_ fb) (tD K W b_ fc) σ H Q:=by
 obtain⟨F,ρ,r,s,p⟩:=h;refine aT r s (λe f=>p.err (by unfold jA;rw[f];rfl)) λa o x F1 H1 Y u=>?_;refine aT (r.mono Y.ff) Y.fh (λe f=>(p.step Y).err (by unfold jA;rw[o];show(fb ρ).bind _=_;rw[f];rfl)) λb B y F2 H2 i n=>?_;have z:jA g g' fa fb fc ρ=(g a b).bind λx=>(asB x).bind λk=>if k=d_ then(fc ρ).bind λc=>g' b c else .ok (.bl b_):=by unfold jA;rw[o];show(fb ρ).bind _=_;rw[B];rfl
 rw[z]at p;refine⟨F2,a,b,i.fh,aU.mono i.ff u,n,?_⟩
 have p2:=p.step (Y.trans i);cases e:g a b with
 |error x=>rw[e]at p2;exact p2|ok d=>
  rw[e]at p2;intro v m l I t;have p3:aJ K W b_ m l ((asB d).bind λk=>if k=d_ then(fc ρ).bind λc=>g' b c else .ok (.bl b_)) Q:=aJ.step p2 I;cases d with
  |bl k=>
   refine⟨k,t,?_⟩
   cases k with
   |false=>exact p3 (.bl b_) m l (A5.refl I.fh) rfl|true=>
    have p4:aJ K W b_ m l ((fc ρ).bind λc=>g' b c) Q:=p3;refine aT (r.mono (Y.trans (i.trans I)).ff) I.fh (λe f=>p4.err (by rw[f];rfl)) λc A w C D j q=>⟨C,b,c,j.fh,aU.mono (I.trans j).ff n,q,?_⟩
    rw[A]at p4;exact p4.step j
  |_=>exact(W.ns p3).elim
end
inductive Pat where
 |nm (i:Nat)|tp (is:List Nat)
noncomputable def jt:ce->bv->ai->ai
 |i::is,d::ds,ρ=>jt is ds (ρ.set i (a_ d))|_,_,ρ=>ρ
noncomputable def jZ:Pat->A3->ai->M ai
 |.nm i,d,ρ=>.ok (ρ.set i (a_ d))|.tp is,.tup ds,ρ=>if ds.length=is.length then .ok (jt is ds ρ)else .error .stuck
 |.tp _,_,_=>.error .stuck
def j8:ce->TGs
 |[]=>gNil|i::is=>lK (cK i) (j8 is)
def gP(K:Pn):Pat->TG
 |.nm i=>cK i|.tp is=>gTup K is.length (j8 is)
theorem uD{K:Pn}{F H:Hp}{R:St->Hp->Prop}:∀{is:ce} {ds:bv} {vs:b9} {σ:St} {ρ:ai},ee K F σ ρ->aD K F ds vs->ds.length=is.length->(∀σ',ee K F σ' (jt is ds ρ)->R σ' H)->j8 is vs σ H R
 |[],[],_,σ,ρ,r,q,_,h=>⟨q,h σ r⟩|[],_::_,_,_,_,_,_,e,_=>by simp at e|_::_,[],_,_,_,_,_,e,_=>by simp at e|i::is,d::ds,_,σ,ρ,r,⟨v,vs,e,q,t⟩,l,h=>⟨v,vs,e,uD (r.set q i) t (by simpa using l) h⟩
theorem gP_run{R:St->Hp->Prop}{p:Pat}{d:A3}(r:ee K F σ ρ)(s:aM F H)(q:aU K F d v)(e:jZ p d ρ=.ok ρ')(h:∀σ',ee K F σ' ρ'->R σ' H):gP K p v σ H R:=by
 cases p with
 |nm i=>have:=I9 e;subst this;exact h _ (r.set q i)|tp is=>
  cases d with
  |tup ds=>
   have Y:(if ds.length=is.length then Hr (jt is ds ρ)else JA Err.stuck)=Hr ρ':=e;by_cases I:ds.length=is.length
   .rw[f_ I]at Y;have:=I9 Y;subst this;obtain⟨a,xs,b,t,z⟩:=q;exact⟨a,xs,b,s.tup t,by rw[z.length,I],uD r z I h⟩
   simp_all
  |_=>cases e
theorem sC{p:Pat}{d:A3}{e:Err}(h:jZ p d ρ=.error e):e=.stuck:=by
 cases p with
 |nm i=>cases h|tp is=>
  cases d with
  |tup ds=>have I:(if ds.length=is.length then Hr (jt is ds ρ)else JA Err.stuck)=JA e:=h;lia
  |_=>cases h;rfl
structure zw(K:Pn)(F1:Hp)(J:It)(ds:bv):Prop where
 go:∀(i:Nat) (F H:Hp),aM F1 F->aM F H->i<ds.length->J.go i H
 yl:∀(i:Nat) (F H:Hp) (x:V) (H':Hp) (d:A3),aM F1 F->aM F H->ds[i]?=a_ d->J.yld i H x H'->∃F',A5 F H F' H'/\aU K F' d x
 st:∀(F H:Hp),aM F1 F->aM F H->J.stop ds.length H
def iD(K:Pn)(W:eZ)(f:ai->M bv):TI:=λσ H R=>∃F ρ,ee K F σ ρ/\aM F H/\(match f ρ with
 |.ok ds=>∀J F1 H1,A5 F H F1 H1->zw K F1 J ds->R J H1|.error e=>W.p e F H)
noncomputable def iJ:A3->M bv
 |.lst ds=>.ok ds|.tup ds=>.ok ds|_=>.error .stuck
noncomputable def fIt(fa:ai->M A3):ai->M bv:=λρ=>(fa ρ).bind iJ
def iSeq(K:Pn)(tl:TE):TI:=λσ H R=>tl σ H λx H1=>∃a,x=.ref a/\((∃xs,SqL K H1 a xs)/\R (Itl K a) H1\/(∃xs,SqT K H1 a xs)/\R (Itt K a) H1)
def G4{xs:b9}{ds:bv}(t:SqL K F a xs)(z:aD K F ds xs):zw K F (Itl K a) ds where
 go:=λi F' H' Y I hi=>⟨xs,xs[i]'(by rw[z.length];exact hi),I.lst (Y.lst t),am⟩
 yl:=λi F' H' x H2 d Y I hd b=>by obtain⟨e,b⟩:=b;subst e;obtain⟨v,e1,q⟩:=z.get hd;have e2:=b xs (I.lst (Y.lst t));rw[e1]at e2;cases e2;exact⟨F',A5.refl I,q.mono Y⟩
 st:=λF' H' Y I=>⟨xs,I.lst (Y.lst t),by rw[z.length];simp⟩
def iter_tup{xs:b9}{ds:bv}(t:SqT K F a xs)(z:aD K F ds xs):zw K F (Itt K a) ds where
 go:=λi F' H' Y I hi=>⟨xs,xs[i]'(by rw[z.length];exact hi),I.tup (Y.tup t),am⟩
 yl:=λi F' H' x H2 d Y I hd b=>by obtain⟨e,b⟩:=b;subst e;obtain⟨v,e1,q⟩:=z.get hd;have e2:=b xs (I.tup (Y.tup t));rw[e1]at e2;cases e2;exact⟨F',A5.refl I,q.mono Y⟩
 st:=λF' H' Y I=>⟨xs,I.tup (Y.tup t),by rw[z.length];simp⟩
noncomputable def i6(lo:Int)(n:Nat):bv:=(Iw n).map λk:Nat=>A3.int (lo+k)
theorem DL{lo:Int}:zw K F (Itr lo n) (i6 lo n) where
 go:=λi F' H' a I hi=>by show i<n;simp_all[i6]
 yl:=λi F' H' x H2 d a I hd Y=>by
  obtain⟨e,Y⟩:=Y;subst e Y;unfold i6 at hd;rw[HJ]at hd;have hi:i<n:=by have:=(s_.mp (show((Iw n).map λk:Nat=>A3.int (lo+k))[i]?=a_ d by rw[HJ];exact hd)).1;simpa using this
  rw[N9 hi]at hd;cases hd;exact⟨F',A5.refl I,rfl⟩
 st:=λF' H' a I=>by show n<=_;simp[i6]
noncomputable def jI(i:Int):Bool:=q_ (-(2^62)<=i)&&q_ (i<2^62)
def qU:bv->M bv
 |[.int j]=>if jI j=d_ then .ok (i6 0 j.toNat)else .error .stuck
 |_=>.error .stuck
noncomputable def pP(g:bv->M bv)(fr:ai->M bv):ai->M bv:=λρ=>(fr ρ).bind g
section
variable{W:eZ}
theorem ri_seq{R:It->Hp->Prop}(h:iD K W (fIt fa) σ H R):iSeq K (tD K W b_ fa) σ H R:=by
 obtain⟨F,ρ,r,s,p⟩:=h;refine aT r s (λe c=>?_) λa d x F1 H1 I Y=>?_
 .have z:fIt fa ρ=.error e:=by unfold fIt;rw[c];rfl
  simp_all
 .have z:fIt fa ρ=iJ a:=by unfold fIt;rw[d];rfl
  rw[z]at p;cases a with
  |lst ds=>obtain⟨b,xs,e,t,z⟩:=Y;exact⟨b,e,.inl ⟨⟨xs,I.fh.lst t⟩,p _ F1 H1 I (G4 t z)⟩⟩
  |tup ds=>obtain⟨b,xs,e,t,z⟩:=Y;exact⟨b,e,.inr ⟨⟨xs,I.fh.tup t⟩,p _ F1 H1 I (iter_tup t z)⟩⟩
  |_=>exact(W.ns p).elim
theorem ri_rng1{fr:ai->M bv}{R:It->Hp->Prop}(h:iD K W (pP qU fr) σ H R):iRng1 (tDA K W fr) σ H R:=by
 obtain⟨F,ρ,r,s,p⟩:=h;refine qK r s (λe c=>?_) λds hd xs F1 H1 a b=>?_
 .have z:pP qU fr ρ=.error e:=by unfold pP;rw[c];rfl
  simp_all
 .have z:pP qU fr ρ=qU ds:=by unfold pP;rw[hd];rfl
  rw[z]at p;cases ds with
  |nil=>exact(W.ns p).elim|cons d ds=>
   cases d with
   |int j=>
    cases ds with
    |cons _ _=>exact(W.ns p).elim|nil=>
     obtain⟨v,vs,e,q,t⟩:=b;have Y:match (if jI j=d_ then Hr (i6 0 j.toNat)else JA Err.stuck:M bv)with
      |.ok ds=>∀J F1 H1,A5 F H F1 H1->zw K F1 J ds->R J H1|.error e=>W.p e F H:=p
     by_cases I:jI j=d_
     .rw[f_ I]at Y;unfold jI at I;simp only[o_,Hx]at I;exact⟨j,by rw[e,show v=.int j from q,show vs=[]from t],I.1,I.2,Y _ F1 H1 a DL⟩
     .rw[k_ I]at Y;exact(W.ns Y).elim
   |_=>exact(W.ns p).elim
noncomputable def ki(ix:List (Option Nat))(ρ:ai):ai:=ix.map λo=>match o with
 |none=>c_|some j=>(ρ[j]?).join
noncomputable def bx(p:Pat)(ft:ai->M Bool)(fe:ai->M A3)(ρ0:ai):bv->M bv
 |[]=>.ok []|d::ds=>(jZ p d ρ0).bind λρ=>(ft ρ).bind λb=>if b=d_ then(fe ρ).bind λy=>(bx p ft fe ρ0 ds).bind λr=>.ok (y::r)else bx p ft fe ρ0 ds
noncomputable def dm(fi:ai->M bv)(ix:List (Option Nat))(p:Pat)(ft:ai->M Bool)(fe:ai->M A3):ai->M A3:=λρ=>(fi ρ).bind λds=>if ds.length<=h_ then(bx p ft fe (ki ix ρ) ds).bind λr=>.ok (.lst r)else .error .stuck
noncomputable def gZ:ai->M Bool:=λ_=>.ok d_
theorem ee.inS{F:Hp}{ρ:ai}(r:ee K F σ ρ)(ix:List (Option Nat)):ee K F (Lake.inS ix σ) (ki ix ρ):=
 ⟨by simp[Lake.inS,ki],λi d e=>by
  unfold ki at e;unfold Lake.inS;rw[HJ]at e ⊢;cases h:ix[i]? with
  |none=>simp_all|some o=>
   rw[h]at e;cases o with
   |none=>cases e|some j=>
    simp only[K9,M7]at e ⊢;have e1:ρ[j]?=a_ (a_ d):=by
     cases z:ρ[j]? with
     |none=>simp_all|some w=>simp_all
    obtain⟨v,h1,h2⟩:=r.sl j d e1;exact⟨v,by rw[h1];rfl,h2⟩⟩
theorem zY{fi:ai->M bv}{p:Pat}(h:tD K W d_ (dm fi ix p ft fe) σ H Q):
  tComp (iD K W fi) ix (gP K p) (tDT K W ft) (tD K W b_ fe) σ H Q:=by
 obtain⟨F,ρ,r,s,q⟩:=h;refine⟨F,ρ,r,s,?_⟩
 cases T:fi ρ with
 |error e=>exact q.err (by unfold dm;rw[T];rfl)|ok ds=>
  intro J F1 H1 C G;have e0:dm fi ix p ft fe ρ=if ds.length<=h_ then(bx p ft fe (ki ix ρ) ds).bind λr=>.ok (.lst r)else .error .stuck:=by unfold dm;rw[T];rfl
  rw[e0]at q;by_cases S:ds.length<=h_
  .rw[f_ S]at q;refine⟨λi m ys H2=>m=ds.length-i/\i<=ds.length/\∃F2 I,A5 F1 H1 F2 H2/\aD K F2 I ys/\I.length<=i /\
    (match bx p ft fe (ki ix ρ) (ds.drop i)with
     |.ok Y=>bx p ft fe (ki ix ρ) ds=.ok (I++Y)|.error e=>W.p e F H),⟨ds.length,ad,HX _,F1,[],A5.refl C.fh,rfl,HX _,?_⟩,?_⟩
   .rw[MP];cases e:bx p ft fe (ki ix ρ) ds with
    |ok Y=>rfl|error x=>exact q.err (by rw[e];rfl)
   .rintro i m ys H2 ⟨rfl,hi,F2,I,f,E,ly,t⟩;have A:ys.length<=h_:=by rw[E.length];lia
    by_cases k:i<ds.length
    .have ed:ds.drop i=ds[i]::ds.drop (i+1):=JX k;rw[ed]at t;refine .inr ⟨G.go i F2 H2 f.ff f.fh k,A,λw H'=>(i+1<=ds.length/\∃F2 I,A5 F1 H1 F2 H'/\aD K F2 I w/\I.length<=i+1 /\
      (match bx p ft fe (ki ix ρ) (ds.drop (i+1))with
       |.ok Y=>bx p ft fe (ki ix ρ) ds=.ok (I++Y)|.error e=>W.p e F H)),λw H' n=>⟨ds.length-(i+1),ad,rfl,n⟩,λx H' y=>?_⟩
     obtain⟨X,o,q3⟩:=G.yl i F2 H2 x H' ds[i] f.ff f.fh am y;have r3:ee K X (Lake.inS ix σ) (ki ix ρ):=(r.mono (C.trans (f.trans o)).ff).inS ix;have z:A5 F H X H':=C.trans (f.trans o);have ec:bx p ft fe (ki ix ρ) (ds[i]::ds.drop (i+1))=(jZ p ds[i] (ki ix ρ)).bind λc=>(ft c).bind λb=>if b=d_ then(fe c).bind λy=>(bx p ft fe (ki ix ρ) (ds.drop (i+1))).bind λr=>.ok (y::r)else bx p ft fe (ki ix ρ) (ds.drop (i+1)):=by rw[bx]
     rw[ec]at t;cases D:jZ p ds[i] (ki ix ρ)with
     |error e=>rw[D]at t;have:=sC D;subst this;exact(W.ns t).elim|ok c=>
      rw[D]at t;refine gP_run r3 o.fh q3 D λZ R=>?_;have j:match ((ft c).bind λb=>if b=d_ then(fe c).bind λy=>(bx p ft fe (ki ix ρ) (ds.drop (i+1))).bind λr=>.ok (y::r)else bx p ft fe (ki ix ρ) (ds.drop (i+1)))with
       |.ok Y=>bx p ft fe (ki ix ρ) ds=.ok (I++Y)|.error e=>W.p e F H:=t
      refine iy R o.fh (λe L=>by rw[L]at j;exact W.mono j z) λb N F5 H5 u=>?_;rw[N]at j;cases b with
      |false=>
       have g:match bx p ft fe (ki ix ρ) (ds.drop (i+1))with
        |.ok Y=>bx p ft fe (ki ix ρ) ds=.ok (I++Y)|.error e=>W.p e F H:=j
       exact⟨k,F5,I,f.trans (o.trans u),E.mono (o.trans u).ff,ad,g⟩
      |true=>
       have g:match ((fe c).bind λy=>(bx p ft fe (ki ix ρ) (ds.drop (i+1))).bind λr=>.ok (y::r))with
        |.ok Y=>bx p ft fe (ki ix ρ) ds=.ok (I++Y)|.error e=>W.p e F H:=j
       refine aT (R.mono u.ff) u.fh (λe L=>by rw[L]at g;exact W.mono g (z.trans u)) λd hd v F6 H6 P q6=>?_;rw[hd]at g;refine⟨k,F6,I++[d],f.trans (o.trans (u.trans P)),aD.append (E.mono (o.trans (u.trans P)).ff) ⟨v,[],rfl,q6,rfl⟩,by simp;lia,?_⟩
       have l:match ((bx p ft fe (ki ix ρ) (ds.drop (i+1))).bind λr=>.ok (d::r):M bv)with
        |.ok Y=>bx p ft fe (ki ix ρ) ds=.ok (I++Y)|.error e=>W.p e F H:=g
       cases U:bx p ft fe (ki ix ρ) (ds.drop (i+1))with
       |ok Y=>rw[U]at l;show _=Hr ((I++[d])++Y);rw[Kc];exact l|error x=>rw[U]at l;exact l
    .have:i=ds.length:=ad
     subst this;rw[OS]at t;have B:bx p ft fe (ki ix ρ) ds=.ok (I++[]):=t;rw[IH]at B;rw[B]at q;refine .inl ⟨G.st F2 H2 f.ff f.fh,A,λa O=>?_⟩;have st:A5 F H F2 H2:=C.trans f;exact q (.ref a) F2 _ (st.trans (A5.grow f.fh O)) ⟨a,ys,rfl,au,f.fh.free O,st.hh.free O,E⟩
  .rw[k_ S]at q;exact(W.ns q).elim
end
inductive A9 where
 |nx (ρ:ai)|rt (d:A3)|bk (ρ:ai)|ct (ρ:ai)
variable{g2:ai->M A9}
structure Rep(K:Pn)(F0 H0 FB:Hp)(O:ce)(F H:Hp)(σ:St)(ρ:ai):Prop where
 st:A5 F0 H0 F H
 fb:aM FB F
 len:ρ.length=σ.length
 fz:∀(i:Nat) (d:A3),ρ[i]?=a_ (a_ d)->i∉O->∃v,σ[i]?=a_ (a_ v)/\aU K F d v
 ow:∀(i:Nat) (d:A3),ρ[i]?=a_ (a_ d)->i∈O->∃v,σ[i]?=a_ (a_ v)/\mL K F H0 H d v
 ap:∀(i j:Nat) (d e:A3) (a:e_),i∈O->j∈O->(ρ[i]?=a_ (a_ d)/\isO d=d_)->(ρ[j]?=a_ (a_ e)/\isO e=d_)->σ[i]?=a_ (a_ (.ref a))->σ[j]?=a_ (a_ (.ref a))->i=j
def qD(O O2:ce)(σ:St)(ρ:ai)(b:e_):Prop:=∃(i:Nat) (d:A3),i∈O/\i∉O2/\isO d=d_/\ρ[i]?=a_ (a_ d)/\σ[i]?=a_ (a_ (.ref b))
open Classical in
noncomputable def plus(F H:Hp)(A:Addr->Prop):Hp:=λb=>if A b then H b else F b
open Classical in
noncomputable def minus(F:Hp)(A:Addr->Prop):Hp:=λb=>if A b then none else F b
theorem jL{A:e_->Prop}(h:A b):plus F H A b=H b:=by simp_all[plus,f_]
theorem cV{A:e_->Prop}(h:¬A b):plus F H A b=F b:=by simp_all[plus,k_]
theorem qm{A:e_->Prop}(h:A b):minus F A b=c_:=by simp_all[minus,f_]
theorem g7{A:e_->Prop}(h:¬A b):minus F A b=F b:=by simp_all[minus,k_]
def Rep.own(r:Rep K F0 H0 FB O F H σ ρ)(h:qD O O2 σ ρ b):F b=c_/\H0 b=c_/\∃o,H b=a_ o/\isMu o=d_:=by obtain⟨i,d,hi,_,hd,e1,e2⟩:=h;obtain⟨v,e3,q⟩:=r.ow i _ e1 hi;rw[e2]at e3;cases e3;obtain⟨a,o,e,p,m,f,z⟩:=q.top hd;cases e;exact⟨f,z,o,p,m⟩
def Rep.m4(r:Rep K F0 H0 FB O F H σ ρ):aM F (plus F H (qD O O2 σ ρ)):=λb o h=>by
 by_cases I:qD O O2 σ ρ b
 .rw[(r.own I).1]at h;cases h
 .rw[cV I];exact h
def Rep.lZ(r:Rep K F0 H0 FB O F H σ ρ):aM (plus F H (qD O O2 σ ρ)) H:=λb o h=>by
 by_cases I:qD O O2 σ ρ b
 .rw[jL I]at h;exact h
 .rw[cV I]at h;exact r.st.fh b o h
theorem Rep.freeze(r:Rep K F0 H0 FB O F H σ ρ)(I:∀i∈O2,i∈O):Rep K F0 H0 FB O2 (plus F H (qD O O2 σ ρ)) H σ ρ where
 st:=⟨r.st.ff.trans r.m4,r.st.hh,r.lZ,λb o h=>by
  by_cases l:qD O O2 σ ρ b
  .exact .inr (r.own l).2.1
  .rw[cV l]at h;exact r.st.nw b o h⟩
 fb:=r.fb.trans r.m4
 len:=r.len
 fz:=λi d e hi=>by
  by_cases Y:i∈O
  .obtain⟨v,e3,q⟩:=r.ow i d e Y;refine⟨v,e3,?_⟩
   cases hd:isO d with
   |true=>obtain⟨a,_,k,_⟩:=q.top hd;subst k;exact q.give hd r.m4 (jL ⟨i,d,Y,hi,hd,e,e3⟩)
   |false=>rw[mL.non hd]at q;exact q.mono r.m4
  .obtain⟨v,e3,q⟩:=r.fz i d e Y;exact⟨v,e3,q.mono r.m4⟩
 ow:=λi d e hi=>by
  obtain⟨v,e3,q⟩:=r.ow i d e (I i hi);refine⟨v,e3,?_⟩
  cases hd:isO d with
  |true=>
   obtain⟨a,o,k,p,_,f,z⟩:=q.top hd;subst k;refine q.re hd r.m4 ?_ λ_ h=>h;have:¬qD O O2 σ ρ a:=λ⟨j,d',c,m,g,f1,f2⟩=>by have:=r.ap i j d d' a (I i hi) c ⟨e,hd⟩ ⟨f1,g⟩ e3 f2;simp_all
   rw[cV this];exact f
  |false=>rw[mL.non hd]at q ⊢;exact q.mono r.m4
 ap:=λi j d e a hi c=>r.ap i j d e a (I i hi) (I j c)
def Rep.repE(r:Rep K F0 H0 FB [] F H σ ρ):ee K F σ ρ:=⟨r.len,λi d e=>r.fz i d e am⟩
def Rep.ui(r:Rep K F0 H0 FB O F H σ ρ):ee K (plus F H (qD O [] σ ρ)) σ ρ:=(r.freeze (O2:=[]) am).repE
noncomputable def erase:ce->ai->ai
 |[],ρ=>ρ|i::is,ρ=>erase is (ρ.set i c_)
theorem yP:∀(O:ce) (ρ:ai),(erase O ρ).length=ρ.length
 |[],_=>rfl|i::is,ρ=>by rw[erase,yP,Hs]
theorem yQ:∀(O:ce) (ρ:ai) (i:Nat) (d:A3),(erase O ρ)[i]?=a_ (a_ d)->ρ[i]?=a_ (a_ d)/\i∉O
 |[],_,_,_,h=>⟨h,am⟩|j::is,ρ,i,d,h=>by
  obtain⟨h1,h2⟩:=yQ is (ρ.set j c_) i d h;by_cases e:j=i
  .subst e;have I:j<ρ.length:=by
    have:=(s_.mp h1).1;simpa using this
   rw[sy I]at h1;cases h1
  .rw[p_ e]at h1;exact⟨h1,by simp[h2];lia⟩
def Rep.lq(r:Rep K F0 H0 FB O F H σ ρ):ee K F σ (erase O ρ):=
 ⟨by rw[yP,r.len],λi d e=>let ⟨h1,h2⟩:=yQ O ρ i d e;r.fz i d h1 h2⟩
theorem Rep.step(r:Rep K F0 H0 FB O F H σ ρ)(s:A5 F H F1 H1):Rep K F0 H0 FB O F1 H1 σ ρ where
 st:=r.st.trans s
 fb:=r.fb.trans s.ff
 len:=r.len
 fz:=λi d e hi=>let ⟨v,e3,q⟩:=r.fz i d e hi;⟨v,e3,q.mono s.ff⟩
 ow:=λi d e hi=>by
  obtain⟨v,e3,q⟩:=r.ow i d e hi;refine⟨v,e3,?_⟩
  cases hd:isO d with
  |true=>
   obtain⟨a,u,I,p,_,f,z⟩:=q.top hd;subst I;refine q.re hd s.ff ?_ (s.hh a);cases e1:F1 a with
   |none=>rfl|some o=>
    rcases s.nw a o e1 with h|h
    .simp_all
    simp_all
  |false=>rw[mL.non hd]at q ⊢;exact q.mono s.ff
 ap:=r.ap
theorem Rep.uY(r:Rep K F0 H0 FB O F H σ ρ)(s:A5 (plus F H (qD O [] σ ρ)) H F1 H1):Rep K F0 H0 FB O (minus F1 (qD O [] σ ρ)) H1 σ ρ:=by
 refine r.step ⟨λb o h=>?_,s.hh,λb o h=>?_,λb o h=>?_⟩
 .by_cases I:qD O [] σ ρ b
  .rw[(r.own I).1]at h;cases h
  .rw[g7 I];exact s.ff b o (by rw[cV I];exact h)
 .by_cases I:qD O [] σ ρ b
  .simp_all[qm]
  .rw[g7 I]at h;exact s.fh b o h
 .by_cases I:qD O [] σ ρ b
  .simp_all[qm]
  .rw[g7 I]at h;rcases s.nw b o h with z|z
   .rw[cV I]at z;exact .inl z
   .exact .inr z
theorem Rep.minusT(r:Rep K F0 H0 FB O F H σ ρ)(s:A5 (plus F H (qD O [] σ ρ)) H F1 H1)(a:e_)(xs:b9)(h:SqT K F1 a xs):SqT K (minus F1 (qD O [] σ ρ)) a xs:=by
 have key:∀{b:e_} {o:HO},F1 b=a_ o->isMu o=b_->minus F1 (qD O [] σ ρ) b=a_ o:=λ{b o} h n=>by
  by_cases I:qD O [] σ ρ b
  .obtain⟨_,_,u,e,m⟩:=r.own I;have:=s.ff b u (by rw[jL I];exact e);simp_all
  .rw[g7 I];exact h
 rcases h with(h|⟨o,h⟩)|h
 .exact .inl (.inl (key h rfl))
 .exact .inl (.inr ⟨o,key h rfl⟩)
 .exact .inr h
theorem Rep.set{d:A3}{v:V}(r:Rep K F0 H0 FB O F H σ ρ)(q:aU K F d v)(i:Nat):Rep K F0 H0 FB (O.filter (· != i)) F H (σ.set i (a_ v)) (ρ.set i (a_ d)) where
 st:=r.st
 fb:=r.fb
 len:=by rw[Hs,Hs,r.len]
 fz:=λj e h Y=>by
  by_cases I:i=j
  .subst I;have hi:i<ρ.length:=by
    have:=(s_.mp h).1;simpa using this
   rw[sy hi]at h;cases h;exact⟨v,by rw[sy (by rw[<- r.len];exact hi)],q⟩
  .rw[p_ I]at h;rw[p_ I];exact r.fz j e h λz=>Y (Iz.mpr ⟨z,by simpa using HM I⟩)
 ow:=λj e h Y=>by
  obtain⟨h1,h2⟩:=Iz.mp Y;have I:i≠j:=λz=>by simp[z]at h2
  rw[p_ I]at h ⊢;exact r.ow j e h h1
 ap:=λj k ds es a Y g e1 e2 e3 e4=>by
  obtain⟨f,c⟩:=Iz.mp Y;obtain⟨k1,k2⟩:=Iz.mp g;have I:i≠j:=λz=>by simp[z]at c
  have b:i≠k:=λz=>by simp[z]at k2
  rw[p_ I]at e1 e3;rw[p_ b]at e2 e4;exact r.ap j k ds es a f k1 e1 e2 e3 e4
def Rep.setOwn{d:A3}(r:Rep K F0 H0 FB O F H σ ρ)(q:mL K F H0 H d v)(u:∀a,v=.ref a->isO d=d_->¬qD O [i] σ ρ a):Rep K F0 H0 FB (i::O.filter (· != i)) F H (σ.set i (a_ v)) (ρ.set i (a_ d)) where
 st:=r.st
 fb:=r.fb
 len:=by rw[Hs,Hs,r.len]
 fz:=λj e h c=>by simp only[t_,Np]at c;have I:i≠j:=λz=>c.1 z.symm;rw[p_ I]at h ⊢;exact r.fz j e h λz=>c.2 (Iz.mpr ⟨z,by simpa using HM I⟩)
 ow:=λj e h c=>by
  by_cases I:i=j
  .subst I;have hi:i<ρ.length:=by
    have:=(s_.mp h).1;simpa using this
   rw[sy hi]at h;cases h;exact⟨v,by rw[sy (by rw[<- r.len];exact hi)],q⟩
  .rw[p_ I]at h ⊢;rcases t_.mp c with z|z
   .exact Ho z.symm I
   .exact r.ow j e h (Iz.mp z).1
 ap:=λj k ds es a c p e1 e2 e3 e4=>by
  have key:∀{f:Nat} {ds' Y:A3},f∈O->f≠i->((ρ.set i (a_ d))[i]?=a_ (a_ ds')/\isO ds'=d_)->((ρ.set i (a_ d))[f]?=a_ (a_ Y)/\isO Y=d_)->(σ.set i (a_ v))[i]?=a_ (a_ (.ref a))->(σ.set i (a_ v))[f]?=a_ (a_ (.ref a))->False:=by
   intro f ds' Y m g f1 f2 f3 f4;have hi:i<ρ.length:=by have:=(s_.mp f1.1).1;simpa using this
   rw[sy hi]at f1;rw[sy (by rw[<- r.len];exact hi)]at f3;rw[p_ (HM g)]at f2 f4;have t:v=.ref a:=by simpa using f3
   have s:d=ds':=by simpa using f1.1
   exact u a t (s▸f1.2) ⟨f,Y,m,by simpa using g,f2.2,f2.1,f4⟩
  rcases t_.mp c with l|l
  .rcases t_.mp p with b|b
   .rw[l,b]
   .obtain⟨k1,k2⟩:=Iz.mp b;subst l;exact(key k1 (by simpa using k2) e1 e2 e3 e4).elim
  .obtain⟨o,w⟩:=Iz.mp l;have I:i≠j:=λz=>by simp[z]at w
   rcases t_.mp p with b|b
   .subst b;exact(key o (HM I) e2 e1 e4 e3).elim
   .obtain⟨k1,k2⟩:=Iz.mp b;have n:i≠k:=λz=>by simp[z]at k2
    rw[p_ I]at e1 e3;rw[p_ n]at e2 e4;exact r.ap j k ds es a o k1 e1 e2 e3 e4
def Rep.ud(r:Rep K F0 H0 FB O F H σ ρ)(s:A5 (plus F H (qD O [] σ ρ)) H F1 H1):aM F (minus F1 (qD O [] σ ρ)):=λb o h=>by
 by_cases I:qD O [] σ ρ b
 .rw[(r.own I).1]at h;cases h
 .rw[g7 I];exact s.ff b o (by rw[cV I];exact h)
def DY(h:i∉O):O.filter (· != i)=O:=by rw[N_];intro a I;simp;intro e;exact h (e▸I)
def Rep.set'{d:A3}(r:Rep K F0 H0 FB O F H σ ρ)(q:aU K F d v)(hi:i∉O):Rep K F0 H0 FB O F H (σ.set i (a_ v)) (ρ.set i (a_ d)):=by have:=r.set q i;rw[DY hi]at this;exact this
def Rep.base{I:Hp}(r:Rep K F0 H0 FB O F H σ ρ)(s:aM I FB):Rep K F0 H0 I O F H σ ρ:=⟨r.st,s.trans r.fb,r.len,r.fz,r.ow,r.ap⟩
def Rep.writeO{d:A3}{u:HO}(r:Rep K F0 H0 FB O F H σ ρ)(hi:i∈O)(e1:ρ[i]?=a_ (a_ d))(hd:isO d=d_)(e2:σ[i]?=a_ (a_ (.ref a)))(q:F a=c_->H0 a=c_->mL K F H0 (upd H a u) d' (.ref a)):Rep K F0 H0 FB O F (upd H a u) σ (ρ.set i (a_ d')):=by
 have g:F a=c_/\H0 a=c_/\∃o,H a=a_ o/\isMu o=d_:=r.own (O2:=[]) ⟨i,d,hi,am,hd,e1,e2⟩;have m:i<ρ.length:=(s_.mp e1).1;refine⟨⟨r.st.ff,λb o h=>?_,λb o h=>?_,r.st.nw⟩,r.fb,by rw[Hs,r.len],λj e h Y=>?_,λj e h Y=>?_,λj k es fs b Y x f1 f2 f3 f4=>?_⟩
 .rw[aw (aQ h g.2.1)];exact r.st.hh b o h
 .rw[aw (aQ h g.1)];exact r.st.fh b o h
 .have I:i≠j:=λz=>Y (z▸hi);rw[p_ I]at h;exact r.fz j e h Y
 .by_cases I:i=j
  .subst I;rw[sy m]at h;cases h;exact⟨.ref a,e2,q g.1 g.2.1⟩
  .rw[p_ I]at h;obtain⟨v,e3,z⟩:=r.ow j e h Y;refine⟨v,e3,?_⟩
   cases l:isO e with
   |true=>
    obtain⟨b,o,A,p,_,f,_⟩:=z.top l;subst A;have n:b≠a:=λz=>by subst z;exact I (r.ap i j d e b hi Y ⟨e1,hd⟩ ⟨h,l⟩ e2 e3)
    exact z.re l (aM.refl _) f λo h=>by rw[aw n];exact h
   |false=>rw[mL.non l]at z ⊢;exact z
 .have c:∀{j:Nat} {e:A3},((ρ.set i (a_ d'))[j]?=a_ (a_ e)/\isO e=d_)->∃w,ρ[j]?=a_ (a_ w)/\isO w=d_:=λ{j e} f=>by
   by_cases I:i=j
   .subst I;exact⟨d,e1,hd⟩
   .rw[p_ I]at f;exact⟨e,f⟩
  obtain⟨t,y⟩:=c f1;obtain⟨s,g2⟩:=c f2;exact r.ap j k t s b Y x y g2 f3 f4
def Rep.write{ds:bv}{I:b9}(r:Rep K F0 H0 FB O F H σ ρ)(hi:i∈O)(e1:ρ[i]?=a_ (a_ (.lst ds)))(e2:σ[i]?=a_ (a_ (.ref a)))(q:aD K F ds' I):Rep K F0 H0 FB O F (upd H a (.lst I)) σ (ρ.set i (a_ (.lst ds'))):=
 r.writeO hi e1 rfl e2 λf z=>⟨a,I,rfl,au,f,z,q⟩
noncomputable def Pat.names:Pat->ce
 |.nm i=>[i]|.tp is=>is
theorem uE{R:St->Hp->Prop}:∀{is:ce} {ds:bv} {vs:b9} {σ:St} {ρ:ai},Rep K F0 H0 FB O F H σ ρ->(∀i∈is,i∉O)->aD K F ds vs->ds.length=is.length->(∀σ',Rep K F0 H0 FB O F H σ' (jt is ds ρ)->R σ' H)->j8 is vs σ H R
 |[],[],_,σ,ρ,r,_,q,_,h=>⟨q,h σ r⟩|[],_::_,_,_,_,_,_,_,e,_=>by simp at e|_::_,[],_,_,_,_,_,_,e,_=>by simp at e|i::is,d::ds,_,σ,ρ,r,n,⟨v,vs,e,q,t⟩,l,h=>⟨v,vs,e,uE (r.set' q (n i am)) (λj I=>n j (by simp[I])) t (by simpa using l) h⟩
theorem gP_rep{R:St->Hp->Prop}{p:Pat}{d:A3}(r:Rep K F0 H0 FB O F H σ ρ)(n:∀i∈p.names,i∉O)(q:aU K F d v)(e:jZ p d ρ=.ok ρ')(h:∀σ',Rep K F0 H0 FB O F H σ' ρ'->R σ' H):gP K p v σ H R:=by
 cases p with
 |nm i=>have:=I9 e;subst this;exact h _ (r.set' q (n i (by simp[Pat.names])))|tp is=>
  cases d with
  |tup ds=>
   have Y:(if ds.length=is.length then Hr (jt is ds ρ)else JA Err.stuck)=Hr ρ':=e;by_cases I:ds.length=is.length
   .rw[f_ I]at Y;have:=I9 Y;subst this;obtain⟨a,xs,b,t,z⟩:=q;exact⟨a,xs,b,r.st.fh.tup t,by rw[z.length,I],uE r n z I h⟩
   simp_all
  |_=>cases e
def jC(K:Pn)(W:eZ)(ro:Bool)(F0 H0 FB:Hp)(OL O':ce)(D:Ends)(r:M A9):Prop:=match r with
 |.ok (.nx ρ)=>∀σ F H,Rep K F0 H0 FB O' F H σ ρ->D.nx σ H|.ok (.rt d)=>∀v F H,A5 F0 H0 F H->Val K ro F H0 H d v->D.rt v H|.ok (.bk ρ)=>∀σ F H,Rep K F0 H0 FB OL F H σ ρ->D.bk σ H|.ok (.ct ρ)=>∀σ F H,Rep K F0 H0 FB OL F H σ ρ->D.ct σ H|.error e=>W.p e F0 H0
def tS(K:Pn)(W:eZ)(ro:Bool)(F0 H0:Hp)(OL O O':ce)(g:ai->M A9):TS:=λD σ H=>∃FB F ρ,Rep K F0 H0 FB O F H σ ρ/\jC K W ro F0 H0 FB OL O' D (g ρ)
noncomputable def cg:ai->M A9:=λρ=>.ok (.nx ρ)
noncomputable def bo(g h:ai->M A9):ai->M A9:=λρ=>(g ρ).bind λfl=>match fl with
 |.nx ρ'=>h ρ'|fl=>.ok fl
noncomputable def sIf(ft:ai->M Bool)(g h:ai->M A9):ai->M A9:=λρ=>(ft ρ).bind λb=>if b=d_ then g ρ else h ρ
def aV(O:ce)(i:Nat)(f:ai->M A3):ai->M A9:=λρ=>(f (erase O ρ)).bind λd=>.ok (.nx (ρ.set i (a_ d)))
def sX(O:ce)(p:Pat)(f:ai->M A3):ai->M A9:=λρ=>(f (erase O ρ)).bind λd=>(jZ p d ρ).bind λρ'=>.ok (.nx ρ')
noncomputable def jR(ρ:ai)(i:Nat):M bv:=match ρ[i]? with
 |some (a_ (.lst ds))=>.ok ds|_=>.error .stuck
noncomputable def put(ρ:ai)(i:Nat)(ds:bv):M A9:=.ok (.nx (ρ.set i (a_ (.lst ds))))
def ji(O:ce)(i:Nat)(f:ai->M A3):ai->M A9:=λρ=>(jR ρ i).bind λds=>(f (erase O ρ)).bind λd=>if ds.length<h_ then put ρ i (ds++[d])else .error .stuck
noncomputable def asI:A3->M Int
 |.int i=>.ok i|_=>.error .stuck
def D5(i:Nat)(fi f:ai->M A3):ai->M A9:=λρ=>(f ρ).bind λd=>(jR ρ i).bind λds=>(fi ρ).bind λk=>(asI k).bind λk=>if ik d=d_ then(match ixN ds.length k with
 |some j=>put ρ i (ds.set j d)|none=>.error .stuck)else .error .stuck
noncomputable def bZ(f:ai->M A3):ai->M A9:=λρ=>(f ρ).bind λd=>.ok (.rt d)
noncomputable def isL:A3->Bool
 |.lst _=>d_|_=>b_
noncomputable def oN(p:Pat)(g:ai->M A9):bv->ai->M A9
 |[],ρ=>.ok (.nx ρ)|d::ds,ρ=>(jZ p d ρ).bind λY=>(g Y).bind λfl=>match fl with
  |.nx I=>oN p g ds I|.ct I=>oN p g ds I|.bk I=>.ok (.nx I)|.rt d=>.ok (.rt d)
def oY(O:ce)(fi:ai->M bv)(p:Pat)(g:ai->M A9):ai->M A9:=λρ=>(fi (erase O ρ)).bind λds=>oN p g ds ρ
section
variable{W:eZ}{own:Bool}{O':List Nat}{D:Ends}{g h:ai->M A9}{f fi:ai->M A3}
def jC.err{x:M A9}{e:Err}(p:jC K W ro F0 H0 FB OL O' D x)(h:x=.error e):W.p e F0 H0:=by rw[h]at p;exact p
def jC.tI{x:M A9}{e:Err}(p:jC K W ro F0 H0 FB OL O' D x)(s:A5 F0 H0 F H)(h:x=.error e):W.p e F H:=W.mono (p.err h) s
theorem jC.stuck{x:M A9}{P:Prop}(p:jC K W ro F0 H0 FB OL O' D x)(h:x=.error .stuck):P:=(W.ns (p.err h)).elim
def tS.enter(I:∀i∈O2,i∈O)(t:tS K W ro F0 H0 OL O O' g D σ H):tS K W ro F0 H0 OL O2 O' g D σ H:=by obtain⟨FB,F,ρ,r,p⟩:=t;exact⟨FB,_,ρ,r.freeze I,p⟩
def rs_next(t:tS K W ro F0 H0 OL O O cg D σ H):hI D σ H:=by obtain⟨FB,F,ρ,r,p⟩:=t;exact p σ F H r
def rs_seq(t:tS K W ro F0 H0 OL O O2 (bo g h) D σ H):eB (tS K W ro F0 H0 OL O O' g) (tS K W ro F0 H0 OL O' O2 h) D σ H:=by
 obtain⟨FB,F,ρ,r,p⟩:=t;refine⟨FB,F,ρ,r,?_⟩
 unfold bo at p;cases e:g ρ with
 |error x=>exact p.err (by rw[e];rfl)|ok fl=>
  rw[e]at p;cases fl with
  |nx ρ'=>exact λσ' F' H' r'=>⟨FB,F',ρ',r',p⟩|rt d=>exact p|bk ρ'=>exact p|ct ρ'=>exact p
def rs_if(t:tS K W ro F0 H0 OL O O' (sIf ft g h) D σ H):ou (tDT K W ft) (tS K W ro F0 H0 OL O O' g) (tS K W ro F0 H0 OL O O' h) D σ H:=by
 obtain⟨FB,F,ρ,r,p⟩:=t;refine iy r.ui r.lZ (λe Y=>p.tI (r.freeze (O2:=[]) am).st (by unfold sIf;rw[Y];rfl)) λb a F1 H1 I=>?_;have z:sIf ft g h ρ=if b=d_ then g ρ else h ρ:=by unfold sIf;rw[a];rfl
 rw[z]at p;cases b with
 |true=>exact⟨FB,_,ρ,r.uY I,p⟩|false=>exact⟨FB,_,ρ,r.uY I,p⟩
noncomputable def aft(own:Bool)(i:Nat)(O:ce):ce:=if own=d_ then i::O.filter (· != i)else O.filter (· != i)
theorem Rep.bindV{d:A3}(r:Rep K F0 H0 FB O F H σ ρ)(q:Val K own F H2 H d v)(h2:aM H0 H2)(I:∀a,qD O [] σ ρ a->∃o,H2 a=a_ o):Rep K F0 H0 FB (aft own i O) F H (σ.set i (a_ v)) (ρ.set i (a_ d)):=by
 cases own with
 |false=>exact r.set q i|true=>refine r.setOwn (mL.back h2 q) λa Y hd z=>?_;subst Y;obtain⟨b,_,e,_,_,_,n⟩:=mL.top hd q;cases e;obtain⟨j,es,h1,h2,g,f,c⟩:=z;obtain⟨o,h⟩:=I a ⟨j,es,h1,am,g,f,c⟩;simp_all
def zV(t:tS K W ro F0 H0 OL O (aft own i O) (aV O i f) D σ H):sI (tD K W own f) (cK i) D σ H:=by
 obtain⟨FB,F,ρ,r,p⟩:=t;refine aT r.lq r.st.fh (λe Y=>p.tI r.st (by unfold aV;rw[Y];rfl)) λd hd v F1 H1 I q=>?_;have z:aV O i f ρ=.ok (.nx (ρ.set i (a_ d))):=by unfold aV;rw[hd];rfl
 rw[z]at p;exact p _ F1 H1 ((r.step I).bindV q r.st.hh λa b=>let ⟨_,_,_,e,_⟩:=r.own b;⟨_,e⟩)
def rs_unpB{pt:Pat}(n:∀i∈pt.names,i∉O)(t:tS K W ro F0 H0 OL O O (sX O pt f) D σ H):sI (tD K W b_ f) (gP K pt) D σ H:=by
 obtain⟨FB,F,ρ,r,p⟩:=t;refine aT r.lq r.st.fh (λe Y=>p.tI r.st (by unfold sX;rw[Y];rfl)) λd hd v F1 H1 I q=>?_;have z:sX O pt f ρ=(jZ pt d ρ).bind λρ'=>.ok (.nx ρ'):=by unfold sX;rw[hd];rfl
 rw[z]at p;cases e:jZ pt d ρ with
 |error x=>have:=sC e;subst this;exact p.stuck (by rw[e];rfl)|ok ρ'=>rw[e]at p;exact gP_rep (r.step I) n q e λσ' r'=>p σ' F1 H1 r'
def lA{ds:bv}(h:jR ρ i=.ok ds):ρ[i]?=a_ (a_ (.lst ds)):=by
 unfold jR at h;split at h
 .cases h;assumption
 .cases h
def rA{e:Err}(h:jR ρ i=.error e):e=.stuck:=by
 unfold jR at h;split at h
 .cases h
 .cases h;rfl
def Rep.FR{ds:bv}(r:Rep K F0 H0 FB O F H σ ρ)(hi:i∈O)(e:ρ[i]?=a_ (a_ (.lst ds))):∃a xs,σ[i]?=a_ (a_ (.ref a))/\H a=a_ (.lst xs)/\aD K F ds xs:=by obtain⟨v,e3,a,xs,I,p,_,_,t⟩:=r.ow i _ e hi;subst I;exact⟨a,xs,e3,p,t⟩
def tApp(K:Pn)(i:Nat)(te:TE):TS:=sP (tBM K "list" jK (cb i) (aR te eP))
def rs_appB(hi:i∈O)(t:tS K W ro F0 H0 OL O O (ji O i f) D σ H):tApp K i (tD K W b_ f) D σ H:=by
 obtain⟨FB,F,ρ,r,p⟩:=t;cases I:jR ρ i with
 |error e=>have:=rA I;subst this;exact p.stuck (by unfold ji;rw[I];rfl)|ok ds=>
  obtain⟨a,xs,e2,c,z⟩:=r.FR hi (lA I);refine⟨.ref a,e2,jH c,?_⟩
  refine aT r.lq r.st.fh (λe g=>p.tI r.st (by unfold ji;rw[I];show(f (erase O ρ)).bind _=_;rw[g];rfl)) λd hd v F1 H1 Y q=>?_;have h:ji O i f ρ=if ds.length<h_ then put ρ i (ds++[d])else .error .stuck:=by unfold ji;rw[I];show(f (erase O ρ)).bind _=_;rw[hd];rfl
  rw[h]at p;by_cases b:ds.length<h_
  .rw[f_ b]at p;exact⟨a,xs,v,rfl,rfl,Y.hh _ _ c,by rw[z.length];exact b,p σ F1 _ ((r.step Y).write hi (lA I) e2 (aD.append (z.mono Y.ff) ⟨v,[],rfl,q,rfl⟩))⟩
  .rw[k_ b]at p;exact p.stuck rfl
def rs_setI(hi:i∈O)(t:tS K W ro F0 H0 OL O O (D5 i fi f) D σ H):sI (tD K W b_ f) (gSub (cb i) (tD K W b_ fi) rSetL) D σ H:=by
 obtain⟨FB,F,ρ,r,p⟩:=t;refine aT r.ui r.lZ (λe h=>p.tI (r.freeze (O2:=[]) am).st (by unfold D5;rw[h];rfl)) λd hd v F1 H1 l q=>?_;have u:D5 i fi f ρ=(jR ρ i).bind λds=>(fi ρ).bind λk=>(asI k).bind λk=>if ik d=d_ then(match ixN ds.length k with
  |some j=>put ρ i (ds.set j d)|none=>.error .stuck)else .error .stuck:=by unfold D5;rw[hd];rfl
 rw[u]at p;cases Y:jR ρ i with
 |error e=>have:=rA Y;subst this;exact p.stuck (by rw[Y];rfl)|ok ds=>
  rw[Y]at p;have p:jC K W ro F0 H0 FB OL O D ((fi ρ).bind λk=>(asI k).bind λk=>if ik d=d_ then(match ixN ds.length k with
   |some j=>put ρ i (ds.set j d)|none=>.error .stuck)else .error .stuck):=p
  have I:=r.uY l;obtain⟨a,xs,e2,s,z⟩:=I.FR hi (lA Y);refine⟨.ref a,e2,?_⟩
  refine aT I.ui I.lZ (λe h=>p.tI (I.freeze (O2:=[]) am).st (by rw[h];rfl)) λk o w F2 H2 b n=>?_;rw[o]at p;cases k with
  |int k=>
   have p:jC K W ro F0 H0 FB OL O D (if ik d=d_ then(match ixN ds.length k with
    |some j=>put ρ i (ds.set j d)|none=>.error .stuck)else .error .stuck):=p
   by_cases g:ik d=d_
   .rw[f_ g]at p;cases c:ixN ds.length k with
    |none=>rw[c]at p;exact p.stuck rfl|some j=>
     rw[c]at p;refine⟨a,xs,k,j,rfl,n,b.hh _ _ s,by rw[z.length];exact c,?_⟩
     have m:aU K (minus F1 (qD O [] σ ρ)) d v:=aU.flat (r.minusT l) g q;exact p σ _ _ ((I.uY b).write hi (lA Y) e2 (aD.set (m.mono (I.ud b)) j (z.mono (I.ud b))))
   .rw[k_ g]at p;exact p.stuck rfl
  |_=>exact p.stuck rfl
def rs_ret(t:tS K W ro F0 H0 OL O O' (bZ f) D σ H):sO (tD K W ro f) D σ H:=by
 obtain⟨FB,F,ρ,r,p⟩:=t;have I:=r.freeze (O2:=[]) am;refine aT r.ui r.lZ (λe a=>p.tI I.st (by unfold bZ;rw[a];rfl)) λd hd v F1 H1 Y q=>?_;have z:bZ f ρ=.ok (.rt d):=by unfold bZ;rw[hd];rfl
 rw[z]at p;exact p v F1 H1 (I.st.trans Y) (q.back r.st.hh)
def rs_retV(hi:i∈O)(t:tS K W d_ F0 H0 OL O O' (bZ (ah i)) D σ H):sO (cb i) D σ H:=by
 obtain⟨FB,F,ρ,r,p⟩:=t;unfold bZ ah at p
 match e:ρ[i]? with
 |some (a_ d)=>rw[e]at p;obtain⟨v,e3,q⟩:=r.ow i d e hi;exact⟨v,e3,p v F H r.st q⟩
 |some c_=>rw[e]at p;exact p.stuck rfl|none=>rw[e]at p;exact p.stuck rfl
theorem rs_for{fs:ai->M bv}{pt:Pat}(n:∀i∈pt.names,i∉O)(t:tS K W ro F0 H0 OL O O (oY O fs pt g) D σ H):tFor (iD K W fs) (gP K pt) (tS K W ro F0 H0 O O O g) D σ H:=by
 obtain⟨FB,F,ρ,r,p⟩:=t;refine⟨F,erase O ρ,r.lq,r.st.fh,?_⟩
 cases e:fs (erase O ρ)with
 |error x=>exact p.tI r.st (by unfold oY;rw[e];rfl)|ok ds=>
  have z:oY O fs pt g ρ=oN pt g ds ρ:=by unfold oY;rw[e];rfl
  rw[z]at p;intro J F1 H1 k l;refine⟨λi m σ H=>∃F ρ,Rep K F0 H0 F1 O F H σ ρ/\i<=ds.length/\m=ds.length-i/\jC K W ro F0 H0 FB OL O D (oN pt g (ds.drop i) ρ),⟨ds.length,F1,ρ,?_,HX _,ad,bb⟩,?_⟩
  .have c:=r.step k;exact⟨c.st,aM.refl _,c.len,c.fz,c.ow,c.ap⟩
  .rintro i m h H2 ⟨F2,I,r2,hi,rfl,p2⟩;by_cases b:i<ds.length
   .have B:ds.drop i=ds[i]::ds.drop (i+1):=JX b;rw[B]at p2;refine .inr ⟨l.go i F2 H2 r2.fb r2.st.fh b,λσ' H'=>(∃F ρ,Rep K F0 H0 F1 O F H' σ' ρ/\jC K W ro F0 H0 FB OL O D (oN pt g (ds.drop (i+1)) ρ)),λσ' H' ⟨F,ρ,r,p⟩=>⟨ds.length-(i+1),ad,F,ρ,r,b,rfl,p⟩,λx H' y=>?_⟩;obtain⟨C,u,w⟩:=l.yl i F2 H2 x H' ds[i] r2.fb r2.st.fh am y;have A:oN pt g (ds[i]::ds.drop (i+1)) I=(jZ pt ds[i] I).bind λj=>(g j).bind λfl=>match fl with
     |.nx I=>oN pt g (ds.drop (i+1)) I|.ct I=>oN pt g (ds.drop (i+1)) I|.bk I=>.ok (.nx I)|.rt d=>.ok (.rt d):=by rw[oN]
    rw[A]at p2;cases f:jZ pt ds[i] I with
    |error x=>have:=sC f;subst this;exact p2.stuck (by rw[f];rfl)|ok a=>
     rw[f]at p2;have p2:jC K W ro F0 H0 FB OL O D ((g a).bind λfl=>match fl with
      |.nx I=>oN pt g (ds.drop (i+1)) I|.ct I=>oN pt g (ds.drop (i+1)) I|.bk I=>.ok (.nx I)|.rt d=>.ok (.rt d)):=p2
     refine gP_rep (r2.step u) n w f λs v=>⟨F1,C,a,v,?_⟩
     have o:aM FB F1:=(r.step k).fb;cases q:g a with
     |error x=>exact p2.err (by rw[q];rfl)|ok fl=>
      rw[q]at p2;cases fl with
      |nx Y=>exact λσ' F' H' r'=>⟨F',Y,r',p2⟩|ct Y=>exact λσ' F' H' r'=>⟨F',Y,r',p2⟩|bk Y=>exact λσ' F' H' r'=>p2 σ' F' H' (r'.base o)|rt d=>exact p2
   .have:i=ds.length:=ad
    subst this;rw[OS]at p2;exact .inl ⟨l.st F2 H2 r2.fb r2.st.fh,p2 h F2 H2 (r2.base (r.step k).fb)⟩
end
noncomputable def stk:M α:=.error .stuck
def cR:A3->A3->M A3
 |.int i,.int j=>.ok (.int (i+j))|.str x,.str y=>if x.length+y.length<=h_ then .ok (.str (x++y))else stk
 |.lst xs,.lst ys=>if xs.length+ys.length<=h_ then .ok (.lst (xs++ys))else stk
 |.tup xs,.tup ys=>if xs.length+ys.length<=h_ then .ok (.tup (xs++ys))else stk
 |_,_=>stk
noncomputable def fV(i:Int):Bool:=q_ (-(2^64)<i)&&q_ (i<2^64)
def yz:A3->A3->M A3
 |.int i,.int j=>if (fV i||fV j)=d_ then .ok (.int (i*j))else stk
 |_,_=>stk
def eX:A3->A3->M A3
 |.int i,.int j=>if (q_ (0<j)&&q_ (j<18446744073709551616))=d_ then .ok (.int (i/j))else stk
 |_,_=>stk
def iZ:A3->A3->M A3
 |.int i,.int j=>if 0<j then .ok (.int (i%j))else stk
 |_,_=>stk
def Fs:A3->A3->M A3
 |.int i,.int j=>if (q_ (0<=j)&&q_ (j<=1000000)&&q_ (i.natAbs<2^64))=d_ then .ok (.int (i^j.toNat))else stk
 |_,_=>stk
def negD:A3->M A3
 |.int i=>.ok (.int (-i))|_=>stk
def ltD:A3->A3->M A3
 |.int i,.int j=>.ok (.bl (q_ (i<j)))|_,_=>stk
def leD:A3->A3->M A3
 |.int i,.int j=>.ok (.bl (q_ (i<=j)))|_,_=>stk
def gtD:A3->A3->M A3
 |.int i,.int j=>.ok (.bl (q_ (j<i)))|_,_=>stk
def geD:A3->A3->M A3
 |.int i,.int j=>.ok (.bl (q_ (j<=i)))|_,_=>stk
noncomputable def b2z(b:Bool):Int:=if b then 1 else 0
mutual
noncomputable def eqD:A3->A3->Bool
 |.non,.non=>d_|.bl a,.bl b=>a==b|.bl a,.int b=>b2z a==b|.int a,.bl b=>a==b2z b|.int a,.int b=>a==b|.str a,.str b=>a==b|.tup xs,.tup ys=>eqDs xs ys|.lst xs,.lst ys=>eqDs xs ys|_,_=>b_
noncomputable def eqDs:bv->bv->Bool
 |[],[]=>d_|d::ds,e::es=>eqD d e&&eqDs ds es|_,_=>b_
end
mutual
noncomputable def C':A3->Nat->Bool
 |.tup ds,n=>(match n with
  |0=>b_|n+1=>lJ ds n)
 |.lst ds,n=>(match n with
  |0=>b_|n+1=>lJ ds n)
 |.ins _ _,_=>b_|.dic _,_=>b_|.dil _,_=>b_|.non,_=>d_|.bl _,_=>d_|.int _,_=>d_|.str _,_=>d_
noncomputable def lJ:bv->Nat->Bool
 |[],_=>d_|d::ds,n=>C' d n&&lJ ds n
end
def eqM(a b:A3):M A3:=if (C' a 40&&C' b 40)=d_ then .ok (.bl (eqD a b))else stk
def neM(a b:A3):M A3:=if (C' a 40&&C' b 40)=d_ then .ok (.bl (!eqD a b))else stk
def inM(a b:A3):M A3:=(iJ b).bind λds=>if (C' a 40&&lJ ds 40)=d_ then .ok (.bl (ds.any λd=>eqD d a))else stk
def iE(a b:A3):M A3:=(iJ b).bind λds=>if (C' a 40&&lJ ds 40)=d_ then .ok (.bl (!ds.any λd=>eqD d a))else stk
def isND:A3->A3->M A3
 |.non,.non=>.ok (.bl d_)|_,.non=>.ok (.bl b_)|_,_=>stk
def vN:A3->A3->M A3
 |.non,.non=>.ok (.bl b_)|_,.non=>.ok (.bl d_)|_,_=>stk
def gV(ds:bv)(i:Int):M A3:=match atI ds i with
 |some d=>.ok d|none=>stk
def ixD:A3->A3->M A3
 |.lst ds,.int i=>gV ds i|.tup ds,.int i=>gV ds i|_,_=>stk
def iT:bv->M A3
 |[.lst ds]=>.ok (.int ds.length)|[.tup ds]=>.ok (.int ds.length)|_=>stk
def iR:bv->M (List Bool)
 |[]=>.ok []|d::ds=>(asB d).bind λb=>(iR ds).bind λr=>.ok (b::r)
def kK:bv->M cc
 |[]=>.ok []|d::ds=>(asI d).bind λb=>(kK ds).bind λr=>.ok (b::r)
def allD:bv->M A3
 |[.lst ds]=>(iR ds).bind λbs=>.ok (.bl (bs.all id))|_=>stk
def AD:bv->M A3
 |[.lst ds]=>.ok (.lst ds)|[.tup ds]=>.ok (.lst ds)|_=>stk
def intD:bv->M A3
 |[.int i]=>.ok (.int i)|[.bl b]=>.ok (.int (b2z b))|_=>stk
noncomputable def vR(i j:Int):Int:=if j>i then j else i
noncomputable def lR(i j:Int):Int:=if j<i then j else i
def maxL:cc->M A3
 |[]=>stk|i::is=>.ok (.int (is.foldl vR i))
def minL:cc->M A3
 |[]=>stk|i::is=>.ok (.int (is.foldl lR i))
def maxD:bv->M A3
 |[.int i,.int j]=>.ok (.int (vR i j))|[.lst ds]=>(kK ds).bind maxL|_=>stk
def minD:bv->M A3
 |[.int i,.int j]=>.ok (.int (lR i j))|[.lst ds]=>(kK ds).bind minL|_=>stk
def gm:A3->M A3
 |.int _=>.ok (.bl d_)|.bl _=>.ok (.bl d_)|.ins _ _=>stk|.dic _=>stk|.dil _=>stk|_=>.ok (.bl b_)
def kJ:A3->M A3
 |.bl _=>.ok (.bl d_)|.ins _ _=>stk|.dic _=>stk|.dil _=>stk|_=>.ok (.bl b_)
def kH:A3->M A3
 |.lst _=>.ok (.bl d_)|.ins _ _=>stk|.dic _=>stk|.dil _=>stk|_=>.ok (.bl b_)
def lB:A3->M A3
 |.tup _=>.ok (.bl d_)|.ins _ _=>stk|.dic _=>stk|.dil _=>stk|_=>.ok (.bl b_)
noncomputable def nG:A3->M bv
 |.lst ds=>.ok ds|_=>.error .stuck
noncomputable def oj:bv->bv->bv
 |d::ds,e::es=>.tup [d,e]::oj ds es|_,_=>[]
noncomputable def AR(fa fb:ai->M A3):ai->M bv:=λρ=>(fa ρ).bind λa=>(fb ρ).bind λb=>(nG a).bind λds=>(nG b).bind λes=>.ok (oj ds es)
def bH(nN n:Nat)(g:ai->M A9)(ds:bv):M A3:=if ds.length=n then(g (ds.map a_++Ie (nN-ds.length) c_)).bind λfl=>match fl with
 |.nx _=>.ok .non|.rt d=>.ok d|_=>stk else stk
@[simp]def aj{α I:Type}(a:α)(f:α->M I):Pq (Hr a:M α) f=f a:=id rfl
@[simp]def wN{α I:Type}(e:Err)(f:α->M I):Pq (JA e:M α) f=.error e:=id rfl
@[simp] theorem Ei:∀is:List Bool,iR (is.map A3.bl)=.ok is
 |[]=>rfl|i::is=>by simp[iR,asB,Ei is]
theorem lC{ds:bv}{k:Nat}(h:k<ds.length):gV ds (k:Int)=.ok ds[k]:=by simp_all[gV,atI,ixN,f_]
theorem getI_int{is:cc}{k:Int}(Y:0<=k)(h:k<is.length):gV (is.map A3.int) k=.ok (.int (is[k.toNat]'(by omega))):=by
 have I:k.toNat<(is.map A3.int).length:=by simp;lia
 have e:k=(k.toNat:Int):=ad
 have:=lC I;rw[<- e]at this;rw[this];simp
theorem o8{p:Pat}{fe:ai->M A3}{ρ0:ai}(f:A3->A3):∀(ds:bv),(∀d∈ds,∃ρ,jZ p d ρ0=.ok ρ/\fe ρ=.ok (f d))->bx p gZ fe ρ0 ds=.ok (ds.map f)
 |[],_=>rfl|d::ds,h=>by obtain⟨ρ,e1,e2⟩:=h d am;rw[bx,e1];simp only[aj,gZ,e2,o8 f ds λx I=>h x (by simp[I])];simp
@[simp]def small_def(i:Int):fV i=(q_ (-(2^64)<i)&&q_ (i<2^64)):=id rfl
@[simp]def small_def2(i:Int):jI i=(q_ (-(2^62)<=i)&&q_ (i<2^62)):=id rfl
section
variable{fr:ai->M (List A3)}{g h:ai->M A9}
@[simp]def e_var0(d:A3)(r:ai):ah 0 (a_ d::r)=.ok d:=id rfl
@[simp]def e_varS(i:Nat)(o:Option A3)(r:ai):ah (i+1) (o::r)=ah i r:=by rfl
@[simp]def e_c(d:A3):fC d ρ=.ok d:=id rfl
@[simp]def e_1(k:A3->M A3):f1 k fa ρ=(fa ρ).bind k:=id rfl
@[simp]def e_2(k:A3->A3->M A3):f2 k fa fb ρ=(fa ρ).bind λa=>(fb ρ).bind λb=>k a b:=id rfl
@[simp]def e_nil:aB ρ=.ok []:=id rfl
@[simp]def e_cons:aa fa fr ρ=(fa ρ).bind λa=>(fr ρ).bind λr=>.ok (a::r):=id rfl
@[simp]def e_L(k:bv->M A3):fL k fr ρ=(fr ρ).bind k:=id rfl
@[simp]def e_ite:fIte ft fa fb ρ=(ft ρ).bind λb=>if b=d_ then fa ρ else fb ρ:=id rfl
@[simp]def e_and:rV ft fu ρ=(ft ρ).bind λb=>if b=d_ then fu ρ else .ok b_:=id rfl
@[simp]def e_or:fOr ft fu ρ=(ft ρ).bind λb=>if b=d_ then .ok d_ else fu ρ:=id rfl
@[simp]def e_not:oP ft ρ=(ft ρ).bind λb=>.ok (!b):=id rfl
@[simp]def e_B:fB fa ρ=(fa ρ).bind asB:=id rfl
@[simp]def e_andV:hZ fa fb ρ=(fa ρ).bind λa=>(asB a).bind λb=>if b=d_ then fb ρ else .ok (.bl b_):=id rfl
@[simp]def e_orV:AS fa fb ρ=(fa ρ).bind λa=>(asB a).bind λb=>if b=d_ then .ok (.bl d_)else fb ρ:=id rfl
@[simp]def e_tru:ke fa ρ=(fa ρ).bind truD:=id rfl
@[simp]def e_chain(k I:A3->A3->M A3):jA k I fa fb fc ρ=(fa ρ).bind λa=>(fb ρ).bind λb=>(k a b).bind λx=>(asB x).bind λz=>if z=d_ then(fc ρ).bind λc=>I b c else .ok (.bl b_):=id rfl
@[simp]def e_yes:gZ ρ=.ok d_:=id rfl
@[simp]def e_it:fIt fa ρ=(fa ρ).bind iJ:=id rfl
@[simp]def e_rng(k:bv->M bv):pP k fr ρ=(fr ρ).bind k:=id rfl
@[simp]def e_zip:AR fa fb ρ=(fa ρ).bind λa=>(fb ρ).bind λb=>(nG a).bind λds=>(nG b).bind λes=>.ok (oj ds es):=id rfl
@[simp]def e_comp(fi:ai->M bv)(ix:List (Option Nat))(p:Pat):dm fi ix p ft fa ρ=(fi ρ).bind λds=>if ds.length<=h_ then(bx p ft fa (ki ix ρ) ds).bind λr=>.ok (.lst r)else .error .stuck:=id rfl
@[simp]def e_asB(b:Bool):asB (.bl b)=.ok b:=id rfl
@[simp]def e_asI(b:Int):asI (.int b)=.ok b:=id rfl
@[simp]def e_itemsL(ds:bv):iJ (.lst ds)=.ok ds:=id rfl
@[simp]def e_itemsT(ds:bv):iJ (.tup ds)=.ok ds:=id rfl
@[simp]def e_notD(b:Bool):notD (.bl b)=.ok (.bl (!b)):=id rfl
@[simp]def e_truB(b:Bool):truD (.bl b)=.ok b:=id rfl
@[simp]def e_addI(i j:Int):cR (.int i) (.int j)=.ok (.int (i+j)):=id rfl
@[simp]def e_negI(i:Int):negD (.int i)=.ok (.int (-i)):=id rfl
@[simp]def e_ltI(i j:Int):ltD (.int i) (.int j)=.ok (.bl (q_ (i<j))):=id rfl
@[simp]def e_leI(i j:Int):leD (.int i) (.int j)=.ok (.bl (q_ (i<=j))):=id rfl
@[simp]def e_gtI(i j:Int):gtD (.int i) (.int j)=.ok (.bl (q_ (j<i))):=id rfl
@[simp]def e_geI(i j:Int):geD (.int i) (.int j)=.ok (.bl (q_ (j<=i))):=id rfl
@[simp]def e_ixL(ds:bv)(i:Int):ixD (.lst ds) (.int i)=gV ds i:=id rfl
@[simp]def e_ixT(ds:bv)(i:Int):ixD (.tup ds) (.int i)=gV ds i:=id rfl
@[simp]def e_lenL(ds:bv):iT [.lst ds]=.ok (.int ds.length):=id rfl
@[simp]def e_lenT(ds:bv):iT [.tup ds]=.ok (.int ds.length):=id rfl
@[simp]def e_all(ds:bv):allD [.lst ds]=(iR ds).bind λbs=>.ok (.bl (bs.all id)):=id rfl
@[simp]def e_listL(ds:bv):AD [.lst ds]=.ok (.lst ds):=id rfl
@[simp]def e_intB(b:Bool):intD [.bl b]=.ok (.int (b2z b)):=id rfl
@[simp]def e_minL(ds:bv):minD [.lst ds]=(kK ds).bind minL:=id rfl
@[simp]def e_isiBI(i:Int):kJ (.int i)=.ok (.bl b_):=id rfl
@[simp]def e_isiII(i:Int):gm (.int i)=.ok (.bl d_):=id rfl
@[simp]def e_isiLL(ds:bv):kH (.lst ds)=.ok (.bl d_):=id rfl
@[simp]def e_isiTT(ds:bv):lB (.tup ds)=.ok (.bl d_):=id rfl
@[simp]def e_isN(d:A3):isND d .non=.ok (.bl (match d with|.non=>d_|_=>b_)):=by cases d<;>rfl
@[simp]def e_notN(d:A3):vN d .non=.ok (.bl (match d with|.non=>b_|_=>d_)):=by cases d<;>rfl
@[simp]def e_next:cg ρ=.ok (.nx ρ):=id rfl
@[simp] theorem nU:bo g h ρ=(g ρ).bind λfl=>match fl with
 |.nx ρ'=>h ρ'|fl=>.ok fl:=id rfl
@[simp]def e_if:sIf ft g h ρ=(ft ρ).bind λb=>if b=d_ then g ρ else h ρ:=id rfl
@[simp]def e_setB(O:ce)(i:Nat):aV O i fa ρ=(fa (erase O ρ)).bind λd=>.ok (.nx (ρ.set i (a_ d))):=id rfl
@[simp]def e_ret:bZ fa ρ=(fa ρ).bind λd=>.ok (.rt d):=id rfl
@[simp]def e_for(O:ce)(fi:ai->M bv)(p:Pat):oY O fi p g ρ=(fi (erase O ρ)).bind λds=>oN p g ds ρ:=id rfl
@[simp]def e_unpB(O:ce)(p:Pat):sX O p fa ρ=(fa (erase O ρ)).bind λd=>(jZ p d ρ).bind λρ'=>.ok (.nx ρ'):=id rfl
@[simp]def e_appB(O:ce)(i:Nat):ji O i fa ρ=(jR ρ i).bind λds=>(fa (erase O ρ)).bind λd=>if ds.length<h_ then put ρ i (ds++[d])else .error .stuck:=id rfl
@[simp]def e_put(i:Nat)(ds:bv):put ρ i ds=.ok (.nx (ρ.set i (a_ (.lst ds)))):=id rfl
@[simp]def e_lst0(ds:bv)(r:ai):jR (a_ (.lst ds)::r) 0=.ok ds:=id rfl
@[simp]def e_lstS(i:Nat)(o:Option A3)(r:ai):jR (o::r) (i+1)=jR r i:=by rfl
@[simp]def e_er0:erase [] ρ=ρ:=id rfl
@[simp]def e_erS(i:Nat)(O:ce):erase (i::O) ρ=erase O (ρ.set i c_):=id rfl
@[simp]def e_bnm(i:Nat)(d:A3):jZ (.nm i) d ρ=.ok (ρ.set i (a_ d)):=id rfl
@[simp]def e_btp(is:ce)(ds:bv):jZ (.tp is) (.tup ds) ρ=if ds.length=is.length then .ok (jt is ds ρ)else .error .stuck:=id rfl
@[simp]def e_sa0(ds:bv):jt [] ds ρ=ρ:=by rfl
@[simp]def e_saS(i:Nat)(is:ce)(d:A3)(ds:bv):jt (i::is) (d::ds) ρ=jt is ds (ρ.set i (a_ d)):=id rfl
@[simp]def e_in0:ki [] ρ=[]:=id rfl
@[simp]def e_inN(ix:List (Option Nat)):ki (c_::ix) ρ=c_::ki ix ρ:=id rfl
@[simp]def e_inS(j:Nat)(ix:List (Option Nat)):ki (a_ j::ix) ρ=(ρ[j]?).join::ki ix ρ:=id rfl
@[simp]def e_tup(ds:bv):iU ds=if ds.length<=h_ then .ok (.tup ds)else .error .stuck:=id rfl
@[simp]def e_lst(ds:bv):bQ ds=if ds.length<=h_ then .ok (.lst ds)else .error .stuck:=id rfl
@[simp]def e_line:h_=16777216:=Hu
@[simp] theorem e_run(a b:Nat)(ds:bv):bH a b g ds=if ds.length=b then(g (ds.map a_++Ie (a-ds.length) c_)).bind λfl=>match fl with
 |.nx _=>.ok .non|.rt d=>.ok d|_=>stk else stk:=id rfl
@[simp]def e_rng1{j:Int}(h:jI j=d_):qU [.int j]=.ok (i6 0 j.toNat):=by show(if jI j=d_ then _ else _)=_;rw[f_ h]
@[simp]def e_mod{i j:Int}(h:0<j):iZ (.int i) (.int j)=.ok (.int (i%j)):=by simp[iZ,h]
@[simp]def e_mulR{i j:Int}(h:fV j=d_):yz (.int i) (.int j)=.ok (.int (i*j)):=by show(if (fV i||fV j)=d_ then _ else _)=_;rw[h,Nn,f_ rfl]
end
section
variable{W:eZ}{own:Bool}{a b c:Ii}{rest:List Ii}{f:ai->M A3}{fr:ai->M (List A3)}
def PE.imp{t t':TE}(h:PE X e t)(q:∀σ H Q,t' σ H Q->t σ H Q):PE X e t':=λA4 s σ H Q I z=>h A4 s σ H Q I (q σ H Q z)
def PT.imp{t t':TT}(h:PT X e t)(q:∀σ H Q,t' σ H Q->t σ H Q):PT X e t':=λA4 s σ H Q I z=>h A4 s σ H Q I (q σ H Q z)
def PW.imp{t t':TT}(h:PW X e t)(q:∀σ H Q,t' σ H Q->t σ H Q):PW X e t':=λY A4 s σ H Q I z=>h Y A4 s σ H Q I (q σ H Q z)
def PA.imp{t t':TA}(h:PA X es t)(q:∀σ H Q,t' σ H Q->t σ H Q):PA X es t':=λps A4 s σ H Q I z=>h ps A4 s σ H Q I (q σ H Q z)
def PI.imp{t t':TI}(h:PI X tg e t)(q:∀σ H Q,t' σ H Q->t σ H Q):PI X tg e t':=λA4 s σ H Q I z=>h A4 s σ H Q I (q σ H Q z)
def PS.imp{t t':TS}(h:PS X st t)(q:∀D σ H,t' D σ H->t D σ H):PS X st t':=λA4 s σ H D I z=>h A4 s σ H D I (q D σ H z)
def PSs.imp{st:List Ia}{t t':TS}(h:PSs X st t)(q:∀D σ H,t' D σ H->t D σ H):PSs X st t':=λA4 s σ H D I z=>h A4 s σ H D I (q D σ H z)
abbrev DE(K:Pn)(W:eZ)(own:Bool)(X:Cx)(e:Ii)(f:ai->M A3):Prop:=PE X e (tD K W own f)
abbrev DT(K:Pn)(W:eZ)(X:Cx)(e:Ii)(f:ai->M Bool):Prop:=PT X e (tDT K W f)
abbrev DW(K:Pn)(W:eZ)(X:Cx)(e:Ii)(f:ai->M Bool):Prop:=PW X e (tDT K W f)
abbrev DA(K:Pn)(W:eZ)(X:Cx)(es:List Ii)(f:ai->M bv):Prop:=PA X es (tDA K W f)
abbrev DI(K:Pn)(W:eZ)(X:Cx)(tg e:Ii)(f:ai->M bv):Prop:=PI X tg e (iD K W f)
abbrev DG(K:Pn)(X:Cx)(tg:Ii)(p:Pat):Prop:=PG X tg (gP K p)
abbrev DS(K:Pn)(W:eZ)(ro:Bool)(X:Cx)(OL O O':ce)(st:Ia)(g:ai->M A9):Prop:=∀F0 H0:Hp,PS X st (tS K W ro F0 H0 OL O O' g)
abbrev DSs(K:Pn)(W:eZ)(ro:Bool)(X:Cx)(OL O O':ce)(st:List Ia)(g:ai->M A9):Prop:=∀F0 H0:Hp,PSs X st (tS K W ro F0 H0 OL O O' g)
abbrev Op2(K:Pn)(W:eZ)(own:Bool)(X:Cx)(o:j_->j_->PQ j_)(g:A3->A3->M A3):Prop:=OpR X o (rD2 K W own g)
abbrev pV(K:Pn)(W:eZ)(own:Bool)(X:Cx)(v:j_)(g:bv->M A3):Prop:=fj X v (rDL K W own g)
def ao(i:Nat)(Y: ~~~(X.N[i]?=a_ x))(hv:autoParam (Vis X.env.scope x) Jq5)(hd:((x==("__debug__":m_))=b_)⁻¹)(I:((x==("__classdict__":m_))=b_)⁻¹):DE K W b_ X (.Name x pos) (ah i):=(pv i Y hv hd I).imp λ_ _ _=>rd_var
def ae{i:Int}{j}:DE K W b_ X (.Constant (.int i) j pos) (fC (.int i)):=BS.imp λ_ _ _=>rd_c λ_=>rfl
def l7{k:Bool}{j}:DE K W b_ X (.Constant (.bool k) j pos) (fC (.bl k)):=jM.imp λ_ _ _=>rd_c λ_=>rfl
def fN{j}:DE K W b_ X (.Constant .none j pos) (fC .non):=pe_non.imp λ_ _ _=>rd_c λ_=>rfl
def aF{j}:DE K W b_ X (.Constant (.str z) j pos) (fC (.str z)):=uq.imp λ_ _ _=>rd_c λ_=>rfl
def jX{n:Int}(I:∃t,X.mg x=a_ (.int n t))(Y: ~~~(Gl X x))(hd:((x==("__debug__":m_))=b_)⁻¹):DE K W b_ X (.Name x pos) (fC (.int n)):=(pe_gint Y I hd).imp λ_ _ _=>rd_c λ_=>rfl
def av(h:DE K W d_ X e f):DE K W b_ X e f:=PE.imp h λ_ _ _ ⟨F,ρ,r,s,p⟩=>⟨F,ρ,r,s,p.frz⟩
def az{op:Operator}(I:Op2 K W own X (Jd op) g)(c:DE K W b_ X a fa)(Y:DE K W b_ X b fb):DE K W own X (.BinOp a op b pos) (f2 g fa fb):=(pe_op I c Y).imp λ_ _ _=>rd_2
def de_un{op:UnaryOp}{g:A3->M A3}(I:UnR X (PB op) (rD1 K W own g))(Y:DE K W b_ X a fa):DE K W own X (.UnaryOp op a pos) (f1 g fa):=(pe_un I Y).imp λ_ _ _=>rd_1
def jf(I:Op2 K W b_ X (Ht op) g)(d:DE K W b_ X a fa)(c:DE K W b_ X b fb)(Y:autoParam (Jt op b=b_) Jq10):DE K W b_ X (.Compare a [op] [b] pos) (f2 g fa fb):=
 (pe_cmpR I d c Y).imp λ_ _ _=>rd_2
def aE(I:Op2 K W b_ X (Ht op) g)(d:DE K W b_ X a fa)(c:DE K W b_ X b fb)(Y:autoParam (Jt op b=b_) Jq10):DT K W X (.Compare a [op] [b] pos) (fB (f2 g fa fb)):=
 (Ah I d c Y).imp λσ H Q h=>by have q:=rd_B h;exact rd_2 (own:=b_) q
def CB(Y:Op2 K W b_ X (Ht op) g)(I:Op2 K W b_ X (Ht op') g')(h:DE K W b_ X a fa)(f:DE K W b_ X b fb)(e:DE K W b_ X c fc)(d:autoParam (LW [op,op'] [b,c]=b_) Jq7):DE K W b_ X (.Compare a [op,op'] [b,c] pos) (jA g g' fa fb fc):=(pe_chain Y I h f e d).imp λ_ _ _=>BK
def dt_chain(Y:Op2 K W b_ X (Ht op) g)(I:Op2 K W b_ X (Ht op') g')(i:DE K W b_ X a fa)(f:DE K W b_ X b fb)(e:DE K W b_ X c fc)(d:autoParam (LW [op,op'] [b,c]=b_) Jq7):DT K W X (.Compare a [op,op'] [b,c] pos) (fB (jA g g' fa fb fc)):=(pt_chain Y I i f e d).imp λσ H Q h=>by have q:=rd_B h;exact BK q
def cT(b:DE K W b_ X a fa)(c: ~~~(X.K=K))(Y:autoParam (∀I,Ow a X.env I=(do let v <- I;My a.pos;KU [v] (truthy v))) Jq4):DT K W X a (ke fa):=by subst c;exact(qh b Y).imp λ_ _ _=>rd_tru
def gC(I:DT K W X a ft):DT K W X (.UnaryOp .Not a pos) (oP ft):=(BN I).imp λ_ _ _=>rd_not
def kY(I:DT K W X a ft):DW K W X (.BoolOp .And [a] pos) ft:=Fp I
def du(I:DT K W X a ft):DW K W X (.BoolOp .Or [a] pos) ft:=pw_or1 I
def pB(Y:DT K W X a ft)(I:DW K W X (.BoolOp .And (b::rest) pos) fu):DW K W X (.BoolOp .And (a::b::rest) pos) (rV ft fu):=(Fq Y I).imp λ_ _ _=>rd_and
def eh(Y:DT K W X a ft)(I:DW K W X (.BoolOp .Or (b::rest) pos) fu):DW K W X (.BoolOp .Or (a::b::rest) pos) (fOr ft fu):=(pw_or Y I).imp λ_ _ _=>rd_or
def lU{op}(h:DE K W b_ X a f):DE K W b_ X (.BoolOp op [a] pos) f:=pe_one h
def nY(Y:DE K W b_ X a fa)(I:DE K W b_ X (.BoolOp .And (b::rest) pos) fb):DE K W b_ X (.BoolOp .And (a::b::rest) pos) (hZ fa fb):=(pe_and Y I).imp λ_ _ _=>rd_andV
def de_or(Y:DE K W b_ X a fa)(I:DE K W b_ X (.BoolOp .Or (b::rest) pos) fb):DE K W b_ X (.BoolOp .Or (a::b::rest) pos) (AS fa fb):=(pe_or Y I).imp λ_ _ _=>rd_orV
def de_not(I:DE K W b_ X a fa):DE K W b_ X (.UnaryOp .Not a pos) (f1 notD fa):=(pe_not I).imp λ_ _ _=>rd_notV
def Cz(I:DT K W X c ft)(d:DE K W own X a fa)(Y:DE K W own X b fb):DE K W own X (.IfExp c a b pos) (fIte ft fa fb):=(pe_ifExp I d Y).imp λ_ _ _=>rd_ite
def eG:DA K W X [] aB:=aP.imp λ_ _ _=>rd_nil
def aX(a:DE K W b_ X e fa)(Y:DA K W X es fr)(I: ~~~(i_ (e::es) X.env=(b_,Hv e X.env)::i_ es X.env)):DA K W X (e::es) (aa fa fr):=(ax a Y I).imp λ_ _ _=>rd_cons
def l5{I}(h:DA K W X es fr):DE K W own X (.Tuple es I pos) (fL iU fr):=(yk h).imp λ_ _ _=>rd_tup
def cP(h:DA K W X es fr):DE K W d_ X (.List es pos) (fL bQ fr):=(k8 h).imp λ_ _ _=>rd_lst
def aC{id:String}{g:bv->M A3}(f:pV K W own X (.builtin id) g)(c:X.mg x=c_)(hv:Jh x=a_ (.builtin id))(h:DA K W X (e::es) fr)(d: ~~~(Gl X x))(b:(x≠"__name__")⁻¹)(a:((x==("__debug__":m_))=b_)⁻¹)(I: ~~~(i_ (e::es) X.env=(b_,Hv e X.env)::i_ es X.env))(Y: ~~~((HQ pos (i_ es X.env)).any (·.1)=b_)):DE K W own X (.Call (.Name x p) (e::es) [] pos) (fL g fr):=
 (iX f d c hv h b a I Y).imp λ_ _ _=>rd_L
def dv{g:bv->M A3}(f:pV K W own X (.type T) g)(c:X.mg x=c_)(hv:Jh x=a_ (.type T))(h:DA K W X (e::es) fr)(d: ~~~(Gl X x))(b:(x≠"__name__")⁻¹)(a:((x==("__debug__":m_))=b_)⁻¹)(I: ~~~(i_ (e::es) X.env=(b_,Hv e X.env)::i_ es X.env))(Y: ~~~((HQ pos (i_ es X.env)).any (·.1)=b_)):DE K W own X (.Call (.Name x p) (e::es) [] pos) (fL g fr):=
 (ko f d c hv h b a I Y).imp λ_ _ _=>rd_L
def aL(Y:IxR X (rD2 K W own g))(d:DE K W b_ X a fa)(c:DE K W b_ X b fb)(I:Hf b:=by exact λ_ _=>rfl):DE K W own X (.Subscript a b pos) (f2 g fa fb):=(pe_ix Y d c I).imp λ_ _ _=>rd_2
def pQ(a:X.N.Nodup)(hi: ~~~(X.N[i]?=a_ x))(I:autoParam (Loc X.env.scope x) Jq6)(Y:autoParam (X.fn x=d_\/X.env.scope.names.lookup x=a_ .local) Jq3):DG K X (.Name x pos) (.nm i):=dJ a hi I Y
def eF(m:DE K W b_ X e fa)(n: ~~~(X.K=K)):DI K W X tg e (fIt fa):=by
 subst n;refine PI.imp (t:=iSeq X.K (tD X.K W b_ fa)) ?_ λ_ _ _=>ri_seq;intro A4 s σ H R I h;refine C6 (m A4 s σ H _ I h) λv Y k=>?_;obtain⟨y,H1,a,g,i⟩:=k;obtain⟨l,e1,q⟩:=i;subst e1;cases g;rcases q with⟨⟨xs,c⟩,q⟩|⟨⟨xs,c⟩,q⟩
 .obtain⟨A8,f,p,j⟩:=a.list c;refine Km p.isList ?_;refine⟨Y.z,[Y.z],_,_,H1,rfl,a.kept (t':=Y.toks) λb o e=>l_ _ e,xq l _,⟨_,Cb _ rfl,rfl,rfl⟩,λb d=>?_,q⟩
  have e:b=Y.z:=by simpa using d
  subst e;exact a.fpOk (r_ _) (a.hok.fresh (r_ _))
 .obtain⟨A8,f,p,j⟩:=a.tuple c;refine wpAny_pyIter_tuple (show Y.heap.IsTuple l A8.toArray from p) ?_;refine⟨Y.z,[Y.z],_,_,H1,rfl,a.kept (t':=Y.toks) λb o e=>l_ _ e,CO l _,⟨_,Cb _ rfl,rfl,rfl⟩,λb d=>?_,q⟩
  have e:b=Y.z:=by simpa using d
  subst e;exact a.fpOk (r_ _) (a.hok.fresh (r_ _))
def gw(Y:X.mg "range"=c_)(c:DA K W X [a] fr)(b: ~~~(Gl X "range"))(I: ~~~(i_ [a] X.env=[(b_,Hv a X.env)])):DI K W X tg (.Call (.Name "range" p) [a] [] pos) (pP qU fr):=(yj b Y c I).imp λ_ _ _=>ri_rng1
variable{O':List Nat}{g h:ai->M A9}
def bp:DSs K W ro X OL O O [] cg:=λ_ _=>bP.imp λ_ _ _=>rs_next
def aq(h1:DS K W ro X OL O O' st g)(h2:DSs K W ro X OL O' O2 sts h):DSs K W ro X OL O O2 (st::sts) (bo g h):=λF0 H0=>(aA (h1 F0 H0) (h2 F0 H0)).imp λ_ _ _=>rs_seq
def ay(h1:DS K W ro X OL O O' st g):DSs K W ro X OL O O' [st] g:=λF0 H0=>aZ (h1 F0 H0)
def jd(h1:DSs K W ro X OL O2 O' sts g)(I:(∀i∈O2,i∈O)⁻¹):DSs K W ro X OL O O' sts g:=λF0 H0=>PSs.imp (h1 F0 H0) λ_ _ _=>tS.enter I
def cw{Y I:List Ia}(a:DT K W X c ft)(d:DSs K W ro X OL O O' Y g)(b:DSs K W ro X OL O O' I h):DS K W ro X OL O O' (.If c Y I pos) (sIf ft g h):=λF0 H0=>(ib a (d F0 H0) (b F0 H0)).imp λ_ _ _=>rs_if
def w9(c:X.N.Nodup)(b:DE K W own X e f)(hi: ~~~(X.N[i]?=a_ x))(I:autoParam (Loc X.env.scope x) Jq6)(Y: ~~~(Jb e (a_ (.Name x pos')) pos.line X.env=IQ b_))(a:autoParam (X.fn x=d_\/X.env.scope.names.lookup x=a_ .local) Jq3):
  DS K W ro X OL O (aft own i O) (.Assign [.Name x pos'] e pos) (aV O i f):=λF0 H0=>(km c hi I b Y a).imp λ_ _ _=>zV
def aG(I:DE K W ro X e f):DS K W ro X OL O O' (.Return (a_ e) pos) (bZ f):=λF0 H0=>(cF I).imp λ_ _ _=>rs_ret
def ds_retV(Y:(i∈O)⁻¹)(a: ~~~(X.N[i]?=a_ x))(hv:autoParam (Vis X.env.scope x) Jq5)(hd:((x==("__debug__":m_))=b_)⁻¹)(I:((x==("__classdict__":m_))=b_)⁻¹):DS K W d_ X OL O O' (.Return (a_ (.Name x p)) pos) (bZ (ah i)):=λF0 H0=>(cF (pv i a hv hd I)).imp λ_ _ _=>rs_retV Y
def i8{fs:ai->M bv}{pt:Pat}(hi:DI K W X tg iter fs)(a:DG K X tg pt)(c:DSs K W ro X O O O body g)(n:(∀i∈pt.names,i∉O)⁻¹)(Y:PassesOwn (C_ X.prog X.w) X.A X.env X.xe:=by exact PassesOwn.never)(b: ~~~(X.calm=d_))(I:autoParam (∀x,Jo iter X.env x=IQ x) Jq4):DS K W ro X OL O O (.For tg iter body [] pos) (oY O fs pt g):=λF0 H0=>(BO Y b hi a (c F0 H0) I).imp λ_ _ _=>rs_for n
def iN(j:DE K W b_ X e f)(h:(i∈O)⁻¹)(k: ~~~(X.N[i]?=a_ x))(hv:autoParam (Vis X.env.scope x) Jq5)(hd:((x==("__debug__":m_))=b_)⁻¹)(g:((x==("__classdict__":m_))=b_)⁻¹)(l: ~~~(X.K=K))(b: ~~~(i_ [e] X.env=[(b_,Hv e X.env)]))(a: ~~~(IZ (.Name x p) "append" X.env (Hv (.Name x p) X.env)=Hv (.Name x p) X.env))(c: ~~~(((HQ q (i_ [e] X.env)).all (λx=> !x.1)&&(JH q (IK [] X.env)).all (λx=>x.1.isSome)&&q_ ([e].length+([]:List J0).length+(if ([]:List J0).isEmpty then 0 else 1)<30))=d_))(I: ~~~((HQ q (i_ [] X.env)).any (·.1)=b_))(Y: ~~~((apos.endLine==q.line)=d_))(d: ~~~(Jb (.Call (.Attribute (.Name x p) "append" apos) [e] [] q) c_ pos.line X.env=IQ b_)):
  DS K W ro X OL O O (.Expr (.Call (.Attribute (.Name x p) "append" apos) [e] [] q) pos) (ji O i f):=λF0 H0=>by
 subst l;exact PS.imp (iA (pG HF HN HW g6 (pv i k hv hd g) (ax j aP b) a c Y b I) d) λ_ _ _=>rs_appB h
end
section
variable{W:eZ}{own:Bool}
def OpR.imp{f:j_->j_->PQ j_}{r:R2}(h:OpR X f r)(q:∀x y H Q,r' x y H Q->r x y H Q):OpR X f r':=λA4 s σ H x y v u Q I a Y z=>h A4 s σ H x y v u Q I a Y (q x y H Q z)
def UnR.imp{f:j_->PQ j_}{r r':V->Hp->VK->Prop}(h:UnR X f r)(q:∀x H Q,r' x H Q->r x H Q):UnR X f r':=λA4 s σ H x v Q I Y z=>h A4 s σ H x v Q I Y (q x H Q z)
def fj.imp{f:j_}{r r':b9->Hp->VK->Prop}(h:fj X f r)(q:∀x H Q,r' x H Q->r x H Q):fj X f r':=λA4 s σ H x v Q I Y z=>h A4 s σ H x v Q I Y (q x H Q z)
def IxR.imp{r:R2}(h:IxR X r)(q:∀x y H Q,r' x y H Q->r x y H Q):IxR X r':=λY a A4 s σ H x y v u Q I c b z e=>h Y a A4 s σ H x y v u Q I c b (q x y H Q z) e
def aJ.stuck{P:Prop}(p:aJ K W own F H (stk) Q):P:=(W.ns p).elim
theorem aJ.int{F H:Hp}{Q:VK}{i:Int}(p:aJ K W own F H (.ok (.int i)) Q)(s:aM F H):Q (.int i) H:=p _ F H (A5.refl s) (by cases own<;>rfl)
theorem aJ.bl{F H:Hp}{Q:VK}{b:Bool}(p:aJ K W own F H (.ok (.bl b)) Q)(s:aM F H):Q (.bl b) H:=p _ F H (A5.refl s) (by cases own<;>rfl)
theorem aJ.str{F H:Hp}{Q:VK}{x:m_}(p:aJ K W own F H (.ok (.str x)) Q)(s:aM F H):Q (.str x) H:=p _ F H (A5.refl s) (by cases own<;>rfl)
theorem aJ.tup{F H:Hp}{Q:VK}{ds:bv}{xs:b9}{a:e_}(p:aJ K W own F H (.ok (.tup ds)) Q)(s:aM F H)(q:aD K F ds xs)(I:H a=c_):Q (.ref a) (upd H a (.tup xs)):=
 p _ _ _ (A5.lay s I) (by
  have:aU K (upd F a (.tup xs)) (.tup ds) (.ref a):=⟨a,xs,rfl,SqT.of au,q.mono (aM.upd (s.free I))⟩
  cases own<;>exact this)
def aJ.same{ds:bv}(p:aJ K W own F H (.ok (.tup ds)) Q)(s:aM F H)(q:aU K F (.tup ds) v):Q v H:=p _ F H (A5.refl s) (by cases own<;>exact q)
theorem aJ.lst{F H:Hp}{Q:VK}{ds:bv}{xs:b9}{a:e_}(p:aJ K W d_ F H (.ok (.lst ds)) Q)(s:aM F H)(q:aD K F ds xs)(I:H a=c_):Q (.ref a) (upd H a (.lst xs)):=
 p _ F _ (A5.grow s I) ⟨a,xs,rfl,au,s.free I,I,q⟩
def iV(c:∀a b,(∃i j,a=.int i/\b=.int j)\/g a b=stk){x:V}(h:rD2 K W own g x y H Q):∃F i j,aM F H/\x=.int i/\y=.int j/\aJ K W own F H (g (.int i) (.int j)) Q:=by
 obtain⟨F,a,b,s,Y,I,p⟩:=h;rcases c a b with⟨i,j,rfl,rfl⟩|e
 .exact⟨F,i,j,s,Y,I,p⟩
 .rw[e]at p;exact p.stuck
def nA:Op2 K W own X (Jd .Mult) yz:=op_mul.imp λx y H Q h=>by
 obtain⟨F,i,j,s,e1,e2,p⟩:=iV (λa b=>by cases a<;>cases b<;>first|exact .inr rfl|exact .inl ⟨_,_,rfl,rfl⟩) h;have Y:aJ K W own F H (if (fV i||fV j)=d_ then .ok (.int (i*j))else stk) Q:=p;by_cases I:(fV i||fV j)=d_
 .rw[f_ I]at Y;refine⟨i,j,e1,e2,?_,Y.int s⟩
  unfold fV at I;simp only[Li,o_,Hx]at I;exact I
 .rw[k_ I]at Y;exact Y.stuck
theorem FU{j:Int}(I:0<j)(h1:j<18446744073709551616):j.natAbs.log2<9000:=by
 have a:j.natAbs<2^64:=ad
 have b:=(Nat.log2_lt (n:=j.natAbs) (k:=64) ad).mpr a;lia
theorem Fz:OpR X (Jd .FloorDiv) (rI (λ_ j=>0<j/\j<18446744073709551616) λi j=>.int (i/j)):=opI λi j _ _ _ _ _ I q=>by obtain⟨a,Y⟩:=I;exact floordiv_int ad (by rw[Int.fdiv_eq_ediv_of_nonneg i ad];exact q) (.inl (PyProof.noPylong_of_log2 (FU a Y)))
def cG:Op2 K W own X (Jd .FloorDiv) eX:=Fz.imp λx y H Q h=>by
 obtain⟨F,i,j,s,e1,e2,p⟩:=iV (λa b=>by cases a<;>cases b<;>first|exact .inr rfl|exact .inl ⟨_,_,rfl,rfl⟩) h;have I:aJ K W own F H (if (q_ (0<j)&&q_ (j<18446744073709551616))=d_ then .ok (.int (i/j))else stk) Q:=p;by_cases Y:(q_ (0<j)&&q_ (j<18446744073709551616))=d_
 .rw[f_ Y]at I;simp only[o_,Hx]at Y;exact⟨i,j,e1,e2,Y,I.int s⟩
 .rw[k_ Y]at I;exact I.stuck
def cW:Op2 K W own X (Jd .Mod) iZ:=op_mod.imp λx y H Q h=>by
 obtain⟨F,i,j,s,e1,e2,p⟩:=iV (λa b=>by cases a<;>cases b<;>first|exact .inr rfl|exact .inl ⟨_,_,rfl,rfl⟩) h;have I:aJ K W own F H (if 0<j then .ok (.int (i%j))else stk) Q:=p;by_cases Y:0<j
 .rw[f_ Y]at I;exact⟨i,j,e1,e2,Y,I.int s⟩
 .rw[k_ Y]at I;exact I.stuck
def yx:Op2 K W own X (Jd .Pow) Fs:=op_pow.imp λx y H Q h=>by
 obtain⟨F,i,j,s,e1,e2,p⟩:=iV (λa b=>by cases a<;>cases b<;>first|exact .inr rfl|exact .inl ⟨_,_,rfl,rfl⟩) h;have Y:aJ K W own F H (if (q_ (0<=j)&&q_ (j<=1000000)&&q_ (i.natAbs<2^64))=d_ then .ok (.int (i^j.toNat))else stk) Q:=p;by_cases I:(q_ (0<=j)&&q_ (j<=1000000)&&q_ (i.natAbs<2^64))=d_
 .rw[f_ I]at Y;simp only[o_,Hx]at I;exact⟨i,j,e1,e2,⟨I.1.1,I.1.2,I.2⟩,Y.int s⟩
 .rw[k_ I]at Y;exact Y.stuck
def o_neg:UnR X (PB .USub) (rD1 K W own negD):=un_neg.imp λx H Q h=>by
 obtain⟨F,a,s,I,p⟩:=h;cases a with
 |int i=>exact⟨i,I,aJ.int (own:=own) p s⟩|_=>exact aJ.stuck p
def o_lt:Op2 K W own X (Ht .Lt) ltD:=op_lt.imp λx y H Q h=>by obtain⟨F,i,j,s,e1,e2,p⟩:=iV (λa b=>by cases a<;>cases b<;>first|exact .inr rfl|exact .inl ⟨_,_,rfl,rfl⟩) h;exact⟨i,j,e1,e2,p.bl s⟩
def FF:Op2 K W own X (Ht .LtE) leD:=op_le.imp λx y H Q h=>by obtain⟨F,i,j,s,e1,e2,p⟩:=iV (λa b=>by cases a<;>cases b<;>first|exact .inr rfl|exact .inl ⟨_,_,rfl,rfl⟩) h;exact⟨i,j,e1,e2,p.bl s⟩
def Ep:Op2 K W own X (Ht .Gt) gtD:=op_gt.imp λx y H Q h=>by obtain⟨F,i,j,s,e1,e2,p⟩:=iV (λa b=>by cases a<;>cases b<;>first|exact .inr rfl|exact .inl ⟨_,_,rfl,rfl⟩) h;exact⟨i,j,e1,e2,p.bl s⟩
def o_ge:Op2 K W own X (Ht .GtE) geD:=op_ge.imp λx y H Q h=>by obtain⟨F,i,j,s,e1,e2,p⟩:=iV (λa b=>by cases a<;>cases b<;>first|exact .inr rfl|exact .inl ⟨_,_,rfl,rfl⟩) h;exact⟨i,j,e1,e2,p.bl s⟩
theorem op_catL:OpR X (Jd .Add) (λx y H Q=>∃l b xs e,x=.ref l/\y=.ref b/\SqL X.K H l xs/\SqL X.K H b e/\xs.length+e.length<=h_/\∀p,H p=c_->Q (.ref p) (upd H p (.lst (xs++e)))):=by
 intro A4 s σ H x y v u Q I z w h;obtain⟨l,b,xs,e,rfl,rfl,B,C,K,q⟩:=h;cases z;cases w;obtain⟨A8,r,p1,L⟩:=I.list B;obtain⟨Y,r2,p2,A⟩:=I.list C;have G:=r.length;have F:=r2.length;obtain⟨⟨E,dd,m,t⟩,j,k,n,hd⟩:=id p1.isList;obtain⟨⟨o,g,i,f⟩,a,d,n2,c⟩:=id p2.isList;simp only at k hd d c;subst k hd d c;refine MB ⟨_,j,rfl⟩ ⟨_,a,rfl⟩ noFill_list_add seq_list_add PySem.F.slot_list_add PySem.F.entry_list_add (PySem.F.args_list_add_2 _ _) (list_addW l b A8.toArray Y.toArray n n2 dd g t f bb) ⟨j,a,?_⟩;have D:A8.toArray++Y.toArray=(A8++Y).toArray:=by simp
 rw[D];exact⟨.ref _,_,I.lnew (t':=s.toks) (r.append r2) (by rw[Hy];lia),rfl,q _ I.fresh⟩
def op_cat3:OpR X (Jd .Add) (λx y H Q=>∃a b xs ys,x=.ref a/\y=.ref b/\SqT X.K H a xs/\SqT X.K H b ys/\xs.length+ys.length<=h_/\(xs=[]->Q (.ref b) H)/\(ys=[]->Q (.ref a) H)/\∀p,H p=c_->Q (.ref p) (upd H p (.tup (xs++ys)))):=by
 intro A4 s σ H x y v u Q I l k h;obtain⟨a,b,xs,ys,rfl,rfl,t,r,F,E,D,C⟩:=h;by_cases m:xs=[]
 .subst m;cases l;cases k;obtain⟨A8,B,p1,_⟩:=I.tuple t;obtain⟨Y,r2,p2,_⟩:=I.tuple r;cases B;obtain⟨⟨K,dd,w,A⟩,o,q,n,hd⟩:=id p1;obtain⟨⟨z,i,j,g⟩,c,f,n2,d⟩:=id p2;simp only at q hd f d;subst q hd f d;exact MB ⟨_,o,rfl⟩ ⟨_,c,rfl⟩ MR NZ K4 KW (KO _ _)
   (tuple_addW0 a b #[] Y.toArray n n2 dd i A g rfl) ⟨o,c,⟨.ref b,H,I,rfl,E rfl⟩⟩
 .exact op_catT A4 s σ H _ _ v u Q I l k ⟨a,b,xs,ys,rfl,rfl,t,r,m,F,λe=>D e,λ_ p G=>C p G⟩
def bg(k: ~~~(X.K=K)):Op2 K W d_ X (Jd .Add) cR:=by
 subst k;refine(op_add.or (Dl.or (op_catL.or op_cat3))).imp λx y H Q h=>?_;obtain⟨F,a,b,s,f,d,p⟩:=h;cases a with
 |int i=>
  cases b with
  |int j=>exact .inl ⟨i,j,f,d,p.int s⟩|_=>exact aJ.stuck p
 |str z=>
  cases b with
  |str w=>
   have I:aJ X.K W d_ F H (if z.length+w.length<=h_ then .ok (.str (z++w))else stk) Q:=p;by_cases Y:z.length+w.length<=h_
   .rw[f_ Y]at I;exact .inr (.inl ⟨z,w,f,d,Y,I.str s⟩)
   .rw[k_ Y]at I;exact I.stuck
  |_=>exact aJ.stuck p
 |lst ds=>
  cases b with
  |lst es=>
   obtain⟨a,xs,e1,t1,c⟩:=f;obtain⟨b,ys,e2,t2,r2⟩:=d;have I:aJ X.K W d_ F H (if ds.length+es.length<=h_ then .ok (.lst (ds++es))else stk) Q:=p;by_cases Y:ds.length+es.length<=h_
   .rw[f_ Y]at I;exact .inr (.inr (.inl ⟨a,b,xs,ys,e1,e2,s.lst t1,s.lst t2,by rw[c.length,r2.length];exact Y,λl g=>I.lst s (c.append r2) g⟩))
   .rw[k_ Y]at I;exact I.stuck
  |_=>exact aJ.stuck p
 |tup ds=>
  cases b with
  |tup es=>
   obtain⟨a,xs,e1,t1,c⟩:=f;obtain⟨b,ys,e2,t2,r2⟩:=d;have I:aJ X.K W d_ F H (if ds.length+es.length<=h_ then .ok (.tup (ds++es))else stk) Q:=p;by_cases Y:ds.length+es.length<=h_
   .rw[f_ Y]at I;refine .inr (.inr (.inr ⟨a,b,xs,ys,e1,e2,s.tup t1,s.tup t2,by rw[c.length,r2.length];exact Y,λe=>?_,λe=>?_,λl g=>I.tup s (c.append r2) g⟩))
    .have z:ds=[]:=by have:=c.length;rw[e]at this;exact J8.mp this.symm
     subst z;exact I.same s ⟨b,ys,rfl,t2,r2⟩
    .have z:es=[]:=by have:=r2.length;rw[e]at this;exact J8.mp this.symm
     subst z;rw[IH]at I;exact I.same s ⟨a,xs,rfl,t1,c⟩
   .rw[k_ Y]at I;exact I.stuck
  |_=>exact aJ.stuck p
 |_=>exact aJ.stuck p
def o_isN:Op2 K W own X (Ht .Is) isND:=op_isN.imp λx y H Q h=>by
 obtain⟨F,a,b,s,I,Y,p⟩:=h;have key:∀{k:Bool},isND a b=.ok (.bl k)->b=.non->(q_ (x=V.non)=k)->y=V.non/\Q (.bl (q_ (x=V.non))) H:=λ{k} e1 e2 e3=>by subst e2;rw[e1]at p;rw[e3];exact⟨Y,p.bl s⟩
 cases b with
 |non=>
  cases a with
  |non=>exact key rfl rfl (by rw[show x=.non from I];rfl)|bl k=>exact key rfl rfl (by rw[show x=.bl k from I];rfl)|int k=>exact key rfl rfl (by rw[show x=.int k from I];rfl)|str k=>exact key rfl rfl (by rw[show x=.str k from I];rfl)|tup ds=>obtain⟨l,xs,e,_⟩:=I;exact key rfl rfl (by rw[e];rfl)
  |lst ds=>obtain⟨l,xs,e,_⟩:=I;exact key rfl rfl (by rw[e];rfl)
  |ins C fs=>obtain⟨l,dx,xs,e,_⟩:=I;exact key rfl rfl (by rw[e];rfl)
  |dic ks=>obtain⟨l,xs,e,_⟩:=I;exact key rfl rfl (by rw[e];rfl)
  |dil ks=>obtain⟨l,xs,e,_⟩:=I;exact key rfl rfl (by rw[e];rfl)
 |_=>cases a<;>exact aJ.stuck p
def o_notN:Op2 K W own X (Ht .IsNot) vN:=op_notN.imp λx y H Q h=>by
 obtain⟨F,a,b,s,I,Y,p⟩:=h;have key:∀{k:Bool},vN a b=.ok (.bl k)->b=.non->((!decide (x=V.non))=k)->y=V.non/\Q (.bl (!decide (x=V.non))) H:=λ{k} e1 e2 e3=>by subst e2;rw[e1]at p;rw[e3];exact⟨Y,p.bl s⟩
 cases b with
 |non=>
  cases a with
  |non=>exact key rfl rfl (by rw[show x=.non from I];rfl)|bl k=>exact key rfl rfl (by rw[show x=.bl k from I];rfl)|int k=>exact key rfl rfl (by rw[show x=.int k from I];rfl)|str k=>exact key rfl rfl (by rw[show x=.str k from I];rfl)|tup ds=>obtain⟨l,xs,e,_⟩:=I;exact key rfl rfl (by rw[e];rfl)
  |lst ds=>obtain⟨l,xs,e,_⟩:=I;exact key rfl rfl (by rw[e];rfl)
  |ins C fs=>obtain⟨l,dx,xs,e,_⟩:=I;exact key rfl rfl (by rw[e];rfl)
  |dic ks=>obtain⟨l,xs,e,_⟩:=I;exact key rfl rfl (by rw[e];rfl)
  |dil ks=>obtain⟨l,xs,e,_⟩:=I;exact key rfl rfl (by rw[e];rfl)
 |_=>cases a<;>exact aJ.stuck p
theorem Gd{ds:bv}{xs:b9}{i:Int}(p:aJ K W b_ F H (gV ds i) Q)(s:aM F H)(r:aD K F ds xs):∃v,atI xs i=a_ v/\Q v H:=by
 unfold gV at p;cases e:atI ds i with
 |none=>rw[e]at p;exact aJ.stuck p|some d=>
  rw[e]at p;unfold atI at e;cases I:ixN ds.length i with
  |none=>simp_all|some j=>
   rw[I]at e;obtain⟨v,e1,q⟩:=r.get (show ds[j]?=a_ d from e);refine⟨v,?_,p v F H (A5.refl s) q⟩
   unfold atI;rw[r.length,I];exact e1
def cq(d: ~~~(X.K=K)):IxR X (rD2 K W b_ ixD):=by
 subst d;refine ix_seq.imp λx y H Q h=>?_;obtain⟨F,a,b,s,c,Y,p⟩:=h;cases a with
 |lst ds=>
  cases b with
  |int i=>obtain⟨a,xs,e1,t1,I⟩:=c;obtain⟨v,e2,q⟩:=Gd p s I;exact .inl ⟨a,xs,i,v,e1,Y,s.lst t1,e2,q⟩
  |_=>exact aJ.stuck p
 |tup ds=>
  cases b with
  |int i=>obtain⟨a,xs,e1,t1,I⟩:=c;obtain⟨v,e2,q⟩:=Gd p s I;exact .inr (.inl ⟨a,xs,i,v,e1,Y,s.tup t1,e2,q⟩)
  |_=>exact aJ.stuck p
 |_=>exact aJ.stuck p
def eA(I: ~~~(X.K=K)):pV K W own X (.builtin "len") iT:=by
 subst I;refine l9.imp λxs H Q h=>?_;obtain⟨F,ds,s,q,p⟩:=h;cases ds with
 |nil=>exact aJ.stuck p|cons d ds=>
  cases ds with
  |cons _ _=>cases d<;>exact aJ.stuck p
  |nil=>
   obtain⟨v,vs,e,q,e2⟩:=q;cases d with
   |lst es=>
    obtain⟨a,ys,e1,t,r⟩:=q;refine⟨a,ys,by rw[e,e1,show vs=[]from e2],.inl (s.lst t),?_⟩
    rw[r.length];exact aJ.int (own:=own) p s
   |tup es=>
    obtain⟨a,ys,e1,t,r⟩:=q;refine⟨a,ys,by rw[e,e1,show vs=[]from e2],.inr (s.tup t),?_⟩
    rw[r.length];exact aJ.int (own:=own) p s
   |_=>exact aJ.stuck p
end
section
variable{W:eZ}{own:Bool}
def m7{g:bv->M A3}(Y:∀ds,(∃d,ds=[d])\/g ds=stk){xs:b9}(h:rDL K W own g xs H Q):∃F d x,aM F H/\xs=[x]/\aU K F d x/\aJ K W own F H (g [d]) Q:=by
 obtain⟨F,ds,s,q,p⟩:=h;rcases Y ds with⟨d,rfl⟩|e
 .obtain⟨v,vs,e,I,e2⟩:=q;exact⟨F,d,v,s,by rw[e,show vs=[]from e2],I,p⟩
 .rw[e]at p;exact p.stuck
def Ez{g:bv->M A3}(a:∀ds,(∃d,ds=[d])\/(∃d e,ds=[d,e])\/g ds=stk){xs:b9}(h:rDL K W own g xs H Q):(∃F d x,aM F H/\xs=[x]/\aU K F d x/\aJ K W own F H (g [d]) Q)\/∃F d e x y,aM F H/\xs=[x,y]/\aU K F d x/\aU K F e y/\aJ K W own F H (g [d,e]) Q:=by
 obtain⟨F,ds,s,q,p⟩:=h;rcases a ds with⟨d,rfl⟩|⟨d,e,rfl⟩|e
 .obtain⟨v,vs,e,I,e2⟩:=q;exact .inl ⟨F,d,v,s,by rw[e,show vs=[]from e2],I,p⟩
 .obtain⟨v,vs,e1,I,w,ws,e2,Y,e3⟩:=q;exact .inr ⟨F,d,e,v,w,s,by rw[e1,e2,show ws=[]from e3],I,Y,p⟩
 .rw[e]at p;exact p.stuck
theorem uO{F:Hp}:∀{ds:bv} {xs:b9} {bs:List Bool},aD K F ds xs->iR ds=.ok bs->xs=bs.map V.bl
 |[],_,_,q,e=>by cases e;exact q|d::ds,_,bs,⟨v,vs,e1,q,r⟩,e=>by
  cases d with
  |bl b=>
   cases e2:iR ds with
   |error x=>simp_all[iR,asB,aj,wN]|ok cs=>simp only[iR,asB,aj,e2]at e;cases e;rw[e1,show v=.bl b from q,uO r e2];rfl
  |_=>cases e
theorem uP:∀{ds:bv} {e:Err},iR ds=.error e->e=.stuck
 |[],_,h=>by cases h|d::ds,e,h=>by
  cases d with
  |bl b=>
   cases e2:iR ds with
   |error x=>simp only[iR,asB,aj,e2,wN]at h;cases h;exact uP e2|ok cs=>simp_all[iR,asB,aj]
  |_=>cases h;rfl
theorem nH{F:Hp}:∀{ds:bv} {xs:b9} {bs:cc},aD K F ds xs->kK ds=.ok bs->xs=bs.map V.int
 |[],_,_,q,e=>by cases e;exact q|d::ds,_,bs,⟨v,vs,e1,q,r⟩,e=>by
  cases d with
  |int b=>
   cases e2:kK ds with
   |error x=>simp_all[kK,asI,aj,wN]|ok cs=>simp only[kK,asI,aj,e2]at e;cases e;rw[e1,show v=.int b from q,nH r e2];rfl
  |_=>cases e
theorem nI:∀{ds:bv} {e:Err},kK ds=.error e->e=.stuck
 |[],_,h=>by cases h|d::ds,e,h=>by
  cases d with
  |int b=>
   cases e2:kK ds with
   |error x=>simp only[kK,asI,aj,e2,wN]at h;cases h;exact nI e2|ok cs=>simp_all[kK,asI,aj]
  |_=>cases h;rfl
def Bf(f:X.calm=d_)(g: ~~~(X.K=K)):pV K W own X (.builtin "all") allD:=by
 subst g;refine(call_all f).imp λxs H Q h=>?_;obtain⟨F,d,x,s,e,q,p⟩:=m7 (λds=>by match ds with|[d]=>exact .inl ⟨d,rfl⟩|[]=>exact .inr rfl|a::b::c=>exact .inr (by cases a<;>rfl)) h;cases d with
 |lst ds=>
  obtain⟨a,ys,e1,t,r⟩:=q;have I:aJ X.K W own F H ((iR ds).bind λbs=>.ok (.bl (bs.all id))) Q:=p;cases Y:iR ds with
  |error z=>rw[Y]at I;have:=uP Y;subst this;exact aJ.stuck I|ok bs=>
   rw[Y]at I;refine⟨a,bs,by rw[e,e1],?_,aJ.bl (own:=own) I s⟩
   rw[<- uO r Y];exact s.lst t
 |_=>exact aJ.stuck p
def c_list(Y: ~~~(X.K=K)):pV K W d_ X (.type "list") AD:=by
 subst Y;refine gW.imp λxs H Q h=>?_;obtain⟨F,d,x,s,e,q,p⟩:=m7 (λds=>by match ds with|[d]=>exact .inl ⟨d,rfl⟩|[]=>exact .inr rfl|a::b::c=>exact .inr (by cases a<;>rfl)) h;cases d with
 |lst ds=>obtain⟨a,ys,e1,t,r⟩:=q;exact⟨a,ys,by rw[e,e1],.inl (s.lst t),λl I=>aJ.lst p s r I⟩
 |tup ds=>obtain⟨a,ys,e1,t,r⟩:=q;exact⟨a,ys,by rw[e,e1],.inr (s.tup t),λl I=>aJ.lst p s r I⟩
 |_=>exact aJ.stuck p
def c_int:pV K W own X (.type "int") intD:=GW.imp λxs H Q h=>by
 obtain⟨F,d,x,s,e,q,p⟩:=m7 (λds=>by match ds with|[d]=>exact .inl ⟨d,rfl⟩|[]=>exact .inr rfl|a::b::c=>exact .inr (by cases a<;>rfl)) h;cases d with
 |int i=>exact .inl ⟨i,by rw[e,show x=.int i from q],aJ.int (own:=own) p s⟩|bl b=>exact .inr ⟨b,by rw[e,show x=.bl b from q],aJ.int (own:=own) p s⟩|_=>exact aJ.stuck p
theorem fold_max:∀(is:cc) (i:Int),(is.foldl vR i=i\/is.foldl vR i∈is)/\i<=is.foldl vR i/\∀a∈is,a<=is.foldl vR i
 |[],i=>⟨.inl rfl,Mw _,λ_ h=>nomatch h⟩
 |j::is,i=>by
  obtain⟨h1,h2,Y⟩:=fold_max is (vR i j);have z:(vR i j=i\/vR i j=j)/\i<=vR i j/\j<=vR i j:=by unfold vR;split<;>(refine⟨?_,?_,?_⟩<;>first|exact .inl rfl|exact .inr rfl|lia)
  rw[O4];refine⟨?_,Md z.2.1 h2,λa I=>?_⟩
  .rcases h1 with h1|h1
   .rw[h1];rcases z.1 with z|z
    .exact .inl z
    .exact .inr (by rw[z];exact HD)
   .exact .inr (E_ _ h1)
  .rcases t_.mp I with e|e
   .rw[e];exact Md z.2.2 h2
   .exact Y a e
theorem fold_min:∀(is:cc) (i:Int),(is.foldl lR i=i\/is.foldl lR i∈is)/\is.foldl lR i<=i/\∀a∈is,is.foldl lR i<=a
 |[],i=>⟨.inl rfl,Mw _,λ_ h=>nomatch h⟩
 |j::is,i=>by
  obtain⟨h1,h2,Y⟩:=fold_min is (lR i j);have z:(lR i j=i\/lR i j=j)/\lR i j<=i/\lR i j<=j:=by unfold lR;split<;>(refine⟨?_,?_,?_⟩<;>first|exact .inl rfl|exact .inr rfl|lia)
  rw[O4];refine⟨?_,Md h2 z.2.1,λa I=>?_⟩
  .rcases h1 with h1|h1
   .rw[h1];rcases z.1 with z|z
    .exact .inl z
    .exact .inr (by rw[z];exact HD)
   .exact .inr (E_ _ h1)
  .rcases t_.mp I with e|e
   .rw[e];exact Md h2 z.2.2
   .exact Y a e
theorem AN{is:cc}{i m:Int}(h1:m∈i::is)(h2:∀a∈i::is,a<=m):is.foldl vR i=m:=by
 obtain⟨Y,g2,I⟩:=fold_max is i;have a1:is.foldl vR i<=m:=by
  rcases Y with g|g
  .rw[g];exact h2 i HD
  .exact h2 _ (E_ _ g)
 have b:m<=is.foldl vR i:=by
  rcases t_.mp h1 with e|e
  .rw[e];exact g2
  .exact I m e
 lia
theorem AM{is:cc}{i m:Int}(h1:m∈i::is)(h2:∀a∈i::is,m<=a):is.foldl lR i=m:=by
 obtain⟨Y,g2,I⟩:=fold_min is i;have a1:m<=is.foldl lR i:=by
  rcases Y with g|g
  .rw[g];exact h2 i HD
  .exact h2 _ (E_ _ g)
 have b:is.foldl lR i<=m:=by
  rcases t_.mp h1 with e|e
  .rw[e];exact g2
  .exact I m e
 lia
theorem GS(n:X.calm=d_):fj X (.builtin "max") (λxs H Q=>∃a i is,xs=[.ref a]/\SqL X.K H a ((i::is).map V.int)/\Q (.int (is.foldl vR i)) H):=by
 intro A4 s σ H xs us Q I r h;obtain⟨a,i,is,rfl,g,q⟩:=h;obtain⟨u,rfl,f⟩:=r.one;cases f;obtain⟨A8,d,p,w⟩:=I.list g;have hi:=intsAre_of d;obtain⟨xs,e⟩:=hi.allInts.items;have Y:i::is=xs.toList.map (·.1):=by rw[<- hi.numsOf,<- nums_intItems,<- e]
 have hsz:0<xs.size:=by have o:=Jg Ms Y;simp at o;lia
 have b:=p.isList;rw[e]at b;refine max_intList (I.ok.hd n) b hsz λv h' tk hv k=>?_;obtain⟨t,rfl⟩:=intItems_at hv;obtain⟨h1,h2⟩:=argBest_gt (Oc xs) (xs.size-1);refine⟨.int _,H,I.kept k,⟨t,rfl⟩,?_⟩
 have:=AN (is:=is) (i:=i) (m:=Oc xs (argBest (λi j=>q_ (Oc xs i>Oc xs j)) (xs.size-1))) (by
   rw[Y,OW];exact getD_mem (by rw[A_,IP];lia)) (λa c=>by
   rw[Y]at c;obtain⟨j,l,rfl⟩:=mem_getD c;rw[A_,IP]at l;rw[<- OW];exact h2 j ad)
 rw[<- this];exact q
theorem GQ(n:X.calm=d_):fj X (.builtin "min") (λxs H Q=>∃a i is,xs=[.ref a]/\SqL X.K H a ((i::is).map V.int)/\Q (.int (is.foldl lR i)) H):=by
 intro A4 s σ H xs us Q I r h;obtain⟨a,i,is,rfl,g,q⟩:=h;obtain⟨u,rfl,f⟩:=r.one;cases f;obtain⟨A8,d,p,w⟩:=I.list g;have hi:=intsAre_of d;obtain⟨xs,e⟩:=hi.allInts.items;have Y:i::is=xs.toList.map (·.1):=by rw[<- hi.numsOf,<- nums_intItems,<- e]
 have hsz:0<xs.size:=by have o:=Jg Ms Y;simp at o;lia
 have b:=p.isList;rw[e]at b;refine min_intList (I.ok.hd n) b hsz λv h' tk hv k=>?_;obtain⟨t,rfl⟩:=intItems_at hv;obtain⟨h1,h2⟩:=argBest_lt (Oc xs) (xs.size-1);refine⟨.int _,H,I.kept k,⟨t,rfl⟩,?_⟩
 have:=AM (is:=is) (i:=i) (m:=Oc xs (argBest (λi j=>q_ (Oc xs i<Oc xs j)) (xs.size-1))) (by
   rw[Y,OW];exact getD_mem (by rw[A_,IP];lia)) (λa c=>by
   rw[Y]at c;obtain⟨j,l,rfl⟩:=mem_getD c;rw[A_,IP]at l;rw[<- OW];exact h2 j ad)
 simp_all
def c_max(f:X.calm=d_)(k: ~~~(X.K=K)):pV K W own X (.builtin "max") maxD:=by
 subst k;refine((GU f).or (GS f)).imp λxs H Q h=>?_;rcases Ez (λds=>by match ds with|[d]=>exact .inl ⟨d,rfl⟩|[d,e]=>exact .inr (.inl ⟨d,e,rfl⟩)|[]=>exact .inr (.inr rfl)|a::b::c::d=>exact .inr (.inr (by cases a<;>cases b<;>rfl))) h with⟨F,d,x,s,e,q,p⟩|⟨F,d,d2,x,y,s,e,q,g,p⟩
 .cases d with
  |lst ds=>
   obtain⟨a,ys,e1,t,r⟩:=q;have I:aJ X.K W own F H ((kK ds).bind maxL) Q:=p;cases Y:kK ds with
   |error z=>rw[Y]at I;have:=nI Y;subst this;exact aJ.stuck I|ok is=>
    rw[Y]at I;cases is with
    |nil=>exact aJ.stuck I|cons i is=>refine .inr ⟨a,i,is,by rw[e,e1],?_,aJ.int (own:=own) I s⟩;rw[<- nH r Y];exact s.lst t
  |_=>exact aJ.stuck p
 .cases d with
  |int i=>
   cases d2 with
   |int j=>exact .inl ⟨i,j,by rw[e,show x=.int i from q,show y=.int j from g],aJ.int (own:=own) p s⟩|_=>exact aJ.stuck p
  |_=>cases d2<;>exact aJ.stuck p
def c_min(f:X.calm=d_)(k: ~~~(X.K=K)):pV K W own X (.builtin "min") minD:=by
 subst k;refine((GR f).or (GQ f)).imp λxs H Q h=>?_;rcases Ez (λds=>by match ds with|[d]=>exact .inl ⟨d,rfl⟩|[d,e]=>exact .inr (.inl ⟨d,e,rfl⟩)|[]=>exact .inr (.inr rfl)|a::b::c::d=>exact .inr (.inr (by cases a<;>cases b<;>rfl))) h with⟨F,d,x,s,e,q,p⟩|⟨F,d,d2,x,y,s,e,q,g,p⟩
 .cases d with
  |lst ds=>
   obtain⟨a,ys,e1,t,r⟩:=q;have I:aJ X.K W own F H ((kK ds).bind minL) Q:=p;cases Y:kK ds with
   |error z=>rw[Y]at I;have:=nI Y;subst this;exact aJ.stuck I|ok is=>
    rw[Y]at I;cases is with
    |nil=>exact aJ.stuck I|cons i is=>refine .inr ⟨a,i,is,by rw[e,e1],?_,aJ.int (own:=own) I s⟩;rw[<- nH r Y];exact s.lst t
  |_=>exact aJ.stuck p
 .cases d with
  |int i=>
   cases d2 with
   |int j=>exact .inl ⟨i,j,by rw[e,show x=.int i from q,show y=.int j from g],aJ.int (own:=own) p s⟩|_=>exact aJ.stuck p
  |_=>cases d2<;>exact aJ.stuck p
end
theorem SqL.inj{A4:Vp}{σ:St}{H:Hp}{s:v_}{a:e_}{xs ys:b9}(I:A6 X A4 σ H s)(h:SqL X.K H a xs)(h':SqL X.K H a ys):xs=ys:=by
 obtain⟨f,b,p1,_⟩:=I.list h;obtain⟨c,r2,p2,_⟩:=I.list h';obtain⟨o,n,e,_,_,d⟩:=p1;obtain⟨o',g,Y,_,_,d'⟩:=p2;rw[e]at Y;cases Y;rw[d]at d';injection d' with d1 _
 have:f=c:=by simpa using Jg LU d1
 subst this;exact b.inj r2
theorem SqT.inj{A4:Vp}{σ:St}{H:Hp}{s:v_}{a:e_}{xs ys:b9}(I:A6 X A4 σ H s)(h:SqT X.K H a xs)(h':SqT X.K H a ys):xs=ys:=by
 obtain⟨f,b,p1,_⟩:=I.tuple h;obtain⟨c,r2,p2,_⟩:=I.tuple h';obtain⟨o,e,_,n,d⟩:=p1;obtain⟨o',Y,_,g,d'⟩:=p2;rw[e]at Y;cases Y;rw[d]at d';injection d' with d1 _
 have:f=c:=by simpa using Jg LU d1
 subst this;exact b.inj r2
def aD.all_eq{F:Hp}(e:Nat->Bool):∀{ds es:bv},ds.length=es.length->(∀(j:Nat) a b,ds[j]?=a_ a->es[j]?=a_ b->e j=eqD a b)->(Iw ds.length).all e=eqDs ds es:=by
 intro ds
 induction ds generalizing e with
 |nil=>intro es h _;cases es with
  |nil=>rfl|cons _ _=>simp at h
 |cons d ds I=>
  intro es h q;cases es with
  |nil=>simp at h|cons b es=>
   rw[Hl,Nk,Pp,KA,eqDs];rw[q 0 d b rfl rfl]
   congr 1
   exact I (e∘Nat.succ) (by simpa using h) λj x y c Y=>q (j+1) x y (by simpa using c) (by simpa using Y)
theorem qx:∀{ds es:bv},ds.length≠es.length->eqDs ds es=b_
 |[],[],h=>Ho rfl h|[],_::_,_=>rfl|_::_,[],_=>rfl|d::ds,e::es,h=>by rw[eqDs,qx (ds:=ds) (es:=es) (λz=>h (by simp[z])),Jr]
theorem Cq(e:Nat->Bool):∀{ds es:bv},(∀(j:Nat) a b,ds[j]?=a_ a->es[j]?=a_ b->e j=eqD a b)->((Iw (OE ds.length es.length)).all e&&ds.length==es.length)=eqDs ds es:=by
 intro ds es q;by_cases I:ds.length=es.length
 .have e1:OE ds.length es.length=ds.length:=ad
  rw[e1,aD.all_eq (F:=λ_=>c_) e I q,I,L9,Pu]
 simp_all[qx,Jr]
mutual
theorem qz:∀{d:A3} {n:Nat},C' d n=d_->eqD d d=d_
 |.non,_,_=>rfl|.bl b,_,_=>by simp[eqD]|.int i,_,_=>by simp[eqD]|.str x,_,_=>by simp[eqD]|.tup ds,0,h=>by simp_all[C']|.tup ds,n+1,h=>by simp only[C']at h;simp only[eqD];exact rW h|.lst ds,0,h=>by simp_all[C']|.lst ds,n+1,h=>by simp only[C']at h;simp only[eqD];exact rW h|.ins _ _,_,h=>by simp_all[C']|.dic _,_,h=>by simp_all[C']|.dil _,_,h=>by simp_all[C']
theorem rW:∀{ds:bv} {n:Nat},lJ ds n=d_->eqDs ds ds=d_
 |[],_,_=>rfl|d::ds,n,h=>by simp only[lJ,o_]at h;simp only[eqDs,qz h.1,rW h.2,Bool.and_self]
end
theorem vK:∀{ds:bv} {n i:Nat} {d:A3},lJ ds n=d_->ds[i]?=a_ d->C' d n=d_
 |[],_,_,_,_,h=>by simp at h|_::_,_,0,_,h,e=>by simp_all[lJ,o_]|_::_,_,i+1,_,h,e=>by simp only[lJ,o_]at h;exact vK h.2 (by simpa using e)
def lL(ds es:bv)(j:Nat):Bool:=match ds[j]?,es[j]? with
 |some a,a_ b=>eqD a b|_,_=>d_
inductive Sh(s:v_):A3->j_->Prop
 |non:Sh s .non .none
 |bl (b:Bool):Sh s (.bl b) (.bool b)
 |int (i:Int) (t:Nat):Sh s (.int i) (.int i t)
 |str (x:m_) (t:Nat):Sh s (.str x) (.str x t)
 |tup {ds:List A3} {l:e_} {is:Array j_} (p:s.heap.IsTuple l is):Sh s (.tup ds) (.ref l)
 |lst {ds:List A3} {l:e_} {is:Array j_} (p:s.heap.IsList l is):Sh s (.lst ds) (.ref l)
noncomputable def sq:A3->A3->Bool
 |.tup _,.tup _=>d_|.lst _,.lst _=>d_|_,_=>b_
def xC{a b:A3}(h:sq a b=d_):(∃ds es,a=.tup ds/\b=.tup es)\/∃ds es,a=.lst ds/\b=.lst es:=by
 unfold sq at h;split at h
 .exact .inl ⟨_,_,rfl,rfl⟩
 .exact .inr ⟨_,_,rfl,rfl⟩
 .cases h
def eqAt_U{a b:A3}{v:j_}(c:Sh s a u)(Y:Sh s b v)(I:A.units<IU):sq a b=d_\/K7 A s u v (eqD a b):=match c,Y with
 |.non,.non=>.inr (.same _)|.non,.bl b=>.inr (.none_bool b)|.non,.int b t2=>.inr (.none_int b t2)|.non,.str b t2=>.inr (.none_str b t2)|.non,.tup q=>.inr (.none_tuple q I)|.non,.lst q=>.inr (.none_list q I)|.bl a,.non=>.inr (.bool_none a)|.bl a,.bl b=>.inr (.bool_bool a b)|.bl a,.int b t2=>.inr (.bool_int a b t2)|.bl a,.str b t2=>.inr (.bool_str a b t2)|.bl a,.tup q=>.inr (.bool_tuple a q I)|.bl a,.lst q=>.inr (.bool_list a q I)|.int a t,.non=>.inr (.int_none a t)|.int a t,.bl b=>.inr (.int_bool a t b)|.int a t,.int b t2=>.inr (.int_int a t b t2)|.int a t,.str b t2=>.inr (.int_str a t b t2)|.int a t,.tup q=>.inr (.int_tuple a t q I)|.int a t,.lst q=>.inr (.int_list a t q I)|.str a t,.non=>.inr (.str_none a t)|.str a t,.bl b=>.inr (.str_bool a t b)|.str a t,.int b t2=>.inr (.str_int a t b t2)|.str a t,.str b t2=>.inr (.str_str a t b t2)|.str a t,.tup q=>.inr (.str_tuple a t q I)|.str a t,.lst q=>.inr (.str_list a t q I)|.tup p,.non=>.inr (.tuple_none p I)|.tup p,.bl b=>.inr (.tuple_bool b p I)|.tup p,.int b t2=>.inr (.tuple_int b t2 p I)|.tup p,.str b t2=>.inr (.tuple_str b t2 p I)|.tup _,.tup _=>.inl rfl|.tup p,.lst q=>.inr (.tuple_list p q I)|.lst p,.non=>.inr (.list_none p I)|.lst p,.bl b=>.inr (.list_bool b p I)|.lst p,.int b t2=>.inr (.list_int b t2 p I)|.lst p,.str b t2=>.inr (.list_str b t2 p I)|.lst p,.tup q=>.inr (.list_tuple p q I)|.lst _,.lst _=>.inl rfl
def rcAt_U{a b:A3}{v:j_}(c:Sh s a u)(Y:Sh s b v)(I:A.units<IU):sq a b=d_\/N6 A s u v (eqD a b):=match c,Y with
 |.non,.non=>.inr (.none_none)|.non,.bl b=>.inr (.none_bool b)|.non,.int b t2=>.inr (.none_int b t2)|.non,.str b t2=>.inr (.none_str b t2)|.non,.tup q=>.inr (.none_tuple q I)|.non,.lst q=>.inr (.none_list q I)|.bl a,.non=>.inr (.bool_none a)|.bl a,.bl b=>.inr (.bool_bool a b)|.bl a,.int b t2=>.inr (.bool_int a b t2)|.bl a,.str b t2=>.inr (.bool_str a b t2)|.bl a,.tup q=>.inr (.bool_tuple a q I)|.bl a,.lst q=>.inr (.bool_list a q I)|.int a t,.non=>.inr (.int_none a t)|.int a t,.bl b=>.inr (.int_bool a t b)|.int a t,.int b t2=>.inr (.int_int a t b t2)|.int a t,.str b t2=>.inr (.int_str a t b t2)|.int a t,.tup q=>.inr (.int_tuple a t q I)|.int a t,.lst q=>.inr (.int_list a t q I)|.str a t,.non=>.inr (.str_none a t)|.str a t,.bl b=>.inr (.str_bool a t b)|.str a t,.int b t2=>.inr (.str_int a t b t2)|.str a t,.str b t2=>.inr (.str_str a t b t2)|.str a t,.tup q=>.inr (.str_tuple a t q I)|.str a t,.lst q=>.inr (.str_list a t q I)|.tup p,.non=>.inr (.tuple_none p I)|.tup p,.bl b=>.inr (.tuple_bool b p I)|.tup p,.int b t2=>.inr (.tuple_int b t2 p I)|.tup p,.str b t2=>.inr (.tuple_str b t2 p I)|.tup _,.tup _=>.inl rfl|.tup p,.lst q=>.inr (.tuple_list p q I)|.lst p,.non=>.inr (.list_none p I)|.lst p,.bl b=>.inr (.list_bool b p I)|.lst p,.int b t2=>.inr (.list_int b t2 p I)|.lst p,.str b t2=>.inr (.list_str b t2 p I)|.lst p,.tup q=>.inr (.list_tuple p q I)|.lst _,.lst _=>.inl rfl
def rcNeAt_U{a b:A3}{v:j_}(c:Sh s a u)(Y:Sh s b v)(I:A.units<IU):sq a b=d_\/Nc A s u v (!eqD a b):=match c,Y with
 |.non,.non=>.inr (.none_none)|.non,.bl b=>.inr (.none_bool b)|.non,.int b t2=>.inr (.none_int b t2)|.non,.str b t2=>.inr (.none_str b t2)|.non,.tup q=>.inr (.none_tuple q I)|.non,.lst q=>.inr (.none_list q I)|.bl a,.non=>.inr (.bool_none a)|.bl a,.bl b=>.inr (.bool_bool a b)|.bl a,.int b t2=>.inr (.bool_int a b t2)|.bl a,.str b t2=>.inr (.bool_str a b t2)|.bl a,.tup q=>.inr (.bool_tuple a q I)|.bl a,.lst q=>.inr (.bool_list a q I)|.int a t,.non=>.inr (.int_none a t)|.int a t,.bl b=>.inr (.int_bool a t b)|.int a t,.int b t2=>.inr (.int_int a t b t2)|.int a t,.str b t2=>.inr (.int_str a t b t2)|.int a t,.tup q=>.inr (.int_tuple a t q I)|.int a t,.lst q=>.inr (.int_list a t q I)|.str a t,.non=>.inr (.str_none a t)|.str a t,.bl b=>.inr (.str_bool a t b)|.str a t,.int b t2=>.inr (.str_int a t b t2)|.str a t,.str b t2=>.inr (.str_str a t b t2)|.str a t,.tup q=>.inr (.str_tuple a t q I)|.str a t,.lst q=>.inr (.str_list a t q I)|.tup p,.non=>.inr (.tuple_none p I)|.tup p,.bl b=>.inr (.tuple_bool b p I)|.tup p,.int b t2=>.inr (.tuple_int b t2 p I)|.tup p,.str b t2=>.inr (.tuple_str b t2 p I)|.tup _,.tup _=>.inl rfl|.tup p,.lst q=>.inr (.tuple_list p q I)|.lst p,.non=>.inr (.list_none p I)|.lst p,.bl b=>.inr (.list_bool b p I)|.lst p,.int b t2=>.inr (.list_int b t2 p I)|.lst p,.str b t2=>.inr (.list_str b t2 p I)|.lst p,.tup q=>.inr (.list_tuple p q I)|.lst _,.lst _=>.inl rfl
def xE(I:A6 X A4 σ H s)(Y:aM F H){d:A3}{x:V}(o:C' d n=d_)(q:aU X.K F d x)(r:A' x u):Sh s d u:=by
 cases d with
 |non=>cases(show x=.non from q);cases r;exact .non|bl b=>cases(show x=.bl b from q);cases r;exact .bl b|int i=>cases(show x=.int i from q);obtain⟨t,rfl⟩:=r;exact .int i t
 |str y=>cases(show x=.str y from q);obtain⟨t,rfl⟩:=r;exact .str y t
 |tup ds=>obtain⟨l,xs,e,t,_⟩:=q;subst e;cases r;obtain⟨is,_,p,_⟩:=I.tuple (Y.tup t);exact .tup (show s.heap.IsTuple l is.toArray from p)
 |lst ds=>obtain⟨l,xs,e,t,_⟩:=q;subst e;cases r;obtain⟨is,_,p,_⟩:=I.list (Y.lst t);exact .lst p.isList
 |_=>simp[C']at o
theorem rX{n:Nat}(a:∀(d e:A3) {v:V},aU X.K F d v->aU X.K F e v->C' d n=d_->C' e n=d_->d=e):∀(ds es:bv) {xs:b9},aD X.K F ds xs->aD X.K F es xs->lJ ds n=d_->lJ es n=d_->ds=es
 |[],[],_,_,_,_,_=>rfl|[],_::_,_,q,⟨_,_,e,_⟩,_,_=>by rw[show _=[]from q]at e;cases e|_::_,[],_,⟨_,_,e,_⟩,q,_,_=>by rw[show _=[]from q]at e;cases e|d::ds,e::es,_,⟨v,vs,e1,f,b⟩,⟨w,ws,e2,c,r2⟩,Y,I=>by rw[e1]at e2;cases e2;simp only[lJ,o_]at Y I;rw[a d e f c Y.1 I.1,rX a ds es b r2 Y.2 I.2]
def qB{d e:A3}(hd:sq d d=b_)(q:aU X.K F d v)(r:aU X.K F e v)(Y:C' d n=d_)(I:C' e n=d_):d=e:=by
 cases d<;>first|(cases hd;done)|(simp[C']at Y;done)|(simp only[aU]at q;subst q)
 all_goals cases e<;>first|(simp[C']at I;done)|(simp only[aU]at r;first|(obtain⟨_,_,z,_⟩:=r;cases z;done)|(cases r<;>rfl))
theorem wa(I:A6 X A4 σ H s)(b:aM F H):∀(n:Nat) (d e:A3) {v:V},aU X.K F d v->aU X.K F e v->C' d n=d_->C' e n=d_->d=e
 |n,.tup ds,e,v,⟨l,xs,e1,h1,c⟩,r,Y,a=>by
  subst e1;cases n with
  |zero=>simp_all[C']|succ n=>
   cases e with
   |tup es=>obtain⟨f,ys,e2,h2,r2⟩:=r;cases e2;cases SqT.inj I (b.tup h1) (b.tup h2);rw[rX (wa I b n) _ _ c r2 (by simpa only[C'] using Y) (by simpa only[C'] using a)]
   |lst es=>obtain⟨f,ys,e2,h2,r2⟩:=r;cases e2;obtain⟨h,_,p1,_⟩:=I.list (b.lst h2);obtain⟨g,_,p2,_⟩:=I.tuple (b.tup h1);exact Ho rfl (Nb p1.isList (show s.heap.IsTuple l g.toArray from p2))
   |_=>first|(simp[C']at a;done)|(simp only[aU]at r;cases r)
 |n,.lst ds,e,v,⟨l,xs,e1,h1,c⟩,r,Y,a=>by
  subst e1;cases n with
  |zero=>simp_all[C']|succ n=>
   cases e with
   |lst es=>obtain⟨f,ys,e2,h2,r2⟩:=r;cases e2;cases SqL.inj I (b.lst h1) (b.lst h2);rw[rX (wa I b n) _ _ c r2 (by simpa only[C'] using Y) (by simpa only[C'] using a)]
   |tup es=>obtain⟨f,ys,e2,h2,r2⟩:=r;cases e2;obtain⟨h,_,p1,_⟩:=I.list (b.lst h1);obtain⟨g,_,p2,_⟩:=I.tuple (b.tup h2);exact Ho rfl (Nb p1.isList (show s.heap.IsTuple l g.toArray from p2))
   |_=>first|(simp[C']at a;done)|(simp only[aU]at r;cases r)
 |_,.non,_,_,q,r,Y,a=>qB rfl q r Y a|_,.bl _,_,_,q,r,Y,a=>qB rfl q r Y a|_,.int _,_,_,q,r,Y,a=>qB rfl q r Y a|_,.str _,_,_,q,r,Y,a=>qB rfl q r Y a|_,.ins _ _,_,_,_,_,Y,_=>by simp_all[C']|_,.dic _,_,_,_,_,Y,_=>by simp_all[C']|_,.dil _,_,_,_,_,Y,_=>by simp_all[C']
termination_by n=>n
theorem rcAt_S{a b:A3}{x:V}{v:j_}(I:A6 X A4 σ H s)(c:aM F H)(E:sq a b=d_)(o:aU X.K F a x)(n:aU X.K F b y)(m:A' x u)(l:A' y v)(i:A.units<IU)(t:∀(ds es:bv) (j:Nat) (d1 d2:A3) (x y:V) (u v:j_),(a=.tup ds/\b=.tup es\/a=.lst ds/\b=.lst es)->ds[j]?=a_ d1->es[j]?=a_ d2->aU X.K F d1 x->aU X.K F d2 y->A' x u->A' y v->K7 A.in1 s u v (eqD d1 d2)):N6 A s u v (eqD a b):=by
 rcases xC E with⟨ds,es,rfl,rfl⟩|⟨ds,es,rfl,rfl⟩
 .skip;obtain⟨r,xs,e1,h1,Y⟩:=o;subst e1;cases m;obtain⟨is,w1,p1,_⟩:=I.tuple (c.tup h1);obtain⟨p,ys,e2,h2,r2⟩:=n;subst e2;cases l;obtain⟨h,w2,p2,_⟩:=I.tuple (c.tup h2);have B:=w1.length;have z:=w2.length;have D:=Y.length;have C:=r2.length;have q:=SeqAt.RcAt.tuples (A:=A) (e:=lL ds es) (show s.heap.IsTuple r is.toArray from p1) (show s.heap.IsTuple p h.toArray from p2) i (λj h1 h2=>by
   obtain⟨f,f1,k⟩:=w1.atA h1;obtain⟨d,f2,g2⟩:=w2.atA h2;obtain⟨d1,k1,m1⟩:=Y.at f1;obtain⟨d2,k2,g⟩:=r2.at f2;rw[show lL ds es j=eqD d1 d2 by simp only[lL,k1,k2]];exact t ds es j d1 d2 f d _ _ (.inl ⟨rfl,rfl⟩) k1 k2 m1 g k g2)
  rw[show is.toArray.size=ds.length by simp;lia,show h.toArray.size=es.length by simp;lia,Cq _ (λj a b h1 h2=>by simp_all[lL])]at q;exact q
 .skip;obtain⟨r,xs,e1,h1,Y⟩:=o;subst e1;cases m;obtain⟨is,w1,p1,_⟩:=I.list (c.lst h1);obtain⟨p,ys,e2,h2,r2⟩:=n;subst e2;cases l;obtain⟨h,w2,p2,_⟩:=I.list (c.lst h2);have B:=w1.length;have z:=w2.length;have D:=Y.length;have C:=r2.length;by_cases w:ds.length=es.length
  .have q:=SeqAt.RcAt.lists (A:=A) (e:=lL ds es) p1.isList p2.isList a' i (λj h1 h2=>by
   obtain⟨f,f1,k⟩:=w1.atA h1;obtain⟨d,f2,g2⟩:=w2.atA h2;obtain⟨d1,k1,m1⟩:=Y.at f1;obtain⟨d2,k2,g⟩:=r2.at f2;rw[show lL ds es j=eqD d1 d2 by simp only[lL,k1,k2]];exact t ds es j d1 d2 f d _ _ (.inr ⟨rfl,rfl⟩) k1 k2 m1 g k g2)
   rw[show is.toArray.size=ds.length by grind,aD.all_eq (F:=F) _ w (λj a b h1 h2=>by simp_all[lL])]at q;exact q
  .rw[show eqD (.lst ds) (.lst es)=b_ from qx w];exact SeqAt.RcAt.lists_lengths (A:=A) p1.isList p2.isList (by simp;lia) i
theorem rcNeAt_S{a b:A3}{x:V}{v:j_}(I:A6 X A4 σ H s)(c:aM F H)(E:sq a b=d_)(o:aU X.K F a x)(n:aU X.K F b y)(m:A' x u)(l:A' y v)(i:A.units<IU)(t:∀(ds es:bv) (j:Nat) (d1 d2:A3) (x y:V) (u v:j_),(a=.tup ds/\b=.tup es\/a=.lst ds/\b=.lst es)->ds[j]?=a_ d1->es[j]?=a_ d2->aU X.K F d1 x->aU X.K F d2 y->A' x u->A' y v->K7 A.in1 s u v (eqD d1 d2)):Nc A s u v (!eqD a b):=by
 rcases xC E with⟨ds,es,rfl,rfl⟩|⟨ds,es,rfl,rfl⟩
 .skip;obtain⟨r,xs,e1,h1,Y⟩:=o;subst e1;cases m;obtain⟨is,w1,p1,_⟩:=I.tuple (c.tup h1);obtain⟨p,ys,e2,h2,r2⟩:=n;subst e2;cases l;obtain⟨h,w2,p2,_⟩:=I.tuple (c.tup h2);have B:=w1.length;have z:=w2.length;have D:=Y.length;have C:=r2.length;have q:=SeqAt.RcNeAt.tuples (A:=A) (e:=lL ds es) (show s.heap.IsTuple r is.toArray from p1) (show s.heap.IsTuple p h.toArray from p2) i (λj h1 h2=>by
   obtain⟨f,f1,k⟩:=w1.atA h1;obtain⟨d,f2,g2⟩:=w2.atA h2;obtain⟨d1,k1,m1⟩:=Y.at f1;obtain⟨d2,k2,g⟩:=r2.at f2;rw[show lL ds es j=eqD d1 d2 by simp only[lL,k1,k2]];exact t ds es j d1 d2 f d _ _ (.inl ⟨rfl,rfl⟩) k1 k2 m1 g k g2)
  rw[show is.toArray.size=ds.length by simp;lia,show h.toArray.size=es.length by simp;lia,Cq _ (λj a b h1 h2=>by simp_all[lL])]at q;exact q
 .skip;obtain⟨r,xs,e1,h1,Y⟩:=o;subst e1;cases m;obtain⟨is,w1,p1,_⟩:=I.list (c.lst h1);obtain⟨p,ys,e2,h2,r2⟩:=n;subst e2;cases l;obtain⟨h,w2,p2,_⟩:=I.list (c.lst h2);have B:=w1.length;have z:=w2.length;have D:=Y.length;have C:=r2.length;by_cases w:ds.length=es.length
  .have q:=SeqAt.RcNeAt.lists (A:=A) (e:=lL ds es) p1.isList p2.isList (by simp;lia) i (λj h1 h2=>by
   obtain⟨f,f1,k⟩:=w1.atA h1;obtain⟨d,f2,g2⟩:=w2.atA h2;obtain⟨d1,k1,m1⟩:=Y.at f1;obtain⟨d2,k2,g⟩:=r2.at f2;rw[show lL ds es j=eqD d1 d2 by simp only[lL,k1,k2]];exact t ds es j d1 d2 f d _ _ (.inr ⟨rfl,rfl⟩) k1 k2 m1 g k g2)
   rw[show is.toArray.size=ds.length by simp;lia,aD.all_eq (F:=F) _ w (λj a b h1 h2=>by simp_all[lL])]at q;exact q
  .rw[show eqD (.lst ds) (.lst es)=b_ from qx w];exact SeqAt.RcNeAt.lists_lengths (A:=A) p1.isList p2.isList (by simp;lia) i
def ok_sub{a b:A3}{j:Nat}{ds es:bv}(I:C' a n=d_)(Y:C' b n=d_)(h:a=.tup ds/\b=.tup es\/a=.lst ds/\b=.lst es)(k1:ds[j]?=a_ d1)(k2:es[j]?=a_ d2):∃m,n=m+1/\C' d1 m=d_/\C' d2 m=d_:=by
 cases n with
 |zero=>rcases h with⟨rfl,rfl⟩|⟨rfl,rfl⟩<;>simp[C']at I
 |succ m=>exact⟨m,rfl,by rcases h with⟨rfl,rfl⟩|⟨rfl,rfl⟩<;>simp only[C']at I Y<;>exact⟨vK I k1,vK Y k2⟩⟩
theorem eqAt_N(I:A6 X A4 σ H s)(i:aM F H):∀(n:Nat) (a b:A3) {x y:V} {u v:j_} {A:JK},C' a n=d_->C' b n=d_->aU X.K F a x->aU X.K F b y->A' x u->A' y v->A.units+n<IU->K7 A s u v (eqD a b):=by
 intro n
 induction n with
 |zero=>intro a b x y u v A c k Y g f d B;refine(eqAt_U (xE I i c Y f) (xE I i k g d) ad).resolve_left λh=>?_;rcases xC h with⟨ds,es,rfl,rfl⟩|⟨ds,es,rfl,rfl⟩<;>simp[C']at c
 |succ n w=>
  intro a b x y u v A c k Y g f d B;rcases eqAt_U (A:=A) (xE I i c Y f) (xE I i k g d) ad with h|h
  .by_cases l:x=y
   .subst l;cases(show a=b from wa I i (n+1) a b Y g c k);rw[qz c];rcases xC h with⟨ds,es,rfl,_⟩|⟨ds,es,rfl,_⟩<;>(obtain⟨t,xs,e1,_⟩:=Y;subst e1;cases f;cases d;exact SeqAt.EqAt.same _)
   .have q:=rcAt_S (A:=A) I i h Y g f d ad λds es j d1 d2 G E L K C k1 k2 m1 r D g2=>by
     obtain⟨m,e,p,o⟩:=ok_sub c k C k1 k2;cases e;exact w d1 d2 p o m1 r D g2 (by show A.units+1+n<IU;lia)
    rcases xC h with⟨ds,es,rfl,rfl⟩|⟨ds,es,rfl,rfl⟩<;>(obtain⟨t,xs,e1,_⟩:=Y;obtain⟨N,ys,e2,_⟩:=g;subst e1;subst e2;cases f;cases d;exact SeqAt.EqAt.of_refs (λz=>l (by rw[z])) q)
  .exact h
def Gk(I:A6 X A4 σ H s)(i:aM F H)(a b:A3){x:V}{v:j_}(g:C' a n=d_)(f:C' b n=d_)(e:aU X.K F a x)(d:aU X.K F b y)(c:A' x u)(Y:A' y v)(h:A.units+n<IU):K7 A s u v (eqD a b):=eqAt_N I i n a b g f e d c Y h
theorem eqAt_I(I:A6 X A4 σ H s)(h:aM F H){a b:A3}(c:C' a n=d_)(Y:C' b n=d_)(k:A.units+n<IU)(ds es:bv)(j:Nat)(d1 d2:A3)(x y:V)(u v:j_)(g:a=.tup ds/\b=.tup es\/a=.lst ds/\b=.lst es)(k1:ds[j]?=a_ d1)(k2:es[j]?=a_ d2)(m1:aU X.K F d1 x)(f:aU X.K F d2 y)(i:A' x u)(g2:A' y v):K7 A.in1 s u v (eqD d1 d2):=by obtain⟨m,rfl,e,d⟩:=ok_sub c Y g k1 k2;exact Gk I h d1 d2 e d m1 f i g2 ad
theorem rcAt_D(I:A6 X A4 σ H s)(Y:aM F H)(a b:A3){x:V}{v:j_}(i:C' a n=d_)(g:C' b n=d_)(f:aU X.K F a x)(e:aU X.K F b y)(d:A' x u)(c:A' y v)(j:A.units+n<IU):N6 A s u v (eqD a b):=
 (rcAt_U (xE I Y i f d) (xE I Y g e c) ad).elim (λh=>rcAt_S I Y h f e d c ad (eqAt_I I Y i g j)) id
theorem rcNeAt_D(I:A6 X A4 σ H s)(Y:aM F H)(a b:A3){x:V}{v:j_}(i:C' a n=d_)(g:C' b n=d_)(f:aU X.K F a x)(e:aU X.K F b y)(d:A' x u)(c:A' y v)(j:A.units+n<IU):Nc A s u v (!eqD a b):=
 (rcNeAt_U (xE I Y i f d) (xE I Y g e c) ad).elim (λh=>rcNeAt_S I Y h f e d c ad (eqAt_I I Y i g j)) id
section
variable{W:eZ}{own:Bool}
def aJ.blS{b:Bool}(p:aJ K W own F H (.ok (.bl b)) Q)(Y:aM F H)(I:A6 X A4 σ H s):EP X A4 σ Q (.bool b) s:=⟨.bl b,H,I,rfl,p.bl Y⟩
theorem nB(j:X.A.units+64<IU)(i: ~~~(X.K=K)):Op2 K W own X (Ht .Eq) eqM:=by
 subst i;intro A4 s σ H x y v u Q I e d h;obtain⟨F,a,b,c,g,f,p⟩:=h;unfold eqM at p;by_cases Y:(C' a 40&&C' b 40)=d_
 .rw[f_ Y]at p;simp only[o_]at Y;exact rcAt_D I c a b Y.1 Y.2 g f e d ad _ _ _ _ (p.blS c I)
 .rw[k_ Y]at p;exact p.stuck
theorem vM(j:X.A.units+64<IU)(i: ~~~(X.K=K)):Op2 K W own X (Ht .NotEq) neM:=by
 subst i;intro A4 s σ H x y v u Q I e d h;obtain⟨F,a,b,c,g,f,p⟩:=h;unfold neM at p;by_cases Y:(C' a 40&&C' b 40)=d_
 .rw[f_ Y]at p;simp only[o_]at Y;exact rcNeAt_D I c a b Y.1 Y.2 g f e d ad _ _ _ _ (p.blS c I)
 .rw[k_ Y]at p;exact p.stuck
end
def A6.EA{t':Nat}{T:e_}{xs:b9}(I:A6 X A4 σ H s)(i:∀b∈ch,Eu X A4 H b)(k:∀b o,b∉ch->s.heap.get? b=a_ o->h'.get? b=a_ o)(j:s.heap.objs.size<=T)(h:xs.length<=h_/\∃A8:ci,B' xs A8/\PZ h' T A8.toArray):A6 X A4 σ (upd H T (.tup xs)) {s with heap:=h',toks:=t'}:=by
 have Y:H T=c_:=I.hok.fresh j;have d:∀b u,H b=a_ u->b∉ch:=λb u e z=>by rw[(i b z).1]at e;cases e
 have g:∀{b:e_} {o:Lg},s.heap.get? b=a_ o->b≠T:=λ{b o} e=>HC (Hm (u_ e) j);refine I.step (g':=s.gens) (d':=s.drawn) (ch:=ch) (λb f=>?_) (λb o _ _ a e _=>k b o a e) (λb o _ _ a e _=>⟨o.slots,k b o a e⟩) (λb o _ e n=>by rw[aw (g e)];exact n)
  (λb o a e=>⟨o,k b o a e⟩) (λb ys e=>by rw[aw (aQ e Y)];exact e) (λb o u e=>by rw[aw (aQ e Y)];exact e) (λb ps e=>⟨#[],by rw[aw (aQ e Y),e];simp⟩) (λm p=>?_) (λb u e=>?_) I.bare
 .obtain⟨f0,f1,f2,f3,f4,f5⟩:=i b f;exact⟨f3,f1,f4,f5⟩
 .obtain⟨o,es,ep,l,r⟩:=p;exact⟨o,es,ep,k _ o (λz=>(i _ z).2.1 rfl) l,r⟩
 .by_cases f:b=T
  .subst f;rw[au]at e;cases e;exact h
  .rw[aw f]at e;refine(I.hok b u e).zI (λc v a q=>k c v ?_ q) (λc q=>?_) λc ys q=>?_
   .rcases a with z|z
    .rw[z];exact d b u e
    .exact d c _ z
   .rw[aw (aQ q Y)];exact q
   .rw[aw (aQ q Y)];exact q
theorem A6.EB{t':Nat}(I:A6 X A4 σ H s)(d:∀b∈ch,Eu X A4 H b)(k:∀b o,b∉ch->s.heap.get? b=a_ o->h'.get? b=a_ o):A6 X A4 σ H {s with heap:=h',toks:=t'}:=by
 have a:∀b u,H b=a_ u->b∉ch:=λb u e z=>by rw[(d b z).1]at e;lia
 refine I.step (g':=s.gens) (d':=s.drawn) (ch:=ch) (λb h=>?_) (λb o _ _ Y e _=>k b o Y e) (λb o _ _ Y e _=>⟨o.slots,k b o Y e⟩) (λb o _ e n=>n)
  (λb o Y e=>⟨o,k b o Y e⟩) (λb ys e=>e) (λb o u e=>e) (λb ps e=>⟨#[],bb⟩) (λm g=>?_) (λb u e=>?_) I.bare
 .obtain⟨f0,f1,f2,f3,f4,f5⟩:=d b h;exact⟨f3,f1,f4,f5⟩
 .obtain⟨o,es,ep,f,r⟩:=g;exact⟨o,es,ep,k _ o (λz=>(d _ z).2.1 rfl) f,r⟩
 .refine(I.hok b u e).zI (λc v Y q=>k c v ?_ q) (λ_ q=>q) λ_ _ q=>q;rcases Y with z|z
  .rw[z];exact a b u e
  .exact a c _ z
section
variable{W:eZ}{own:Bool}{a b:Ii}{f:ai->M A3}{fr:ai->M (List A3)}
def bX:PTs X [] (tDT K W gZ):=λA4 s σ H Q I h=>Ag A4 s σ H Q I (by obtain⟨F,ρ,r,Y,q⟩:=h;exact q F H (A5.refl Y))
def kZ:PGs X [] (j8 []):=vB
def bL{is:ce}(b:X.N.Nodup)(h2:PGs X es (j8 is))(hi: ~~~(X.N[i]?=a_ x))(I:autoParam (Loc X.env.scope x) Jq6)(a:autoParam (X.fn x=d_\/X.env.scope.names.lookup x=a_ .local) Jq3)(Y: ~~~((Jc (.Name x p::es) X.env).map (·.2)=K3 (.Name x p) X.env::(Jc es X.env).map (·.2))):PGs X (.Name x p::es) (j8 (i::is)):=dH (dJ b hi I a) h2 Y
def yS{k:Nat}{is:ce}(a:X.calm=d_)(h:PGs X es (j8 is))(Y: ~~~((Jc es X.env).length=is.length))(I: ~~~((Jc es X.env).findIdx? (·.1)=c_))(b: ~~~(X.K=K)):DG K X (.Tuple es k pos) (.tp is):=by subst b;exact BR a h Y I
theorem pf{ix:List (Option Nat)}:∀{is:ce},(∀i∈is,ix[i]?=a_ c_)->∀vs σ' H' (Q:St->Hp->Prop),j8 is vs σ' H' Q->j8 is vs σ' H' λI H2=>Q I H2/\∀(i:Nat) v,σ'[i]?=a_ (a_ v)->(∃j,ix[i]?=a_ (a_ j))->I[i]?=a_ (a_ v)
 |[],_,vs,σ',H',Q,⟨e,q⟩=>⟨e,q,λ_ _ h _=>h⟩|i::is,f,vs,σ',H',Q,⟨v,r,e,q⟩=>by
  refine⟨v,r,e,?_⟩
  have:=pf (ix:=ix) (is:=is) (λj o=>f j (by simp[o])) r (σ'.set i (a_ v)) H' Q q;have a:∀{is:ce} {vs:b9} {Y:St} {H1:Hp} {Q b:St->Hp->Prop},(∀I H2,Q I H2->b I H2)->j8 is vs Y H1 Q->j8 is vs Y H1 b:=by
   intro is
   induction is with
   |nil=>rintro vs Y H1 Q b m ⟨e,q⟩;exact⟨e,m _ _ q⟩
   |cons i is n=>rintro vs Y H1 Q b m ⟨v,r,e,q⟩;exact⟨v,r,e,n m q⟩
  refine a (λI H2 c=>?_) this;obtain⟨k,g⟩:=c;refine⟨k,λj w h c=>?_⟩
  obtain⟨l,d⟩:=c;refine g j w ?_ ⟨l,d⟩;have:i≠j:=by rintro rfl;rw[f i am]at d;cases d
  rw[p_ this];exact h
def yC{is:ce}(h:∀i∈is,ix[i]?=a_ c_):sE ix (gP K (.tp is)):=λx σ' H' Q ⟨a,xs,e,t,l,q⟩=>⟨a,xs,e,t,l,pf h xs σ' H' Q q⟩
def cO{N':b8}(a:N'.Nodup)(hi: ~~~(N'[i]?=a_ x))(I:autoParam (Loc (bA X N' sc L cs s H fp).env.scope x) Jq6)(Y:autoParam ((bA X N' sc L cs s H fp).fn x=d_\/(bA X N' sc L cs s H fp).env.scope.names.lookup x=a_ .local) Jq3):DG K (bA X N' sc L cs s H fp) (.Name x pos) (.nm i):=pg_c a hi I Y
variable{fi:ai->M (List A3)}{pt:Pat}
def cy(N':b8)(ix:List (Option Nat))(hi:DI K W X tg iter fi)(d:∀L cs s H fp,DG K (bA X N' sc L cs s H fp) tg pt)(b:sE ix (gP K pt))(Y:∀L cs s H fp,PTs (bA X N' sc L cs s H fp) ifs (tDT K W ft))(e:∀L cs s H fp,DE K W b_ (bA X N' sc L cs s H fp) elt fe)(f: ~~~(X.calm=d_))(I: ~~~(bV X.N X.env.scope N' sc ix=d_))(c: ~~~(sc.kind=.function))(a:autoParam (∀x,Jo iter X.env x=IQ x) Jq4):
  DE K W d_ X (.ListComp elt [⟨tg,iter,ifs,0⟩] sc pos) (dm fi ix pt ft fe):=(An N' ix f hi d b Y e I c a).imp λ_ _ _=>zY
def tD_fr(h:tD K W own f σ H Q):tD K W d_ f σ H Q:=by
 cases own with
 |true=>exact h|false=>obtain⟨F,ρ,r,s,p⟩:=h;exact⟨F,ρ,r,s,p.frz⟩
def nV(own:Bool)(N':b8)(ix:List (Option Nat))(k:X.N.Nodup)(hi:DI K W X tg iter fi)(g:∀L cs s H fp,DG K (bA X N' sc L cs s H fp) tg pt)(d:sE ix (gP K pt))(b:∀L cs s H fp,PTs (bA X N' sc L cs s H fp) ifs (tDT K W ft))(h:∀L cs s H fp,DE K W b_ (bA X N' sc L cs s H fp) elt fe)(f: ~~~(X.N[i]?=a_ x))(a: ~~~(X.env.scope.names.lookup x=a_ .local))(j: ~~~(X.calm=d_))(I: ~~~(Jb (.ListComp elt [⟨tg,iter,ifs,0⟩] sc pos) (a_ (.Name x py)) spos.line X.env=IQ d_))(Y: ~~~(bV X.N X.env.scope N' sc ix=d_))(e: ~~~(sc.kind=.function))(c:autoParam (∀x,Jo iter X.env x=IQ x) Jq4):
  DS K W ro X OL O (aft own i O) (.Assign [.Name x py] (.ListComp elt [⟨tg,iter,ifs,0⟩] sc pos) spos) (aV O i (dm fi ix pt ft fe)):=λF0 H0=>
 (uo N' ix k f a j hi g d b h I Y e c).imp λD σ H t=>zY (tD_fr (zV t))
def ds_setI{r:PR}(h:DE K W b_ X e f)(g:DE K W b_ X b fk)(d:(i∈O)⁻¹)(k: ~~~(X.N[i]?=a_ x))(hv:autoParam (Vis X.env.scope x) Jq5)(hd:((x==("__debug__":m_))=b_)⁻¹)(a:((x==("__classdict__":m_))=b_)⁻¹)(j:autoParam (∀v,K3 (.Subscript (.Name x p) b q) X.env v=(do
   let I <- KU [v] (Hv (.Name x p) X.env)
   let Y <- KU [v,I] (Hv b X.env)
   My q
   KU [v,I,Y] (PH I Y v)
   release [v,I,Y] [])) Jq4)(c: ~~~(NX [.Subscript (.Name x p) b q] e r.line X.env=IQ b_))(hw: ~~~(NY [.Subscript (.Name x p) b q] e X.env=IQ c_))(h1: ~~~((Jc [.Subscript (.Name x p) b q] X.env).map (·.2)=[K3 (.Subscript (.Name x p) b q) X.env])):
  DS K W ro X OL O O (.Assign [.Subscript (.Name x p) b q] e r) (D5 i fk f):=λF0 H0=>(BP h (pg_sub (pv i k hv hd a) g set_list j) c hw h1).imp λ_ _ _=>rs_setI d
def Gw{pt:Pat}(a:DE K W b_ X e f)(Y:DG K X tg pt)(n:(∀i∈pt.names,i∉O)⁻¹)(I: ~~~(NX [tg] e pos.line X.env=IQ b_))(hw: ~~~(NY [tg] e X.env=IQ c_))(h1: ~~~((Jc [tg] X.env).map (·.2)=[K3 tg X.env])):DS K W ro X OL O O (.Assign [tg] e pos) (sX O pt f):=λF0 H0=>(BP a Y I hw h1).imp λ_ _ _=>rs_unpB n
def spF(K:Pn)(ro:Bool)(g:bv->M A3)(n:Nat):Sp:=λvs H Q _=>∃F ds,aM F H/\aD K F ds vs/\ds.length=n/\aJ K D' ro F H (g ds) Q
theorem qe{g:ai->M A9}{ds:bv}(h:ds.length≠n):bH nN n g ds=stk:=by simp_all[bH,k_]
theorem de_call{k:Nat}{ps:b8}{g:ai->M A9}(F:iS X.prog X.w X.K X.mg X.base CX0 k fad fd ps (spF K ro (bH nN n g) n))(i:iu k X.A)(j:X.mg x=a_ (.ref fad))(l:Ju X.K (.ref fad)=d_)(o:Binds X.K fd ps [])(t:DA K D' X (e::es) fr)(m: ~~~(Gl X x))(b:((x==("__debug__":m_))=b_)⁻¹)(Y: ~~~(i_ (e::es) X.env=(b_,Hv e X.env)::i_ es X.env))(a: ~~~((HQ pos (i_ es X.env)).any (·.1)=b_)):
  DE K D' ro X (.Call (.Name x p) (e::es) [] pos) (fL (bH nN n g) fr):=by
 refine PE.imp (oB F i m j l o .nil r9 t b Y a) λσ H Q h=>?_;obtain⟨F,ρ,r,s,p⟩:=rd_L h;refine⟨F,ρ,r,s,?_⟩
 cases e1:fr ρ with
 |error z=>simp_all|ok ds=>
  rw[e1]at p;intro vs F' H' st q;obtain⟨F1,I,d,f,z⟩:=p vs F' H' st q;show spF K ro (bH nN n g) n (vs++[]) H' Q E0;rw[IH];by_cases c:I.length=n
  .exact⟨F1,I,d,f,c,z⟩
  .rw[qe c]at z;exact aJ.stuck z
end
section
variable{base:H_}
theorem xB{ds:bv}{d:A3}(q:aD K F ds vs)(h:(ds.map a_++Ie (N.length-ds.length) c_)[i]?=a_ (a_ d)):∃v,(start N vs)[i]?=a_ (a_ v)/\aU K F d v:=by
 have hi:i<ds.length:=by
  by_cases hi:i<ds.length
  .exact hi
  .simp_all[Jf,J9]
 rw[IA bb,HJ]at h;cases e:ds[i]? with
 |none=>rw[e]at h;cases h|some d'=>
  rw[e]at h;cases h;obtain⟨v,e1,I⟩:=q.get e;refine⟨v,?_,I⟩
  unfold start;rw[IA (by rw[A_,q.length];exact hi),HJ,e1];rfl
theorem fn_D{ps:b8}{k:Nat}{O':ce}(F:Fun K x qual st f fd)(S:gM N ps (aK st))(ro:Bool)(g:ai->M A9)(m:∀(cdv:j_) (A:JK) (outer:List LY) (s:v_) (H:Hp) (E:XK),iu k (A.deeper (JS qual (aK st) s.heap.objs.size f cdv)) ->
   DSs K D' ro (Bb CX0 P w K mg base N qual (aK st) f cdv A outer s H E).nox [] [] O' (bY st) g):iS P w K mg base CX0 (k+1) f fd ps (spF K ro (bH N.length ps.length g) ps.length):=by
 have b:ps.length<=N.length:=by have:=Jg Ms S.pre;rw[IS]at this;lia
 refine F.okX S (λvs H Q E ⟨F,ds,s,q,l,p⟩=>by rw[q.length,l]) λcdv A outer s H vs Q E Y c=>?_;obtain⟨F1,ds,I,q,l,p⟩:=c;refine⟨_,m cdv A outer s H E Y F1 H,F1,F1,ds.map a_++Ie (N.length-ds.length) c_,?_,?_⟩
 .refine⟨A5.refl I,aM.refl _,?_,λi d e _=>xB q e,(λi d e h=>nomatch h),(λi j ds es a h=>nomatch h)⟩
  unfold start;rw[Hy,Hy,A_,A_,JQ,JQ,q.length]
 .have e1:bH N.length ps.length g ds=(g (ds.map a_++Ie (N.length-ds.length) c_)).bind λfl=>match fl with
   |.nx _=>.ok .non|.rt d=>.ok d|_=>stk:=by unfold bH;exact f_ l
  rw[e1]at p;cases e2:g (ds.map a_++Ie (N.length-ds.length) c_)with
  |error z=>rw[e2]at p;exact p|ok fl=>
   rw[e2]at p;cases fl with
   |nx ρ=>exact λσ F H r=>p .non F H r.st (by cases ro<;>rfl)
   |rt d=>exact λv F H st q=>p v F H st q|bk ρ=>exact aJ.stuck p|ct ρ=>exact aJ.stuck p
def spLaw(K:Pn):Sp:=λvs H Q _=>∃(a:e_) (ns:cc),vs=[.ref a]/\SqL K H a (ns.map V.int)/\ns.length<=63/\∀H',Q (.bl d_) H'
theorem uI{F:Hp}:∀is:cc,aD K F (is.map A3.int) (is.map V.int)
 |[]=>rfl|i::is=>⟨.int i,is.map V.int,rfl,rfl,uI is⟩
theorem law_ok{k:Nat}{mlaw:Nat->bv->M A3}(F:∀n,iS P w K mg base CX0 k f fd [x] (spF K ro (mlaw n) 1))(h:∀ns:cc,ns.length<=63->∃n,mlaw n [.lst (ns.map .int)]=.ok (.bl d_)):iS P w K mg base CX0 k f fd [x] (spLaw K):=by
 refine⟨λvs H Q E ⟨a,ns,e,_⟩=>by rw[e];rfl,λA outer s H I us vs Q E Y g i hv ⟨a,ns,e,b,d,q⟩=>?_⟩
 obtain⟨n,c⟩:=h ns d;refine(F n).run A outer s H I us vs Q E Y g i hv ⟨H,[.lst (ns.map .int)],aM.refl _,⟨.ref a,[],e,⟨a,_,rfl,b,uI ns⟩,rfl⟩,rfl,?_⟩;rw[c];intro v F' H' st z;have:v=.bl d_:=by cases ro<;>exact z
 simp_all
end
structure Kit(K:Pn):Prop where
 Fo:HV K (.type "int") (.type "int")=a_ d_
 Dh:HV K (.type "bool") (.type "int")=a_ d_
 Dd:HV K (.type "list") (.type "int")=a_ b_
 zZ:HV K (.type "tuple") (.type "int")=a_ b_
 Fm:HV K (.type "str") (.type "int")=a_ b_
 sY:HV K (.type "NoneType") (.type "int")=a_ b_
 Df:HV K (.type "int") (.type "bool")=a_ b_
 Af:HV K (.type "bool") (.type "bool")=a_ d_
 Ac:HV K (.type "list") (.type "bool")=a_ b_
 xZ:HV K (.type "tuple") (.type "bool")=a_ b_
 Dc:HV K (.type "str") (.type "bool")=a_ b_
 qW:HV K (.type "NoneType") (.type "bool")=a_ b_
 De:HV K (.type "int") (.type "list")=a_ b_
 Ae:HV K (.type "bool") (.type "list")=a_ b_
 Ab:HV K (.type "list") (.type "list")=a_ d_
 xY:HV K (.type "tuple") (.type "list")=a_ b_
 D9:HV K (.type "str") (.type "list")=a_ b_
 qV:HV K (.type "NoneType") (.type "list")=a_ b_
 Ad:HV K (.type "int") (.type "tuple")=a_ b_
 yf:HV K (.type "bool") (.type "tuple")=a_ b_
 ye:HV K (.type "list") (.type "tuple")=a_ b_
 vy:HV K (.type "tuple") (.type "tuple")=a_ d_
 Aa:HV K (.type "str") (.type "tuple")=a_ b_
 pF:HV K (.type "NoneType") (.type "tuple")=a_ b_
 q_int_str:HV K (.type "int") (.type "str")=a_ b_
 q_bool_str:HV K (.type "bool") (.type "str")=a_ b_
 q_list_str:HV K (.type "list") (.type "str")=a_ b_
 q_tuple_str:HV K (.type "tuple") (.type "str")=a_ b_
 q_str_str:HV K (.type "str") (.type "str")=a_ d_
 q_NoneType_str:HV K (.type "NoneType") (.type "str")=a_ b_
section
variable{W:eZ}{own:Bool}{a:Ii}
def isi_D{d:A3}{x:V}{c f bl a bs b:Bool}{Q:Mq}(I:A6 X A4 σ H s)(Y:aM F H)(q:aU X.K F d x)(r:A' x u)(hi:HV X.K (.type "int") (.type T)=a_ c)(A:HV X.K (.type "bool") (.type T)=a_ f)(w:HV X.K (.type "list") (.type T)=a_ bl)(n:HV X.K (.type "tuple") (.type T)=a_ a)(p:HV X.K (.type "str") (.type T)=a_ bs)(v:HV X.K (.type "NoneType") (.type T)=a_ b)(h:∀k tk,(match d with|.int _=>k=c|.bl _=>k=f|.lst _=>k=bl|.tup _=>k=a|.str _=>k=bs|.non=>k=b|.ins _ _=>False|.dic _=>False|.dil _=>False)->Q (.bool k) {s with toks:=tk})(g:∀C fs,d≠.ins C fs)(m:∀ks,d≠.dic ks)(j:∀ks,d≠.dil ks):
  B_ (C_ X.prog X.w) X.A (Kp (.builtin "isinstance") [u,.type T]) Q X.xe s:=by
 cases d with
 |non=>cases(show x=.non from q);cases r;exact JE NG I.kIn Iu v (λz=>nomatch z) λtk=>h _ tk rfl
 |bl y=>cases(show x=.bl y from q);cases r;exact JE NI I.kIn Iu A (λz=>nomatch z) λtk=>h _ tk rfl
 |int i=>cases(show x=.int i from q);obtain⟨t,rfl⟩:=r;exact JE N3 I.kIn Iu hi (λz=>nomatch z) λtk=>h _ tk rfl
 |str y=>cases(show x=.str y from q);obtain⟨t,rfl⟩:=r;exact JE N2 I.kIn Iu p (λz=>nomatch z) λtk=>h _ tk rfl
 |lst ds=>obtain⟨l,xs,e,t,_⟩:=q;subst e;cases r;obtain⟨A8,_,pl,_⟩:=I.list (Y.lst t);obtain⟨o,h1,h2,_⟩:=pl.isList;exact JE LF I.kIn ⟨o,h1,h2⟩ w (λz=>nomatch z) λtk=>h _ tk rfl
 |tup ds=>obtain⟨l,xs,e,t,_⟩:=q;subst e;cases r;obtain⟨A8,_,pl,_⟩:=I.tuple (Y.tup t);obtain⟨o,h1,h2,_⟩:=pl;exact JE Nw I.kIn ⟨o,h1,h2⟩ n (λz=>nomatch z) λtk=>h _ tk rfl
 |ins C fs=>exact Ho rfl (g C fs)|dic ks=>exact Ho rfl (m ks)|dil ks=>exact Ho rfl (j ks)
def CA{y:m_}{g:A3->M A3}(l:fj X (.builtin "isinstance") (λxs H Q=>∃v,xs=[v,.ty T]/\rD1 K W own g v H Q))(j:X.mg "isinstance"=c_)(e:X.mg y=c_)(b:Jh y=a_ (.type T))(m:DE K W b_ X a fa)(k: ~~~(Gl X "isinstance"))(f: ~~~(Gl X y))(i:(y≠"__name__")⁻¹)(hd:((y==("__debug__":m_))=b_)⁻¹)(Y: ~~~(i_ [a,.Name y p2] X.env=[(b_,Hv a X.env),(b_,Hv (.Name y p2) X.env)]))(I: ~~~(i_ [.Name y p2] X.env=[(b_,Hv (.Name y p2) X.env)]))(c: ~~~((HQ pos (i_ [.Name y p2] X.env)).any (·.1)=b_)):
  DE K W own X (.Call (.Name "isinstance" p) [a,.Name y p2] [] pos) (f1 g fa):=
 (iX l k j KP (ax m (ax (pe_tyN (pos:=p2) f e b i hd) aP I) (by rw[Y,I])) a8 a8 (by rw[Y,I]) c).imp λσ H Q h=>by
  obtain⟨F,ρ,r,s,q⟩:=rd_1 h;refine⟨F,ρ,r,s,?_⟩
  cases e1:fa ρ with
  |error z=>rw[e1]at q;exact q|ok d=>rw[e1]at q;exact λv F' H' st z=>⟨v,rfl,q v F' H' st z⟩
theorem GY(Y:Kit K)(i: ~~~(X.K=K)):fj X (.builtin "isinstance") (λxs H Q=>∃v,xs=[v,.ty "int"]/\rD1 K W own gm v H Q):=by
 subst i;intro A4 s σ H xs us Q I r h;obtain⟨v,rfl,F,d,c,q,p⟩:=h;obtain⟨u,w,rfl,f,a⟩:=r.two;cases(show w=Kh "int" from a);by_cases hi:(∃C fs,d=.ins C fs)\/(∃ks,d=.dic ks)\/∃ks,d=.dil ks
 .rcases hi with⟨C,fs,rfl⟩|⟨ks,rfl⟩|⟨ks,rfl⟩<;>exact aJ.stuck p
 .refine isi_D I c q f Y.Fo Y.Dh Y.Dd Y.zZ Y.Fm Y.sY (λk tk g=>⟨.bl k,H,I.tok tk,rfl,?_⟩) (λC fs e=>hi (.inl ⟨C,fs,e⟩)) (λks e=>hi (.inr (.inl ⟨ks,e⟩))) (λks e=>hi (.inr (.inr ⟨ks,e⟩)));cases d<;>first|(have b:k=_:=g;subst b;exact aJ.bl (own:=own) p c)|exact Ho (.inl ⟨_,_,rfl⟩) hi|exact Ho (.inr (.inl ⟨_,rfl⟩)) hi|simp_all
def lE(Y:Kit K)(f:X.mg "isinstance"=c_)(d:X.mg "int"=c_)(h:DE K W b_ X a fa)(i: ~~~(X.K=K))(g: ~~~(Gl X "isinstance"))(e: ~~~(Gl X "int"))(b: ~~~(i_ [a,.Name "int" p2] X.env=[(b_,Hv a X.env),(b_,Hv (.Name "int" p2) X.env)]))(I: ~~~(i_ [.Name "int" p2] X.env=[(b_,Hv (.Name "int" p2) X.env)]))(c: ~~~((HQ pos (i_ [.Name "int" p2] X.env)).any (·.1)=b_)):
  DE K W own X (.Call (.Name "isinstance" p) [a,.Name "int" p2] [] pos) (f1 gm fa):=CA (GY Y i) f d (by rfl) h g e a8 a8 b I c
theorem Eh(Y:Kit K)(i: ~~~(X.K=K)):fj X (.builtin "isinstance") (λxs H Q=>∃v,xs=[v,.ty "bool"]/\rD1 K W own kJ v H Q):=by
 subst i;intro A4 s σ H xs us Q I r h;obtain⟨v,rfl,F,d,c,q,p⟩:=h;obtain⟨u,w,rfl,f,a⟩:=r.two;cases(show w=Kh "bool" from a);by_cases hi:(∃C fs,d=.ins C fs)\/(∃ks,d=.dic ks)\/∃ks,d=.dil ks
 .rcases hi with⟨C,fs,rfl⟩|⟨ks,rfl⟩|⟨ks,rfl⟩<;>exact aJ.stuck p
 .refine isi_D I c q f Y.Df Y.Af Y.Ac Y.xZ Y.Dc Y.qW (λk tk g=>⟨.bl k,H,I.tok tk,rfl,?_⟩) (λC fs e=>hi (.inl ⟨C,fs,e⟩)) (λks e=>hi (.inr (.inl ⟨ks,e⟩))) (λks e=>hi (.inr (.inr ⟨ks,e⟩)));cases d<;>first|(have b:k=_:=g;subst b;exact aJ.bl (own:=own) p c)|exact Ho (.inl ⟨_,_,rfl⟩) hi|exact Ho (.inr (.inl ⟨_,rfl⟩)) hi|simp_all
def si(Y:Kit K)(f:X.mg "isinstance"=c_)(d:X.mg "bool"=c_)(h:DE K W b_ X a fa)(i: ~~~(X.K=K))(g: ~~~(Gl X "isinstance"))(e: ~~~(Gl X "bool"))(b: ~~~(i_ [a,.Name "bool" p2] X.env=[(b_,Hv a X.env),(b_,Hv (.Name "bool" p2) X.env)]))(I: ~~~(i_ [.Name "bool" p2] X.env=[(b_,Hv (.Name "bool" p2) X.env)]))(c: ~~~((HQ pos (i_ [.Name "bool" p2] X.env)).any (·.1)=b_)):
  DE K W own X (.Call (.Name "isinstance" p) [a,.Name "bool" p2] [] pos) (f1 kJ fa):=CA (Eh Y i) f d (by rfl) h g e a8 a8 b I c
theorem Eg(Y:Kit K)(i: ~~~(X.K=K)):fj X (.builtin "isinstance") (λxs H Q=>∃v,xs=[v,.ty "list"]/\rD1 K W own kH v H Q):=by
 subst i;intro A4 s σ H xs us Q I r h;obtain⟨v,rfl,F,d,c,q,p⟩:=h;obtain⟨u,w,rfl,f,a⟩:=r.two;cases(show w=Kh "list" from a);by_cases hi:(∃C fs,d=.ins C fs)\/(∃ks,d=.dic ks)\/∃ks,d=.dil ks
 .rcases hi with⟨C,fs,rfl⟩|⟨ks,rfl⟩|⟨ks,rfl⟩<;>exact aJ.stuck p
 .refine isi_D I c q f Y.De Y.Ae Y.Ab Y.xY Y.D9 Y.qV (λk tk g=>⟨.bl k,H,I.tok tk,rfl,?_⟩) (λC fs e=>hi (.inl ⟨C,fs,e⟩)) (λks e=>hi (.inr (.inl ⟨ks,e⟩))) (λks e=>hi (.inr (.inr ⟨ks,e⟩)));cases d<;>first|(have b:k=_:=g;subst b;exact aJ.bl (own:=own) p c)|exact Ho (.inl ⟨_,_,rfl⟩) hi|exact Ho (.inr (.inl ⟨_,rfl⟩)) hi|simp_all
def sd(Y:Kit K)(f:X.mg "isinstance"=c_)(d:X.mg "list"=c_)(h:DE K W b_ X a fa)(i: ~~~(X.K=K))(g: ~~~(Gl X "isinstance"))(e: ~~~(Gl X "list"))(b: ~~~(i_ [a,.Name "list" p2] X.env=[(b_,Hv a X.env),(b_,Hv (.Name "list" p2) X.env)]))(I: ~~~(i_ [.Name "list" p2] X.env=[(b_,Hv (.Name "list" p2) X.env)]))(c: ~~~((HQ pos (i_ [.Name "list" p2] X.env)).any (·.1)=b_)):
  DE K W own X (.Call (.Name "isinstance" p) [a,.Name "list" p2] [] pos) (f1 kH fa):=CA (Eg Y i) f d (by rfl) h g e a8 a8 b I c
theorem Be(Y:Kit K)(i: ~~~(X.K=K)):fj X (.builtin "isinstance") (λxs H Q=>∃v,xs=[v,.ty "tuple"]/\rD1 K W own lB v H Q):=by
 subst i;intro A4 s σ H xs us Q I r h;obtain⟨v,rfl,F,d,c,q,p⟩:=h;obtain⟨u,w,rfl,f,a⟩:=r.two;cases(show w=Kh "tuple" from a);by_cases hi:(∃C fs,d=.ins C fs)\/(∃ks,d=.dic ks)\/∃ks,d=.dil ks
 .rcases hi with⟨C,fs,rfl⟩|⟨ks,rfl⟩|⟨ks,rfl⟩<;>exact aJ.stuck p
 .refine isi_D I c q f Y.Ad Y.yf Y.ye Y.vy Y.Aa Y.pF (λk tk g=>⟨.bl k,H,I.tok tk,rfl,?_⟩) (λC fs e=>hi (.inl ⟨C,fs,e⟩)) (λks e=>hi (.inr (.inl ⟨ks,e⟩))) (λks e=>hi (.inr (.inr ⟨ks,e⟩)));cases d<;>first|(have b:k=_:=g;subst b;exact aJ.bl (own:=own) p c)|exact Ho (.inl ⟨_,_,rfl⟩) hi|exact Ho (.inr (.inl ⟨_,rfl⟩)) hi|simp_all
def yT(Y:Kit K)(f:X.mg "isinstance"=c_)(d:X.mg "tuple"=c_)(h:DE K W b_ X a fa)(i: ~~~(X.K=K))(g: ~~~(Gl X "isinstance"))(e: ~~~(Gl X "tuple"))(b: ~~~(i_ [a,.Name "tuple" p2] X.env=[(b_,Hv a X.env),(b_,Hv (.Name "tuple" p2) X.env)]))(I: ~~~(i_ [.Name "tuple" p2] X.env=[(b_,Hv (.Name "tuple" p2) X.env)]))(c: ~~~((HQ pos (i_ [.Name "tuple" p2] X.env)).any (·.1)=b_)):
  DE K W own X (.Call (.Name "isinstance" p) [a,.Name "tuple" p2] [] pos) (f1 lB fa):=CA (Be Y i) f d (by rfl) h g e a8 a8 b I c
end
def nW{N':b8}{is:ce}(b:N'.Nodup)(h2:PGs (bA X N' sc L cs s H fp) es (j8 is))(hi: ~~~(N'[i]?=a_ x))(I:autoParam (Loc (bA X N' sc L cs s H fp).env.scope x) Jq6)(a:autoParam ((bA X N' sc L cs s H fp).fn x=d_\/(bA X N' sc L cs s H fp).env.scope.names.lookup x=a_ .local) Jq3)(Y: ~~~((Jc (.Name x p::es) (bA X N' sc L cs s H fp).env).map (·.2)=K3 (.Name x p) (bA X N' sc L cs s H fp).env::(Jc es (bA X N' sc L cs s H fp).env).map (·.2))):PGs (bA X N' sc L cs s H fp) (.Name x p::es) (j8 (i::is)):=dH (pg_c b hi I a) h2 Y
open PySem.W in
noncomputable def tRun{α:Type}(lt:Nat->Nat->Bool):KasT α->α
 |.ret a=>a|.ask i j k=>tRun lt (k (lt i j))
section
open PySem.W
variable{key:Nat->Int}
noncomputable def ltK(key:Nat->Int)(i j:Nat):Bool:=q_ (key i<key j)
end
section
open PySem.W
def AskR(n:Nat)(R:α->Prop):KasT α->Prop
 |.ret a=>R a|.ask i j k=>i<n/\j<n/\∀b,AskR n R (k b)
theorem uw{lt:Nat->Nat->Bool}{R:α->Prop}{I:Nat->Nat->(Bool->v_->Prop)->v_->Prop}{s:v_}(Y:∀i j (C:Bool->v_->Prop),i<n->j<n->C (lt i j) s->I i j C s){Q:α->v_->Prop}:∀t:KasT α,AskR n R t->Q (tRun lt t) s->t.kasWp I Q s
 |.ret _,_,h=>h|.ask i j k,r,h=>Y i j _ r.1 r.2.1 (uw Y (k (lt i j)) (r.2.2 _) h)
end
noncomputable def Bq(t:cc):A3:=.tup (t.map .int)
section
variable{lt:α->α->Bool}
structure Ord(lt:α->α->Bool):Prop where
 irr:∀a,lt a a=b_
 tr:∀a b c,lt a b=d_->lt b c=d_->lt a c=d_
 tot:∀a b,lt a b=b_->lt b a=b_->a=b
theorem Ord.le_trans(o:Ord lt){a b c:α}(h1:lt b a=b_)(h2:lt c b=b_):lt c a=b_:=by
 cases h:lt c a with
 |false=>rfl|true=>
  cases I:lt b c with
  |true=>rw[o.tr b c a I h]at h1;lia|false=>have:=o.tot c b h2 I;simp_all
end
section
open PySem.W
variable{lt:α->α->Bool}
noncomputable def rk(lt:α->α->Bool)(I:List α)(d:α)(i:Nat):Int:=((I.filter λz=>lt z (I.getD i d)).length:Int)
end
noncomputable def cX(n d:Nat):Option Int->Nat
 |none=>d|some v=>if v<0 then(v+(n:Int)).toNat else OE v.toNat n
noncomputable def wZ(xs:List α)(lo hi:Option Int):List α:=(xs.drop (cX xs.length 0 lo)).take (cX xs.length xs.length hi-cX xs.length 0 lo)
def bR:A3->Option Int->Option Int->M A3
 |.lst ds,lo,hi=>.ok (.lst (wZ ds lo hi))|.tup ds,lo,hi=>if (q_ (cX ds.length 0 lo=0)&&q_ (cX ds.length ds.length hi=ds.length))=d_ then stk else .ok (.tup (wZ ds lo hi))
 |_,_,_=>stk
noncomputable def gF:ai->M (Option Int):=λ_=>.ok c_
def dC(f:ai->M A3):ai->M (Option Int):=λρ=>(f ρ).bind λd=>(asI d).bind λi=>.ok (a_ i)
noncomputable def fSl(g:A3->Option Int->Option Int->M A3)(fa:ai->M A3)(fl fu:ai->M (Option Int)):ai->M A3:=λρ=>(fa ρ).bind λa=>(fl ρ).bind λl=>(fu ρ).bind λu=>g a l u
def extD(ρ:ai)(i:Nat)(ds:bv):A3->M A9
 |.lst es=>if ds.length+es.length<=h_ then put ρ i (ds++es)else stk
 |_=>stk
def F8(O:ce)(i:Nat)(f:ai->M A3):ai->M A9:=λρ=>(jR ρ i).bind λds=>(f (erase O ρ)).bind λd=>extD ρ i ds d
def kU(g g' g'':A3->A3->M A3)(fa fb fc fd':ai->M A3):ai->M A3:=λρ=>(fa ρ).bind λa=>(fb ρ).bind λb=>(g a b).bind λx=>(asB x).bind λk=>if k=d_ then(fc ρ).bind λc=>(g' b c).bind λy=>(asB y).bind λl=>if l=d_ then(fd' ρ).bind λd=>g'' c d else .ok (.bl b_)else .ok (.bl b_)
section
variable{W:eZ}{own:Bool}{a b c d:Ii}{lo hi:Option Ii}{y:m_}{r t u:PR}{f fd':ai->M A3}{fu:ai->M (Option Int)}
def tDO(K:Pn)(W:eZ)(f:ai->M (Option Int)):TO:=λσ H Q=>∃F ρ,ee K F σ ρ/\aM F H/\(match f ρ with
 |.ok o=>∀F' H',A5 F H F' H'->Q o H'|.error e=>W.p e F H)
def EM{R:Option Int->Hp->Prop}(r:ee K F σ ρ)(s:aM F H)(Y:∀e,fl ρ=.error e->W.p e F H)(I:∀o,fl ρ=.ok o->∀F1 H1,A5 F H F1 H1->R o H1):tDO K W fl σ H R:=by
 refine⟨F,ρ,r,s,?_⟩
 cases e:fl ρ with
 |ok d=>exact I d e|error x=>exact Y x e
abbrev DP(K:Pn)(W:eZ)(X:Cx)(e:Option Ii)(f:ai->M (Option Int)):Prop:=PO X e (tDO K W f)
def PO.imp{t t':TO}(h:PO X lo t)(q:∀σ H Q,t' σ H Q->t σ H Q):PO X lo t':=λA4 s σ H Q I z=>h A4 s σ H Q I (q σ H Q z)
def cx:DP K W X c_ gF:=po_none.imp λσ H Q ⟨F,ρ,r,s,p⟩=>p F H (A5.refl s)
theorem bG(h:DE K W b_ X e f):DP K W X (a_ e) (dC f):=(po_some h).imp λσ H Q ⟨F,ρ,r,s,p⟩=>by
 refine aT r s (λe a=>?_) λd hd v F1 H1 I Y=>?_
 .simp_all[dC]
 .have z:dC f ρ=(asI d).bind λi=>.ok (a_ i):=by unfold dC;rw[hd];rfl
  rw[z]at p;cases d with
  |int i=>exact⟨i,Y,p F1 H1 I⟩|_=>exact(W.ns p).elim
def rDS(K:Pn)(W:eZ)(own:Bool)(g:A3->Option Int->Option Int->M A3):V->Option Int->Option Int->Hp->VK->Prop:=λx lo hi H Q=>∃F a,aM F H/\aU K F a x/\aJ K W own F H (g a lo hi) Q
theorem rd_sl{g:A3->Option Int->Option Int->M A3}(h:tD K W own (fSl g fa fl fu) σ H Q):tSl (rDS K W own g) (tD K W b_ fa) (tDO K W fl) (tDO K W fu) σ H Q:=by
 obtain⟨F,ρ,r,s,p⟩:=h;refine aT r s (λe b=>p.err (by unfold fSl;rw[b];rfl)) λa d x F1 H1 I f=>?_;refine EM (r.mono I.ff) I.fh (λe b=>(p.step I).err (by unfold fSl;rw[d];show(fl ρ).bind _=_;rw[b];rfl)) λl j F2 H2 Y=>?_;refine EM ((r.mono I.ff).mono Y.ff) Y.fh (λe b=>(p.step (I.trans Y)).err (by simp_all[fSl])) λu i k m c=>?_;refine⟨k,a,c.fh,aU.mono (Y.trans c).ff f,?_⟩
 have e:fSl g fa fl fu ρ=g a l u:=by unfold fSl;rw[d];show(fl ρ).bind _=_;rw[j];show(fu ρ).bind _=_;rw[i];rfl
 rw[e]at p;exact p.step ((I.trans Y).trans c)
def iO{g:A3->Option Int->Option Int->M A3}(Y:SlR X (rDS K W own g))(c:DE K W b_ X a fa)(b:DP K W X lo fl)(I:DP K W X hi fu):DE K W own X (.Subscript a (.Slice lo hi c_ p2) pos) (fSl g fa fl fu):=(pe_slice Y c b I).imp λ_ _ _=>rd_sl
def CF(n d:Nat)(o:Option Int):cX n d o=HT.sIx n d o:=by rfl
def aD.cut{ds:bv}{xs:b9}{l u:Option Int}(h:aD K F ds xs):aD K F (wZ ds l u) (cutV xs l u):=by unfold wZ cutV;rw[CF,CF,h.length];exact aD.take _ (aD.drop _ h)
theorem xf(o: ~~~(X.K=K)):SlR X (rDS K W d_ bR):=by
 subst o;intro A4 s σ H x v i g lo hi j Q I k n pl m h;refine(SlR.or sl_list sl_tup) A4 s σ H x v i g lo hi j Q I k n pl m ?_;obtain⟨F,a,Y,f,p⟩:=h;cases a with
 |lst ds=>obtain⟨l,xs,e,t,z⟩:=f;exact .inl ⟨l,xs,e,Y.lst t,λr c=>aJ.lst p Y z.cut c⟩
 |tup ds=>
  obtain⟨l,xs,e,t,z⟩:=f;have b:aJ X.K W d_ F H (if (q_ (cX ds.length 0 lo=0)&&q_ (cX ds.length ds.length hi=ds.length))=d_ then stk else .ok (.tup (wZ ds lo hi))) Q:=p;by_cases d:(q_ (cX ds.length 0 lo=0)&&q_ (cX ds.length ds.length hi=ds.length))=d_
  .rw[f_ d]at b;exact b.stuck
  .rw[k_ d]at b;refine .inr ⟨l,xs,e,Y.tup t,λhw=>d ?_,λr c=>aJ.tup b Y z.cut c⟩;rw[CF,CF,<- z.length];simp_all
 |_=>exact aJ.stuck p
theorem rs_ext{D:Ends}(hi:i∈O)(t:tS K W ro F0 H0 OL O O (F8 O i f) D σ H):sP (tBM K "list" Fl (cb i) (aR (tD K W d_ f) eP)) D σ H:=by
 obtain⟨FB,F,ρ,r,p⟩:=t;cases I:jR ρ i with
 |error e=>have:=rA I;subst this;exact p.stuck (by unfold F8;rw[I];rfl)|ok ds=>
  obtain⟨a,xs,e2,h,z⟩:=r.FR hi (lA I);refine⟨.ref a,e2,jH h,?_⟩
  refine aT r.lq r.st.fh (λe m=>p.tI r.st (by simp_all[F8])) λd hd v F1 H1 Y q=>?_;have l:F8 O i f ρ=extD ρ i ds d:=by unfold F8;rw[I];show(f (erase O ρ)).bind _=_;rw[hd];rfl
  rw[l]at p;cases d with
  |lst es=>
   obtain⟨b,j,e3,k,_,_,g⟩:=q;by_cases c:ds.length+es.length<=h_
   .have ep:extD ρ i ds (.lst es)=put ρ i (ds++es):=f_ c;rw[ep]at p;exact⟨a,b,xs,j,rfl,by rw[e3],Y.hh _ _ h,k,by rw[z.length,g.length];exact c,p σ F1 _ ((r.step Y).write hi (lA I) e2 (aD.append (z.mono Y.ff) g))⟩
   .exact p.stuck (k_ c)
  |_=>exact p.stuck rfl
def Cr(j:DE K W d_ X e f)(h:(i∈O)⁻¹)(k: ~~~(X.N[i]?=a_ x))(hv:autoParam (Vis X.env.scope x) Jq5)(hd:((x==("__debug__":m_))=b_)⁻¹)(g:((x==("__classdict__":m_))=b_)⁻¹)(l: ~~~(X.K=K))(b: ~~~(i_ [e] X.env=[(b_,Hv e X.env)]))(a: ~~~(IZ (.Name x p) "extend" X.env (Hv (.Name x p) X.env)=Hv (.Name x p) X.env))(c: ~~~(((HQ q (i_ [e] X.env)).all (λx=> !x.1)&&(JH q (IK [] X.env)).all (λx=>x.1.isSome)&&q_ ([e].length+([]:List J0).length+(if ([]:List J0).isEmpty then 0 else 1)<30))=d_))(I: ~~~((HQ q (i_ [] X.env)).any (·.1)=b_))(Y: ~~~((apos.endLine==q.line)=d_))(d: ~~~(Jb (.Call (.Attribute (.Name x p) "extend" apos) [e] [] q) c_ pos.line X.env=IQ b_)):
  DS K W ro X OL O O (.Expr (.Call (.Attribute (.Name x p) "extend" apos) [e] [] q) pos) (F8 O i f):=λF0 H0=>by
 subst l;exact PS.imp (iA (pG HF NB PySem.F.type_list_extend FO (pv i k hv hd g) (ax j aP b) a c Y b I) d) λ_ _ _=>rs_ext h
def Fw{r Y:R2}(U:OpR X (Ht op) r)(i:OpR X (Ht op') r')(f:OpR X (Ht op'') Y)(ha:PE X a ta)(hb:PE X b tb)(Z:PE X c tc)(hd:PE X d td)(W:autoParam (LW [op,op',op''] [b,c,d]=b_) Jq7):PE X (.Compare a [op,op',op''] [b,c,d] pos) (EN r r' Y ta tb tc td):=by
 intro A4 s σ H Q I h;refine Compare_chain (C6 (ha A4 s σ H _ I h) λv G ⟨x,H1,I1,O,T⟩=>Pk (C6 (hb A4 G σ H1 _ I1 T) λu F ⟨y,H2,I2,r2,S⟩=>C6 (U A4 F σ H2 x y v u _ I2 O r2 S) λd E ⟨z,w,q,N,k,e,o⟩=>?_)) W
 subst e;cases N;refine Ij ?_;cases k with
 |false=>exact ite_ff ⟨.bl b_,w,q,rfl,o⟩|true=>
  refine ite_tt (Pk (C6 (Z A4 E σ w _ q o) λl D g=>?_));obtain⟨j,H4,I4,m,R⟩:=g;refine C6 (i A4 D σ H4 y j u l _ I4 r2 m R) λd' C g=>?_;obtain⟨z2,t,p,L,k2,e2,n⟩:=g;subst e2;cases L;refine Ij ?_;cases k2 with
  |false=>exact ite_ff ⟨.bl b_,t,p,rfl,n⟩|true=>exact ite_tt (chain_last (C6 (hd A4 C σ t _ p n) λw2 B ⟨A,H6,I6,K,P⟩=>f A4 B σ H6 j A l w2 Q I6 m K P))
def Fj(h:tD K W b_ (kU g g' g'' fa fb fc fd') σ H Q):EN (rD2 K W b_ g) (rD2 K W b_ g') (rD2 K W b_ g'') (tD K W b_ fa) (tD K W b_ fb) (tD K W b_ fc) (tD K W b_ fd') σ H Q:=by
 obtain⟨F,ρ,r,s,p⟩:=h;refine aT r s (λe I=>p.err (by unfold kU;rw[I];rfl)) λa C x F1 H1 i N=>?_;refine aT (r.mono i.ff) i.fh (λe I=>(p.step i).err (by unfold kU;rw[C];show(fb ρ).bind _=_;rw[I];rfl)) λb P y F2 H2 n A=>?_;have z:kU g g' g'' fa fb fc fd' ρ=(g a b).bind λx=>(asB x).bind λk=>if k=d_ then(fc ρ).bind λc=>(g' b c).bind λy=>(asB y).bind λl=>if l=d_ then(fd' ρ).bind λd=>g'' c d else .ok (.bl b_)else .ok (.bl b_):=by unfold kU;rw[C];show(fb ρ).bind _=_;rw[P];rfl
 rw[z]at p;refine⟨F2,a,b,n.fh,aU.mono n.ff N,A,?_⟩
 have p2:=p.step (i.trans n);have t:=(r.mono i.ff).mono n.ff;cases e:g a b with
 |error x=>rw[e]at p2;exact p2|ok w=>
  rw[e]at p2;cases w with
  |bl k=>
   intro v Z T Y G;cases(show v=.bl k from G);have p3:=p2.step Y;refine⟨k,rfl,?_⟩
   cases k with
   |false=>exact aJ.bl p3 Y.fh|true=>
    have p3:aJ K W b_ Z T ((fc ρ).bind λc=>(g' b c).bind λy=>(asB y).bind λl=>if l=d_ then(fd' ρ).bind λd=>g'' c d else .ok (.bl b_)) Q:=p3;refine aT (t.mono Y.ff) Y.fh (λe I=>p3.err (by rw[I];rfl)) λc O w D S m u=>?_;have p4:=p3.step m;rw[O]at p4;have p4:aJ K W b_ D S ((g' b c).bind λy=>(asB y).bind λl=>if l=d_ then(fd' ρ).bind λd=>g'' c d else .ok (.bl b_)) Q:=p4;refine⟨D,b,c,m.fh,aU.mono (Y.trans m).ff A,u,?_⟩
    cases e4:g' b c with
    |error x=>rw[e4]at p4;exact p4|ok w2=>
     rw[e4]at p4;cases w2 with
     |bl l=>
      intro E X R f q;cases(show E=.bl l from q);have j:=p4.step f;refine⟨l,rfl,?_⟩
      cases l with
      |false=>exact aJ.bl j f.fh|true=>have j:aJ K W b_ X R ((fd' ρ).bind λd=>g'' c d) Q:=j;refine aT (((t.mono Y.ff).mono m.ff).mono f.ff) f.fh (λe I=>j.err (by rw[I];rfl)) λd hd w6 U H6 o L=>?_;have B:=j.step o;rw[hd]at B;exact⟨U,c,d,o.fh,aU.mono (f.trans o).ff u,L,B⟩
     |_=>exact(W.ns p4).elim
  |_=>exact(W.ns p2).elim
def GG(e:Op2 K W b_ X (Ht op) g)(Y:Op2 K W b_ X (Ht op') g')(I:Op2 K W b_ X (Ht op'') g'')(j:DE K W b_ X a fa)(i:DE K W b_ X b fb)(h:DE K W b_ X c fc)(hd:DE K W b_ X d fd')(f:autoParam (LW [op,op',op''] [b,c,d]=b_) Jq7):DE K W b_ X (.Compare a [op,op',op''] [b,c,d] pos) (kU g g' g'' fa fb fc fd'):=(Fw e Y I j i h hd f).imp λ_ _ _=>Fj
end
section
variable{fu:ai->M (Option Int)}
@[simp]def e_pNone:gF ρ=.ok c_:=id rfl
@[simp]def e_pSome:dC fa ρ=(fa ρ).bind λd=>(asI d).bind λi=>.ok (a_ i):=id rfl
@[simp]def e_slF(k:A3->Option Int->Option Int->M A3):fSl k fa fl fu ρ=(fa ρ).bind λa=>(fl ρ).bind λl=>(fu ρ).bind λu=>k a l u:=id rfl
@[simp]def e_extD(i:Nat)(ds es:bv):extD ρ i ds (.lst es)=if ds.length+es.length<=h_ then put ρ i (ds++es)else stk:=id rfl
@[simp]def e_ext(O:ce)(i:Nat):F8 O i fa ρ=(jR ρ i).bind λds=>(fa (erase O ρ)).bind λd=>extD ρ i ds d:=id rfl
@[simp] theorem e_pow{i j:Int}(I:0<=j)(h1:j<=1000000)(h2:i.natAbs<2^64):Fs (.int i) (.int j)=.ok (.int (i^j.toNat)):=by show(if (q_ (0<=j)&&q_ (j<=1000000)&&q_ (i.natAbs<2^64))=d_ then _ else _)=_;simp_all
@[simp]def e_eqII(i j:Int):eqM (.int i) (.int j)=.ok (.bl (q_ (i=j))):=by rfl
@[simp]def e_neII(i j:Int):neM (.int i) (.int j)=.ok (.bl (!decide (i=j))):=by rfl
@[simp]def e_isiIN:gm .non=.ok (.bl b_):=id rfl
end
def revD:A3->M A3
 |.lst ds=>.ok (.lst ds.reverse)|_=>stk
section
variable{W:eZ}{a b d:Ii}{tp:TO}{p4 r t:PR}{f:ai->M A3}
theorem Cn{α:Type}:∀l:List α,(Iw l.length).filterMap (λk=>l[k]?)=l
 |[]=>rfl|a::l=>by
  rw[Hl,Nk,Jq,LL];simp only[Nd]
  congr 1
  exact Cn l
theorem Co{α I:Type}{f g:α->Option I}:∀{l:List α},(∀a∈l,f a=g a)->l.filterMap f=l.filterMap g
 |[],_=>rfl|a::l,h=>by rw[Jq,Jq,h a am,Co λx Y=>h x (by simp[Y])]
theorem vf(A8:ci):Ob A8.toArray c_ c_ (a_ (-1))=A8.reverse.toArray:=by
 unfold Ob Lb sliceRange;simp only[Oo,HI]
 congr 1
 have Y:(if ((A8.length:Int)-1)> -1 then((A8.length:Int)-1- -1- -1-1)/(- -1)else 0).toNat=A8.length:=by
  by_cases h:((A8.length:Int)-1)> -1
  .simp_all
  .rw[k_ h];lia
 simp only[show ¬((-1:Int)>0) by decide,O_,Y,LL];have e:=Cn A8.reverse;rw[N8]at e;refine Eq.trans ?_ e;refine Co λk I=>?_;have I:=List.mem_range.mp I;show A8.toArray[_]?=_;rw[Ll,List.getElem?_reverse I]
 congr 1
 grind
noncomputable def tRv(r:V->Hp->VK->Prop)(te:TE)(tp:TO):TE:=λσ H Q=>te σ H λx H1=>tp σ H1 λo H2=>o=a_ (-1)/\r x H2 Q
def rRevL(K:Pn):V->Hp->VK->Prop:=λx H Q=>∃a xs,x=.ref a/\SqL K H a xs/\∀p,H p=c_->Q (.ref p) (upd H p (.lst xs.reverse))
theorem pe_rev(z:PE X e te)(a:PO X (a_ d) tp):PE X (.Subscript e (.Slice c_ c_ (a_ d) p2) pos) (tRv (rRevL X.K) te tp):=by
 intro A4 s σ H Q I h;refine NC (C6 (z A4 s σ H _ I h) λv j a=>?_);obtain⟨x,H1,B,k,n⟩:=a;refine wpAny_Slice ?_;rw[N0];refine y_ (y_ (C6 (a A4 j σ H1 _ B n) λc Y a=>?_));obtain⟨o,C,A,p,m⟩:=a;obtain⟨rfl,l,xs,rfl,w,q⟩:=m;cases k;have f:A6 X A4 σ C {Y with heap:=Y.heap.push {cls:=.type "slice",data:=.fields #[.none,.none,c]}}:=A.kept (t':=Y.toks) λb t q=>l_ _ q;obtain⟨A8,r,g,u⟩:=f.list w;have i:=r.length;have y:B_ (C_ X.prog X.w) X.A (Lw (.ref l) (.ref Y.z)) (EP X A4 σ Q) X.xe {Y with heap:=Y.heap.push {cls:=.type "slice",data:=.fields #[.none,.none,c]}}:=by
  refine NV g.isList (Mt ..) .none .none p a8 ?_ bb;rw[vf];refine⟨.ref (Y.heap.push {cls:=.type "slice",data:=.fields #[.none,.none,c]}).objs.size,_,f.laid (t':=Y.toks) (o:=.lst xs.reverse) (λb t q=>l_ _ q) (r_ _) ?_,rfl,q _ (f.hok.fresh (r_ _))⟩
  exact⟨by rw[N8];exact u,_,0,r.reverse,Cb _ rfl⟩
 show B_ (C_ X.prog X.w) X.A (Mi e (.Slice c_ c_ (a_ d) p2) (.ref l) (.ref Y.z)) (EP X A4 σ Q) X.xe {Y with heap:=Y.heap.push {cls:=.type "slice",data:=.fields #[.none,.none,c]}};exact tail_any (ops:=[.ref l,.ref Y.z]) g.isList.typeIs Mz.lookup y (by rfl)
def de_rev{j}(b:DE K W b_ X a fa)(g: ~~~(X.K=K)):DE K W d_ X (.Subscript a (.Slice c_ c_ (a_ (.UnaryOp .USub (.Constant (.int 1) j p3) p4)) p2) pos) (f1 revD fa):=by
 subst g;refine PE.imp (pe_rev b (bG (K:=X.K) (W:=W) (de_un o_neg ae))) λσ H Q h=>?_;obtain⟨F,ρ,r,s,p⟩:=h;refine aT r s (λe f=>p.err (by unfold f1;rw[f];rfl)) λa b x F1 H1 Y c=>?_;refine⟨F1,ρ,r.mono Y.ff,Y.fh,?_⟩
 show ∀F' H',A5 F1 H1 F' H'->_;intro F2 H2 I;refine⟨rfl,?_⟩
 have e:f1 revD fa ρ=revD a:=by unfold f1;rw[b];rfl
 rw[e]at p;have p:=p.step (Y.trans I);cases a with
 |lst ds=>obtain⟨l,xs,e,t,z⟩:=c;exact⟨l,xs,e,I.fh.lst (I.ff.lst t),λr d=>aJ.lst p I.fh (aD.reverse (z.mono I.ff)) d⟩
 |_=>exact aJ.stuck p
end
def bO(Cs:List e_)(x:m_):A3->M A3
 |.ins C fs=>if Cs.contains C=d_ then(match fs.lookup x with
  |some d=>.ok d|none=>stk)else stk
 |_=>stk
noncomputable def isC(C:e_)(m:m_):A3->Bool
 |.ins D fs=>(D==C)&&(fs.lookup m).isNone|_=>b_
def jz(C:e_)(m:m_)(g:bv->M A3)(fo:ai->M A3)(fr:ai->M bv):ai->M A3:=λρ=>(fo ρ).bind λo=>if isC C m o=d_ then(fr ρ).bind λas=>g (o::as)else stk
def jx(C C2:e_)(m:m_)(g g2:bv->M A3)(fo:ai->M A3)(fr:ai->M bv):ai->M A3:=λρ=>(fo ρ).bind λo=>if isC C m o=d_ then(fr ρ).bind λas=>g (o::as)else if isC C2 m o=d_ then(fr ρ).bind λas=>g2 (o::as)else stk
def newR(C:e_)(g:bv->M A3):bv->M A3
 |[d]=>(g [d]).bind λr=>.ok (.ins C [("gaps",r)])|_=>stk
noncomputable def twoL:A3->A3->Bool
 |.lst xs,.lst ys=>q_ (xs.length=ys.length)|_,_=>b_
def newP(C:e_)(g:bv->M A3):bv->M A3
 |[d,e]=>(g [d]).bind λr=>(g [e]).bind λr2=>if twoL r r2=d_ then .ok (.ins C [("gaps",r),("beside",r2)])else stk
 |_=>stk
def sStk:ai->M A9:=λ_=>stk
section
variable{W:eZ}{own:Bool}{o a b c d:Ii}{y:m_}{f fo:ai->M A3}{fr:ai->M (List A3)}{O':List Nat}{Cs:List e_}
def ds_stk:DS K W ro X OL O O' st sStk:=λF0 H0 A4 s σ H D I h=>by obtain⟨FB,F,ρ,r,p⟩:=h;exact p.stuck rfl
theorem jD.at{F:Hp}{x:m_}:∀{gs:List (m_×A3)} {fs:List (m_×V)},jD K F gs fs->(∀d,gs.lookup x=a_ d->∃v,fs.lookup x=a_ v/\aU K F d v)/\(gs.lookup x=c_->fs.lookup x=c_)
 |[],fs,h=>by cases(show fs=[]from h);exact⟨λd h=>by simp at h,λ_=>rfl⟩|(g,d)::gs,fs,h=>by
  obtain⟨v,r,rfl,h1,h2⟩:=h;have I:=jD.at (x:=x) h2;rw[w_,w_];cases e:x==g with
  |true=>exact⟨λd' h'=>by cases h';exact⟨v,rfl,h1⟩,λh'=>by cases h'⟩|false=>exact I
theorem fP(m:∀C∈Cs,Cls K C/\bu K C y)(c:DE K W b_ X e fa)(i: ~~~(IZ e y X.env (Hv e X.env)=Hv e X.env))(k: ~~~(X.K=K)):DE K W b_ X (.Attribute e y pos) (f1 (bO Cs y) fa):=by
 subst k;refine(iB c i).imp λσ H Q h=>?_;obtain⟨F,ρ,r,s,p⟩:=h;refine aT r s (λe c=>p.err (by unfold f1;rw[c];rfl)) λa j x F1 H1 Y g=>?_;have n:f1 (bO Cs y) fa ρ=bO Cs y a:=by unfold f1;rw[j];rfl
 rw[n]at p;cases a with
 |ins C gs=>
  obtain⟨l,dx,fs,e1,o,q⟩:=g;have I:aJ X.K W b_ F H (if Cs.contains C=d_ then(match gs.lookup y with
   |some d=>.ok d|none=>stk)else stk) Q:=p
  by_cases f:Cs.contains C=d_
  .rw[f_ f]at I;obtain⟨h1,h2⟩:=m C bb;cases b:gs.lookup y with
   |none=>rw[b]at I;exact aJ.stuck I|some d=>rw[b]at I;obtain⟨v,hv,hd⟩:=q.at.1 d b;exact⟨l,C,dx,fs,v,e1,Y.fh _ _ o,h1,h2,hv,(I.step Y) v F1 H1 (A5.refl Y.fh) hd⟩
  .rw[k_ f]at I;exact aJ.stuck I
 |_=>exact aJ.stuck p
def PE.or{t1 t2:TE}(h1:PE X e t1)(h2:PE X e t2):PE X e (λσ H Q=>t1 σ H Q\/t2 σ H Q):=λA4 s σ H Q I h=>h.elim (h1 A4 s σ H Q I) (h2 A4 s σ H Q I)
def rd_meth{g:ai->M A9}(h:tD K D' ro (jz C m (bH nN n g) fo fr) σ H Q):tMeth C m (spF K ro (bH nN n g) n) [] E0 (tD K D' b_ fo) (tDA K D' fr) σ H Q:=by
 obtain⟨F,ρ,r,s,p⟩:=h;refine aT r s (λe c=>p.err (by unfold jz;rw[c];rfl)) λo q x F1 H1 Y i=>?_;have u:jz C m (bH nN n g) fo fr ρ=if isC C m o=d_ then(fr ρ).bind λas=>bH nN n g (o::as)else stk:=by unfold jz;rw[q];rfl
 rw[u]at p;by_cases a:isC C m o=d_
 .rw[f_ a]at p;cases o with
  |ins D gs=>
   obtain⟨l,dx,fs,e1,v,w⟩:=id i;have I:((D==C)&&(gs.lookup m).isNone)=d_:=a;rw[o_]at I;obtain⟨f,t⟩:=I;have f:D=C:=by simpa using f
   subst f;refine⟨l,dx,fs,e1,Y.fh _ _ v,w.at.2 (by simpa using t),?_⟩
   have p:=p.step Y;refine qK (r.mono Y.ff) Y.fh (λe c=>p.err (by rw[c];rfl)) λas d vs F2 H2 b k=>?_;rw[d]at p;have p:aJ K D' ro F1 H1 (bH nN n g (.ins D gs::as)) Q:=p;have p:=p.step b;show spF K ro (bH nN n g) n (x::(vs++[])) H2 Q E0;rw[IH];by_cases j:(A3.ins D gs::as).length=n
   .exact⟨F2,.ins D gs::as,b.fh,⟨x,vs,rfl,aU.mono b.ff i,k⟩,j,p⟩
   .rw[qe j]at p;exact aJ.stuck p
  |_=>cases a
 .rw[k_ a]at p;exact aJ.stuck p
def rd_meth2{g:ai->M A9}(h:tD K D' ro (jx C C2 m (bH nN n g) (bH nN2 n2 g2) fo fr) σ H Q):
  tD K D' ro (jz C m (bH nN n g) fo fr) σ H Q\/tD K D' ro (jz C2 m (bH nN2 n2 g2) fo fr) σ H Q:=by
 obtain⟨F,ρ,r,s,p⟩:=h;cases I:fo ρ with
 |error e=>
  refine .inl ⟨F,ρ,r,s,?_⟩;have e1:jx C C2 m (bH nN n g) (bH nN2 n2 g2) fo fr ρ=.error e:=by unfold jx;rw[I];rfl
  have e2:jz C m (bH nN n g) fo fr ρ=.error e:=by unfold jz;rw[I];rfl
  rw[e1]at p;rw[e2];exact p
 |ok o=>
  have e1:jx C C2 m (bH nN n g) (bH nN2 n2 g2) fo fr ρ=if isC C m o=d_ then(fr ρ).bind λas=>bH nN n g (o::as)else if isC C2 m o=d_ then(fr ρ).bind λas=>bH nN2 n2 g2 (o::as)else stk:=by unfold jx;rw[I];rfl
  have e2:jz C m (bH nN n g) fo fr ρ=if isC C m o=d_ then(fr ρ).bind λas=>bH nN n g (o::as)else stk:=by unfold jz;rw[I];rfl
  have e3:jz C2 m (bH nN2 n2 g2) fo fr ρ=if isC C2 m o=d_ then(fr ρ).bind λas=>bH nN2 n2 g2 (o::as)else stk:=by unfold jz;rw[I];rfl
  rw[e1]at p;by_cases Y:isC C m o=d_
  .rw[f_ Y]at p e2;exact .inl ⟨F,ρ,r,s,by rw[e2];exact p⟩
  .rw[k_ Y]at p;exact .inr ⟨F,ρ,r,s,by rw[e3];exact p⟩
def Hg(X:Cx)(o:Ii)(m:m_)(apos:PR)(es:List Ii)(pos:PR)(pl:PQ Bool):Prop:=Hv (.Call (.Attribute o m apos) es [] pos) X.env=(do let I <- Hv o X.env;My apos.atName;let (f,first) <- KU [I] (MS I m pl);Nu pos f first (HQ pos (i_ es X.env)) (JH pos (IK [] X.env)))
section
variable{k:Nat}{fad2:e_}{fd2:Je}{ps:List m_}{g:ai->M A9}
def qZ(c:Cls X.K C)(M:Meth X.K C m fad)(F:iS X.prog X.w X.K X.mg X.base CX0 k fad fd ps (spF X.K ro (bH nN n g) n))(Y:iu k X.A)(b:Binds X.K fd ps [])(a:DE X.K D' b_ X o fo)(I:Hg X o m apos [] pos pl):DE X.K D' ro X (.Call (.Attribute o m apos) [] [] pos) (jz C m (bH nN n g) fo aB):=
 (pe_meth0 (pl:=pl) a c M F Y b .nil r9 I).imp λσ H Q h=>by
  obtain⟨F,ρ,r,s,z⟩:=rd_meth h;refine⟨F,ρ,r,s,?_⟩
  cases e1:fo ρ with
  |error f=>rw[e1]at z;exact z|ok od=>rw[e1]at z;intro v F' H' st q;obtain⟨l,dx,fs,h1,h2,e,d⟩:=z v F' H' st q;exact⟨l,dx,fs,h1,h2,e,rd_nil d⟩
def rZ(c:Cls K C)(M:Meth K C m fad)(F:iS X.prog X.w X.K X.mg X.base CX0 k fad fd ps (spF K ro (bH nN n g) n))(Y:iu k X.A)(b:Binds X.K fd ps [])(a:DE K D' b_ X o fo)(d: ~~~(X.K=K))(I: ~~~(Hg X o m apos [] pos pl)):DE K D' ro X (.Call (.Attribute o m apos) [] [] pos) (jz C m (bH nN n g) fo aB):=by subst d;exact qZ c M F Y b a I
def rY{k2:Nat}{I:b8}(c:Cls K C)(M:Meth K C m fad)(F:iS X.prog X.w X.K X.mg X.base CX0 k fad fd ps (spF K ro (bH nN n g) n))(e:iu k X.A)(f:Binds X.K fd ps [])(i:Cls K C2)(j:Meth K C2 m fad2)(F2:iS X.prog X.w X.K X.mg X.base CX0 k2 fad2 fd2 I (spF K ro (bH nN2 n2 g2) n2))(Y:iu k2 X.A)(a:Binds X.K fd2 I [])(d:DE K D' b_ X o fo)(h: ~~~(X.K=K))(b: ~~~(Hg X o m apos [] pos pl)):
  DE K D' ro X (.Call (.Attribute o m apos) [] [] pos) (jx C C2 m (bH nN n g) (bH nN2 n2 g2) fo aB):=by
 subst h;exact(PE.or (qZ c M F e f d b) (qZ i j F2 Y a d b)).imp λ_ _ _=>rd_meth2
end
def spI1(K:Pn)(C:e_)(g:bv->M A3):Sp:=λvs H Q _=>∃p dx v F d,vs=[.ref p,v]/\H p=a_ (.ins C dx [])/\F p=c_/\aM F H/\aU K F d v/\(match g [d]with
 |.ok r=>∀w F' H',aM F F'->aM F' H'->F' p=c_->(∀b o,F' b=a_ o->F b=a_ o\/H b=c_)->(∀c o,H c=a_ o->c≠p->H' c=a_ o)->H' p=a_ (.ins C dx [("gaps",w)])->aU K F' r w->Q .non H'|.error e=>D'.p e F H)
def spI2(K:Pn)(C:e_)(g:bv->M A3):Sp:=λvs H Q _=>∃p dx v I F d d2,vs=[.ref p,v,I]/\H p=a_ (.ins C dx [])/\F p=c_/\aM F H/\aU K F d v/\aU K F d2 I/\(match (g [d]).bind λr=>(g [d2]).bind λr2=>if twoL r r2=d_ then .ok (r,r2)else stk with
 |.ok (r,r2)=>∀w w2 F' H',aM F F'->aM F' H'->F' p=c_->(∀b o,F' b=a_ o->F b=a_ o\/H b=c_)->(∀c o,H c=a_ o->c≠p->H' c=a_ o)->H' p=a_ (.ins C dx [("gaps",w),("beside",w2)])->aU K F' r w->aU K F' r2 w2->Q .non H'|.error e=>D'.p e F H)
theorem A5.born{x:e_}{fs:List (m_×V)}(s:aM F H)(f:H x=c_)(Y:H dx=c_)(I:dx≠x)(h1:aM F F')(h2:aM F' H')(d:F' x=c_)(i:∀b o,F' b=a_ o->F b=a_ o\/upd (upd H dx (.own x)) x (.ins C dx []) b=c_)(h:∀c o,upd (upd H dx (.own x)) x (.ins C dx []) c=a_ o->c≠x->H' c=a_ o)(g:H' x=a_ (.ins C dx fs)):A5 F H (upd F' x (.ins C dx fs)) H' where
 ff:=h1.trans (aM.upd d)
 hh:=λc o e=>by grind[aw]
 fh:=λc o e=>by
  by_cases a:c=x
  .simp_all[au]
  .rw[aw a]at e;exact h2 _ _ e
 nw:=λc o e=>by grind[aw]
theorem de_newR{k:Nat}{g:bv->M A3}{ps:b8}(t:Mk X.K C fI)(U:iS X.prog X.w X.K X.mg X.base CX0 k fI fdI ps (spI1 K C g))(B:iu (k+1) X.A)(E:X.mg x=a_ (.ref C))(N:Binds X.K fdI ps [])(O:DA K D' X [e] fr)(G: ~~~(Gl X x))(m:((x==("__debug__":m_))=b_)⁻¹)(i: ~~~(i_ [e] X.env=(b_,Hv e X.env)::i_ [] X.env))(j: ~~~((HQ pos (i_ [] X.env)).any (·.1)=b_)):
  DE K D' b_ X (.Call (.Name x p) [e] [] pos) (fL (newR C g) fr):=by
 refine PE.imp (Al t U B G E N .nil r9 O m i j) λσ H Q h=>?_;obtain⟨F,ρ,r,s,p⟩:=rd_L h;refine⟨F,ρ,r,s,?_⟩
 cases e1:fr ρ with
 |error z=>simp_all|ok ds=>
  rw[e1]at p;intro vs F1 H1 st q;obtain⟨F2,n,I,A,z⟩:=p vs F1 H1 st q;rcases n with _|⟨d,_|⟨_,_⟩⟩
  .exact aJ.stuck z
  rotate_left
  .exact aJ.stuck z
  .obtain⟨v,b,rfl,y,D⟩:=A;cases(show b=[]from D);intro x dx f a l;refine⟨x,dx,v,F2,d,rfl,au,I.free f,λc o e=>?_,y,?_⟩
   .have L:c≠x:=λh=>by rw[h,I.free f]at e;cases e
    have hd:c≠dx:=λh=>by rw[h,I.free a]at e;cases e
    rw[aw L,aw hd];exact I _ _ e
   .have z:aJ K D' b_ F2 H1 ((g [d]).bind λr=>.ok (.ins C [("gaps",r)])) Q:=z;cases Y:g [d]with
    |error e=>rw[Y]at z;exact HK z|ok r=>
     rw[Y]at z;intro w F' H' h1 h2 u T S R P;refine⟨rfl,z (.ref x) (upd F' x (.ins C dx [("gaps",w)])) H' (A5.born I f a l h1 h2 u T S R) ?_⟩
     exact⟨x,dx,_,rfl,au,w,[],rfl,aU.mono (aM.upd u) P,rfl⟩
theorem de_newP{k:Nat}{g:bv->M A3}{ps:b8}(D:Mk X.K C fI)(FI:iS X.prog X.w X.K X.mg X.base CX0 k fI fdI ps (spI2 K C g))(O:iu (k+1) X.A)(R:X.mg x=a_ (.ref C))(U:Binds X.K fdI ps [])(W:DA K D' X [e,a] fr)(S: ~~~(Gl X x))(y:((x==("__debug__":m_))=b_)⁻¹)(n: ~~~(i_ [e,a] X.env=(b_,Hv e X.env)::i_ [a] X.env))(t: ~~~((HQ pos (i_ [a] X.env)).any (·.1)=b_)):
  DE K D' b_ X (.Call (.Name x p) [e,a] [] pos) (fL (newP C g) fr):=by
 refine PE.imp (Al D FI O S R U .nil r9 W y n t) λσ H Q h=>?_;obtain⟨F,ρ,r,s,p⟩:=rd_L h;refine⟨F,ρ,r,s,?_⟩
 cases e1:fr ρ with
 |error z=>simp_all|ok ds=>
  rw[e1]at p;intro vs F1 H1 st q;obtain⟨F2,B,Y,N,z⟩:=p vs F1 H1 st q;rcases B with _|⟨d,_|⟨d2,_|⟨_,_⟩⟩⟩
  .exact aJ.stuck z
  .exact aJ.stuck z
  rotate_left
  .exact aJ.stuck z
  .obtain⟨v,E,rfl,L,G,i,rfl,j,P⟩:=N;cases(show i=[]from P);intro x dx l f u;refine⟨x,dx,v,G,F2,d,d2,rfl,au,Y.free l,λc o e=>?_,L,j,?_⟩
   .have T:c≠x:=λh=>by rw[h,Y.free l]at e;cases e
    have hd:c≠dx:=λh=>by rw[h,Y.free f]at e;cases e
    rw[aw T,aw hd];exact Y _ _ e
   .have z:aJ K D' b_ F2 H1 ((g [d]).bind λr=>(g [d2]).bind λr2=>if twoL r r2=d_ then .ok (.ins C [("gaps",r),("beside",r2)])else stk) Q:=z;cases b:g [d]with
    |error e=>rw[b]at z;exact HK z|ok r=>
     rw[b,aj]at z;cases I:g [d2]with
     |error e=>rw[I]at z;exact HK z|ok r2=>
      rw[I,aj]at z;by_cases m:twoL r r2=d_
      .rw[f_ m]at z;rw[aj,aj,f_ m];intro w w2 F' H' h1 h2 A h4 h5 h6 h7 Z;refine⟨rfl,z (.ref x) (upd F' x (.ins C dx [("gaps",w),("beside",w2)])) H' (A5.born Y l f u h1 h2 A h4 h5 h6) ?_⟩
       exact⟨x,dx,_,rfl,au,w,_,rfl,aU.mono (aM.upd A) h7,w2,[],rfl,aU.mono (aM.upd A) Z,rfl⟩
      .rw[k_ m]at z;exact aJ.stuck z
end
noncomputable def Itz(K:Pn)(a b:e_):It:=
 ⟨λi H=>∃xs ys x y,SqL K H a xs/\SqL K H b ys/\xs[i]?=a_ x/\ys[i]?=a_ y,λi H v H'=>∃T x y,H T=c_/\v=.ref T/\H'=upd H T (.tup [x,y])/\(∀xs,SqL K H a xs->xs[i]?=a_ x)/\∀ys,SqL K H b ys->ys[i]?=a_ y,λi H=>∃xs ys,SqL K H a xs/\SqL K H b ys/\(xs.length<=i\/ys.length<=i)⟩
theorem turn_zip{k:Nat}{z g m l j N L:e_}(D:ZipApart z g m l j N L):
  Turn P w K (.Tuple elts k pos) (Itz K N L) [z,g,m,l,j] z (λi h=>IsZip h z g m .none/\IsPair h g (.ref l) (.ref j)/\(∃a b,IsPair h m a b)/\h.IsListIter l N i/\h.IsListIter j L i) where
 mem:=by simp
 obj:=λi h st b Y=>by obtain⟨r,d,⟨a,c,f⟩,⟨o1,e1,c1,d1⟩,⟨o2,e2,c2,d2⟩⟩:=st;grind
 keep:=λi h h' st t=>by obtain⟨r,d,⟨a,c,f⟩,h1,h2⟩:=st;exact⟨t z am _ r,t g am _ d,⟨a,c,t m am _ f⟩,h1.at λo x=>t l am o x,h2.at λo x=>t j am o x⟩
 item:=by
  intro X T hw U hc i A4 s σ H E I C st R;subst T hw U;obtain⟨r,d,⟨a,c,f⟩,h1,h2⟩:=st;obtain⟨xs,ys,x,y,B,A,gx,gy⟩:=R;obtain⟨A8,F,p,_⟩:=I.list B;obtain⟨v,n,p2,_⟩:=I.list A;obtain⟨u,hu,ru⟩:=F.get gx;obtain⟨Z,O,G⟩:=n.get gy;refine wpAny_pyNext_zip_item D r d f h1 h2 p.isList p2.isList (x:=u) (y:=Z) (by simpa using hu) (by simpa using O) λh' a1 a2 a3 a4 a5 a6 a7=>?_;refine⟨_,rfl,wpAny_letOwnedTupleGo_zip a1 λW b1 b2=>?_⟩
  have lz:z<s.z:=u_ r;have lTI:g<s.z:=u_ d;have lTO:m<s.z:=u_ f;have li1:l<s.z:=by obtain⟨o,e,_⟩:=h1;exact u_ e
  have li2:j<s.z:=by obtain⟨o,e,_⟩:=h2;exact u_ e
  have I1:A6 X A4 σ (upd H s.z (.tup [x,y])) {s with heap:=W,toks:=s.toks}:=I.EA (ch:=[z,g,m,l,j]) C (λb o Y q=>by simp only[t_,Ig,Kd,Np]at Y;exact(b2.2 b Y.1).trans (a7 b o Y.1 Y.2.2.1 Y.2.2.2.1 Y.2.2.2.2 q)) (r_ _) ⟨by show 2<=h_;decide,[u,Z],.cons ru (.cons G .nil),⟨_,(b2.2 _ (KD lz)).trans a5,rfl,0,rfl⟩⟩
  refine⟨.ref s.z,_,I1,rfl,⟨s.z,x,y,I.hok.fresh (r_ _),rfl,rfl,λzs Q=>by rw[I.qo Q B];exact gx,λzs Q=>by rw[I.qo Q A];exact gy⟩,
   ⟨b1,(b2.2 _ D.TIz).trans (a7 g _ D.TIz D.TITO D.TIi1 D.TIi2 d),⟨_,_,(b2.2 _ D.TOz).trans a2⟩,a3.at λo q=>(b2.2 _ D.i1z).trans q,a4.at λo q=>(b2.2 _ D.i2z).trans q⟩,λb Y=>?_⟩
  have S:=(C b Y).1;have:b≠s.z:=by simp only[t_,Ig,Kd]at Y;rcases Y with rfl|rfl|rfl|rfl|rfl<;>exact HC (by assumption)
  rw[aw this];exact S
 done:=by
  intro X T hw U hc i A4 s σ H E I C st R;subst T hw U;obtain⟨r,d,⟨a,c,f⟩,h1,h2⟩:=st;obtain⟨xs,ys,B,A,hend⟩:=R;obtain⟨A8,F,p,_⟩:=I.list B;obtain⟨v,n,p2,_⟩:=I.list A;have e1:=F.length;have e2:=n.length;refine wpAny_pyNext_zip_end (I.ok.hd hc) D r d f h1 h2 p.isList p2.isList ?_ λh' hk=>⟨rfl,I.EB (t':=s.toks) (ch:=[z,g,m,l,j]) C λb o Y q=>?_⟩
  .simp_all
  .simp only[t_,Ig,Kd,Np]at Y;exact hk b o Y.1 Y.2.2.1 Y.2.2.2.1 Y.2.2.2.2 q
 self:=λ_ _ _ _ _ st h=>P2 st.1 h
theorem Bj:∀(ds es:bv) (i:Nat),(oj ds es)[i]?=(ds[i]?).bind λd=>(es[i]?).map λe=>.tup [d,e]
 |[],es,i=>by rfl|d::ds,[],i=>by simp[oj]|d::ds,e::es,0=>by rfl|d::ds,e::es,i+1=>by rw[oj,J_,Bj ds es i,J_,J_]
theorem uS:∀(ds es:bv),(oj ds es).length=OE ds.length es.length
 |[],es=>by rfl|d::ds,[]=>by rfl|d::ds,e::es=>by rw[oj,Hl,uS ds es,Hl,Hl];lia
theorem iter_zip{xs ys:b9}{ds es:bv}(t:SqL K F a xs)(z:aD K F ds xs)(t2:SqL K F b ys)(f:aD K F es ys):zw K F (Itz K a b) (oj ds es) where
 go:=λi F' H' Y I hi=>by rw[uS]at hi;exact⟨xs,ys,xs[i]'(by rw[z.length];lia),ys[i]'(by rw[f.length];lia),I.lst (Y.lst t),I.lst (Y.lst t2),HA _,HA _⟩
 yl:=λi F' H' x H2 d Y I hd l=>by
  obtain⟨T,j,g,h,ex,m,h1,h2⟩:=l;subst ex m;rw[Bj]at hd;cases e:ds[i]? with
  |none=>simp_all|some d1=>
   cases c:es[i]? with
   |none=>simp_all|some d2=>
    rw[e,c]at hd;simp at hd;subst hd;obtain⟨v,e1,q⟩:=z.get e;obtain⟨n,e2,k⟩:=f.get c;have e3:=h1 xs (I.lst (Y.lst t));have e4:=h2 ys (I.lst (Y.lst t2));rw[e1]at e3;rw[e2]at e4;cases e3;cases e4;refine⟨upd F' T (.tup [j,g]),A5.lay I h,T,_,rfl,SqT.of au,?_⟩
    exact⟨j,[g],rfl,(q.mono Y).mono (aM.upd (I.free h)),g,[],rfl,(k.mono Y).mono (aM.upd (I.free h)),rfl⟩
 st:=λF' H' Y I=>⟨xs,ys,I.lst (Y.lst t),I.lst (Y.lst t2),by rw[z.length,f.length,uS];lia⟩
section
variable{W:eZ}{a b:Ii}
def iZip(K:Pn)(ta tb:TE):TI:=λσ H R=>ta σ H λx H1=>tb σ H1 λy H2=>∃a b,x=.ref a/\y=.ref b/\(∃xs,SqL K H2 a xs)/\(∃ys,SqL K H2 b ys)/\R (Itz K a b) H2
def pi_zip{k:Nat}(L:Gl X "zip")(G:X.mg "zip"=c_)(N:PE X a ta)(j:PE X b tb)(A:i_ [a,b] X.env=[(b_,Hv a X.env),(b_,Hv b X.env)])(c:i_ [b] X.env=[(b_,Hv b X.env)]):
  PI X (.Tuple elts k q) (.Call (.Name "zip" p) [a,b] [] pos) (iZip X.K ta tb):=by
 intro A4 s σ H R I h;have O:PA X [a,b] (aR ta (aR tb eP)):=ax N (ax j aP c) (by rw[A,c]);refine Call_ (uv I L G boot_zip (Kg (C6 (O pos A4 s σ H (λvs H1=>match vs with
  |[x,y]=>∃a b,x=.ref a/\y=.ref b/\(∃xs,SqL X.K H1 a xs)/\(∃ys,SqL X.K H1 b ys)/\R (Itz X.K a b) H1
  |_=>False) I h) λus Y ⟨vs,H1,g,D,i⟩=>?_) (by rw[A,c]) (by rw[c];rfl)))
 rcases vs with _|⟨x,_|⟨y,_|⟨_,_⟩⟩⟩
 .exact HK i
 .exact HK i
 rotate_left
 .exact HK i
 .obtain⟨l,E,e1,e2,⟨xs,F⟩,⟨ys,n⟩,q⟩:=i;subst e1 e2;obtain⟨u,S,rfl,C,m⟩:=D.two;cases C;cases m;obtain⟨A8,T,pl,_⟩:=g.list F;obtain⟨w,B,d,_⟩:=g.list n;have a1:l<Y.z:=by obtain⟨_,e,_⟩:=pl.isList;exact u_ e
  have P:E<Y.z:=by obtain⟨_,e,_⟩:=d.isList;exact u_ e
  refine call_zip_2 pl.isList d.isList λh' z v t r o hsz K=>?_;have Q:A6 X A4 σ H1 {Y with heap:=h'}:=g.kept (t':=Y.toks) K;refine P2 z ?_;refine⟨Y.z+4,[Y.z+4,Y.z+2,Y.z+3,Y.z,Y.z+1],_,_,H1,rfl,Q,turn_zip (zipApart_new a1 P),⟨z,v,⟨_,_,t⟩,r,o⟩,λb j=>?_,q⟩
  have f:Y.z<=b:=by
   simp only[t_,Ig,Kd]at j;rcases j with rfl|rfl|rfl|rfl|rfl
   .simp
   .simp
   .simp
   .simp
   .simp
  exact g.fpOk f (g.hok.fresh f)
theorem ri_zip{R:It->Hp->Prop}(h:iD K W (AR fa fb) σ H R):iZip K (tD K W b_ fa) (tD K W b_ fb) σ H R:=by
 obtain⟨F,ρ,r,s,p⟩:=h;refine aT r s (λe f=>?_) λd hd v F1 H1 Y j=>?_
 .simp_all[AR]
 .refine aT (r.mono Y.ff) Y.fh (λe f=>?_) λd2 c k F2 H2 I i=>?_
  .have z:AR fa fb ρ=.error e:=by unfold AR;rw[hd,aj,f];rfl
   rw[z]at p;exact W.mono p Y
  .have z:AR fa fb ρ=(nG d).bind λds=>(nG d2).bind λes=>.ok (oj ds es):=by unfold AR;rw[hd,aj,c,aj]
   rw[z]at p;cases d with
   |lst ds=>
    cases d2 with
    |lst es=>obtain⟨b,xs,e,t,g⟩:=j;obtain⟨b2,ys,e2,t2,a⟩:=i;have t':=I.ff.lst t;exact⟨b,b2,e,e2,⟨xs,I.fh.lst t'⟩,⟨ys,I.fh.lst t2⟩,p _ F2 H2 (Y.trans I) (iter_zip t' (g.mono I.ff) t2 a)⟩
    |_=>exact(W.ns p).elim
   |_=>exact(W.ns p).elim
def Cw{k:Nat}(c:X.mg "zip"=c_)(f:DE K W b_ X a fa)(e:DE K W b_ X b fb)(d: ~~~(Gl X "zip"))(Y: ~~~(i_ [a,b] X.env=[(b_,Hv a X.env),(b_,Hv b X.env)]))(I: ~~~(i_ [b] X.env=[(b_,Hv b X.env)]))(g: ~~~(X.K=K)):
  DI K W X (.Tuple elts k q) (.Call (.Name "zip" p) [a,b] [] pos) (AR fa fb):=by
 subst g;exact(pi_zip d c f e Y I).imp λ_ _ _=>ri_zip
end
theorem BU{n:Nat}:∀{ds:bv} {d:A3},lJ ds n=d_->d∈ds->C' d n=d_
 |[],d,_,h=>by simp at h|a::ds,d,h,hd=>by
  unfold lJ at h;simp only[o_]at h;rcases t_.mp hd with e|e
  .simp_all
  .exact BU h.2 e
section
variable{W:eZ}{own:Bool}
open Classical in
def has_D(I:A6 X A4 σ H s)(hF:aM F H){ds:bv}{xs:b9}{A8:List Value}{a:A3}{x:V}(od:lJ ds 40=true)(oa:C' a 40=true)(qs:aD X.K F ds xs)(rv:B' xs A8)(qa:aU X.K F a x)(ra:A' x u)(hu:A.units+40<cLine):
  ∃e:Value->Bool,(∀y,y∈A8.toArray->SeqAt.EqAt A s y u (e y))/\A8.toArray.any e=ds.any λd=>eqD d a:=by
 have each:∀(i:Nat) (y:Value),A8[i]?=some y->∃d,ds[i]?=some d/\SeqAt.EqAt A s y u (eqD d a):=λi y hy=>by
  have hi:i<A8.length:=(List.getElem?_eq_some_iff.mp hy).1;have h1:i<xs.length:=by rw[rv.length];exact hi
  have h2:i<ds.length:=by rw[<- qs.length];exact h1
  obtain⟨v,e1,q1⟩:=qs.get (List.getElem?_eq_getElem h2);obtain⟨w,e2,r2⟩:=rv.get e1;rw[hy]at e2;cases e2;exact⟨_,List.getElem?_eq_getElem h2,Gk I hF _ a (BU od (List.getElem_mem h2)) oa q1 qa r2 ra hu⟩
 refine⟨λy=>decide (∃(i:Nat) (d:A3),A8[i]?=some y/\ds[i]?=some d/\eqD d a=true),λy hy=>?_,?_⟩
 .by_cases h:∃(i:Nat) (d:A3),A8[i]?=some y/\ds[i]?=some d/\eqD d a=true
  .obtain⟨i,d,h1,h2,h3⟩:=h;obtain⟨d',h4,h5⟩:=each i y h1;rw[h2]at h4;cases h4;rw[h3]at h5;have:decide (∃(i:Nat) (d:A3),A8[i]?=some y/\ds[i]?=some d/\eqD d a=true)=true:=decide_eq_true ⟨i,d,h1,h2,h3⟩;show SeqAt.EqAt A s y u (decide _);rw[this];exact h5
  .have hm:y∈A8:=by simpa using hy
   obtain⟨i,hi⟩:=List.getElem?_of_mem hm;obtain⟨d,h4,h5⟩:=each i y hi;have h6:eqD d a=false:=by
    cases hq:eqD d a with
    |false=>rfl|true=>exact absurd ⟨i,d,hi,h4,hq⟩ h
   rw[h6]at h5;show SeqAt.EqAt A s y u (decide _);rw[decide_eq_false h];exact h5
 .rw[Bool.eq_iff_iff];simp only[List.any_toArray,List.any_eq_true,decide_eq_true_eq];constructor
  .rintro⟨y,hy,i,d,h1,h2,h3⟩;exact⟨d,List.mem_of_getElem? h2,h3⟩
  .rintro⟨d,hd,h3⟩;obtain⟨i,hi⟩:=List.getElem?_of_mem hd;have h2:i<ds.length:=(List.getElem?_eq_some_iff.mp hi).1;have h4:i<A8.length:=by rw[<- rv.length,qs.length];exact h2
   exact⟨A8[i],List.getElem_mem h4,i,d,List.getElem?_eq_getElem h4,hi,h3⟩
theorem o_in(w:X.A.units+64<IU)(r: ~~~(X.K=K)):Op2 K W own X (Ht .In) inM:=by
 subst r;intro A4 s σ H x y v u Q I n m h;obtain⟨F,a,b,f,q,o,p⟩:=h;have g:X.A.in1.units+40<IU:=by show X.A.units+1+40<IU;lia
 cases b with
 |lst ds=>
  obtain⟨l,xs,e,t,z⟩:=o;subst e;cases m;have c:aJ X.K W own F H (if (C' a 40&&lJ ds 40)=d_ then .ok (.bl (ds.any λd=>eqD d a))else stk) Q:=p;by_cases Y:(C' a 40&&lJ ds 40)=d_
  .rw[f_ Y]at c;simp only[o_]at Y;obtain⟨A8,i,pl,_⟩:=I.list (f.lst t);obtain⟨e,j,k⟩:=has_D (A:=X.A.in1) I f Y.2 Y.1 z i q n g;refine SeqAt.in_listAt e pl.isList j ?_;rw[k];exact c.blS f I
  .rw[k_ Y]at c;exact c.stuck
 |tup ds=>
  obtain⟨l,xs,e,t,z⟩:=o;subst e;cases m;have c:aJ X.K W own F H (if (C' a 40&&lJ ds 40)=d_ then .ok (.bl (ds.any λd=>eqD d a))else stk) Q:=p;by_cases Y:(C' a 40&&lJ ds 40)=d_
  .rw[f_ Y]at c;simp only[o_]at Y;obtain⟨A8,i,pl,_⟩:=I.tuple (f.tup t);obtain⟨e,j,k⟩:=has_D (A:=X.A.in1) I f Y.2 Y.1 z i q n g;refine SeqAt.in_tupleAt e (show s.heap.IsTuple l A8.toArray from pl) j ?_;rw[k];exact c.blS f I
  .rw[k_ Y]at c;exact c.stuck
 |_=>exact aJ.stuck p
theorem kx(w:X.A.units+64<IU)(r: ~~~(X.K=K)):Op2 K W own X (Ht .NotIn) iE:=by
 subst r;intro A4 s σ H x y v u Q I n m h;obtain⟨F,a,b,f,q,o,p⟩:=h;have g:X.A.in1.units+40<IU:=by show X.A.units+1+40<IU;lia
 cases b with
 |lst ds=>
  obtain⟨l,xs,e,t,z⟩:=o;subst e;cases m;have c:aJ X.K W own F H (if (C' a 40&&lJ ds 40)=d_ then .ok (.bl (!ds.any λd=>eqD d a))else stk) Q:=p;by_cases Y:(C' a 40&&lJ ds 40)=d_
  .rw[f_ Y]at c;simp only[o_]at Y;obtain⟨A8,i,pl,_⟩:=I.list (f.lst t);obtain⟨e,j,k⟩:=has_D (A:=X.A.in1) I f Y.2 Y.1 z i q n g;refine SeqAt.notIn_listAt e pl.isList j ?_;rw[k];exact c.blS f I
  .rw[k_ Y]at c;exact c.stuck
 |tup ds=>
  obtain⟨l,xs,e,t,z⟩:=o;subst e;cases m;have c:aJ X.K W own F H (if (C' a 40&&lJ ds 40)=d_ then .ok (.bl (!ds.any λd=>eqD d a))else stk) Q:=p;by_cases Y:(C' a 40&&lJ ds 40)=d_
  .rw[f_ Y]at c;simp only[o_]at Y;obtain⟨A8,i,pl,_⟩:=I.tuple (f.tup t);obtain⟨e,j,k⟩:=has_D (A:=X.A.in1) I f Y.2 Y.1 z i q n g;refine SeqAt.notIn_tupleAt e (show s.heap.IsTuple l A8.toArray from pl) j ?_;rw[k];exact c.blS f I
  .rw[k_ Y]at c;exact c.stuck
 |_=>exact aJ.stuck p
end
abbrev ZRec(h:H_)(z p q:e_)(m k:j_):Prop:=h.get? z=a_ {cls:=.type "zip",dict:=c_,data:=.fields #[m,k,.bool b_,.ref p,.ref q],slots:=#[]}
structure Zs(z p q u v l m:e_)(r k a b:j_)(i j:Nat)(xs ys:Array j_)(h:H_):Prop where
 me:ZRec h z p q r k
 A8:IsPair h p (.ref u) (.ref v)
 own:IsPair h q a b
 one:h.IsListIter u l i
 two:h.IsListIter v m j
 xl:h.IsList l xs
 yl:h.IsList m ys
def Off(z q u v:e_)(h h':H_):Prop:=∀c o,c≠z->c≠q->c≠u->c≠v->h.get? c=a_ o->h'.get? c=a_ o
section
variable{z q u v:e_}{a b:j_}{g:H_}
def Off.then(A:Off z q u v h h')(B:Off z q u v h' g):Off z q u v h g:=λc o a b d e x=>B c o a b d e (A c o a b d e x)
end
theorem A5.stays(s:A5 F H F' H')(n:F a=c_)(h:H a=a_ o):F' a=c_:=by
 cases e:F' a with
 |none=>rfl|some u=>
  rcases s.nw a u e with z|z
  .simp_all
  simp_all
structure El(K:Pn)(F G H:Hp)(ds:bv)(vs:b9):Prop where
 len:vs.length=ds.length
 get:∀(k:Nat) (d:A3),ds[k]?=a_ d->∃a xs es,vs[k]?=a_ (.ref a)/\d=.lst es/\H a=a_ (.lst xs)/\F a=c_/\G a=c_/\aD K F es xs
 ap:∀(j k:Nat) (a:e_),vs[j]?=a_ (.ref a)->vs[k]?=a_ (.ref a)->j=k
section
variable{ds:List A3}
def El.step(o:El K F G H ds vs)(s:A5 F H F' H'):El K F' G H' ds vs where
 len:=o.len
 get:=λk d e=>by obtain⟨a,xs,es,h1,h2,I,c,b,Y⟩:=o.get k d e;exact⟨a,xs,es,h1,h2,s.hh _ _ I,s.stays c I,b,Y.mono s.ff⟩
 ap:=o.ap
theorem El.at(o:El K F G H ds vs){k:Nat}{a:e_}(h:vs[k]?=a_ (.ref a)):∃xs es,ds[k]?=a_ (.lst es)/\H a=a_ (.lst xs)/\F a=c_/\G a=c_/\aD K F es xs:=by
 have I:k<ds.length:=by rw[<- o.len];exact(s_.mp h).1
 obtain⟨b,xs,es,h1,h2,e,d,c,Y⟩:=o.get k ds[k] am;rw[h]at h1;cases h1;exact⟨xs,es,by rw[<- h2];simp[I],e,d,c,Y⟩
end
def rowAt(rs:bv)(a:Int):M (Nat×bv):=match ixN rs.length a with
 |some j=>(match rs[j]? with
  |some (.lst es)=>.ok (j,es)|_=>.error .stuck)
 |none=>.error .stuck
def setRow(rs:bv)(I:Nat×bv)(b:Int)(x:A3):M bv:=match ixN I.2.length b with
 |some k=>.ok (rs.set I.1 (.lst (I.2.set k x)))|none=>.error .stuck
def rows3(i:Nat)(rs:bv)(x:A3)(Y:Nat×bv)(a:ai->M A3)(ρ:ai):M A9:=(a (ρ.set i c_)).bind λb=>(asI b).bind λb=>(setRow rs Y b x).bind λI=>.ok (.nx (ρ.set i (a_ (.lst I))))
def rows2(i:Nat)(rs:bv)(x:A3)(b Y:ai->M A3)(ρ:ai):M A9:=(b (ρ.set i c_)).bind λa=>(asI a).bind λa=>(rowAt rs a).bind λI=>rows3 i rs x I Y ρ
structure RepR(K:Pn)(F0 H0 FB:Hp)(i:Nat)(a:e_)(ys:b9)(rs:bv)(F H:Hp)(σ:St)(ρ:ai):Prop where
 r:Rep K F0 H0 FB [] F H σ ρ
 sl:σ[i]?=a_ (a_ (.ref a))
 hp:H a=a_ (.lst ys)
 fa:F a=c_
 ha:H0 a=c_
 nm:∀m:Nat,ys[m]?≠a_ (.ref a)
 ow:El K F H0 H rs ys
section
variable{ys:List V}{rs:List A3}
theorem RepR.step(h:RepR K F0 H0 FB i a ys rs F H σ ρ)(s:A5 F H F1 H1):RepR K F0 H0 FB i a ys rs F1 H1 σ ρ:=
 ⟨h.r.step s,h.sl,s.hh _ _ h.hp,s.stays h.fa h.hp,h.ha,h.nm,h.ow.step s⟩
theorem RepR.base{I:Hp}(h:RepR K F0 H0 FB i a ys rs F H σ ρ)(s:aM I FB):RepR K F0 H0 I i a ys rs F H σ ρ:=⟨h.r.base s,h.sl,h.hp,h.fa,h.ha,h.nm,h.ow⟩
end
section
variable{κ:Type}[DecidableEq κ]
noncomputable def wX(A7:List (κ×V))(k:κ):Option V:=(A7.find? λI=>q_ (I.1=k)).map (·.2)
noncomputable def putK(A7:List (κ×V))(k:κ)(v:V):List (κ×V):=
 if (A7.any λI=>q_ (I.1=k))=d_ then A7.map (λI=>if I.1=k then(I.1,v)else I)else A7++[(k,v)]
noncomputable def dropK(A7:List (κ×V))(k:κ):List (κ×V):=A7.filter λI=>q_ (I.1≠k)
def Bo{k:κ}:wX ([]:List (κ×V)) k=c_:=rfl
def mP{p:κ×V}{r:List (κ×V)}{k:κ}(e:p.1=k):wX (p::r) k=a_ p.2:=by simp[wX,Ic,e]
def mQ{p:κ×V}{r:List (κ×V)}{k:κ}(e:¬p.1=k):wX (p::r) k=wX r k:=by simp[wX,Ic,e]
theorem pW(k:κ):∀A7:List (κ×V),(A7.any λI=>q_ (I.1=k))=(wX A7 k).isSome
 |[]=>rfl|p::r=>by
  rw[List.any_cons];by_cases e:p.1=k
  .simp only[mP e,x_ e,Bool.true_or,NL]
  .rw[mQ e,p9 e,Bool.false_or];exact pW k r
theorem mj(A7:List (κ×V))(k:κ)(v:V):(putK A7 k v).length<=A7.length+1:=by
 unfold putK;split
 .rw[A_];lia
 .rw[Hy,Hl,O3];lia
theorem BM{A7:List (κ×V)}{k:κ}(v:V)(h:wX A7 k=c_):putK A7 k v=A7++[(k,v)]:=by simp_all[putK,pW]
def qC.yG{o:Option V}{u:Option j_}(r:qC o u):o.isSome=u.isSome:=by
 cases o with
 |none=>cases u with
  |none=>rfl|some _=>exact(show False from r).elim
 |some _=>cases u with
  |none=>exact(show False from r).elim|some _=>rfl
theorem qC.getD{o:Option V}{u:Option j_}{d:V}{d':j_}(r:qC o u)(I:A' d d'):A' (o.getD d) (u.getD d'):=by
 cases o with
 |none=>cases u with
  |none=>exact I|some _=>exact(show False from r).elim
 |some _=>cases u with
  |none=>exact(show False from r).elim|some _=>exact r
theorem KV.val{A7:List (κ×V)}{vs:List (κ×j_)}(r:KV A7 vs)(k:κ):qC (wX A7 k) (Ou vs k):=by
 unfold KV at r
 induction r with
 |nil=>exact Iu|@cons p q ps I h t a=>
  obtain⟨h1,h2⟩:=h;by_cases e:p.1=k
  .have Y:q.1=k:=h1.symm.trans e;have b:Ou (q::I) k=a_ q.2:=by simp[Ou,Ic,Y]
   rw[mP e,b];exact h2
  simp_all[Ou,Ic,mQ]
theorem KV.any{A7:List (κ×V)}{vs:List (κ×j_)}(r:KV A7 vs)(k:κ):(A7.any λI=>q_ (I.1=k))=vs.any λI=>q_ (I.1=k):=by
 unfold KV at r
 induction r with
 |nil=>rfl|cons h t Y=>simp_all
def KV.repl{A7:List (κ×V)}{vs:List (κ×j_)}(r:KV A7 vs)(k:κ)(Y:A' y u):
  KV (A7.map λI=>if I.1=k then(I.1,y)else I) (vs.map λI=>if I.1=k then(I.1,u)else I):=by
 unfold KV at r ⊢
 induction r with
 |nil=>exact .nil|@cons p q ps b h t a=>
  rw[F_,F_];refine .cons ?_ a;obtain⟨h1,h2⟩:=h;by_cases e:p.1=k
  .rw[f_ e,f_ (h1.symm.trans e)];exact⟨h1,Y⟩
  .rw[k_ e,k_ (λz=>e (h1.trans z))];exact⟨h1,h2⟩
def KV.put{A7:List (κ×V)}{vs:List (κ×j_)}(r:KV A7 vs)(k:κ)(I:A' y u):KV (putK A7 k y) (stored vs k u):=by
 unfold putK stored;rw[r.any k];by_cases e:(vs.any λY=>q_ (Y.1=k))=d_
 .rw[f_ e,f_ e];exact r.repl k I
 .rw[k_ e,k_ e];exact Ni r ⟨rfl,I⟩
def KV.drop{A7:List (κ×V)}{vs:List (κ×j_)}(r:KV A7 vs)(k:κ):KV (dropK A7 k) (without vs k):=by
 unfold KV at r ⊢;unfold dropK without
 induction r with
 |nil=>exact .nil|@cons p q ps c h t I=>
  obtain⟨h1,h2⟩:=h;rw[OQ,OQ];by_cases e:p.1=k
  .have a:¬q_ (p.1≠k)=d_:=by simp[e]
   have b:¬q_ (q.1≠k)=d_:=by simp[h1.symm.trans e]
   rw[k_ a,k_ b];exact I
  .have Y:¬q.1=k:=λz=>e (h1.trans z);have a:q_ (p.1≠k)=d_:=by simp[e]
   have b:q_ (q.1≠k)=d_:=by simp[Y]
   rw[f_ a,f_ b];exact .cons ⟨h1,h2⟩ I
theorem KV.length{A7:List (κ×V)}{vs:List (κ×j_)}(r:KV A7 vs):A7.length=vs.length:=KR r
end
def G0{k:Key}(r:A' (kV k) u):(dE P w).is k u=d_:=by
 cases k with
 |inl i=>obtain⟨t,e⟩:=(show ∃t,u=Im i t from r);subst e;exact Az P w i t
 |inr x=>obtain⟨t,e⟩:=(show ∃t,u=IM x t from r);subst e;exact Ay P w x t
theorem yE{P:HY}{w:IF}:∀{ks:List Key} {us:ci},B' (ks.map kV) us->ItemsAre (dE P w) ks us
 |[],_,r=>by rw[JG]at r;cases r;exact .nil|k::ks,_,r=>by
  rw[F_]at r;cases r with
  |cons h t=>exact .cons (G0 h) (yE t)
abbrev KT(H:Hp):List (List Key×V)->List (List Key×e_×j_)->Prop:=Kq λp q=>p.1=q.1/\H q.2.1=a_ (.tup (p.1.map kV))/\A' p.2 q.2.2
theorem KT.val{xs:List (List Key×e_×j_)}(r:KT H A7 xs)(k:List Key):qC (wX A7 k) ((Me xs k).map (·.2)):=by
 induction r with
 |nil=>exact Iu|@cons p q ps I h t a=>
  obtain⟨h1,_,h2⟩:=h;by_cases e:p.1=k
  .have Y:q.1=k:=h1.symm.trans e;have b:Me (q::I) k=a_ q.2:=by simp[Me,Ic,Y]
   rw[mP e,b];exact h2
  simp_all[Me,Ic,mQ]
def KT.repl{xs:List (List Key×e_×j_)}(r:KT H A7 xs)(k:List Key)(Y:A' y u):
  KT H (A7.map λI=>if I.1=k then(I.1,y)else I) (xs.map (putAt k u)):=by
 induction r with
 |nil=>exact .nil|@cons p q ps c h t a=>
  rw[F_,F_];refine .cons ?_ a;obtain⟨h1,h2,b⟩:=h;unfold putAt;by_cases e:p.1=k
  .rw[f_ e,f_ (h1.symm.trans e)];exact⟨h1,h2,Y⟩
  .rw[k_ e,k_ (λz=>e (h1.trans z))];exact⟨h1,h2,b⟩
def KT.put{xs:List (List Key×e_×j_)}(r:KT H A7 xs)(k:List Key)(a:H b=a_ (.tup (k.map kV)))(I:A' y u):
  KT H (putK A7 k y) (PD xs k b u):=by
 have e:(A7.any λY=>q_ (Y.1=k))=(Me xs k).isSome:=by rw[pW,(r.val k).yG,KQ]
 unfold putK PD;rw[e];by_cases q:(Me xs k).isSome=d_
 .rw[f_ q,f_ q];exact r.repl k I
 .rw[k_ q,k_ q];exact Ni r ⟨rfl,a,I⟩
def KT.keeps{xs:List (List Key×e_×j_)}(r:KT H A7 xs)(I:∀b ys,H b=a_ (.tup ys)->H' b=a_ (.tup ys)):KT H' A7 xs:=
 Paired.mapP r λ_ _ z=>⟨z.1,I _ _ z.2.1,z.2.2⟩
def rd_of{u:HO}(I:HOk P w H h)(e:Rd H a u):dj P w H h a u:=e.ok I
def Gz{A7:List (Key×V)}(I:HOk P w H h)(e:Rd H a (.dK A7)):A7.length<=h_/\(a==Ir)=b_/\∃vs,KV A7 vs/\h.DictOf (dE P w) a vs:=
 show dj P w H h a (.dK A7)from rd_of I e
def dk_of{A7:List (Key×V)}(I:HOk P w H h)(e:H a=a_ (.dK A7)):A7.length<=h_/\(a==Ir)=b_/\∃vs,KV A7 vs/\h.DictOf (dE P w) a vs:=Gz I (.inl e)
def C7{ks:List Key}(I:HOk P w H h)(e:H a=a_ (.tup (ks.map kV))):(Ln (dE P w)).is h ks a:=by
 obtain⟨_,A8,r,o,h1,h2,n,Y⟩:=(show dj P w H h a (.tup (ks.map kV))from I a _ e)
 exact⟨o,A8.toArray,n,h1,h2,Y,by simpa using yE r⟩
theorem Gv(b:HOk P w H h)(e:Rd H a (.dT A7)):A7.length<=h_/\(a==Ir)=b_ /\
  ∃xs,KT H A7 xs/\h.DictOfH (Ln (dE P w)) a xs:=by
 obtain⟨z,y,xs,r,o,es,ep,h1,h2,g,f,d⟩:=(show dj P w H h a (.dT A7)from rd_of b e)
 refine⟨z,y,xs,r,o,es,ep,h1,h2,g,f,λx I=>?_,d⟩
 have Y:∀{l:List (List Key×V)} {m:List (List Key×e_×j_)},KT H l m->∀x∈m,(Ln (dE P w)).is h x.1 x.2.1:=by
  intro l m q
  induction q with
  |nil=>simp|@cons p q ps i j t c=>
   intro x I;rcases t_.mp I with e|I
   .subst e;exact C7 b bb
   .exact c x I
 exact Y r x I
def dt_of(I:HOk P w H h)(e:H a=a_ (.dT A7)):A7.length<=h_/\(a==Ir)=b_ /\
  ∃xs,KT H A7 xs/\h.DictOfH (Ln (dE P w)) a xs:=Gv I (.inl e)
def zy(H:Hp)(a:e_)(y:V)(r:Option V):Prop:=
 (∃A7 k,Rd H a (.dK A7)/\y=kV k/\r=wX A7 k)\/∃A7 k b,Rd H a (.dT A7)/\y=.ref b/\H b=a_ (.tup (k.map kV))/\r=wX A7 k
def DPut(H:Hp)(a:e_)(y v:V)(H':Hp):Prop:=
 (∃A7 k,H a=a_ (.dK A7)/\y=kV k/\A7.length<h_/\H'=upd H a (.dK (putK A7 k v))) \/
 ∃A7 k b,H a=a_ (.dT A7)/\y=.ref b/\H b=a_ (.tup (k.map kV))/\A7.length<h_/\H'=upd H a (.dT (putK A7 k v))
theorem zy.k{H:Hp}{a:e_}{A7:List (Key×V)}{k:Key}(e:H a=a_ (.dK A7)):zy H a (kV k) (wX A7 k):=.inl ⟨A7,k,.inl e,rfl,rfl⟩
def zy.t{k:List Key}(e:H a=a_ (.dT A7))(I:H b=a_ (.tup (k.map kV))):zy H a (.ref b) (wX A7 k):=.inr ⟨A7,k,b,.inl e,rfl,I,rfl⟩
def DPut.t{k:List Key}(e:H a=a_ (.dT A7))(Y:H b=a_ (.tup (k.map kV)))(I:A7.length<h_):
  DPut H a (.ref b) v (upd H a (.dT (putK A7 k v))):=.inr ⟨A7,k,b,e,rfl,Y,I,rfl⟩
section
variable{r:j_}{o:Option V}{E:Mq}
def A6.big(I:A6 X A4 σ H s):Ir<s.heap.objs.size:=by have h:HG<s.z:=(I.mod.glob.keeps I.bk).lt;exact Lh a8 h
def GK{Q:Mq}(m:A.units+1<IU)(I:A6 X A4 σ H s)(g:zy H a y (a_ v))(j:A' y u)(h:∀d s',A6 X A4 σ H s'->A' v d->Q d s'):
  B_ (C_ X.prog X.w) A (Lw (.ref a) u) Q E s:=by
 rcases g with⟨A7,k,e,i,l⟩|⟨A7,k,b,e,i,q,l⟩
 .subst i;obtain⟨z,hd,vs,c,dd⟩:=Gz I.hok e;obtain⟨d,hw,Y⟩:=qC.some_of (v:=v) (o:=Ou vs k) (by rw[l];exact c.val k);exact wpAny_getItem_of (G0 j) dd.mapOf hw (h d _ (I.tok _) Y)
 .subst i;cases(show u=D_ b from j);obtain⟨z,hd,xs,c,dd⟩:=Gv I.hok e;obtain⟨d,hw,Y⟩:=qC.some_of (v:=v) (o:=(Me xs k).map (·.2)) (by rw[l];exact c.val k);obtain⟨p,n,f⟩:=M8.mp hw;refine wpAny_getItem_heap (Ke m) (C7 I.hok q) dd n ?_;rw[f];exact h d _ (I.tok _) Y
def AZ{t':Nat}{Y:HO}(I:A6 X A4 σ H s)(d:Mut (H a))(f:Kz a s.heap h')(g:∃q,h'.get? a=a_ q)(c:dj X.prog X.w (upd H a Y) h' a Y):
  A6 X A4 σ (upd H a Y) {s with heap:=h',toks:=t'}:=
 I.write (x:=a) (e:=a) d (.inl rfl) (λb q h z=>(f.2 b h).trans z) g c
def dk_new{A7:List (Key×V)}{vs:List (Key×j_)}(z:A7.length<=h_)(hd:(a==Ir)=b_)(I:KV A7 vs)(dd:h'.DictOf (dE P w) a vs):
  dj P w H' h' a (.dK A7):=⟨z,hd,vs,I,dd⟩
theorem GI{Q:Unit->v_->Prop}(B:A.units+1<IU)(I:A6 X A4 σ H s)(g:DPut H a y v H')(p:A' y u)(t:A' v r)(h:∀s',A6 X A4 σ H' s'->Q () s'):
  B_ (C_ X.prog X.w) A (PH (.ref a) u r) Q E s:=by
 rcases g with⟨A7,k,e,n,l,o⟩|⟨A7,k,b,e,n,x,l,o⟩
 .subst n o;obtain⟨z,hd,vs,Y,dd⟩:=dk_of I.hok e;have i:vs.length<=h_:=by rw[<- Y.length];exact z
  have m:(putK A7 k v).length<=h_:=by have:=mj A7 k v;lia
  refine wpAny_setItem_pairs (hsz:=i) (G0 p) dd λh' d j=>h _ ?_;have C:∃q,h'.get? a=a_ q:=let ⟨q,_,_,f,_⟩:=d;⟨q,f⟩;exact AZ I (by rw[e];exact Iu) j C (dk_new m hd (Y.put k t) d)
 .subst n o;cases(show u=D_ b from p);obtain⟨z,hd,xs,Y,dd⟩:=dt_of I.hok e;have i:xs.length<=h_:=by rw[<- KR Y];exact z
  have m:(putK A7 k v).length<=h_:=by have:=mj A7 k v;lia
  refine Pa (hsz:=i) (Ke B) (C7 I.hok x) dd λh' d j=>h _ ?_;obtain⟨q,es,ep,f,h2,G,F,_,D⟩:=d;refine AZ I (by rw[e];exact Iu) j ⟨q,f⟩ ⟨m,hd,_,(Y.put k x t).keeps λc ys w=>?_,q,es,ep,f,h2,G,F,D⟩;rw[aw (ne_of w e (λz=>nomatch z))];exact w
end
def NoSl(i:Ii):Prop:=∀I Y,M1 i b_ I Y=operate [I,Y] (Lw I Y)
def subD_of{E:Mq}{env:LY}{I:Ii}{id:String}{Q:Mq}(j:Pd (.type T) "__getitem__"=IQ (a_ (.builtin id)))(g:NoSl I)(h:B_ (C_ prog w) A (Hv value env) (λo c=>B_ (C_ prog w) A (Hv I env) (λi Y=>Y.TypeIs o T/\B_ (C_ prog w) A (Lw o i) Q E Y) E c) E s):
  B_ (C_ prog w) A (Hv (.Subscript value I pos) env) Q E s:=by
 refine NC (HU h (λo c e=>HU e (λi Y a=>?_) λ_ _ x=>x) λ_ _ x=>x);obtain⟨f,a⟩:=a;unfold Mi;refine g_ ?_;rw[getitemInPython_of_ne f.not_modules];refine g_ (wpAny_specialOf f j ?_);have fin:B_ (C_ prog w) A (M1 I b_ o i) (λr b=>B_ (C_ prog w) A (letTemporaryGo value o r >>=λ_=>IQ r) Q E b) E Y:=by rw[g o i];exact wpAny_operating (HU a (λr b d=>g_ (wpAny_letTemporaryGo (y_ d))) λ_ _ x=>x)
 first
  |exact y_ (g_ fin)
  |exact wpAny_bind (wpAny_pure (wpAny_bind fin))
  |exact wpAny_bind fin
def AX{o:Option V}(I:A6 X A4 σ H s)(g:zy H a y o):s.TypeIs (.ref a) "dict":=by
 rcases g with⟨A7,k,e,_,_⟩|⟨A7,k,b,e,_,_,_⟩
 .obtain⟨_,_,vs,_,dd⟩:=Gz I.hok e;exact dd.typeIs
 .obtain⟨_,_,xs,_,dd⟩:=Gv I.hok e;exact dd.typeIs
def tDGet(td ty:TE):TE:=λσ H Q=>td σ H λx H1=>ty σ H1 λy H2=>∃a v,x=.ref a/\zy H2 a y (a_ v)/\Q v H2
def sDPut(td ty tv:TE):TS:=λD σ H=>tv σ H λv H1=>td σ H1 λx H2=>ty σ H2 λy Y=>∃a I,x=.ref a/\DPut Y a y v I/\D.nx σ I
section
variable{o i:Ii}{ty tv:TE}
def Am(l:X.A.units+1<IU)(n:PE X o td)(hi:PE X i ty)(m:NoSl i):PE X (.Subscript o i pos) (tDGet td ty):=by intro A4 s σ H Q I h;refine subD_of PySem.F.slot_dict_getitem.lookup m (C6 (n A4 s σ H _ I h) λu d b=>?_);obtain⟨x,H1,q,f,k⟩:=b;refine C6 (hi A4 d σ H1 _ q k) λz w b=>?_;obtain⟨y,H2,c,e,a,v,ex,g,j⟩:=b;subst ex;obtain rfl:u=D_ a:=f;exact⟨AX c g,GK l c g e λr t p Y=>⟨v,H2,p,Y,j⟩⟩
def ps_dput(m:X.A.units+1<IU)(p:PE X o td)(hi:PE X i ty)(hv:PE X value tv)(n:Jb value (a_ (.Subscript o i pos')) pos.line X.env=IQ b_):
  PS X (.Assign [.Subscript o i pos'] value pos) (sDPut td ty tv):=by
 intro A4 s σ H D I h;refine Ot (C6 (hv A4 s σ H _ I h) λr c Y=>?_) n;obtain⟨v,H1,z,f,l⟩:=Y;refine C6 (p A4 c σ H1 _ z l) λu b Y=>?_;obtain⟨x,H2,w,e,k⟩:=Y;refine C6 (hi A4 b σ H2 _ w k) λE C Y=>?_;obtain⟨y,F,t,d,a,A,ex,g,j⟩:=Y;subst ex;obtain rfl:u=D_ a:=e;exact GI m t g d f λB q=>⟨σ,A,q,j⟩
end
def dk_empty(h:H_)(I:Ir<h.objs.size):dj P w H (h.push {cls:=.type "dict",data:=.dict #[]}) h.objs.size (.dK []):=
 ⟨HX _,Lk.mpr (HM (HC I)),[],.nil,Heap.DictOf.new h⟩
def dt_empty(h:H_)(I:Ir<h.objs.size):dj P w H (h.push {cls:=.type "dict",data:=.dict #[]}) h.objs.size (.dT []):=
 ⟨HX _,Lk.mpr (HM (HC I)),[],.nil,_,#[],0,Cb _ rfl,⟨rfl,rfl,rfl⟩,rfl,rfl,Lr⟩
def Bw:TE:=λ_ H Q=>∀p,H p=c_->Q (.ref p) (upd H p (.dT []))
def vE:PE X (.Dict [] [] pos) Bw:=λA4 s σ H Q I h=>P6 ⟨.ref s.heap.objs.size,_,I.laid (a:=s.heap.objs.size) (o:=.dT []) (t':=s.toks) (λ_ _ q=>l_ _ q) (r_ _) (dt_empty s.heap I.big),rfl,h _ (I.hok.fresh (r_ _))⟩
def EJ:List (TE×TE)->St->Hp->(List (V×V)->Hp->Prop)->Prop
 |[],_,H,Q=>Q [] H|(tk,tv)::r,σ,H,Q=>tk σ H λx H1=>tv σ H1 λy H2=>EJ r σ H2 λps I=>Q ((x,y)::ps) I
abbrev VV:List (V×V)->List (j_×j_)->Prop:=Kq λp q=>A' p.1 q.1/\A' p.2 q.2
def PPs(X:Cx)(pos:PR)(Y:List (Option Ii))(I:List Ii)(trs:List (TE×TE)):Prop:=
 ∀(A4:Vp) (s:v_) (σ:St) (H:Hp) (Q:List (V×V)->Hp->Prop),A6 X A4 σ H s->EJ trs σ H Q ->
  B_ (C_ X.prog X.w) X.A (evalPairs (pairTrees Y I X.env pos)) (λvs s'=>∃ps H',A6 X A4 σ H' s'/\VV ps vs/\Q ps H') X.xe s
def pps_nil:PPs X pos [] [] []:=λA4 s σ H Q I h=>pairTrees_nil_walk ⟨[],H,I,.nil,h⟩
def BQ{k v:Ii}{ks:List (Option Ii)}{vs:List Ii}{tk tv:TE}(j:PE X k tk)(hv:PE X v tv)(i:PPs X pos ks vs trs):
  PPs X pos (a_ k::ks) (v::vs) ((tk,tv)::trs):=λA4 s σ H Q I h=>
 pairTrees_cons_walk (C6 (j A4 s σ H _ I h) λu b ⟨x,H1,n,d,g⟩=>C6 (hv A4 b σ H1 _ n g) λw2 a ⟨y,H2,m,c,f⟩=>C6 (i A4 a σ H2 _ m f) λws p ⟨ps,o,l,Y,e⟩=>⟨(x,y)::ps,o,l,.cons ⟨d,c⟩ Y,e⟩)
def pe(A7 I:List (Key×V)):List (Key×V):=I.foldl (λY a=>putK Y a.1 a.2) A7
def KV.merge:∀{I:List (Key×V)} {rs:List (Key×j_)} {A7:List (Key×V)} {vs:List (Key×j_)},KV I rs->KV A7 vs->KV (pe A7 I) (merged vs rs):=by
 intro I rs A7 vs r;unfold KV at r
 induction r generalizing A7 vs with
 |nil=>intro q;exact q|@cons p q ps b h t a=>
  intro Y;have e:KV (putK A7 p.1 p.2) (stored vs q.1 q.2):=by have:=Y.put p.1 h.2;rw[<- h.1];exact this
  exact a e
theorem nC:∀(I A7:List (Key×V)),(pe A7 I).length<=A7.length+I.length
 |[],A7=>by show A7.length<=A7.length+0;lia|p::r,A7=>by have h1:=nC r (putK A7 p.1 p.2);have h2:=mj A7 p.1 p.2;show(pe (putK A7 p.1 p.2) r).length<=_;grind
theorem uN{P:HY}{w:IF}:∀{A7:List (Key×V)} {ws:List (j_×j_)},VV (A7.map λI=>(kV I.1,I.2)) ws->∃rs,Carries (dE P w) ws rs/\KV A7 rs
 |[],_,r=>by rw[JG]at r;cases r;exact⟨[],Iu,.nil⟩|p::A7,_,r=>by
  rw[F_]at r;cases r with
  |@cons a b as bs h t=>obtain⟨rs,c,q⟩:=uN (P:=P) (w:=w) t;obtain⟨b1,b2⟩:=b;exact⟨(p.1,b2)::rs,⟨G0 h.1,rfl,c⟩,.cons ⟨rfl,h.2⟩ q⟩
def tDisp(trs:List (TE×TE)):TE:=λσ H Q=>∀p,H p=c_->EJ trs σ (upd H p (.dK [])) λps H2=>H2 p=a_ (.dK [])/\∃A7:List (Key×V),ps=A7.map (λI=>(kV I.1,I.2))/\A7.length<=15/\Q (.ref p) (upd H2 p (.dK (pe [] A7)))
theorem pe_disp{Y:List (Option Ii)}{b:List Ii}(h:PPs X pos Y b trs)(d:Y.all (·.isSome)=d_)(x:Y.length=b.length)(A:Y≠[])(i:Y.length<=15):PE X (.Dict Y b pos) (tDisp trs):=by
 intro A4 s σ H Q I q;have v:=I.hok.fresh (r_ s.z);have B:=I.laid (a:=s.z) (o:=.dK []) (h':=s.heap.push {cls:=.type "dict",data:=.dict #[]}) (t':=s.toks) (λ_ _ q=>l_ _ q) (r_ _) (dk_empty s.heap I.big);refine wpAny_Dict_walk (knd:=dE X.prog X.w) d x A i (C6 (h A4 _ σ _ _ B (q _ v)) λws C u=>?_);obtain⟨ps,H2,j,g,e,A7,ep,D,n⟩:=u;subst ep;obtain⟨rs,c,l⟩:=uN (P:=X.prog) (w:=X.w) g;obtain⟨z,hd,k,m,dd⟩:=dk_of j.hok e;cases m;refine⟨rs,c,dd,λh' f r=>⟨.ref s.z,_,?_,rfl,n⟩⟩
 have p:(pe [] A7).length<=h_:=by have h1:=nC A7 [];rw[O3]at h1;rw[Hu];lia
 have y:∃q,h'.get? s.z=a_ q:=let ⟨q,_,_,t,_⟩:=f;⟨q,t⟩;exact AZ j (by rw[e];exact Iu) r y (dk_new p hd (l.merge .nil) f)
structure M2(X:Cx)(o:Ii)(m:m_)(apos:PR)(e f:Ii)(cpos:PR):Prop where
 base:IZ o m X.env (Hv o X.env)=Hv o X.env
 few:((HQ cpos (i_ [e,f] X.env)).all (λx=> !x.1)&&(JH cpos (IK [] X.env)).all (λx=>x.1.isSome)
  &&q_ (([e,f]:List Ii).length+([]:List J0).length+(if ([]:List J0).isEmpty then 0 else 1)<30))=d_
 line:(apos.endLine==cpos.line)=d_
 trees:HQ cpos (i_ [e,f] X.env)=[(b_,Hv e X.env),(b_,Hv f X.env)]
def IsD(H:Hp)(a:e_):Prop:=(∃A7,Rd H a (.dK A7))\/∃A7,Rd H a (.dT A7)
def isD_at(I:A6 X A4 σ H s)(d:IsD H a):
  s.TypeIs (.ref a) "dict"/\(∀b,D_ a=.ref b->∃Y,s.heap.get? b=a_ Y/\Y.dict=c_)/\(a==Ir)=b_:=by
 rcases d with⟨A7,e⟩|⟨A7,e⟩
 .obtain⟨_,hd,vs,_,dd⟩:=Gz I.hok e;refine⟨dd.typeIs,λb q=>?_,hd⟩
  cases q;obtain⟨Y,_,_,h1,h2,_⟩:=dd;exact⟨Y,h1,h2.2.1⟩
 .obtain⟨_,hd,xs,_,dd⟩:=Gv I.hok e;refine⟨dd.typeIs,λb q=>?_,hd⟩
  cases q;obtain⟨Y,_,_,h1,h2,_⟩:=dd;exact⟨Y,h1,h2.2.1⟩
section
variable{d:V}{r:j_}{o:Option V}{E:Mq}
def d_get2{Q:Mq}(m:A.units+1<IU)(I:A6 X A4 σ H s)(g:zy H a y o)(i:A' y u)(j:A' d r)(h:∀f s',A6 X A4 σ H s'->A' (o.getD d) f->Q f s'):
  B_ (C_ X.prog X.w) A (Kp (.builtin "dict.get") [.ref a,u,r]) Q E s:=by
 rcases g with⟨A7,k,e,c,l⟩|⟨A7,k,b,e,c,n,l⟩
 .subst c;obtain⟨z,hd,vs,Y,dd⟩:=Gz I.hok e;refine Oy JJ dd.typeIs K5 (KY _ _ _) (meets_dict_get_default (dE X.prog X.w) a (G0 i) hd r) ⟨_,dd.mapOf,h _ _ (I.tok _) ?_⟩;rw[l];exact(Y.val k).getD j
 .subst c;cases(show u=D_ b from i);obtain⟨z,hd,xs,Y,dd⟩:=Gv I.hok e;refine Oy JJ dd.typeIs K5 (KY _ _ _) (Oe (Ln (dE X.prog X.w)) a b hd r) ⟨Ke m,k,xs,C7 I.hok n,dd,h _ _ (I.tok _) ?_⟩;rw[l];exact(Y.val k).getD j
end
def tDGet2(td ty tx:TE):TE:=λσ H Q=>td σ H λx H1=>∃a,x=.ref a/\IsD H1 a/\ty σ H1 λy H2=>tx σ H2 λz I=>∃o,zy I a y o/\Q (o.getD z) I
section
variable{o f:Ii}{ty tx:TE}
def pe_dget2(r:X.A.units+1<IU)(v:PE X o td)(A:PE X e ty)(w:PE X f tx)(m:M2 X o "get" apos e f cpos):PE X (.Call (.Attribute o "get" apos) [e,f] [] cpos) (tDGet2 td ty tx):=by
 intro A4 s σ H Q I h;refine Py m.base m.few m.line MM JJ M4 (C6 (v A4 s σ H _ I h) λu i t=>?_);obtain⟨x,H1,b,l,a,ex,d,q⟩:=t;subst ex;obtain rfl:u=D_ a:=l;obtain⟨t1,t2,_⟩:=isD_at b d;refine⟨t1,t2,?_⟩
 rw[m.trees];refine K8 rfl (Lq (JD (C6 (A A4 i σ H1 _ b q) λN c ⟨y,H2,D,k,p⟩=>JD (C6 (w A4 c σ H2 _ D p) λO K ⟨z,E,C,j,L,g,n⟩=>KS ?_))))
 exact d_get2 r C g k j λF G B Y=>⟨_,E,B,Y,n⟩
end
noncomputable def keysI(ks:cc):List (Key×V):=ks.map λk=>(MI k,.bl d_)
structure RepK(K:Pn)(F0 H0 FB:Hp)(i:Nat)(a:e_)(ks:cc)(F H:Hp)(σ:St)(ρ:ai):Prop where
 r:Rep K F0 H0 FB [] F H σ ρ
 sl:σ[i]?=a_ (a_ (.ref a))
 hp:H a=a_ (.dK (keysI ks))
 fa:F a=c_
 ha:H0 a=c_
section
variable{ks:List Int}
theorem RepK.step(h:RepK K F0 H0 FB i a ks F H σ ρ)(s:A5 F H F1 H1):RepK K F0 H0 FB i a ks F1 H1 σ ρ:=
 ⟨h.r.step s,h.sl,s.hh _ _ h.hp,s.stays h.fa h.hp,h.ha⟩
end
structure ExA(h:H_)(e:e_)(C:j_)(dx hd:Option e_):Prop where
 ob:∃oe vs,h.get? e=a_ oe/\oe.cls=C/\oe.dict=dx/\oe.data=.fields vs/\vs[1]?=a_ (hd.elim JC D_)
 tb:∀T,hd=a_ T->T≠e/\∃oT ts,h.get? T=a_ oT/\oT.data=.fields ts/\ts[3]?=a_ .none
def dictMapF(f:Array j_->Array j_)(o:Lg):(o.mapFields f).dict=o.dict:=by obtain⟨c,d,I,Y⟩:=o;cases I<;>rfl
theorem size3{l:ci}(h:3<l.length):3<l.toArray.size:=by simp_all
section
variable{M:Mf}{E:Mq}
def mkEntry{a I:j_}{pl:ci}{Q:Mq}(Y:IsPlace pl)(h:∀(o:Lg) (ts:Array j_),o.data=.fields ts->3<ts.size->o.isFreed=b_->Q (.ref s.heap.objs.size) {s with heap:=s.heap.push o}):
  B_ M A (Le hv a .none I .none pl) Q E s:=by
 unfold Le newFields;refine Mx (h _ _ rfl (size3 ?_) ?_) (Y.sizeOk5 _ _ _ _ _)
 .simp
 rfl
structure Left(fs:List e_)(e:e_)(hd:Option e_)(h h':H_):Prop where
 keep:∀b o,h.get? b=a_ o->b∉fs->b≠e->(∀T,hd=a_ T->b≠T)->h'.get? b=a_ o
 slot:∀b o,h.get? b=a_ o->b∈fs->∃sl,h'.get? b=a_ {o with slots:=sl}
 size:h.objs.size<=h'.objs.size
theorem entry_at{base:H_}{env:LY}{e:e_}{C:j_}{dx:Option e_}{vs:Array j_}{U:Bool}{Q:Unit->v_->Prop}(l:A.frames=a_ (env::outer))(y:s.heap.FunFrames base (env::outer))(P:env.frame=a_ L)(B:s.heap.get? e=a_ oe)(R:oe.cls=C)(p:oe.dict=dx)(hd:oe.data=.fields vs)(j:1<vs.size)(h:∀h' T,ExA h' e C dx (a_ T)->s.heap.objs.size<=T->Left (frs (env::outer)) e c_ s.heap h'->Q () {s with heap:=h'}):
  B_ M A (frameOf env >>=λa=>entryPlaceOf L U >>=λpl=>Le hv a .none (Mm L) .none pl >>=λb=>setField (.ref e) 1 b) (λ_ s'=>B_ M A (LV (.ref e) c_) Q E s') E s:=by
 have c:∀b o,b∈frs (env::outer)->s.heap.get? b=a_ o->∀vs,o.data≠.fields vs:=λb o k q=>by obtain⟨_,o',O,n⟩:=y.mem k;simp_all
 have Y:e∉frs (env::outer):=λk=>c e oe k B vs hd;refine g_ (wpAny_frameOf_fun l y P λh1 H=>?_);obtain⟨W,v,G⟩:=H;refine g_ (wpAny_entryPlaceOf λpl N=>?_);refine g_ (mkEntry N λo ts w D m=>?_);have e1:h1.get? e=a_ oe:=by rw[v e Y];exact B
 have i:h1.objs.size≠e:=λz=>Ho (u_ e1) (by rw[z];exact Ip _);have e2:(h1.push o).get? e=a_ oe:=l_ o e1;have t2:(h1.push o).get? h1.objs.size=a_ o:=Cb h1 m;refine LN e2 hd j ?_;have u:=LR hd (·.setIfInBounds 1 (D_ h1.objs.size));have e3:=JP (h:=h1.push o) (LH (·.setIfInBounds 1 (D_ h1.objs.size))) e2 (Lp u);have t3:((h1.push o).update e (LH (·.setIfInBounds 1 (D_ h1.objs.size)))).get? h1.objs.size=a_ o:=by rw[Hw _ _ (HM i)];exact t2
 unfold LV;refine g_ (Kf e3 u (x:=.ref h1.objs.size) (by simp[j]) ?_);rw[f_ am];refine LN t3 w D ?_;have F:=LR w (·.setIfInBounds 3 ((c_:Option e_).elim JC λf=>Mm f));refine h _ h1.objs.size ⟨⟨_,_,by rw[Hw _ _ i];exact e3,by rw[Obj.cls_mapFields];exact R,by rw[dictMapF];exact p,u,by simp[j]⟩,λT S=>?_⟩ bb ⟨λb o' q t r _=>?_,λb o' q t=>?_,?_⟩
 .cases S;exact⟨i,_,_,JP _ t3 (Lp F),F,by simp[D]⟩
 .have I:h1.get? b=a_ o':=by rw[v b t];exact q
  have g:h1.objs.size≠b:=λz=>Ho (u_ I) (by rw[z];exact Ip _);rw[Hw _ _ g,Hw _ _ (HM r)];exact l_ o I
 .obtain⟨K,I⟩:=G b o' q;have g:h1.objs.size≠b:=λz=>Ho (u_ I) (by rw[z];exact Ip _);have d:e≠b:=λz=>Y (z▸t);refine⟨K,?_⟩
  rw[Hw _ _ g,Hw _ _ d];exact l_ o I
 simp_all
theorem leave2{base:H_}{env:LY}{e:e_}{C:j_}{dx hd:Option e_}{Q:Unit->v_->Prop}(i:A.frames=a_ (env::outer))(r:s.heap.FunFrames base (env::outer))(t:env.frame=a_ L)(x:ExA s.heap e C dx hd)(h:∀h' T,ExA h' e C dx (a_ T)->s.heap.objs.size<=T->Left (frs (env::outer)) e hd s.heap h'->Q () {s with heap:=h'}):B_ M A (Od (.ref e) env) (λ_ s'=>B_ M A (LV (.ref e) c_) Q E s') E s:=by
 obtain⟨oe,vs,l,B,j,Y,h1⟩:=x.ob;have y:1<vs.size:=(KH.mp h1).1;unfold Od;simp only[t];cases hd with
 |none=>refine g_ (Kf l Y h1 ?_);rw[k_ a8];exact entry_at i r t l B j Y y λh' T a b c=>h h' T a b c
 |some T=>
  obtain⟨m,H,ts,D,k,F⟩:=x.tb T rfl;have p:3<ts.size:=(KH.mp F).1;refine g_ (Kf l Y h1 ?_);rw[f_ am];refine g_ (Kf (x:=.none) D k F ?_);rw[k_ (by simp[Mm])];refine g_ (LN D k p ?_);have I:∀b,b≠T->(s.heap.update T (LH (·.setIfInBounds 3 JC))).get? b=s.heap.get? b:=λb d=>Hw _ _ (HM d);have w:∀b o,s.heap.get? b=a_ o->(∀vs,o.data≠.fields vs)->b≠T:=λb o q n z=>by simp_all
  refine entry_at i (r.of_keeps λb o q n=>⟨o,by rw[I b (w b o q n)];exact q,rfl⟩) t (by rw[I e (HM m)];exact l) B j Y y λh' G a b c=>?_;refine h h' G a bb ⟨λf o q d u v=>c.keep f o (by rw[I f (v T rfl)];exact q) d u (λ_ z=>nomatch z),λf o q d=>?_,?_⟩
  .obtain⟨_,o',g,n⟩:=r.mem d;rw[q]at g;cases g;exact c.slot f o (by rw[I f (w f o q n)];exact q) d
  .have:=c.size;simp_all
def leave_at{base:H_}{env:LY}{e:e_}{C:j_}{dx hd:Option e_}{Q:Unit->v_->Prop}(I:A.frames=a_ (env::outer))(Y:s.heap.FunFrames base (env::outer))(a:env.frame=a_ L)(x:ExA s.heap e C dx hd)(h:∀h' T,ExA h' e C dx (a_ T)->s.heap.objs.size<=T->Left (frs (env::outer)) e hd s.heap h'->Q () {s with heap:=h'}):B_ M A (PK env (.ref e)) Q E s:=by unfold PK;exact g_ (leave2 I Y a x h)
end
structure CXs(P:HY)(w:IF)(outer:List LY)(H:Hp)(s:v_)(E:XK)(a T:e_)(C:j_)(dx:Option e_)(H':Hp)(s':v_):Prop where
 ex:ExA s'.heap a C dx (a_ T)
 na:s.heap.get? a=c_
 nT:s.heap.get? T=c_
 fa:H' a=c_
 fT:H' T=c_
 os:s'.os=s.os
 bare:Lf s'.gens
 un:Un (frs outer) [] H H' s.heap s'.heap
 hok:HOk P w H' s'.heap
 want:E C dx H'
def CXd(P:HY)(w:IF):CXT:=λouter H s E e s'=>∃(a T:e_) (C:j_) (dx:Option e_) (H':Hp),e=.ref a/\CXs P w outer H s E a T C dx H' s'
def get_none(z:h.objs.size<=a):h.get? a=c_:=by
 cases e:h.get? a with
 |none=>rfl|some o=>exact Ho (u_ e) (MZ.mpr z)
theorem A6.Bm(I:A6 X A4 σ H s)(Y:X.ex=[])(e:s.heap.get? a=c_):X.s₀.heap.get? a=c_:=by
 cases q:X.s₀.heap.get? a with
 |none=>rfl|some o=>obtain⟨o',z⟩:=I.base.there a o q bb;simp_all
def dj.is(x:dj P w H h a o):∃u,h.get? a=a_ u:=by
 cases o with
 |lst xs=>obtain⟨_,_,_,_,e⟩:=x;exact⟨_,e⟩
 |tup xs=>obtain⟨_,_,_,I,e,_⟩:=x;exact⟨_,e⟩
 |dK A7=>obtain⟨_,_,_,_,o,_,_,e,_⟩:=x;exact⟨_,e⟩
 |dT A7=>obtain⟨_,_,_,_,o,_,_,e,_⟩:=x;exact⟨_,e⟩
 |set S n=>obtain⟨o,_,_,_,e,_⟩:=x;exact⟨_,e⟩
 |ins C dx fs=>obtain⟨_,_,_,e,_⟩:=x;exact⟨_,e⟩
 |own y=>exact x|xd fs=>obtain⟨_,⟨_,_,_,e,_⟩,_⟩:=x;exact⟨_,e⟩
 |rng lo hi=>obtain⟨_,_,_,e⟩:=x;exact⟨_,e⟩
 |frz I u=>obtain⟨e,_⟩:=x;exact⟨_,e⟩
 |tbl ps=>exact⟨_,show h.get? a=a_ _ from x⟩|met f y=>exact⟨_,show h.get? a=a_ _ from x⟩|ext Y=>obtain⟨_,e,_⟩:=x;exact e
section
variable{base:H_}
theorem xe_of{s':v_}{C:j_}{dx hd:Option e_}(J:A6 (Bb (CXd P w) P w K mg base N qual scope f cd A outer s H E) A4 σ H' s')(x:ExA s'.heap a C dx hd)(r:s.heap.get? a=c_)(F:∀T,hd=a_ T->s.heap.get? T=c_/\H' T=c_)(fa:H' a=c_)(q:E C dx H'):(Bb (CXd P w) P w K mg base N qual scope f cd A outer s H E).xe (.ref a) s':=by
 have e0:=J.env0;have y:∀b∈frs (JS qual scope s.z f cd::outer),H' b=c_:=e0.frf;have p:∀b o,s.heap.get? b=a_ o->b≠a/\(∀T,hd=a_ T->b≠T)/\b<s.z:=λb o e=>by have Y:=u_ e;exact⟨λz=>(by subst z;rw[e]at r;cases r),λT i z=>(by subst z;have:=(F _ i).1;rw[e]at this;cases this),Y⟩
 have j:∀b,b<s.z->b∈frs (JS qual scope s.z f cd::outer)->b∈frs outer:=λb Y t=>by
  rcases JF.mp t with⟨v,hv,e⟩
  rcases t_.mp hv with z|z
  .simp_all[JS]
  .exact JF.mpr ⟨v,z,e⟩
 have d:∀b,b∈frs outer->b∈frs (JS qual scope s.z f cd::outer):=λb t=>by
  rcases JF.mp t with⟨v,hv,e⟩
  exact JF.mpr ⟨v,E_ _ hv,e⟩
 have I:Un (frs outer) [] H H' s.heap s'.heap:=J.base;show B_ (C_ P w) (A.deeper (JS qual scope s.z f cd)) (PK (JS qual scope s.z f cd) (.ref a)) (λ_ g=>CXd P w outer H s E (.ref a) g) (λB g=>CXd P w outer H s E B g) s';refine leave_at (base:=base) e0.frames e0.yM rfl x λh' T Q i l=>⟨a,T,C,dx,H',rfl,Q,r,get_none (HB (show s.z<=s'.z from J.sz) i),fa,?_,J.os,J.bare,?_,?_,q⟩
 .exact J.hok.fresh i
 .have D:∀b o,s.heap.get? b=a_ o->∀o',s'.heap.get? b=a_ o'->b∉frs outer->h'.get? b=a_ o':=λb o e o' B Y=>by
   obtain⟨O,L,G⟩:=p b o e;exact l.keep b o' B (λz=>Y (j b G z)) O L
  refine⟨λb o e n Y k=>D b o e o (I.keep b o e n Y k) Y,λb o e n Y k=>?_,I.free,λb o e k=>?_,I.tups,I.frzs,I.tbls⟩
  .obtain⟨R,e1⟩:=I.slot b o e n Y k;obtain⟨m,e2⟩:=l.slot b _ e1 (d b Y);exact⟨m,e2⟩
  .obtain⟨o',e1⟩:=I.there b o e k;by_cases Y:b∈frs outer
   .obtain⟨R,e2⟩:=l.slot b o' e1 (d b Y);exact⟨_,e2⟩
   .exact⟨o',D b o e o' e1 Y⟩
 .intro b o e;refine(J.hok b o e).zI (λc u S e1=>?_) (λ_ z=>z) λ_ _ z=>z;have h:H' c≠c_:=by
   rcases S with z|z
   .simp_all
   .simp_all
  exact l.keep c u e1 (λz=>h (y c z)) (λz=>h (by rw[z];exact fa)) λT i z=>h (by rw[z];exact(F T i).2)
end
noncomputable def WE(K:Pn)(E:XK):eZ where
 p:=λe F H=>match e with
  |.stuck=>False|.exc C fs=>∀F' H',A5 F H F' H'->match fs with
   |[]=>E (.ref C) c_ H'|fs=>∀d gs,F' d=a_ (.xd gs)->jD K F' fs gs->E (.ref C) (a_ d) H'
 mono:=λ{e F H F' H'} h s=>by
  cases e with
  |stuck=>exact h|exc C fs=>exact λF2 H2 I=>h F2 H2 (s.trans I)
 ns:=λh=>h
noncomputable def noX{α:Type}:M α->M α
 |.ok d=>.ok d|.error _=>.error .stuck
@[simp]def noX_ok{α:Type}(d:α):noX (.ok d:M α)=.ok d:=id rfl
noncomputable def fNoX(f:ai->M α):ai->M α:=λρ=>noX (f ρ)
section
variable{W:eZ}{O':List Nat}
def dss_lift{st:List Ia}{g:ai->M A9}(h:DSs K D' ro X.nox OL O O' st g):DSs K W ro X OL O O' st (fNoX g):=λF0 H0=>PSs.imp (PSs.nox (h F0 H0)) λD σ H ⟨FB,F,ρ,r,p⟩=>by
 refine⟨FB,F,ρ,r,?_⟩
 have p:jC K W ro F0 H0 FB OL O' D (noX (g ρ)):=p;unfold jC at p ⊢;cases e:g ρ with
 |ok fl=>rw[e]at p;cases fl<;>exact p
 |error x=>rw[e]at p;exact(W.ns p).elim
end
def spX(K:Pn)(ro:Bool)(g:bv->M A3)(n:Nat):Sp:=λvs H Q E=>∃F ds,aM F H/\aD K F ds vs/\ds.length=n/\aJ K (WE K E) ro F H (g ds) Q
section
variable{base:H_}
theorem fn_X{ps:b8}{k:Nat}{O':ce}(F:Fun K x qual st f fd)(S:gM N ps (aK st))(ro:Bool)(g:ai->M A9)(n:∀(cdv:j_) (A:JK) (outer:List LY) (s:v_) (H:Hp) (E:XK),iu k (A.deeper (JS qual (aK st) s.heap.objs.size f cdv)) ->
   DSs K (WE K E) ro (Bb (CXd P w) P w K mg base N qual (aK st) f cdv A outer s H E) [] [] O' (bY st) g):iS P w K mg base (CXd P w) (k+1) f fd ps (spX K ro (bH N.length ps.length g) ps.length):=by
 obtain⟨oc,od,kV,doc,pm,an,cdv,ct,osl,rfl,b,I⟩:=F.ex;refine fn_of b I S (λvs H Q E ⟨F,ds,s,q,l,p⟩=>by rw[q.length,l]) λA outer s H vs Q E c m=>?_;obtain⟨F1,ds,Y,q,l,p⟩:=m;refine⟨_,n cdv A outer s H E c F1 H,F1,F1,ds.map a_++Ie (N.length-ds.length) c_,?_,?_⟩
 .refine⟨A5.refl Y,aM.refl _,?_,λi d e _=>xB q e,(λi d e h=>nomatch h),(λi j ds es a h=>nomatch h)⟩
  unfold start;rw[Hy,Hy,A_,A_,JQ,JQ,q.length]
 .have e1:bH N.length ps.length g ds=(g (ds.map a_++Ie (N.length-ds.length) c_)).bind λfl=>match fl with
   |.nx _=>.ok .non|.rt d=>.ok d|_=>stk:=by unfold bH;exact f_ l
  rw[e1]at p;cases e2:g (ds.map a_++Ie (N.length-ds.length) c_)with
  |error z=>rw[e2]at p;exact p|ok fl=>
   rw[e2]at p;cases fl with
   |nx ρ=>exact λσ F H r=>p .non F H r.st (by cases ro<;>rfl)
   |rt d=>exact λv F H st q=>p v F H st q|bk ρ=>exact aJ.stuck p|ct ρ=>exact aJ.stuck p
end
section
variable{C:j_}{dx hd:Option e_}
structure Apart(X:Cx)(A4:Vp)(H:Hp)(s:v_)(a:e_)(hd:Option e_):Prop where
 na:X.s₀.heap.get? a=c_
 fa:H a=c_
 pa:∀p∈X.pn++A4,p.1≠a
 nT:∀T,hd=a_ T->X.s₀.heap.get? T=c_/\H T=c_/\∀p∈X.pn++A4,p.1≠T
theorem A6.left(I:A6 X A4 σ H s)(hx:X.ex=[])(x:ExA s.heap a C dx hd)(j:Apart X A4 H s a hd)(f:Left (frs X.stack) a hd s.heap h'):A6 X A4 σ H {s with heap:=h'}:=by
 have e0:=I.env0;obtain⟨oe,vs,he,_,_,S,_⟩:=x.ob;have E:∀b o,s.heap.get? b=a_ o->(∀vs,o.data≠.fields vs)->b≠a/\∀T,hd=a_ T->b≠T:=λb o e n=>by
  refine⟨λz=>?_,λT h z=>?_⟩
  .simp_all
  .subst z;obtain⟨_,oT,ts,h1,h2,_⟩:=x.tb _ h;simp_all
 have D:∀b∈frs X.stack,H b=c_:=e0.frf;have B:∀b o,s.heap.get? b=a_ o->(∀vs,o.data≠.fields vs)->∃w,h'.get? b=a_ {o with slots:=w}:=λb o e n=>by
  obtain⟨l,k⟩:=E b o e n;by_cases d:b∈frs X.stack
  .exact f.slot b o e d
  .exact⟨o.slots,f.keep b o e d l k⟩
 have y:∀b o,X.s₀.heap.get? b=a_ o->b≠a/\∀T,hd=a_ T->b≠T:=λb o e=>⟨λz=>(by subst z;rw[j.na]at e;cases e),λT h z=>(by subst z;rw[(j.nT _ h).1]at e;cases e)⟩
 have N:s.heap.UpToSlots h':=B;have G:X.s₀.heap.get? X.env.locals=c_:=get_none I.ok.above;have out:∀b,b≠X.env.locals->b∉X.fs->b∉frs X.stack:=λb h1 h2 W=>by
  rcases t_.mp (I.uc b W)with z|z
  .exact h1 z
  .exact h2 z
 have A:∀c v,s.heap.IsCell c v->h'.IsCell c v:=λc v ⟨o,h1,h2⟩=>by obtain⟨w,z⟩:=B c o h1 (λvs q=>by simp_all);exact⟨_,z,h2⟩
 refine⟨I.ok,I.os,I.bare,?_,?_,λx c e=>?_,I.free,I.freeC,λp F=>?_,?_,I.len⟩
 .have K:∀b o,X.s₀.heap.get? b=a_ o->∀o',s.heap.get? b=a_ o'->∃w,h'.get? b=a_ {o' with slots:=w}:=λb o e o' L=>by
   obtain⟨l,k⟩:=y b o e;by_cases d:b∈frs X.stack
   .exact f.slot b o' L d
   .exact⟨o'.slots,f.keep b o' L d l k⟩
  refine⟨λb o e n d Y=>?_,λb o e n d Y=>?_,I.base.free,λb o e Y=>?_,I.base.tups,I.base.frzs,I.base.tbls⟩
  .obtain⟨l,k⟩:=y b o e;exact f.keep b o (I.base.keep b o e n d Y) (out b (λz=>by simp_all) d) l k
  .obtain⟨w,e1⟩:=I.base.slot b o e n d Y;obtain⟨t,e2⟩:=K b o e _ e1;exact⟨t,e2⟩
  .obtain⟨o',e1⟩:=I.base.there b o e Y;obtain⟨t,e2⟩:=K b o e _ e1;exact⟨_,e2⟩
 .obtain⟨m,Q,R⟩:=I.loc;refine⟨m,N.ns Q,λi x v e1 e2 e3=>?_⟩
  obtain⟨u,r,P⟩:=R i x v e1 e2 e3;refine⟨u,r,?_⟩
  rcases P with z|⟨z,c,c1,Z⟩
  .exact .inl z
  .exact .inr ⟨z,c,c1,A c _ Z⟩
 .obtain⟨v,z⟩:=I.cell x c e;exact⟨v,A c v z⟩
 .obtain⟨p1,p2,p3,p4,O⟩:=I.pin p F;exact⟨f.keep p.1 p.2 p1 (out p.1 p3 p4) (j.pa p F) λT h=>(j.nT T h).2.2 p F,p2,p3,p4,O⟩
 .intro b o e;refine(I.hok b o e).zI (λc u U e1=>?_) (λ_ z=>z) λ_ _ z=>z;have g:H c≠c_:=by
   rcases U with z|z
   .simp_all
   .simp_all
  exact f.keep c u e1 (λz=>g (D c z)) (λz=>g (by rw[z];exact j.fa)) λT h z=>g (by rw[z];exact(j.nT T h).2.1)
end
def PEat(X:Cx)(A4:Vp)(σ:St)(e:Ii)(t:TE):Prop:=∀(s:v_) (H:Hp) (Q:VK),A6 X A4 σ H s->t σ H Q->B_ (C_ X.prog X.w) X.A (Hv e X.env) (EP X A4 σ Q) X.xe s
def PSat(X:Cx)(A4:Vp)(σ:St)(st:Ia)(t:TS):Prop:=∀(s:v_) (H:Hp) (D:Ends),A6 X A4 σ H s->t D σ H->B_ (C_ X.prog X.w) X.A (exec st X.env) (SP X A4 D) X.xe s
def PSsAt(X:Cx)(A4:Vp)(σ:St)(st:List Ia)(t:TS):Prop:=∀(s:v_) (H:Hp) (D:Ends),A6 X A4 σ H s->t D σ H->B_ (C_ X.prog X.w) X.A (execs st X.env) (SP X A4 D) X.xe s
def lH(CX:CXT)(X:Cx)(A4:Vp)(σ:St)(E:XK):Prop:=∀(H:Hp) (s:v_) (e:j_) (s':v_),A6 X A4 σ H s->CX X.stack H s E e s'->X.xe e s'
section
variable{t:TS}
def at_one(h:PSat X A4 σ st t):PSsAt X A4 σ [st] t:=λs H D I q=>by
 refine MQ (C6 (h s H D I q) λf Y z=>?_);cases f with
 |next=>exact KL z|_=>exact z
def at_set(g:X.N.Nodup)(hi:X.N[i]?=a_ x)(b:Loc X.env.scope x)(f:PEat X A4 σ e te)(c: ~~~(Jb e (a_ (.Name x pos')) pos.line X.env=IQ b_))(d:autoParam (X.fn x=d_\/X.env.scope.names.lookup x=a_ .local) Jq3):
  PSat X A4 σ (.Assign [.Name x pos'] e pos) (sI te (cK i)):=λs H D I q=>
 Pz (C6 (f s H _ I q) λv l ⟨y,H1,j,Y,a⟩=>mW j g hi b Y (λk h=>⟨_,H1,h,a⟩) d) c
end
section
variable{k:Nat}{ps:List m_}{ds:List j_}{t:TA}
theorem at_run(F:iS X.prog X.w X.K X.mg X.base CX k f fd ps sp)(c:iu k X.A)(d:Binds X.K fd ps ds)(hd:B' dvs ds)(b:lH CX X A4 σ E)(I:A6 X A4 σ H s)(r:B' vs us)(h:sp (vs++dvs) H Q E):B_ (C_ X.prog X.w) X.A (Kp (.ref f) us) (EP X A4 σ Q) X.xe s:=by
 have a:=r.append hd;refine Lu (Jp (F.run _ _ s H ⟨us,[]⟩ _ _ Q E c I.env0 (d s us I.kIn (a.length.symm.trans (F.len _ _ _ _ h))) a h) λz s' Y=>?_);cases z with
 |error e=>exact b H s e s' I Y|ok fl=>
  cases fl with
  |ret u=>exact I.after Y|_=>exact HK Y
def at_call(F:iS X.prog X.w X.K X.mg X.base CX k f fd ps sp)(d:lH CX X A4 σ E)(g:iu k X.A)(h:X.mg x=a_ (.ref f))(i:Ju X.K (.ref f)=d_)(m:Binds X.K fd ps ds)(hd:B' dvs ds)(n:PA X (e::es) t)(j: ~~~(Gl X x))(a:((x==("__debug__":m_))=b_)⁻¹)(l: ~~~(i_ (e::es) X.env=(b_,Hv e X.env)::i_ es X.env))(Y: ~~~((HQ pos (i_ es X.env)).any (·.1)=b_)):
  PEat X A4 σ (.Call (.Name x p) (e::es) [] pos) (ia sp dvs E t):=λs H Q I q=>
 IY (jS I j h (Mo (h₀:=X.base) I.ok.mod.kin i (C6 (n pos A4 s σ H _ I q) λus o ⟨vs,H1,b,r,c⟩=>⟨b.kIn,at_run F g m hd d b r c⟩) l Y) a)
end
def A6.names{m:Ld}(I:A6 X A4 σ H s)(t:h'.Ns X.env.locals m)(a:Kz X.env.locals s.heap h')(w:σ'.length=X.N.length)(hv:∀(i:Nat) (x:m_) (v:V),X.N[i]?=a_ x->σ'[i]?=a_ (a_ v)->Vis X.env.scope x->∃u,A' v u/\Look X.env s.heap m x u):A6 X A4 σ' H {s with heap:=h'}:=by
 have Y:∀b o,X.s₀.heap.get? b=a_ o->b≠X.env.locals:=λb o e z=>by subst z;exact Ho (u_ e) (MZ.mpr I.ok.above)
 have f:∀x c v,X.env.cells.lookup x=a_ c->s.heap.IsCell c v->h'.IsCell c v:=λx c v e z=>z.sameBut a (I.cne x c e);refine⟨I.ok,I.os,I.bare,⟨λb o e n g d=>?_,λb o e n g d=>?_,I.base.free,λb o e d=>?_,I.base.tups,I.base.frzs,I.base.tbls⟩,⟨m,t,λi x v e1 e2 e3=>?_⟩,λx c e=>?_,I.free,I.freeC,λp q=>?_,λb o e=>?_,w⟩
 .show h'.get? b=_;rw[a.2 b (Y b o e)];exact I.base.keep b o e n g d
 .obtain⟨j,z⟩:=I.base.slot b o e n g d;refine⟨j,?_⟩
  show h'.get? b=_;rw[a.2 b (Y b o e)];exact z
 .obtain⟨o',z⟩:=I.base.there b o e d;refine⟨o',?_⟩
  show h'.get? b=_;rw[a.2 b (Y b o e)];exact z
 .obtain⟨u,r,l⟩:=hv i x v e1 e2 e3;refine⟨u,r,?_⟩
  rcases l with z|⟨z,c,h,B⟩
  .exact .inl z
  .exact .inr ⟨z,c,h,f x c _ h B⟩
 .obtain⟨v,z⟩:=I.cell x c e;exact⟨v,f x c v e z⟩
 .obtain⟨p1,p2,p3,p4,k⟩:=I.pin p q;refine⟨?_,p2,p3,p4,k⟩
  show h'.get? p.1=_;rw[a.2 p.1 p3];exact p1
 .refine(I.hok b o e).zI (λc u A e1=>?_) (λ_ z=>z) λ_ _ z=>z;show h'.get? c=_;rw[a.2 c λz=>?_]
  .exact e1
  .rcases A with y|y
   .rw[<- y,z,I.free]at e;cases e
   .rw[z,I.free]at y;cases y
theorem vZ{M:Mf}{E:Mq}{Q:Unit->v_->Prop}(I:A6 X A4 σ H s)(k:X.N.Nodup)(hi:X.N[i]?=a_ x)(Y:X.env.scope.names.lookup x=a_ .local)(h:∀s',A6 X A4 (σ.set i c_) H s'->Q () s'):B_ M A (do bindName X.env x .none;OU X.env x pos) Q E s:=by
 have b:(X.env.scope.kind==.class||(X.env.scope.kind==.module&&X.env.locals != X.env.globals))=b_:=by rw[I.ok.kind];rfl
 have f:i<σ.length:=by rw[I.len];exact(s_.mp hi).1
 refine g_ (wpAny_bindName (mW I k hi (.inl Y) (v:=.non) rfl (λD l=>?_) (.inr Y)));unfold OU;refine wpAny_onRaise ?_;obtain⟨m,q,g⟩:=id l.loc;obtain⟨u,_,c⟩:=g i x .non hi (by rw[sy f]) (.inl Y);have e:m x=a_ u:=by
  rcases c with z|⟨z,_⟩
  .exact z.2
  .have t:X.env.kindOf x=a_ .local:=Y;simp_all
 refine wpAny_unbindName_local Y q e b λh' C d p=>h _ (l.names d p (by rw[Hs];exact I.len) λj y v e1 e2 e3=>?_);have a:i≠j:=λz=>by simp_all
 rw[p_ a]at e2;obtain⟨w,r,c⟩:=g j y v e1 bb e3;refine⟨w,r,?_⟩
 rcases c with⟨n,B⟩|z
 .have o:y≠x:=λz=>a (vO k hi (z▸e1));exact .inl ⟨n,bb⟩
 .exact .inr z
def zu(K:Pn)(C:e_)(bmB:ci):Prop:=∀h:H_,K.In h->∃tl N nm I bs hdct sn sub ab col dd k0 k1 k2 k3 k5 newId,h.get? C=a_ (LO nm I C N bs tl hdct sn sub ab col dd k0 k1 k2 k3 k5 newId)/\PU h bmB tl
noncomputable abbrev Cx.hand(X:Cx)(a:e_)(oe:Lg):Cx:={X with A:=X.A.mark (a_ (.ref a)),calm:=b_,xe:=λ_ _=>False,pn:=(a,oe)::X.pn}
section
variable{T:e_}{C:j_}{dx:Option e_}
theorem A6.hand{vs:Array j_}(I:A6 X A4 σ H s)(d:s.heap.get? a=a_ oe)(hd:oe.data=.fields vs)(e:X.s₀.heap.get? a=c_)(fa:H a=c_):A6 (X.hand a oe) A4 σ H s:=by
 have Y:=I.ok;refine⟨⟨Y.mod,Y.kind,Y.glob,Y.blt,Y.above,Y.inj,Y.has,Y.cab,(λz=>nomatch z),Y.frames,Y.stk,Y.exf,Y.bs,Y.bsz,Y.noex,Y.exfs,Y.yM,Y.frf⟩,I.os,I.bare,I.base,I.loc,I.cell,I.free,I.freeC,λp b=>?_,I.hok,I.len⟩
 rcases t_.mp (show p∈(a,oe)::(X.pn++A4)from b)with z|z
 .subst z;refine⟨d,fa,λz=>?_,λc=>?_,λv z=>?_⟩
  .obtain⟨m,⟨o,es,ep,h1,h2,_⟩,_⟩:=I.loc;simp_all
  .obtain⟨_,o,h1,_⟩:=Y.yM.mem c;simp_all
  simp_all
 .exact I.pin p z
def A6.Bp(J:A6 (X.hand a oe) A4 σ H s)(I:X.Ok):A6 X A4 σ H s:=
 ⟨I,J.os,J.bare,J.base,J.loc,J.cell,J.free,J.freeC,λp Y=>J.pin p (E_ _ Y),J.hok,J.len⟩
theorem Gf{M:Mf}{E:Mq}{base:H_}{l:List LY}{Q:Unit->v_->Prop}(u:s.heap.FunFrames base l)(x:ExA s.heap a C dx (a_ T))(h:∀h',ExA h' a C dx (a_ T)->Left (frs l) a (a_ T) s.heap h'->h'.get? a=s.heap.get? a->Q () {s with heap:=h'}):B_ M A (LV (.ref a) c_) Q E s:=by
 obtain⟨o,vs,m,v,i,Y,h1⟩:=x.ob;obtain⟨e,y,ts,p,c,w⟩:=x.tb T rfl;have g:3<ts.size:=(KH.mp w).1;unfold LV;refine g_ (Kf m Y (x:=.ref T) h1 ?_);rw[f_ am];refine LN p c g ?_;have I:∀b,b≠T->(s.heap.update T (LH (·.setIfInBounds 3 ((c_:Option e_).elim JC λf=>Mm f)))).get? b=s.heap.get? b:=λb d=>Hw _ _ (HM d);have r:=LR c (·.setIfInBounds 3 ((c_:Option e_).elim JC λf=>Mm f));refine h _ ⟨⟨o,vs,by rw[I a (HM e)];exact m,v,i,Y,h1⟩,λD k=>?_⟩ ⟨λb o' q _ _ d=>by rw[I b (d T rfl)];exact q,λb o' q d=>?_,?_⟩ (I a (HM e))
 .cases k;exact⟨e,_,_,JP _ p (Lp r),r,bb⟩
 .obtain⟨_,B,t,n⟩:=u.mem d;have j:b≠T:=λz=>by
   simp_all
  exact⟨o'.slots,by rw[I b j];exact q⟩
 simp
end
noncomputable def Ends.less(D:Ends)(i:Nat):Ends:={nx:=λσ H=>D.nx (σ.set i c_) H,rt:=D.rt,bk:=λσ H=>D.bk (σ.set i c_) H,ct:=λσ H=>D.ct (σ.set i c_) H}
section
variable{T:e_}{dx:Option e_}{c n:m_}{ts:TS}{D:Ends}
def Hd(I:A6 X A4 σ H s)(x:ExA s.heap a (.ref C) dx (a_ T))(m:Apart X A4 H s a (a_ T))(p:X.ex=[])(P:zu X.K C bmB)(Q:bmB.contains (.type "BaseException")=d_)(O:Gl X c)(L:X.mg c=a_ (.ref C))(k:X.N.Nodup)(hi:X.N[i]?=a_ n)(h:X.env.scope.names.lookup n=a_ .local)(K:∀oe:Lg,oe.cls=.ref C->oe.dict=dx->(∃vs,oe.data=.fields vs)->PSs (X.hand a oe) (b₀::suite) ts)(q:ts (D.less i) (σ.set i (a_ (.ref a))) H)(A:((c==("__debug__":m_))=b_)⁻¹):
  B_ (C_ X.prog X.w) X.A (handleBy (.ref a) X.env [.ExceptHandler (a_ (.Name c np)) (a_ n) (b₀::suite) pos]) (SP X A4 D) X.xe s:=by
 obtain⟨oe,vs,w,j,y,b,h1⟩:=x.ob;have J:=I.hand w b m.na m.fa;refine wpAny_handleBy_cons (codeAny_handlers_test (jS (X:=X.hand a oe) J O L ?_ A)) (by intro z;cases z);obtain⟨tl,N,nm,qn,bs,hdct,sn,sub,ab,col,dd,k0,k1,k2,k3,k5,newId,F,E⟩:=P _ I.kIn;have e0:=I.env0;obtain⟨hh,gg,d,tk,os⟩:=s;refine wpAny_excMatches_sub_self F w j (E.hasType Q) (codeAny_handlers_suite_as ?_);refine Gf (base:=X.base) (l:=X.stack) e0.yM x λh' Z G R=>?_;have W:=I.left p x m G;have t:h'.get? a=a_ oe:=by rw[R];exact w
 have U:=W.hand t b m.na m.fa;refine mW (X:=X.hand a oe) U k hi (.inl h) (v:=.ref a) rfl (λB S=>?_) (.inr h);refine HU (K oe j y ⟨vs,b⟩ A4 B _ H (D.less i) S q) (λf s4 z=>?_) λ_ _ z=>z.elim;cases f with
 |next=>obtain⟨σ',H',e,Y⟩:=z;exact vZ (e.Bp I.ok) k hi h λo g=>⟨_,H',g,Y⟩
 |brk=>obtain⟨σ',H',e,Y⟩:=z;exact vZ (e.Bp I.ok) k hi h λo g=>⟨_,H',g,Y⟩
 |cont=>obtain⟨σ',H',e,Y⟩:=z;exact vZ (e.Bp I.ok) k hi h λo g=>⟨_,H',g,Y⟩
 |ret u=>obtain⟨v,σ',H',e,r,Y⟩:=z;exact vZ (e.Bp I.ok) k hi h λo g=>⟨v,_,H',g,r,Y⟩
end
def EH(i:Nat)(C:e_)(ts:e_->Option e_->TS)(D:Ends)(σ:St):XK:=λI dx H'=>I=.ref C/\∀a,H' a=c_->ts a dx (D.less i) (σ.set i (a_ (.ref a))) H'
def tTry(tb:XK->TS)(i:Nat)(C:e_)(ts:e_->Option e_->TS):TS:=λD σ H=>tb (EH i C ts D σ) D σ H
section
variable{c n:m_}{tb:XK->TS}
theorem ps_try(Q:∀(A4:Vp) (σ:St) (E:XK) (B:Mq),lH (CXd X.prog X.w) (X.xm B) A4 σ E->PSsAt (X.xm B) A4 σ body (tb E))(L:∀(a:e_) (oe:Lg),oe.cls=.ref C->(∃vs,oe.data=.fields vs)->PSs (X.hand a oe) (b₀::suite) (ts a oe.dict))(S:zu X.K C bmB)(U:bmB.contains (.type "BaseException")=d_)(N:X.mg c=a_ (.ref C))(R:X.N.Nodup)(hi: ~~~(X.N[i]?=a_ n))(O: ~~~(X.env.scope.names.lookup n=a_ .local))(P: ~~~(Gl X c))(Y: ~~~(X.ex=[]))(d: ~~~(X.stack=X.env::X.outer))(u: ~~~(X.env.frame=a_ X.env.locals))(v:((c==("__debug__":m_))=b_)⁻¹):
  PS X (.Try body [.ExceptHandler (a_ (.Name c np)) (a_ n) (b₀::suite) hpos] [] [] pos) (tTry tb i C ts):=by
 intro A4 s σ H D I h;refine wpAny_Try_except (C6 (Q A4 σ (EH i C ts D σ) (λe k=>B_ (C_ X.prog X.w) X.A (Od e X.env) (λ_ j=>B_ (C_ X.prog X.w) X.A (LV e c_) (λ_ g=>B_ (C_ X.prog X.w) X.A (handleBy e X.env [.ExceptHandler (a_ (.Name c np)) (a_ n) (b₀::suite) hpos]) (SP X A4 D) X.xe g) X.xe j) X.xe k) ?_ s H D (I.xm _) h) λf F z=>?_)
 .rintro H1 F e s' A ⟨a,T,Cv,dx,H',rfl,z⟩;have r:=A.lN;obtain⟨rfl,q⟩:=z.want;have J:A6 X A4 σ H' s':=r.call' z.os z.un z.hok z.bare (λ_ h=>nomatch h);have l:∀b,F.heap.get? b=c_->∀p∈X.pn++A4,p.1≠b:=λb e p t w=>by
   have:=(r.pin p t).1;simp_all
  have o:Apart X A4 H' s' a (a_ T):=⟨r.Bm Y z.na,z.fa,l a z.na,λT' m=>by cases m;exact⟨r.Bm Y z.nT,z.fT,l T z.nT⟩⟩
  have e0:=J.env0;have f1:=e0.frames;have f2:=e0.yM;rw[d]at f1 f2;refine leave2 (base:=X.base) f1 f2 u z.ex λh' Z K m G=>?_;rw[<- d]at G;have I2:=J.left Y z.ex o G;have y:Apart X A4 H' {s' with heap:=h'} a (a_ Z):=⟨o.na,o.fa,o.pa,λT' x=>by
   cases x;refine⟨get_none (HB J.sz m),J.hok.fresh m,λp t w=>?_⟩
   have:=u_ (J.pin p t).1;rw[w]at this;exact Ho this (MZ.mpr m)⟩
  exact Hd I2 K y Y S U P N R hi O (λoe h1 h2 W=>by rw[<- h2];exact L a oe h1 W) (q a z.fa) v
 .have z:=SP.lN z;cases f with
  |next=>exact KL z|_=>exact z
end
section
open PySem.W
variable{E:Mq}{g:Array GenState}{d:Drawn}{t:Nat}{od:Option Lg}{K:Ph}
theorem xcls_by{Q:Mq}(FB:Lc B bmB)(Y:K.In h)(I:JB h a oe C od)(e1:Hq K (.ref C) "__getattribute__"=a_ (a_ (.builtin "BaseException.__getattribute__")))(e3:Hq K (.ref C) "__getattr__"=a_ c_)(c:∀R:OC->v_->Prop,R (.ok (.ret (.ref C))) ⟨h,g,d,t,os⟩->Ko (C_ prog w) A (.call (.builtin "BaseException.__getattribute__") ⟨[.ref a,.str "__class__" tk],[]⟩) R ⟨h,g,d,t,os⟩)(q:Q (.ref C) ⟨h,g,d,t,os⟩):
  B_ (C_ prog w) A (P8 (.ref a) (.str "__class__" tk) b_) Q E ⟨h,g,d,t,os⟩:=by
 have b:=I.type (M:=C_ prog w);have m1:=J6 (M:=C_ prog w) Y e1;have e:=J6 (M:=C_ prog w) Y e3;have b3:=FB.ga.bind (.ref a);have f:(Kk "BaseException.__getattribute__"==Kk "object.__getattribute__")=b_:=by decide +kernel
 unfold P8
 repeat (any_goals (first|assumption|with_reducible refine b.at ?_|with_reducible refine m1.at ?_|with_reducible refine e.at ?_|wp_step))
 all_goals (refine c _ ?_)
 repeat (any_goals (first|wp_step|simp_all))
theorem tZ{M:Mf}{Y:j_}{Q:Unit->v_->Prop}(e:K.In h)(I:JB h a oe C od)(j:JI K C (.type "BaseException")=a_ d_)(i:Q () ⟨h,g,d,t,os⟩):
  B_ M A (MT "BaseException.__getattribute__" ⟨[.ref a,Y],[]⟩) Q E ⟨h,g,d,t,os⟩:=by
 have c:builtinKind "BaseException.__getattribute__"=a_ .slot:=by decide +kernel
 have f:splitId "BaseException.__getattribute__"=a_ ("BaseException","__getattribute__"):=by decide +kernel
 have b:=I.type (M:=M);have m1:=looks_mroIn (M:=M) e j;have k:=F.args_bexc_ga (.ref a) Y;simp only[MT,f,c];refine g_ ?_;unfold Pf
 repeat (first|with_reducible refine b.at ?_|with_reducible refine m1.at ?_|wp_step)
 exact i
theorem CJ{Q:Fin->v_->Prop}(Y:K.In h)(I:JB h a oe C od)(e2:Hq K (.ref C) "__class__"=a_ (a_ (.builtin "object.__class__")))(c:JI K C (.type "object")=a_ d_)(j:Q (.done (.ret (.ref C))) ⟨h,g,d,t,os⟩):
  B_ (C_ prog w) A (Builtin.«object.__getattribute__» ⟨[.ref a,.str "__class__" tk],[]⟩) Q E ⟨h,g,d,t,os⟩:=by
 have tc:Shared.TypeIs ⟨h,g,d,t,os⟩ (.builtin "object.__class__") "getset_descriptor":=Ol;have b:=I.type (M:=C_ prog w);have m1:=J6 (M:=C_ prog w) Y e2;have i:=Ol;have f:=F.slot_gs_get.lookup;have e:=F.slot_gs_set.lookup
 repeat (any_goals (first|assumption|with_reducible refine b.at ?_|with_reducible refine m1.at ?_|wp_step))
 refine W.class_get (s:=⟨h,g,d,t,os⟩) Y I c ?_
 repeat (any_goals (first|wp_step|simp_all))
def Ew{Q:Option j_->v_->Prop}(FB:Lc B bmB)(Y:K.In h)(I:JB h a oe C od)(e1:Hq K (.ref C) "__getattribute__"=a_ (a_ (.builtin "BaseException.__getattribute__")))(e2:Hq K (.ref C) "__class__"=a_ (a_ (.builtin "object.__class__")))(e3:Hq K (.ref C) "__getattr__"=a_ c_)(e:JI K C (.type "BaseException")=a_ d_)(c:JI K C (.type "object")=a_ d_)(b:Q (a_ (.ref C)) ⟨h,g,d,t+1,os⟩):B_ (C_ prog w) A (getAttr? (.ref a) "__class__") Q E ⟨h,g,d,t,os⟩:=by unfold getAttr? getAttrBy?;refine g_ (wpAny_mkText (g_ (wpAny_attempt (xcls_by FB Y I e1 e3 (λR f=>JY FB.ga.plain PX (tZ Y I e (CJ Y I e2 c f))) ?_))));exact y_ b
structure XIsi(K:Ph)(C:e_):Prop where
 ga:Hq K (.ref C) "__getattribute__"=a_ (a_ (.builtin "BaseException.__getattribute__"))
 cl:Hq K (.ref C) "__class__"=a_ (a_ (.builtin "object.__class__"))
 gt:Hq K (.ref C) "__getattr__"=a_ c_
 bs:JI K C (.type "BaseException")=a_ d_
 ob:JI K C (.type "object")=a_ d_
 is:∃cd,MW K C=a_ cd
theorem BZ(FB:Lc B bmB)(Z:XIsi K C):KitX K (.ref a) (.ref C) (λh=>JB h a oe C od) where
 ty:=λ_ _ _ I=>I.type
 it:=λ_ _ X _=>by
  obtain⟨cd,Y⟩:=Z.is;unfold MW at Y;split at Y
  .next c=>intro n l m s' k q;unfold isType loadHead;refine g_ (Nq (k C _ (X C _ c)) ?_);exact y_ q
  simp_all
 ne:=λhh f d1 is j i X b=>by
  obtain⟨cd,Y⟩:=Z.is;refine Bool.eq_false_iff.mpr (λq=>?_);have e:C=f:=Value.ref.inj (Ku.mp q);subst e;unfold MW at Y;split at Y
  .next c=>cases(X C _ c).symm.trans b
  simp_all
 ca:=λ{_ _ _ _ _ s} X I k=>by obtain⟨h,g,d,t,os⟩:=s;exact Ew FB X I Z.ga Z.cl Z.gt Z.bs Z.ob k
end
theorem BI:∀{ys:List e_} {A8:ci},B' (ys.map V.ref) A8->A8=ys.map D_
 |[],_,.nil=>rfl|y::ys,_,.cons r rs=>by rw[BI rs,show _=D_ y from r];rfl
def tRefs(ys:List e_):TA:=λ_ H Q=>Q (ys.map V.ref) H
section
variable{D:e_}{y:m_}{ys:List e_}
def pa_refs0:PA X [] (tRefs []):=aP
def m5(a:PA X es (tRefs ys))(c:X.mg y=a_ (.ref D))(b: ~~~(Gl X y))(hd:((y==("__debug__":m_))=b_)⁻¹)(Y: ~~~(i_ (.Name y p::es) X.env=(b_,Hv (.Name y p) X.env)::i_ es X.env)):PA X (.Name y p::es) (tRefs (D::ys)):=
 λps A4 s σ H Q I h=>ax (vC (v:=.ref D) b c rfl hd) a Y ps A4 s σ H Q I h
end
def DEat(K:Pn)(E:XK)(own:Bool)(X:Cx)(A4:Vp)(σ:St)(e:Ii)(f:ai->M A3):Prop:=PEat X A4 σ e (tD K (WE K E) own f)
def DSat(K:Pn)(E:XK)(ro:Bool)(X:Cx)(OL O O':ce)(A4:Vp)(σ:St)(st:List Ia)(g:ai->M A9):Prop:=∀F0 H0,PSsAt X A4 σ st (tS K (WE K E) ro F0 H0 OL O O' g)
def PEat.imp{t u:TE}(h:PEat X A4 σ e t)(k:∀H Q,u σ H Q->t σ H Q):PEat X A4 σ e u:=λs H Q I q=>h s H Q I (k H Q q)
def PSat.imp{t u:TS}(h:PSat X A4 σ st t)(k:∀D H,u D σ H->t D σ H):PSat X A4 σ st u:=λs H D I q=>h s H D I (k D H q)
section
variable{fr:ai->M (List A3)}
theorem dea_call{k:Nat}{ps:b8}{g:ai->M A9}(F:iS X.prog X.w X.K X.mg X.base CX k fad fd ps (spX K ro (bH nN n g) n))(i:lH CX X A4 σ E)(j:iu k X.A)(l:X.mg x=a_ (.ref fad))(m:Ju X.K (.ref fad)=d_)(t:Binds X.K fd ps [])(u:DA K (WE K E) X (e::es) fr)(o: ~~~(Gl X x))(b:((x==("__debug__":m_))=b_)⁻¹)(Y: ~~~(i_ (e::es) X.env=(b_,Hv e X.env)::i_ es X.env))(a: ~~~((HQ pos (i_ es X.env)).any (·.1)=b_)):
  DEat K E ro X A4 σ (.Call (.Name x p) (e::es) [] pos) (fL (bH nN n g) fr):=by
 refine PEat.imp (at_call F i j l m t .nil u o b Y a) λH Q h=>?_;obtain⟨F,ρ,r,s,p⟩:=rd_L h;refine⟨F,ρ,r,s,?_⟩
 cases e1:fr ρ with
 |error z=>simp_all|ok ds=>
  rw[e1]at p;intro vs F' H' st q;obtain⟨F1,I,d,f,z⟩:=p vs F' H' st q;show spX K ro (bH nN n g) n (vs++[]) H' Q E;rw[IH];by_cases c:I.length=n
  .exact⟨F1,I,d,f,c,z⟩
  .rw[qe c]at z;exact aJ.stuck z
end
section
variable{own:Bool}{f:ai->M A3}
def dsa_set(b:X.N.Nodup)(h:DEat K E own X A4 σ e f)(hi: ~~~(X.N[i]?=a_ x))(I:autoParam (Loc X.env.scope x) Jq6)(Y: ~~~(Jb e (a_ (.Name x pos')) pos.line X.env=IQ b_))(a:autoParam (X.fn x=d_\/X.env.scope.names.lookup x=a_ .local) Jq3):
  DSat K E ro X OL O (aft own i O) A4 σ [.Assign [.Name x pos'] e pos] (aV O i f):=λF0 H0=>at_one (PSat.imp (at_set b hi I h Y a) λD H z=>zV z)
end
theorem Rep.back{K:Pn}{F0 H0 F1 H1 FB F H:Hp}{O:ce}{σ:St}{ρ:ai}(r:Rep K F1 H1 FB O F H σ ρ)(s:A5 F0 H0 F1 H1):Rep K F0 H0 FB O F H σ ρ:=
 ⟨s.trans r.st,r.fb,r.len,r.fz,λi d e h=>let ⟨v,z,q⟩:=r.ow i d e h;⟨v,z,q.back s.hh⟩,r.ap⟩
noncomputable abbrev xArgs(vs:ci):Lg:={cls:=.type "tuple",data:=.seq vs.toArray}
noncomputable abbrev Ex(C t:e_):Lg:={cls:=.ref C,data:=.fields #[.ref t,.none,.none,.none,.bool b_,.none]}
abbrev uT(h:H_)(C:e_)(vs:ci):H_:=(h.push (xArgs vs)).push (Ex C h.objs.size)
section
variable{E:Mq}
variable{g:Array GenState}{d:Drawn}{t:Nat}
variable{q:m_}{N:e_}{bs tl:List j_}{k1:Option j_}{mN:Ld}{oI:Lg}
def qE{o:Lg}(e:h.get? b=a_ o):(uT h C us).get? b=a_ o:=l_ _ (l_ _ e)
def xh:(uT h C us).get? (h.objs.size+1)=a_ (Ex C h.objs.size):=by
 have z:=Cb (h.push (xArgs us)) (o:=Ex C h.objs.size) rfl
 rwa [IW]at z
theorem x_type(F:Lx B newId initId bmB)(T:PU h bmB tl)(I:h.get? C=a_ (LO nm q C N bs tl hdct sn sub ab col dd k0 k1 k2 k3 k5 newId))(c:h.Ns N mN)(hi:mN "__init__"=a_ (.ref fI))(j:h.get? fI=a_ oI)(Y:oI.cls=.type "function")(l:us.length<=h_){Q:Fin->v_->Prop}(z:B_ (C_ prog w) A (Kp (.ref fI) (.ref (h.objs.size+1)::us)) (λr s'=>r=.none/\Q (.done (.ret (.ref (h.objs.size+1)))) s') E ⟨uT h C us,g,d,t,os⟩):
  B_ (C_ prog w) A (Builtin.«type.__call__» ⟨.ref C::us,[]⟩) Q E ⟨h,g,d,t,os⟩:=by
 have k:∀b o,h.get? b=a_ o->(uT h C us).get? b=a_ o:=λb o e=>qE e;have a:=k _ _ I;have i:(D_ C::tl).contains (.ref C)=d_:=by simp
 have f:(uT h C us).get? (h.objs.size+1)=a_ (Ex C h.objs.size):=xh
 repeat (first|with_reducible refine wpAny_madeBy_exc I ?_|with_reducible refine Kn I ?_|wp_step)
 refine codeAny_call_builtin_code (LI _ F.quiet) (wpAny_check_new_subT F T I (codeAny_exc_new_subT F T I ?_ l));show B_ _ _ _ _ _ (⟨uT h C us,g,d,t,os⟩:v_);unfold Pf
 repeat (first|(with_reducible refine O7 a ?_;rw[i])|with_reducible refine Kn f ?_|wp_step)
 refine wpAny_typeLookup_tail a (c.keeps k) (T.keeps k) F.mroIs F.init.lookup ?_;rw[hi];unfold bindSpecial;refine Js (g_ (g_ (wpAny_typeOf (T:="function") ⟨_,k _ _ j,Y⟩ ?_)));rw[f_ a8];refine y_ (g_ (C6 z λr s' y=>?_));obtain⟨e,y⟩:=y;subst e
 wp_walk
 exact y
def x_call(F:Lx B newId initId bmB)(T:PU h bmB tl)(I:h.get? C=a_ (LO nm q C N bs tl hdct sn sub ab col dd k0 k1 k2 k3 k5 newId))(a:h.Ns N mN)(hi:mN "__init__"=a_ (.ref fI))(b:h.get? fI=a_ oI)(Y:oI.cls=.type "function")(c:us.length<=h_){Q:Mq}(z:B_ (C_ prog w) (A.under (.builtin "type.__call__" ⟨.ref C::us,[]⟩)) (Kp (.ref fI) (.ref (h.objs.size+1)::us)) (λr s'=>r=.none/\Q (.ref (h.objs.size+1)) s') E ⟨uT h C us,g,d,t,os⟩):
  B_ (C_ prog w) A (Kp (.ref C) us) Q E ⟨h,g,d,t,os⟩:=by
 have f:=tc_lookup;have e:=tc_bind (.ref C);have ty:(⟨h,g,d,t,os⟩:v_).TypeIs (.ref C) "type":=⟨_,I,rfl⟩
 refine Lu (codeAny_of_tree ?_);show B_ _ _ (callAny (.ref C) _) _ _ _
 (repeat (any_goals (first|assumption|with_reducible refine Kn I ?_|wp_step)));exact⟨rfl,codeAny_call_builtin_at (LI _ dkK) entry_typeCall (wpAny_check_type_call_sub I (x_type F T I a hi b Y c z))⟩
end
theorem ns_some{N:e_}{m:Ld}{n:m_}{v:j_}(X:K.In h)(G:h.Ns N m)(e:OY K N n=a_ (a_ v)):m n=a_ v:=by
 obtain⟨o,es,ep,Y,g2,_,I⟩:=G;unfold OY at e;cases q:K.lookup N with
 |none=>simp_all|some g=>
  have z:=X _ _ q;rw[Y]at z;cases z;obtain⟨c,d,a,b⟩:=o;cases(show a=.dict es ep from g2);rw[q]at e;dsimp only at e;cases f:es.toList.find? (·.key.isStr n)with
  |none=>rw[f]at e;dsimp only at e;split at e<;>cases e
  |some i=>rw[f]at e;cases e;rw[<- I];unfold nsFind findBy;rw[<- Oa,f];rfl
noncomputable def Kzc:Data->Option ClassData
 |.cls c=>a_ c|_=>c_
def Kzd{d:Data}{c:ClassData}(h:Kzc d=a_ c):d=.cls c:=by cases d<;>cases h;rfl
def pA(K:Pn)(C:e_)(bmB:ci)(newId:String)(f:e_):Bool:=(K.lookup C).any λo=>(Kzc o.data).any λc=>c.mro.head? ==a_ (.ref C)&&(o.cls==.type "type"&&(!c.hasDel&&(PySem.W.nsOkIn K c.ns&&(PySem.W.tailIn K bmB c.mro.tail&&(OY K c.ns "__init__"==a_ (a_ (.ref f))&&(o.slots.toList.length==6&&o.slots.toList[4]?==a_ (a_ (.builtin newId))))))))
def Kz6{l:List α}{x:α}(h:l.length=6)(I:l[4]?=a_ x):∃a b c d e,l=[a,b,c,d,x,e]:=by obtain⟨k0,l,rfl⟩:=HZ (n:=5) h;obtain⟨k1,l,rfl⟩:=HZ (n:=4) (Iv h);obtain⟨k2,l,rfl⟩:=HZ (n:=3) (Iv (Iv h));obtain⟨k3,l,rfl⟩:=HZ (n:=2) (Iv (Iv (Iv h)));have b:=Iv (Iv (Iv (Iv h)));obtain⟨Y,l,rfl⟩:=HZ (n:=1) b;obtain⟨k5,l,rfl⟩:=HZ (n:=0) (Iv b);cases I;rw[List.eq_nil_of_length_eq_zero (Iv (Iv b))];exact⟨_,_,_,_,_,rfl⟩
def w5(X:K.In h)(q:pA K C bmB newId f=d_):
  ∃tl N nm a bs hdct sn sub ab col dd k0 k1 k2 k3 k5 mN,h.get? C=a_ (LO nm a C N bs tl hdct sn sub ab col dd k0 k1 k2 k3 k5 newId)/\h.Ns N mN/\mN "__init__"=a_ (.ref f)/\PU h bmB tl:=by
 obtain⟨⟨oc,dd,v,⟨l⟩⟩,d,q⟩:=(NM _ _).mp q;obtain⟨⟨p,o,b,n,m,k,j,i,g,I,c⟩,e,q⟩:=(NM _ _).mp q;cases Kzd e;simp only[o_,Ku,K0]at q;obtain⟨a1,rfl,rfl,Y,u,t,s,r⟩:=q;obtain⟨tl,rfl⟩:=List.head?_eq_some_iff.mp a1;obtain⟨k0,k1,k2,k3,k5,rfl⟩:=Kz6 s r;exact⟨tl,n,p,m,o,k,j,i,g,I,dd,k0,k1,k2,k3,k5,_,X _ _ d,.of_isNs (Nx X Y),ns_some X (.of_isNs (Nx X Y)) t,PySem.W.tail_of_in X u⟩
def xnamed2(q:pA K C bmB newId f=d_):zu K C bmB:=λ_ X=>by obtain⟨tl,N,nm,I,bs,hdct,sn,sub,ab,col,dd,k0,k1,k2,k3,k5,mN,a,c,b,Y⟩:=w5 X q;exact⟨tl,N,nm,I,bs,hdct,sn,sub,ab,col,dd,k0,k1,k2,k3,k5,newId,a,Y⟩
noncomputable def Ozi:j_->Bool
 |.ref _=>d_|_=>b_
def xo(l:ci):Bool:=l.dropWhile Ozi==[.type "ValueError",.type "Exception",.type "BaseException",.type "object"]
def Ozj{P:ci->Prop}(Y:P [.type "ValueError",.type "Exception",.type "BaseException",.type "object"])(h1:∀a l,P l->P (.ref a::l)):∀l:ci,xo l=d_->P l:=λl=>by
 induction l with
 |nil=>exact λe=>nomatch (Ku.mp e:([]:ci)=_)
 |cons v r I=>
  intro e;unfold xo at e;rw[List.dropWhile_cons]at e;cases v with
  |ref a=>exact h1 a r (I e)|_=>rw[show(_::r)=_ from Ku.mp e];exact Y
def ve_pass(I:j_){l:ci}:xo l=d_->refuseLoop I "__setattr__" l=IQ ():=Ozj (P:=λl=>refuseLoop I "__setattr__" l=IQ ()) (PySem.F.store_ValueError.passes I) (λ_ _ h=>by rw[refuseLoop_ref];exact h) l
def ve_obj{l:ci}:xo l=d_->l.contains (.type "object")=d_:=Ozj (P:=λl=>l.contains (.type "object")=d_) (by rfl) (λ_ _ h=>by rw[Oq,h,Nn]) l
structure He(K:Pn)(C:e_)(f:m_):Prop where
 sa:Hq K (.ref C) "__setattr__"
   =a_ (a_ (.builtin "object.__setattr__"))
 no:Hq K (.ref C) f=a_ c_
 cd:((MW K C).any λcd=>xo cd.mro&&cd.hasDict)=d_
section
open PySem.W
variable{E:Mq}{od:Option Lg}{K:Ph}{f:m_}{v:j_}
def x_open{R:OC->v_->Prop}(X:K.In s.heap)(I:JB s.heap a oe C od)(Z:He K C f)(z:∀b,B_ (C_ prog w) A.in1 (ON (.ref a) (.ref C) (.str f tk) f v b)
   (λd s'=>match d with|.done y=>R (.ok y) s'|.again h=>h.quiet=d_/\Ko (C_ prog w) A h R s') (λe s'=>R (.error e) s') s):
  Ko (C_ prog w) A (.call (.builtin "object.__setattr__") ⟨[.ref a,.str f tk,v],[]⟩) R s:=by
 have c:=PySem.F.store_object;obtain⟨cd,g,Y⟩:=Na Z.cd;rw[o_]at Y;have j:cd.mro.isEmpty=b_:=by cases q:cd.mro with|nil=>rw[q]at Y;cases Y.1|cons _ _=>rfl
 have i:Looks (C_ prog w) s.heap (Pf (.ref a) (.type "object")) d_:=I.type.andThen (looks_mroIn X (by unfold JI;rw[g,Option.bind_some,k_ (by rw[j];decide),ve_obj Y.1]));refine JY c.slot.plain c.entry (@check_slot (C_ prog w) _ _ s "object.__setattr__" "object" "__setattr__" (.ref a) [.str f tk,v] [] _ c.kind c.split i (c.args (.ref a) (.str f tk) v) ?_);rw[osa_eq,refuse_eq];have k:Looks (C_ prog w) s.heap (mroOf (.ref C)) cd.mro:=(M_ X g).andThen .now;refine g_ (g_ (I.type.here (g_ (k.here ?_))));rw[ve_pass _ Y.1];exact y_ (g_ (I.type.here (g_ ((J6 X Z.no).here (g_ (y_ (z _)))))))
def x_set1{vs:Array j_}{Q:Unit->v_->Prop}(X:K.In s.heap)(Z:He K C f)(Y:s.heap.get? a=a_ ⟨.ref C,c_,.fields vs,#[]⟩)(z:∀h',h'.get? a=a_ ⟨.ref C,a_ s.heap.objs.size,.fields vs,#[]⟩->h'.Ns1 s.heap.objs.size (λy=>if y=f then a_ v else c_)->(∀b o,b≠a->s.heap.get? b=a_ o->h'.get? b=a_ o)->Q () {s with heap:=h',toks:=s.toks+2}):
  B_ (C_ prog w) A (PJ (.ref a) f v) Q E s:=by
 have I:JB s.heap a ⟨.ref C,c_,.fields vs,#[]⟩ C c_:=⟨Y,rfl,rfl,Ml⟩
 refine PM X I Z.sa (x_open (s:={s with toks:=s.toks+1}) X I Z λb=>?_);obtain⟨cd,i,h⟩:=Na Z.cd;rw[o_]at h;refine g_ (y_ (g_ (g_ (Nq Y (g_ (N5 (s:={s with toks:=s.toks+1}) (M_ X i) ?_))))));rw[h.2];have d:a≠s.z:=HC (u_ Y);have h1:(s.heap.push Il).get? a=a_ ⟨.ref C,c_,.fields vs,#[]⟩:=l_ _ Y;refine g_ (wpAny_alloc' (g_ (wpAny_update' h1 (y_ ?_))));have h2:((s.heap.push Il).update a λo=>{o with dict:=a_ s.z}).get? s.z=a_ Il:=by rw[Hw _ _ d];exact Cb s.heap rfl
 have k:((s.heap.push Il).update a λo=>{o with dict:=a_ s.z}).get? a=a_ ⟨.ref C,a_ s.z,.fields vs,#[]⟩:=JP _ h1 rfl;refine g_ (y_ (g_ (wpAny_nsSet1 (m:=λ_=>c_) (NA ⟨Il,#[],_,h2,rfl,(λe Y=>Ho Y am),λ_=>rfl⟩) λh' g c=>?_)));obtain⟨u,l,n,t,r,p⟩:=g.count (N1 f v Within.nil);refine g_ (P4 t (by rw[r];exact P7 (HB p am)) (y_ ?_));exact z h' ((c.2 a d).trans k) g λb o j q=>(c.2 b (HC (u_ q))).trans (by rw[Hw _ _ (HM j)];exact l_ _ q)
end
section
open PySem.W
variable{E:Mq}{od:Lg}{K:Ph}{f:m_}{v:j_}
theorem He.hd(Z:He K C f):JN K C=d_:=by obtain⟨cd,Y,I⟩:=Na Z.cd;simp_all[o_,JN]
def x_ga{Q:Fin->v_->Prop}(X:K.In s.heap)(I:JB s.heap a oe C (a_ od))(Y:He K C f)(c:KN f od=a_ (a_ v))(q:Q (.done (.ret v)) s):
  B_ (C_ prog w) A (Builtin.«object.__getattribute__» ⟨[.ref a,.str f tk],[]⟩) Q E s:=by
 have b:=I.type (M:=C_ prog w);have m1:=looks_find (M:=C_ prog w) X I (O8 Y.hd Y.no rfl c);unfold Builtin.«object.__getattribute__»;exact g_ (y_ (g_ (y_ (g_ (b.here (g_ (m1.here (y_ q))))))))
def x_get{ex:Bool}{Q:Mq}(FB:Lc B bmB)(X:K.In s.heap)(I:JB s.heap a oe C (a_ od))(Z:XIsi K C)(Y:He K C f)(j:KN f od=a_ (a_ v))(hh:MU v=d_)(q:Q v {s with toks:=s.toks+1}):
  B_ (C_ prog w) A (Ox (.ref a) f ex) Q E s:=by
 obtain⟨h,g,d,t,os⟩:=s;have i:=I.type (M:=C_ prog w);have m1:=J6 (M:=C_ prog w) X Z.ga;have e:=J6 (M:=C_ prog w) X Z.gt;have b3:=FB.ga.bind (.ref a);have l:(Kk "BaseException.__getattribute__"==Kk "object.__getattribute__")=b_:=by decide +kernel
 have b:∀{c:JK} (R:OC->v_->Prop),R (.ok (.ret v)) ⟨h,g,d,t+1,os⟩->Ko (C_ prog w) c (.call (.builtin "BaseException.__getattribute__") ⟨[.ref a,.str f t],[]⟩) R ⟨h,g,d,t+1,os⟩:=λ{c} R k=>JY FB.ga.plain PX (tZ X I Z.bs (x_ga (s:=⟨h,g,d,t+1,os⟩) X I Y j k))
 have ho:=handedOut_of hh;unfold Ox P8;refine g_ (wpAny_mkText ?_);repeat (any_goals (first|assumption|with_reducible refine i.at ?_|with_reducible refine m1.at ?_|with_reducible refine e.at ?_|wp_step))
 rw[show(ex&&onTheHeap (Kk "BaseException.__getattribute__"))=b_ by rw[show onTheHeap (Kk "BaseException.__getattribute__")=b_ from rfl,Jr],k_ II]
 repeat (any_goals (first|wp_step|assumption))
 all_goals (refine b _ ?_)
 repeat (any_goals (first|wp_step|assumption))
 all_goals (first|(rw[ho];exact wpAny_pure q)|exact q)
end
noncomputable def XO(a C:e_)(dx:Option e_):HO:=.ext λh=>∃vs:Array j_,vs[1]?=a_ .none/\h.get? a=a_ ⟨.ref C,dx,.fields vs,#[]⟩
noncomputable def XD(d:e_)(fs:List (m_×V)):HO:=.ext λh=>∃mA,h.Ns1 d mA/\(∀f,qC (fs.lookup f) (mA f))/\Kv mA (fs.map (·.1))
section
variable{d:e_}{dx:Option e_}{fs:List (m_×V)}
def xo_ok{vs:Array j_}(h1:vs[1]?=a_ .none)(e:h.get? a=a_ ⟨.ref C,dx,.fields vs,#[]⟩):dj P w H h a (XO a C dx):=⟨⟨vs,h1,e⟩,⟨_,e⟩,λ_ _ ⟨vs,q,e⟩ k=>⟨vs,q,k _ e⟩⟩
def xd_ok{mA:Ld}(n:h.Ns1 d mA)(r:∀f,qC (fs.lookup f) (mA f))(wi:Kv mA (fs.map (·.1))):dj P w H h d (XD d fs):=
 ⟨⟨mA,n,r,wi⟩,(let ⟨o,_,_,e,_⟩:=n;⟨o,e⟩),λ_ _ ⟨m,q,z⟩ k=>⟨m,q.at k,z⟩⟩
def xo_get(x:dj P w H h a (XO a C dx)):∃vs:Array j_,vs[1]?=a_ .none/\h.get? a=a_ ⟨.ref C,dx,.fields vs,#[]⟩:=x.1
def xd_get(x:dj P w H h d (XD d fs)):∃mA,h.Ns1 d mA/\(∀f,qC (fs.lookup f) (mA f))/\Kv mA (fs.map (·.1)):=x.1
end
theorem A6.turn{t':Nat}(I:A6 X A4 σ H s)(S:e_->Prop)(k:∀b o,¬S b->s.heap.get? b=a_ o->h'.get? b=a_ o)(Y:∀b,¬S b->H' b=H b)(a:∀b,S b->(∃g,H b=a_ (.ext g))\/s.heap.get? b=c_)(d:∀b o,S b->s.heap.get? b=a_ o->∃o',h'.get? b=a_ o')(h:∀b o,S b->H' b=a_ o->dj X.prog X.w H' h' b o):
  A6 X A4 σ H' {s with heap:=h',toks:=t'}:=by
 have out:∀b u,H b=a_ u->(∀g,u≠.ext g)->¬S b:=λb u e n z=>by
  rcases a b z with⟨g,q⟩|q
  .grind
  .obtain⟨o,r⟩:=(I.hok b u e).is;simp_all
 have f:∀b o,s.heap.get? b=a_ o->H b=c_->¬S b:=λb o e n z=>by
  rcases a b z with⟨g,q⟩|q
  .rw[n]at q;cases q
  .rw[e]at q;cases q
 refine I.un ⟨λb o e n _ _=>k b o (f b o e n) e,λb o e n _ _=>⟨o.slots,k b o (f b o e n) e⟩,λb o e n _=>by rw[Y b (f b o e n)];exact n,λb o e _=>?_,λb xs e=>?_,λb o u e=>?_,λb ps e=>?_⟩ λb u e=>?_
 .by_cases z:S b
  .exact d b o z e
  .exact⟨o,k b o z e⟩
 .simp_all
 .simp_all
 .simp_all
 .by_cases z:S b
  .exact h b u z e
  .rw[Y b z]at e;refine(I.hok b u e).zI (λc v i q=>k c v ?_ q) (λc q=>?_) λc xs q=>?_
   .rcases i with rfl|i
    .exact z
    .exact out c _ i λ_ z=>nomatch z
   .simp_all
   simp_all
section
variable{E:Mq}{d:e_}{f:m_}
theorem xset1_ok{Q:Unit->v_->Prop}(I:A6 X A4 σ H s)(e:H a=a_ (XO a C c_))(Z:He X.K C f)(j:A' y u)(z:∀d s',H d=c_->d≠a->A6 X A4 σ (upd (upd H d (XD d [(f,y)])) a (XO a C (a_ d))) s'->Q () s'):B_ (C_ X.prog X.w) A (PJ (.ref a) f u) Q E s:=by
 obtain⟨vs,v1,m⟩:=xo_get (I.hok a _ e);have fr:=I.hok.fresh (r_ s.z);have h:s.z≠a:=λq=>by simp_all
 refine x_set1 I.kIn Z m λh' e1 l k=>z s.z _ fr h ?_;refine I.turn (λb=>b=a\/b=s.z) (λb o i q=>k b o (λr=>i (.inl r)) q) (λb i=>by simp_all[aw]) (λb c=>?_) (λb o c q=>?_) λb o c q=>?_
 .rcases c with rfl|rfl
  .exact .inl ⟨_,e⟩
  .exact .inr (get_none (r_ _))
 .grind
 .rcases c with rfl|rfl
  .rw[au]at q;cases q;exact xo_ok v1 e1
  .rw[aw h,au]at q;cases q;refine xd_ok l (λg=>?_) λg n=>?_
   .show qC (IE g [(f,y)]) (if g=f then a_ u else c_);rw[w_];by_cases Y:g=f
    .rw[f_ Y,show(g==f)=d_ from Ku.mpr Y];exact j
    .rw[k_ Y,show(g==f)=b_ from Lk.mpr Y];trivial
   simp_all
end
def sX1(C:e_)(ta tv:TE)(f:m_):TS:=λD σ H=>tv σ H λy H1=>ta σ H1 λx H2=>∃a,x=.ref a/\H2 a=a_ (XO a C c_)/\∀d,H2 d=c_->d≠a->D.nx σ (upd (upd H2 d (XD d [(f,y)])) a (XO a C (a_ d)))
section
variable{o:Ii}{f:m_}{tv:TE}
def ps_x1(k:PE X o ta)(hv:PE X value tv)(Z:He X.K C f)(j: ~~~(Jb value (a_ (.Attribute o f pos')) pos.line X.env=IQ b_)):PS X (.Assign [.Attribute o f pos'] value pos) (sX1 C ta tv f):=by intro A4 s σ H D I h;refine MJ (C6 (hv A4 s σ H _ I h) λu b Y=>?_) j;obtain⟨y,H1,p,c,q⟩:=Y;refine C6 (k A4 b σ H1 _ p q) λi t Y=>?_;obtain⟨x,H2,n,e,a,ex,l,g⟩:=Y;subst ex;cases(show i=D_ a from e);exact xset1_ok n l Z c λd r h1 h2 m=>⟨σ,_,m,g d h1 h2⟩
end
def upd_low{d:e_}{x y z:HO}:upd (upd (upd H a x) d y) a z=upd (upd H d y) a z:=by
 funext b
 by_cases I:b=a
 .subst I;rw[au,au]
 .rw[aw I,aw I];by_cases hd:b=d
  .subst hd;rw[au,au]
  .rw[aw hd,aw hd,aw I]
theorem fn_at(X:K.In h)(e:Nv K (.ref f)=a_ (.type "function")):∃o,h.get? f=a_ o/\o.cls=.type "function":=by
 unfold Nv at e;cases q:K.lookup f with
 |none=>simp_all|some o=>simp only[q]at e;exact⟨o,X _ _ q,by simpa using e⟩
def zC{M:Mf}{E:Mq}{env:LY}{q:m_}{N:e_}{bs tl:ci}{k1:Option j_}{x:PQ j_}{Q:Flow->v_->Prop}(k:tl.contains (.type "BaseException")=d_)(hh:A.handled=c_)(z:B_ M A x (λv I=>∃e oe,v=.ref e/\I.heap.get? C=a_ (LO nm q C N bs tl hdct sn sub ab col dd k0 k1 k2 k3 k5 newId)/\I.heap.get? e=a_ oe/\oe.cls=.ref C/\(∃vs,oe.data=.fields vs/\vs[1]?=a_ .none)/\E (.ref e) I) E s):
  B_ M A
    (raiseStmt env (a_ x) c_) Q E s:=by
 have l:(D_ C::tl).contains (.type "BaseException")=d_:=by rw[Oq,k,Nn]
 unfold raiseStmt;refine g_ (C6 z λv I Y=>?_);obtain⟨e,oe,rfl,c,i,b,⟨vs,hd,a⟩,j⟩:=Y;obtain⟨oc,f,h,osl⟩:=oe;dsimp only at b hd;subst b hd;obtain⟨m,g,d,tk,os⟩:=I;repeat (first|(with_reducible refine O7 c ?_;rw[l])|with_reducible refine Kn i ?_|with_reducible refine Kn c ?_|wp_step)
 rw[a];refine y_ ?_;rw[k_ a8];exact y_ (wpAny_raiseNew_none hh j)
def XEq2(X:Cx)(E:XK)(C:e_):Prop:=∀(A4:Vp) (σ:St) (H:Hp) (s':v_) (a d:e_),A6 X A4 σ H s'->ExA s'.heap a (.ref C) (a_ d) c_->X.s₀.heap.get? a=c_->H a=c_->E (.ref C) (a_ d) H->X.xe (.ref a) s'
section
variable{base:H_}
def xeqD2:XEq2 (Bb (CXd P w) P w K mg base N qual scope f cd A outer s H E) E C:=λ_ _ _ _ _ _ J x I fa q=>xe_of J x I (λT Y=>nomatch Y) fa q
end
def tFldX(i:Nat)(a d:e_)(f:m_):TE:=λσ H Q=>σ[i]?=a_ (a_ (.ref a))/\∃gs v,H d=a_ (.xd gs)/\gs.lookup f=a_ v/\Q v H
section
variable{d:e_}{n f:m_}
theorem pe_xfld(FB:Lc B bmB)(Z:XIsi X.K C)(Y:He X.K C f)(E:oe.cls=.ref C)(hd:∃vs,oe.data=.fields vs)(p:oe.dict=a_ d)(G: ~~~(X.N[i]?=a_ n))(hv:autoParam (Vis X.env.scope n) Jq5)(e:((n==("__debug__":m_))=b_)⁻¹)(c:((n==("__classdict__":m_))=b_)⁻¹)(F: ~~~(IZ (.Name n p1) f X.env (Hv (.Name n p1) X.env)=Hv (.Name n p1) X.env)):PE (X.hand a oe) (.Attribute (.Name n p1) f pos) (tFldX i a d f):=by
 intro A4 s σ H Q I h;obtain⟨e1,gs,v,A,z,q⟩:=h;refine Hb (env:=(X.hand a oe).env) F (C6 (pv (X:=X.hand a oe) i G hv e c A4 s σ H (λx H1=>x=.ref a/\H1=H) I ⟨.ref a,e1,rfl,rfl⟩) λu g t=>?_);obtain⟨x,H1,b,k,ex,K⟩:=t;subst ex K;cases(show u=D_ a from k);have l:=(b.pin (a,oe) (HD ..)).1;obtain⟨mA,m,r⟩:=(show dj X.prog X.w H1 g.heap d (.xd gs)from b.hok d _ A)
 obtain⟨od,w,y⟩:=yA m;obtain⟨L,N,j⟩:=qC.some_of (v:=v) (o:=mA f) (by rw[<- z];exact r f);obtain⟨vs,D⟩:=hd;have J:JB g.heap a oe C (a_ od):=⟨l,E,by simp_all[Oz],by rw[p];exact w⟩
 exact x_get FB b.kIn J Z Y bb (yH j) ⟨v,H1,b.tok _,j,q⟩
end
def qQ(O:ce)(C:e_)(fb:ai->M A9)(fx:List (m_×A3)->ai->M ai):ai->M A9:=λρ=>match fb (erase O ρ)with
 |.ok fl=>.ok fl|.error (.exc I (f::fs))=>if I=C then(fx (f::fs) ρ).bind λρ'=>.ok (.nx ρ')else .error .stuck
 |.error _=>.error .stuck
def yR{fb:ai->M A9}{fl:A9}(h:fb (erase O ρ)=.ok fl):qQ O C fb fx ρ=.ok fl:=by unfold qQ;rw[h]
theorem uH{fb:ai->M A9}{f:m_×A3}{fs:List (m_×A3)}(h:fb (erase O ρ)=.error (.exc C (f::fs))):qQ O C fb fx ρ=(fx (f::fs) ρ).bind λρ'=>.ok (.nx ρ'):=by simp_all[qQ]
section
variable{D:Ends}{fb:ai->M A9}
def rs_tryF(b:∀(a d:e_) (gs:List (m_×V)) (fs:List (m_×A3)) (FB F H:Hp) (ρ:ai),Rep K F0 H0 FB O F H σ ρ->F d=a_ (.xd gs)->jD K F fs gs->jC K D' ro F0 H0 FB OL O D ((fx fs ρ).bind λρ'=>.ok (.nx ρ'))->ts a (a_ d) (D.less i) (σ.set i (a_ (.ref a))) H)(t:tS K D' ro F0 H0 OL O O (qQ O C fb fx) D σ H):tTry (λE D σ H=>∃F1 H1,tS K (WE K E) ro F1 H1 OL [] O fb D σ H) i C ts D σ H:=by
 obtain⟨FB,F,ρ,r,p⟩:=t;have I:=r.lq;refine⟨F,H,FB,F,erase O ρ,⟨A5.refl r.st.fh,r.fb,I.len,λm d e _=>I.sl m d e,(λm d e h=>nomatch h),(λm n d1 d2 c h=>nomatch h)⟩,?_⟩
 cases e:fb (erase O ρ)with
 |ok fl=>
  rw[yR e]at p;cases fl with
  |nx ρ'=>exact λσ' F' H' r'=>p σ' F' H' (r'.back r.st)|rt d=>exact λv F' H' s' q=>p v F' H' (r.st.trans s') (q.back r.st.hh)|bk ρ'=>exact λσ' F' H' r'=>p σ' F' H' (r'.back r.st)|ct ρ'=>exact λσ' F' H' r'=>p σ' F' H' (r'.back r.st)
 |error x=>
  cases x with
  |stuck=>exact p.stuck (by unfold qQ;rw[e])|exc j fs=>
   cases fs with
   |nil=>exact p.stuck (by unfold qQ;rw[e])|cons f fs=>
    by_cases Y:j=C
    .subst Y;rw[uH e]at p;exact λF' H' s' d gs hd g=>⟨rfl,λa _=>b a d gs _ FB F' H' ρ (r.step s') hd g p⟩
    .exact p.stuck (by unfold qQ;rw[e];exact k_ Y)
end
section
variable{c n:m_}{fb:ai->M A9}
def ds_tryF(o:∀(A4:Vp) (σ:St) (E:XK) (b:Mq),lH (CXd X.prog X.w) (X.xm b) A4 σ E->DSat K E ro (X.xm b) OL [] O A4 σ body fb)(h:∀(a:e_) (oe:Lg),oe.cls=.ref C->(∃vs,oe.data=.fields vs)->PSs (X.hand a oe) (b₀::suite) (ts a oe.dict))(t:∀(F0 H0:Hp) (D:Ends) (σ:St) (a d:e_) (gs:List (m_×V)) (fs:List (m_×A3)) (FB F H:Hp) (ρ:ai),σ.length=X.N.length->Rep K F0 H0 FB O F H σ ρ->F d=a_ (.xd gs)->jD K F fs gs->jC K D' ro F0 H0 FB OL O D ((fx fs ρ).bind λρ'=>.ok (.nx ρ'))->ts a (a_ d) (D.less i) (σ.set i (a_ (.ref a))) H)(v:zu X.K C bmB)(w:bmB.contains (.type "BaseException")=d_)(k:X.mg c=a_ (.ref C))(u:X.N.Nodup)(hi: ~~~(X.N[i]?=a_ n))(l: ~~~(X.env.scope.names.lookup n=a_ .local))(m: ~~~(Gl X c))(f: ~~~(X.ex=[]))(Y: ~~~(X.stack=X.env::X.outer))(e: ~~~(X.env.frame=a_ X.env.locals))(g:((c==("__debug__":m_))=b_)⁻¹):
  DS K D' ro X OL O O (.Try body [.ExceptHandler (a_ (.Name c np)) (a_ n) (b₀::suite) hpos] [] [] pos) (qQ O C fb fx):=λF0 H0 A4 s σ H D I z=>
 ps_try (tb:=λE D σ H=>∃F1 H1,tS K (WE K E) ro F1 H1 OL [] O fb D σ H) (λA4 σ E b j s H D I ⟨F1,H1,q⟩=>o A4 σ E b j F1 H1 s H D I q) h v w k u hi l m f Y e g A4 s σ H D I (rs_tryF (λa d gs fs FB F H ρ r h1 h2 p=>t F0 H0 D σ a d gs fs FB F H ρ I.len r h1 h2 p) z)
end
section
variable{fr:ai->M (List A3)}{W:eZ}
noncomputable def noM(g:bv->M A3):bv->M A3:=λds=>noX (g ds)
@[simp]def e_noM(g:bv->M A3)(ds:bv):noM g ds=noX (g ds):=id rfl
def passN:Passes (CXd X.prog X.w) X (λ_ _ _=>False):=by rintro A4 σ H1 Y e s' I ⟨a,T,C,dx,H',rfl,z⟩;exact z.want.elim
theorem de_callN{k:Nat}{ps:b8}{g:ai->M A9}(F:iS X.prog X.w X.K X.mg X.base (CXd X.prog X.w) k fad fd ps (spX K ro (bH nN n g) n))(l:iu k X.A)(m:X.mg x=a_ (.ref fad))(o:Ju X.K (.ref fad)=d_)(u:Binds X.K fd ps [])(v:DA K W X (e::es) fr)(t: ~~~(Gl X x))(c:((x==("__debug__":m_))=b_)⁻¹)(a: ~~~(i_ (e::es) X.env=(b_,Hv e X.env)::i_ es X.env))(b: ~~~((HQ pos (i_ es X.env)).any (·.1)=b_)):
  DE K W ro X (.Call (.Name x p) (e::es) [] pos) (fL (noM (bH nN n g)) fr):=by
 refine PE.imp (oB F l t m o u .nil passN v c a b) λσ H Q h=>?_;obtain⟨F,ρ,r,s,p⟩:=rd_L h;refine⟨F,ρ,r,s,?_⟩
 cases e1:fr ρ with
 |error z=>simp_all|ok ds=>
  rw[e1]at p;intro vs F' H' st q;obtain⟨F1,I,i,j,z⟩:=p vs F' H' st q;show spX K ro (bH nN n g) n (vs++[]) H' Q (λ_ _ _=>False);rw[IH];have z:aJ K W ro F1 H' (noX (bH nN n g I)) Q:=z;by_cases f:I.length=n
  .refine⟨F1,I,i,j,f,?_⟩
   cases Y:bH nN n g I with
   |ok d=>rw[Y]at z;exact z|error x=>rw[Y]at z;exact(W.ns z).elim
  .rw[qe f]at z;exact(W.ns z).elim
end
structure XMk(K:Pn)(mg:Ld)(x:m_)(C f:e_):Prop where
 mg:mg x=a_ (.ref C)
 ex:pA K C [.type "ValueError",.type "Exception",.type "BaseException",.type "object"] "ValueError.__new__" f=d_
 fn:Nv K (.ref f)=a_ (.type "function")
 kp:Ju K (.ref C)
   =d_
structure XTry(K:Pn)(mg:Ld)(x:m_)(C:e_):Prop where
 mg:mg x=a_ (.ref C)
 nm:zu K C [.type "ValueError",.type "Exception",.type "BaseException",.type "object"]
 isi:XIsi K C
def rIsi(K:Pn)(C a:e_)(R:Hp->Prop):b9->Hp->VK->Prop:=λxs H Q=>R H/\∃v b,xs=[.ref a,v] /\
  ((∃c,A' v c/\(∀u,A' v u->u=c)/\HV K (.ref C) c=a_ b)\/∃(tp:e_) (ys:List e_),v=.ref tp/\H tp=a_ (.tup (ys.map V.ref))/\kitAny K (.ref C) (ys.map D_)=a_ b)/\Q (.bl b) H
def XDk(d:e_):Hp->Prop:=λH=>∃gs,H d=a_ (.xd gs)
noncomputable def tIsiR(i:Nat)(a:e_)(R:Hp->Prop)(b:Bool):TE:=λσ H Q=>σ[i]?=a_ (a_ (.ref a))/\R H/\Q (.bl b) H
def tIsiTR(i:Nat)(a:e_)(R:Hp->Prop)(ys:List e_)(b:Bool):TE:=λσ H Q=>σ[i]?=a_ (a_ (.ref a))/\∀p,H p=c_->R (upd H p (.tup (ys.map V.ref)))/\Q (.bl b) (upd H p (.tup (ys.map V.ref)))
section
variable{d:e_}
theorem GZ(FB:Lc B bmB)(Z:XIsi X.K C)(N:oe.cls=.ref C)(hd:∃vs,oe.data=.fields vs)(E:oe.dict=a_ d):fj (X.hand a oe) (.builtin "isinstance") (rIsi X.K C a (XDk d)):=by
 intro A4 s σ H xs us Q I r h;obtain⟨⟨gs,K⟩,v,b,rfl,h1,q⟩:=h;obtain⟨u,w,rfl,x,f⟩:=r.two;cases(show u=D_ a from x);have y:=(I.pin (a,oe) (HD ..)).1;obtain⟨vs,L⟩:=hd;obtain⟨mA,⟨od,es,ep,G,i⟩,_⟩:=(show dj X.prog X.w H s.heap d (.xd gs)from I.hok d _ K)
 have J:JB s.heap a oe C (a_ od):=⟨y,N,by simp_all[Oz],by rw[E];exact G⟩
 rcases h1 with⟨c,P,Y,e⟩|⟨tp,ys,rfl,F,e⟩
 .cases Y w f;exact JE (BZ FB Z) I.kIn J e (λz=>nomatch z) λtk=>⟨.bl b,H,I.tok tk,rfl,q⟩
 .cases(show w=D_ tp from f);obtain⟨_,A8,t,D,p,o⟩:=(show dj X.prog X.w H s.heap tp (.tup (ys.map V.ref))from I.hok tp _ F)
  obtain⟨m,n,l⟩:=o;have O:A8=ys.map D_:=BI t;subst O;obtain⟨oc,A,g,osl⟩:=D;have k:oc=Kh "tuple":=m;have j:g=.seq (ys.map D_).toArray n:=l;subst k j;exact PySem.W.kia_tup (BZ FB Z) I.kIn J p e (λz=>nomatch z) λtk=>⟨.bl b,H,I.tok tk,rfl,q⟩
end
section
variable{D:e_}{R:Hp->Prop}{n y:m_}{b:Bool}{ys:List e_}
def pe_isO(j:fj (X.hand a oe) (.builtin "isinstance") (rIsi X.K C a R))(o:X.mg "isinstance"=c_)(x:X.mg y=a_ (.ref D))(t:HV X.K (.ref C) (.ref D)=a_ b)(w: ~~~(X.N[i]?=a_ n))(hv:autoParam (Vis X.env.scope n) Jq5)(g:((n==("__debug__":m_))=b_)⁻¹)(f:((n==("__classdict__":m_))=b_)⁻¹)(r: ~~~(Gl (X.hand a oe) "isinstance"))(d: ~~~(Gl (X.hand a oe) y))(e:((y==("__debug__":m_))=b_)⁻¹)(m: ~~~(i_ [.Name n p1,.Name y p2] X.env=[(b_,Hv (.Name n p1) X.env),(b_,Hv (.Name y p2) X.env)]))(Y: ~~~(i_ [.Name y p2] X.env=[(b_,Hv (.Name y p2) X.env)]))(c: ~~~((HQ pos (i_ [.Name y p2] X.env)).any (·.1)=b_)):
  PE (X.hand a oe) (.Call (.Name "isinstance" p) [.Name n p1,.Name y p2] [] pos) (tIsiR i a R b):=by
 have k:PE (X.hand a oe) (.Name y p2) (tC (.ref D)):=λA4 s σ H Q I h=>jS I d x ⟨.ref D,H,I,rfl,h⟩ e;refine PE.imp (iX (X:=X.hand a oe) j r o KP (ax (pv i w hv g f) (ax k aP Y) (by rfl)) a8 a8 (by rfl) c) λσ H Q h=>?_;obtain⟨e1,v,q⟩:=h;exact⟨.ref a,e1,v,.ref D,b,rfl,.inl ⟨.ref D,rfl,λu l=>l,t⟩,q⟩
def pe_isB(k:fj (X.hand a oe) (.builtin "isinstance") (rIsi X.K C a R))(r:X.mg "isinstance"=c_)(d:X.mg y=c_)(Y:Jh y=a_ (.type T))(t:HV X.K (.ref C) (.type T)=a_ b)(w: ~~~(X.N[i]?=a_ n))(hv:autoParam (Vis X.env.scope n) Jq5)(j:((n==("__debug__":m_))=b_)⁻¹)(g:((n==("__classdict__":m_))=b_)⁻¹)(s: ~~~(Gl (X.hand a oe) "isinstance"))(e: ~~~(Gl (X.hand a oe) y))(l:(y≠"__name__")⁻¹)(f:((y==("__debug__":m_))=b_)⁻¹)(o: ~~~(i_ [.Name n p1,.Name y p2] X.env=[(b_,Hv (.Name n p1) X.env),(b_,Hv (.Name y p2) X.env)]))(I: ~~~(i_ [.Name y p2] X.env=[(b_,Hv (.Name y p2) X.env)]))(c: ~~~((HQ pos (i_ [.Name y p2] X.env)).any (·.1)=b_)):
  PE (X.hand a oe) (.Call (.Name "isinstance" p) [.Name n p1,.Name y p2] [] pos) (tIsiR i a R b):=by
 refine PE.imp (iX (X:=X.hand a oe) k s r KP (ax (pv i w hv j g) (ax (pe_tyN (X:=X.hand a oe) (pos:=p2) e d Y l f) aP I) (by rfl)) a8 a8 (by rfl) c) λσ H Q h=>?_;obtain⟨e1,v,q⟩:=h;exact⟨.ref a,e1,v,.ty T,b,rfl,.inl ⟨.type T,rfl,λu m=>m,t⟩,q⟩
theorem pe_isT{j}(f:fj (X.hand a oe) (.builtin "isinstance") (rIsi X.K C a R))(k:X.mg "isinstance"=c_)(o:PA (X.hand a oe) es (tRefs ys))(s:ys.length<=h_)(m:kitAny X.K (.ref C) (ys.map D_)=a_ b)(r: ~~~(X.N[i]?=a_ n))(hv:autoParam (Vis X.env.scope n) Jq5)(e:((n==("__debug__":m_))=b_)⁻¹)(d:((n==("__classdict__":m_))=b_)⁻¹)(l: ~~~(Gl (X.hand a oe) "isinstance"))(g: ~~~(i_ [.Name n p1,.Tuple es j p2] X.env=[(b_,Hv (.Name n p1) X.env),(b_,Hv (.Tuple es j p2) X.env)]))(Y: ~~~(i_ [.Tuple es j p2] X.env=[(b_,Hv (.Tuple es j p2) X.env)]))(c: ~~~((HQ pos (i_ [.Tuple es j p2] X.env)).any (·.1)=b_)):
  PE (X.hand a oe) (.Call (.Name "isinstance" p) [.Name n p1,.Tuple es j p2] [] pos) (tIsiTR i a R ys b):=by
 refine PE.imp (iX (X:=X.hand a oe) f l k KP (ax (pv i r hv e d) (ax (yk o) aP Y) (by rfl)) a8 a8 (by rfl) c) λσ H Q h=>?_;obtain⟨e1,q⟩:=h;exact⟨.ref a,e1,bb,λtp I=>⟨(q tp I).1,.ref tp,b,rfl,.inr ⟨tp,ys,rfl,au,m⟩,(q tp I).2⟩⟩
end
section
variable{j:Nat}
theorem Rep.toldG{ds:bv}(r:Rep K F0 H0 FB O F H σ ρ)(q:i≠j)(hi:i<σ.length)(p:j<σ.length)(d:i∉O)(b:j∉O)(st:A5 F H (upd F l (.lst vs)) H')(o:F l=c_)(t:aD K F ds vs):
  Rep K F0 H0 FB O (upd F l (.lst vs)) H' (((σ.set i (a_ (.ref a))).set j (a_ (.ref l))).set i c_) ((ρ.set j (a_ (.lst ds))).set i c_):=by
 have s:aM F (upd F l (.lst vs)):=aM.upd o;have r2:=r.step st;have out:∀m,m≠i->m≠j->(((σ.set i (a_ (.ref a))).set j (a_ (.ref l))).set i c_)[m]?=σ[m]?:=λm h1 h2=>by grind[p_]
 have I:∀m,m≠i->m≠j->((ρ.set j (a_ (.lst ds))).set i c_)[m]?=ρ[m]?:=λm h1 h2=>by rw[p_ (HM h1),p_ (HM h2)]
 have k:∀dd,((ρ.set j (a_ (.lst ds))).set i c_)[i]?≠a_ (a_ dd):=λdd e=>by rw[sy (by rw[Hs,r.len];exact hi)]at e;cases e
 refine⟨r2.st,r2.fb,by simp only[Hs];exact r.len,λm dd e Y=>?_,λm dd e Y=>?_,λm n d1 d2 c Y f e1 e2 e3 e4=>?_⟩
 .by_cases h1:m=i
  .simp_all
  .by_cases h2:m=j
   .subst h2;rw[p_ (HM h1),sy (by rw[r.len];exact p)]at e;cases e;refine⟨.ref l,bb,l,vs,rfl,SqL.of au,aD.mono s t⟩
   .rw[I m h1 h2]at e;rw[out m h1 h2];exact r2.fz m dd e Y
 .have h1:m≠i:=λz=>d (z▸Y);have h2:m≠j:=λz=>b (z▸Y);rw[I m h1 h2]at e;rw[out m h1 h2];exact r2.ow m dd e Y
 .have h1:m≠i:=λz=>d (z▸Y);have h2:m≠j:=λz=>b (z▸Y);have h:n≠i:=λz=>d (z▸f);have g:n≠j:=λz=>b (z▸f);rw[I m h1 h2]at e1;rw[I n h g]at e2;rw[out m h1 h2]at e3;rw[out n h g]at e4;exact r2.ap m n d1 d2 c Y f e1 e2 e3 e4
theorem step_app{p:e_}{xs:b9}{tp:HO}(a:aM F H)(I:H l=c_)(b:H p=c_)(d:p≠l):A5 F H (upd F l (.lst (xs++[y]))) (upd (upd (upd H l (.lst xs)) p tp) l (.lst (xs++[y]))):=by
 have hh:aM H (upd (upd (upd H l (.lst xs)) p tp) l (.lst (xs++[y]))):=λc o e=>by rw[aw (aQ e I),aw (aQ e b),aw (aQ e I)];exact e
 refine⟨aM.upd (a.free I),hh,λc o e=>?_,λc o e=>?_⟩
 .by_cases Y:c=l
  .simp_all[au]
  .rw[aw Y]at e;exact hh c o (a c o e)
 .by_cases Y:c=l
  .subst Y;exact .inr I
  .rw[aw Y]at e;exact .inl e
end
structure Yd(P:HY)(w:IF)(K:Pn)(mg:Ld)(base:H_)(CX:CXT)(k:Nat)(x:m_)(st:Ia)(ps:b8)(sp:Sp)(f:e_)(fd:Je):Prop where
 d:Def K mg x st ps f fd
 o:iS P w K mg base CX k f fd ps sp
section
open PySem.W
end
section
open PySem.SetTable
end
section
open PySem
end
section
open PySem.W
end
structure Abt(p:e_)(F H F' H':Hp):Prop where
 ff:aM F F'
 fh:aM F' H'
 fp:F' p=c_
 nw:∀b o,F' b=a_ o->F b=a_ o\/H b=c_
 hh:∀c o,H c=a_ o->c≠p->H' c=a_ o
theorem Abt.step{x:e_}(a:H x=c_)(Y:H dx=c_)(z:Abt x F (upd (upd H dx (.own x)) x (.ins C dx [])) F' H'):A5 F H F' H' where
 ff:=z.ff
 hh:=λc o e=>by
  have I:c≠x:=λh=>by simp_all
  have hd:c≠dx:=λh=>by simp_all
  exact z.hh c o (by rw[aw I,aw hd];exact e) I
 fh:=z.fh
 nw:=λc o e=>by
  rcases z.nw c o e with q|q
  .exact .inl q
  grind[aw]
def isiC(tb:List (e_×Bool)):A3->M A3
 |.ins C _=>match tb.lookup C with
  |some b=>.ok (.bl b)|none=>stk
 |_=>stk
section
variable{W:eZ}{own:Bool}{a:Ii}{y:m_}{D:e_}{tb:List (e_×Bool)}
def c_isiC(i:∀C b,tb.lookup C=a_ b->(∃x,Kls K X.mg x C)/\HV K (.ref C) (.ref D)=a_ b)(j: ~~~(X.K=K)):fj X (.builtin "isinstance") (λxs H Q=>∃v,xs=[v,.ref D]/\rD1 K W own (isiC tb) v H Q):=by
 subst j;intro A4 s σ H xs us Q I r h;obtain⟨v,rfl,F,d,c,q,p⟩:=h;obtain⟨u,w,rfl,e,Y⟩:=r.two;cases(show w=D_ D from Y);cases d with
 |ins C fs=>
  cases a:tb.lookup C with
  |none=>
   have p:aJ X.K W own F H (match tb.lookup C with
    |some b=>.ok (.bl b)|none=>stk) Q:=p
   rw[a]at p;exact aJ.stuck p
  |some b=>
   have p:aJ X.K W own F H (match tb.lookup C with
    |some b=>.ok (.bl b)|none=>stk) Q:=p
   rw[a]at p;obtain⟨⟨x,f⟩,g⟩:=i C b a;obtain⟨l,dx,gs,e1,k,m⟩:=q;subst e1;exact G5 I e (f.ty (c _ _ k)) g λtk=>⟨.bl b,H,I.tok tk,rfl,aJ.bl (own:=own) p c⟩
 |_=>exact aJ.stuck p
def GF(j:∀C b,tb.lookup C=a_ b->(∃x,Kls K X.mg x C)/\HV K (.ref C) (.ref D)=a_ b)(f:X.mg "isinstance"=c_)(l:X.mg y=a_ (.ref D))(i:DE K W b_ X a fa)(k: ~~~(X.K=K))(g: ~~~(Gl X "isinstance"))(e: ~~~(Gl X y))(hd:((y==("__debug__":m_))=b_)⁻¹)(Y: ~~~(i_ [a,.Name y p2] X.env=[(b_,Hv a X.env),(b_,Hv (.Name y p2) X.env)]))(I: ~~~(i_ [.Name y p2] X.env=[(b_,Hv (.Name y p2) X.env)]))(c: ~~~((HQ pos (i_ [.Name y p2] X.env)).any (·.1)=b_)):
  DE K W own X (.Call (.Name "isinstance" p) [a,.Name y p2] [] pos) (f1 (isiC tb) fa):=
 (iX (c_isiC j k) g f KP (ax i (ax (vC (v:=.ref D) (pos:=p2) e l rfl hd) aP I) (by rw[Y,I])) a8 a8 (by rw[Y,I]) c).imp λσ H Q h=>by
  obtain⟨F,ρ,r,s,q⟩:=rd_1 h;refine⟨F,ρ,r,s,?_⟩
  cases e1:fa ρ with
  |error z=>rw[e1]at q;exact q|ok d=>rw[e1]at q;exact λv F' H' st z=>⟨v,rfl,q v F' H' st z⟩
theorem isi2{P:e_->Bool->Prop}(h1:P C1 b1)(h2:P C2 b2):∀C b,IE C [(C1,b1),(C2,b2)]=a_ b->P C b:=λC b h=>by grind
end
noncomputable abbrev tKind(P:HY)(w:IF):HeapKind P w cc:=Ln (MA P w)
theorem xw{P:HY}{w:IF}:∀{k:cc} {us:ci},B' (k.map V.int) us->ItemsAre (MA P w) k us
 |[],_,.nil=>.nil|i::k,_,.cons r t=>by
  obtain⟨t',rfl⟩:=(show ∃t,_=Im i t from r)
  exact .cons (by simp[MA,Ny]) (xw t)
def oU.at{xs:List om}(z:oU h a xs ep)(e:∀o,h.get? a=a_ o->h'.get? a=a_ o):oU h' a xs ep:=
 let ⟨vs,r,hd,Y,I,o,es,h1,h2⟩:=z;⟨vs,r,hd,Y,I,o,es,e o h1,h2⟩
def GB{xs:List om}(z:oU h a xs ep):dj P w H h a (zx a xs ep):=
 ⟨z,let ⟨_,_,_,_,_,o,_,e,_⟩:=z;⟨o,e⟩,λ_ _ z e=>z.at e⟩
def sH(K:Pn)(H:Hp)(xs:List om):Prop:=∀x∈xs,SqT K H x.2.1 (x.1.map V.int)
def sH.mono{xs:List om}(z:sH K H xs)(s:aM H H'):sH K H' xs:=λx I=>s.tup (z x I)
theorem dG.key{K:Pn}{F:Hp}:∀{ks:List (cc×A3)} {xs:List om},dG K F ks xs->sH K F xs
 |[],_,h,x,I=>by rw[show _=[]from h]at I;cases I|(k,d)::ks,_,⟨b,v,r,e,t,q,z⟩,x,I=>by
  subst e;rcases t_.mp I with rfl|I
  .exact t
  .exact dG.key z x I
theorem dG.length{K:Pn}{F:Hp}:∀{ks:List (cc×A3)} {xs:List om},dG K F ks xs->xs.length=ks.length
 |[],_,h=>by rw[show _=[]from h];rfl|(k,d)::ks,_,⟨b,v,r,e,t,q,z⟩=>by rw[e,Hl,Hl,dG.length z]
noncomputable def Es(ks:List (cc×A3))(k:cc):Option A3:=(ks.find? λp=>q_ (p.1=k)).map (·.2)
noncomputable def Gb(xs:List om)(k:cc):Option V:=(xs.find? λp=>q_ (p.1=k)).map (·.2.2)
def Di(ks:List (cc×A3))(k:cc)(d:A3):List (cc×A3):=if (Es ks k).isSome=d_ then ks.map (λp=>if p.1=k then(p.1,d)else p)else ks++[(k,d)]
noncomputable def putR(xs:List om)(k:cc)(b:e_)(v:V):List om:=if (Gb xs k).isSome=d_ then xs.map (λx=>if x.1=k then(x.1,x.2.1,v)else x)else xs++[(k,b,v)]
theorem AE(xs:List om)(k:cc)(b:e_)(v:V):(putR xs k b v).length<=xs.length+1:=by
 unfold putR;split
 .rw[A_];lia
 .rw[Hy];exact r_ _
theorem vx{k:cc}:∀{xs:List om} {vs:List (cc×e_×j_)},Kq oi xs vs->qC (Gb xs k) ((Me vs k).map (·.2))
 |_,_,.nil=>Iu|x::xs,q::vs,.cons h t=>by
  obtain⟨h1,h2,Y⟩:=h;by_cases e:x.1=k
  .have I:q.1=k:=h1.symm.trans e;simp only[Gb,Me,Ic,e,I,decide_true,K9];exact Y
  .have I:¬q.1=k:=λz=>e (h1.trans z);have:=vx (k:=k) t;simpa only[Gb,Me,Ic,e,I,NU] using this
theorem dG.at{K:Pn}{F:Hp}{k:cc}:∀{ks:List (cc×A3)} {xs:List om},dG K F ks xs->(Es ks k=c_/\Gb xs k=c_)\/∃d v,Es ks k=a_ d/\Gb xs k=a_ v/\aU K F d v
 |[],_,h=>by rw[show _=[]from h];exact .inl ⟨rfl,rfl⟩|(I,d)::ks,_,⟨b,v,r,e,t,q,z⟩=>by
  subst e;by_cases e:I=k
  .exact .inr ⟨d,v,by simp[Es,e],by simp[Gb,e],q⟩
  .have:=dG.at (k:=k) z;simpa only[Es,Gb,Ic,e,NU] using this
theorem dG.isSome{K:Pn}{F:Hp}{k:cc}{ks:List (cc×A3)}{xs:List om}(z:dG K F ks xs):(Gb xs k).isSome=(Es ks k).isSome:=by rcases z.at (k:=k)with⟨e1,e2⟩|⟨d,v,e1,e2,_⟩<;>rw[e1,e2]<;>rfl
theorem dG.repl{K:Pn}{F:Hp}{k:cc}{d:A3}{v:V}(q:aU K F d v):∀{ks:List (cc×A3)} {xs:List om},dG K F ks xs->dG K F (ks.map λp=>if p.1=k then(p.1,d)else p) (xs.map λx=>if x.1=k then(x.1,x.2.1,v)else x)
 |[],_,h=>by rw[show _=[]from h];rfl|(a,d')::ks,_,⟨b,I,r,e,t,Y,z⟩=>by
  subst e;rw[F_,F_];by_cases e:a=k
  .rw[f_ e,f_ e];exact⟨b,v,_,rfl,t,q,dG.repl q z⟩
  .rw[k_ e,k_ e];exact⟨b,I,_,rfl,t,Y,dG.repl q z⟩
theorem dG.snoc{K:Pn}{F:Hp}{k:cc}{b:e_}{d:A3}{v:V}(t:SqT K F b (k.map V.int))(q:aU K F d v):∀{ks:List (cc×A3)} {xs:List om},dG K F ks xs->dG K F (ks++[(k,d)]) (xs++[(k,b,v)])
 |[],_,h=>by rw[show _=[]from h];exact⟨b,v,[],rfl,t,q,rfl⟩|(c,d')::ks,_,⟨a,I,r,e,t',Y,z⟩=>by subst e;exact⟨a,I,_,rfl,t',Y,dG.snoc t q z⟩
def dG.put{k:cc}{d:A3}{xs:List om}(z:dG K F ks xs)(t:SqT K F b (k.map V.int))(q:aU K F d v):dG K F (Di ks k d) (putR xs k b v):=by
 unfold Di putR;rw[z.isSome];by_cases h:(Es ks k).isSome=d_
 .rw[f_ h,f_ h];exact z.repl q
 .rw[k_ h,k_ h];exact z.snoc t q
theorem xT{k:cc}{v:V}{u:j_}(I:A' v u):∀{xs:List om} {vs:List (cc×e_×j_)},Kq oi xs vs->Kq oi (xs.map λx=>if x.1=k then(x.1,x.2.1,v)else x) (vs.map (putAt k u))
 |_,_,.nil=>.nil|x::xs,q::vs,.cons h t=>by
  rw[F_,F_];refine .cons ?_ (xT I t);obtain⟨h1,h2,Y⟩:=h;unfold putAt;by_cases e:x.1=k
  .rw[f_ e,f_ (h1.symm.trans e)];exact⟨h1,h2,I⟩
  .rw[k_ e,k_ (λz=>e (h1.trans z))];exact⟨h1,h2,Y⟩
def rows_put{k:cc}(I:A' v u){xs:List om}{vs:List (cc×e_×j_)}(r:Kq oi xs vs):Kq oi (putR xs k b v) (PD vs k b u):=by
 have e:(Gb xs k).isSome=(Me vs k).isSome:=by rw[(vx r).yG,KQ]
 unfold putR PD;rw[e];by_cases h:(Me vs k).isSome=d_
 .rw[f_ h,f_ h];exact xT I r
 .rw[k_ h,k_ h];exact Ni r ⟨rfl,rfl,I⟩
theorem BD:∀{xs:List om} {vs:List (cc×e_×j_)},Kq oi xs vs->∀q∈vs,∃x∈xs,x.1=q.1/\x.2.1=q.2.1
 |_,_,.nil,_,h=>nomatch h
 |x::xs,q::vs,.cons h t,y,I=>by
  rcases t_.mp I with rfl|I
  .exact⟨x,am,h.1,h.2.1⟩
  .obtain⟨Y,h1,h2⟩:=BD t y I;exact⟨Y,by simp[h1],h2⟩
section
variable{xs:List om}{k:List Int}
def zD(I:A6 X A4 σ H s)(h:SqT X.K H b (k.map V.int)):(tKind X.prog X.w).is s.heap k b:=by obtain⟨A8,r,⟨o,h1,h2,n,Y⟩,_⟩:=I.tuple h;exact⟨o,A8.toArray,n,h1,h2,Y,by simpa using xw r⟩
def Ct(I:A6 X A4 σ H s)(e:H a=a_ (zx a xs ep)):oU s.heap a xs ep:=(show oU s.heap a xs ep/\_ from I.hok a _ e).1
def dic_at(I:A6 X A4 σ H s)(e:H a=a_ (zx a xs ep))(z:sH X.K H xs):∃vs,Kq oi xs vs/\(a==Ir)=b_/\xs.length<=h_/\s.heap.DictOfH (tKind X.prog X.w) a vs:=by
 obtain⟨vs,r,hd,d,c,o,es,h1,h2,g,f⟩:=Ct I e;refine⟨vs,r,hd,d,o,es,ep,h1,h2,g,f,λq b=>?_,c⟩
 obtain⟨x,Y,e1,e2⟩:=BD r q b;rw[<- e1,<- e2];exact zD I (z x Y)
def dic_ty(I:A6 X A4 σ H s)(e:H a=a_ (zx a xs ep)):s.TypeIs (.ref a) "dict"/\(∀b,D_ a=.ref b->∃Y,s.heap.get? b=a_ Y/\Y.dict=c_):=by obtain⟨_,_,_,_,_,o,_,h1,h2,_⟩:=Ct I e;exact⟨⟨o,h1,h2.1⟩,λc q=>by cases q;exact⟨o,h1,h2.2.1⟩⟩
def dicOk_of{vs:List (cc×e_×j_)}(dd:h.DictOfH (tKind P w) a vs)(r:Kq oi xs vs)(hd:(a==Ir)=b_)(I:xs.length<=h_):∃ep,oU h a xs ep:=by obtain⟨o,es,ep,h1,h2,c,b,_,Y⟩:=dd;exact⟨ep,vs,r,hd,I,Y,o,es,h1,h2,c,b⟩
end
def sPut(K:Pn)(td ty tv:TE):TS:=λD σ H=>tv σ H λv H1=>td σ H1 λx H2=>ty σ H2 λy I=>∃a b k xs ep,x=.ref a/\y=.ref b/\I a=a_ (zx a xs ep)/\sH K I xs/\SqT K I b (k.map V.int)/\xs.length<h_/\∀ep',D.nx σ (upd I a (zx a (putR xs k b v) ep'))
def tGet2(K:Pn)(td ty tx:TE):TE:=λσ H Q=>td σ H λx H1=>∃a xs ep,x=.ref a/\H1 a=a_ (zx a xs ep)/\ty σ H1 λy H2=>tx σ H2 λz I=>∃b k,y=.ref b/\I a=a_ (zx a xs ep)/\sH K I xs/\SqT K I b (k.map V.int)/\Q ((Gb xs k).getD z) I
def tNewK:TE:=λ_ H Q=>∀p,H p=c_->Q (.ref p) (upd H p (zx p [] 0))
section
variable{o i f:Ii}{ty tv tx:TE}
def GD(h:H_)(I:Ir<h.objs.size):oU (h.push {cls:=.type "dict",data:=.dict #[]}) h.objs.size [] 0:=
 ⟨[],.nil,Lk.mpr (HM (HC I)),HX _,Lr,_,#[],Cb _ rfl,⟨rfl,rfl,rfl⟩,rfl,rfl⟩
def Ak:PE X (.Dict [] [] pos) tNewK:=λA4 s σ H Q I h=>P6 ⟨.ref s.heap.objs.size,_,I.laid (a:=s.heap.objs.size) (o:=zx s.heap.objs.size [] 0) (t':=s.toks) (λ_ _ q=>l_ _ q) (r_ _) (GB (GD s.heap I.big)),rfl,h _ (I.hok.fresh (r_ _))⟩
def A6.dic{xs ys:List om}{t':Nat}(I:A6 X A4 σ H s)(e:H a=a_ (zx a xs ep))(Y:Kz a s.heap h')(z:oU h' a ys ep'):A6 X A4 σ (upd H a (zx a ys ep')) {s with heap:=h',toks:=t'}:=
 I.write (x:=a) (e:=a) (by rw[e];exact Iu) (.inl rfl) (λc q b w=>(Y.2 c b).trans w) (let ⟨_,_,_,_,_,o,_,w,_⟩:=z;⟨o,w⟩) (GB z)
theorem ps_put(F:X.A.units+1<IU)(K:PE X o td)(hi:PE X i ty)(hv:PE X value tv)(G:Jb value (a_ (.Subscript o i pos')) pos.line X.env=IQ b_):PS X (.Assign [.Subscript o i pos'] value pos) (sPut X.K td ty tv):=by
 intro A4 s σ H D I h;refine Ot (C6 (hv A4 s σ H _ I h) λr m Y=>?_) G;obtain⟨v,H1,P,q,B⟩:=Y;refine C6 (K A4 m σ H1 _ P B) λu l Y=>?_;obtain⟨x,H2,O,p,A⟩:=Y;refine C6 (hi A4 l σ H2 _ O A) λC Q Y=>?_;obtain⟨y,S,f,n,a,b,k,xs,ep,ex,N,j,L,t,R,w⟩:=Y;subst ex N;cases(show u=D_ a from p);cases(show C=D_ b from n);obtain⟨vs,g,hd,E,dd⟩:=dic_at f j L;have c:vs.length<=h_:=by rw[<- KR g];exact E
 refine Pa (hsz:=c) (Ke F) (zD f t) dd λh' e d=>?_;obtain⟨ep',z⟩:=dicOk_of e (rows_put q g) hd (by have:=AE xs k b v;lia);exact⟨σ,_,f.dic j d z,w ep'⟩
def pe_get2(A:X.A.units+1<IU)(C:PE X o td)(F:PE X e ty)(E:PE X f tx)(m:M2 X o "get" apos e f cpos):PE X (.Call (.Attribute o "get" apos) [e,f] [] cpos) (tGet2 X.K td ty tx):=by
 intro A4 s σ H Q I h;refine Py m.base m.few m.line MM JJ M4 (C6 (C A4 s σ H _ I h) λu i B=>?_);obtain⟨x,H1,d,n,a,xs,ep,ex,L,v⟩:=B;subst ex;cases(show u=D_ a from n);obtain⟨t1,t2⟩:=dic_ty d L;refine⟨t1,t2,?_⟩
 rw[m.trees];refine K8 rfl (Lq (JD (C6 (F A4 i σ H1 _ d v) λw g ⟨y,H2,N,l,r⟩=>JD (C6 (E A4 g σ H2 _ N r) λG P ⟨z,O,c,j,b,k,K,Y,D,t,q⟩=>KS ?_))))
 subst K;cases(show w=D_ b from l);obtain⟨vs,p,hd,R,dd⟩:=dic_at c Y D;exact Oy JJ dd.typeIs K5 (KY _ _ _) (Oe (tKind X.prog X.w) a b hd G) ⟨Ke A,k,vs,zD c t,dd,_,O,c.tok _,(vx p).getD j,q⟩
end
def keyD:A3->M cc
 |.tup ds=>kK ds|_=>stk
noncomputable def isDic:A3->Bool
 |.dic _=>d_|_=>b_
def Ge:A3->A3->A3->M A3
 |.dic ks,I,x=>(keyD I).bind λk=>.ok ((Es ks k).getD x)|_,_,_=>stk
def yO(fd fk fx:ai->M A3):ai->M A3:=λρ=>(fd ρ).bind λd=>if isDic d=d_ then(fk ρ).bind λk=>(fx ρ).bind λx=>Ge d k x else stk
def keyD_err{d:A3}{e:Err}(h:keyD d=.error e):e=.stuck:=by
 cases d with
 |tup ds=>exact nI h|_=>cases h;rfl
def keyD_at{d:A3}{k:cc}(h:keyD d=.ok k)(q:aU K F d v):∃b,v=.ref b/\SqT K F b (k.map V.int):=by
 cases d with
 |tup ds=>obtain⟨b,xs,e,t,z⟩:=q;have:=nH z h;subst this;exact⟨b,e,t⟩
 |_=>cases h
section
variable{W:eZ}{fd fx:ai->M A3}
theorem rd_getD(h:tD K W b_ (yO fd fk fx) σ H Q):tGet2 K (tD K W b_ fd) (tD K W b_ fk) (tD K W b_ fx) σ H Q:=by
 obtain⟨F,ρ,r,s,p⟩:=h;refine aT r s (λe j=>p.err (by unfold yO;rw[j];rfl)) λd hd x F1 H1 g C=>?_;have G:yO fd fk fx ρ=if isDic d=d_ then(fk ρ).bind λk=>(fx ρ).bind λx=>Ge d k x else stk:=by unfold yO;rw[hd];rfl
 rw[G]at p;cases d with
 |dic ks=>
  have p:aJ K W b_ F H ((fk ρ).bind λk=>(fx ρ).bind λx=>Ge (.dic ks) k x) Q:=p;obtain⟨a,xs,e,⟨ep,o⟩,z⟩:=C;refine⟨a,xs,ep,e,g.fh _ _ o,?_⟩
  refine aT (r.mono g.ff) g.fh (λe j=>(p.step g).err (by rw[j];rfl)) λm D y F2 H2 l B=>?_;rw[D]at p;have p:aJ K W b_ F H ((fx ρ).bind λx=>Ge (.dic ks) m x) Q:=p;have I:=g.trans l;refine aT (r.mono I.ff) I.fh (λe j=>(p.step I).err (by rw[j];rfl)) λc E w u L f A=>?_;rw[E]at p;have p:aJ K W b_ F H ((keyD m).bind λk=>.ok ((Es ks k).getD c)) Q:=p;cases Y:keyD m with
  |error e=>rw[Y]at p;have:=keyD_err Y;subst this;exact aJ.stuck p|ok k=>
   rw[Y]at p;obtain⟨b,rfl,t⟩:=keyD_at Y B;have i:=I.trans f;have n:=(z.mono l.ff).mono f.ff;refine⟨b,k,rfl,f.hh _ _ (l.hh _ _ (g.fh _ _ o)),n.key.mono f.fh,f.fh.tup (f.ff.tup t),p _ u L i ?_⟩
   show aU K u _ _;rcases n.at (k:=k)with⟨e1,e2⟩|⟨d,v,e1,e2,q⟩
   .rw[e1,e2];exact A
   simp_all
 |_=>exact aJ.stuck p
end
section
variable{W:eZ}{o ek ex:Ii}{fd fx:ai->M A3}
def de_newK:DE K W d_ X (.Dict [] [] pos) (fC (.dic [])):=Ak.imp λσ H Q h=>by obtain⟨F,ρ,r,s,q⟩:=h;exact λa I=>q (.ref a) F _ (A5.grow s I) ⟨a,[],rfl,⟨0,au⟩,s.free I,I,rfl⟩
theorem de_getD(f:X.A.units+64<IU)(Y:DE K W b_ X o fd)(c:DE K W b_ X ek fk)(b:DE K W b_ X ex fx)(e: ~~~(X.K=K))(d: ~~~(IZ o "get" X.env (Hv o X.env)=Hv o X.env))(hw: ~~~(((HQ cpos (i_ [ek,ex] X.env)).all (λx=> !x.1)&&(JH cpos (IK [] X.env)).all (λx=>x.1.isSome)&&q_ (([ek,ex]:List Ii).length+([]:List J0).length+(if ([]:List J0).isEmpty then 0 else 1)<30))=d_))(a: ~~~((apos.endLine==cpos.line)=d_))(I: ~~~(HQ cpos (i_ [ek,ex] X.env)=[(b_,Hv ek X.env),(b_,Hv ex X.env)])):DE K W b_ X (.Call (.Attribute o "get" apos) [ek,ex] [] cpos) (yO fd fk fx):=by subst e;exact(pe_get2 ad Y c b ⟨d,hw,a,I⟩).imp λ_ _ _=>rd_getD
end
section
open PySem
end
def GC(z:oU h l [] ep):(l==Ir)=b_/\h.DictOf (MA P w) l []:=by obtain⟨vs,r,hd,b,a,o,es,h1,h2,Y,I⟩:=z;cases r;obtain⟨es⟩:=es;cases(show es=[]from I);exact⟨hd,o,_,ep,h1,h2,Y,λi hi=>Ho hi am,.nil,.nil⟩
section
open PySem.W hiding kindOf
variable{key:Nat->Int}
def Srt(key:Nat->Int)(l:ce):Prop:=l.Pairwise λx y=>key x<=key y
def uR(st I:ND):Prop:=∃g,I=SortSt.mk' (kindOf st) (arrOf st) (Kw st) g (O0 st)
def uR.trans{a b c:ND}(h:uR a b)(k:uR b c):uR a c:=by obtain⟨g,rfl⟩:=h;obtain⟨g',rfl⟩:=k;exact⟨g',rfl⟩
def uR.kind{a b:ND}(h:uR a b):kindOf b=kindOf a:=by obtain⟨g,rfl⟩:=h;rfl
end
section
open PySem.W hiding kindOf
variable{f:Nat->Keyed}
structure SS(κ:SortKind)(f:Nat->Keyed)(n:Nat)(st:ND)(p:ce):Prop where
 kind:kindOf st=κ
 ok:O0 st=c_
 arr:arrOf st=(p.map f).toArray
 perm:p.Perm (Iw n)
end
section
open PySem.W hiding kindOf
variable{key:Nat->Int}
noncomputable def kG(key:Nat->Int)(p:ce)(i:Nat):Int:=key (p.getD i 0)
def Sg(key:Nat->Int)(p:ce)(lo hi:Nat):Prop:=∀i j,lo<=i->i<=j->j<hi->kG key p i<=kG key p j
def Dg(key:Nat->Int)(p:ce)(lo hi:Nat):Prop:=∀i j,lo<=i->i<=j->j<hi->kG key p j<=kG key p i
def Fx(lo:Nat)(p I:ce):Prop:=∀i,i<lo->I.getD i 0=p.getD i 0
theorem Fx.trans{lo:Nat}{p q r:ce}(h:Fx lo p q)(k:Fx lo q r):Fx lo p r:=λi hi=>(k i hi).trans (h i hi)
theorem Sg.step{p:ce}{m:Nat}(h:Sg key p lo (lo+m))(h1:1<=m)(c:¬kG key p (lo+m)<kG key p (lo+m-1)):Sg key p lo (lo+(m+1)):=λi j hi Y d=>by
 by_cases I:j<lo+m
 .exact h i j hi Y I
 .have b:j=lo+m:=ad
  subst b;by_cases a:i=lo+m
  .simp_all
  .have:=h i (lo+m-1) hi ad ad;lia
theorem Dg.step{p:ce}{m:Nat}(h:Dg key p lo (lo+m))(h1:1<=m)(c:kG key p (lo+m)<=kG key p (lo+m-1)):Dg key p lo (lo+(m+1)):=λi j hi Y d=>by
 by_cases I:j<lo+m
 .exact h i j hi Y I
 .have b:j=lo+m:=ad
  subst b;by_cases a:i=lo+m
  .simp_all
  .have:=h i (lo+m-1) hi ad ad;lia
end
section
open PySem.W hiding kindOf
variable{f:Nat->Keyed}{key:Nat->Int}
noncomputable def mkP:Nat->List (ce×Nat)->List (Nat×Nat×Nat)
 |_,[]=>[]|a,(l,w)::r=>(a,l.length,w)::mkP (a+l.length) r
noncomputable def flt(gs:List (ce×Nat)):ce:=(gs.map Prod.fst).flatten
def flt_cons(g:ce×Nat)(y:List (ce×Nat)):flt (g::y)=g.1++flt y:=by rfl
theorem Ax:∀(x:List (ce×Nat)) (a:Nat) (y:List (ce×Nat)),mkP a (x++y)=mkP a x++mkP (a+(flt x).length) y
 |[],a,y=>by rfl|(l,w)::x,a,y=>by
  show(a,l.length,w)::mkP (a+l.length) (x++y)=(a,l.length,w)::(mkP (a+l.length) x++_)
  rw[Ax x,flt_cons,Hy,P0]
theorem Aw:∀(x:List (ce×Nat)) (a:Nat),(mkP a x).length=x.length
 |[],_=>rfl|(l,w)::x,a=>by simp[mkP,Aw x]
structure RI(κ:SortKind)(f:Nat->Keyed)(key:Nat->Int)(n:Nat)(st:ND)(gs:List (ce×Nat))(rest:ce):Prop where
 ss:SS κ f n st (flt gs++rest)
 pd:Kw st=(mkP 0 gs).toArray
 ok:∀g∈gs,Srt key g.1/\0<g.1.length
theorem RI.size{st:ND}{gs:List (ce×Nat)}{rest:ce}(h:RI κ f key n st gs rest):(Kw st).size=gs.length:=by rw[h.pd];simp[Aw]
noncomputable def rePw(I:Nat):Nat×Nat×Nat->Nat×Nat×Nat
 |(s,l,_)=>(s,l,I)
theorem RI.last{st:ND}{gs:List (ce×Nat)}{rest:ce}{a:Nat}(h:RI κ f key n st gs rest):∃Y,Y.length=gs.length/\flt Y=flt gs/\RI κ f key n (setPending st ((Kw st).modify ((Kw st).size-1) (rePw a))) Y rest:=by
 by_cases e:gs=[]
 .subst e;refine⟨[],rfl,rfl,⟨h.ss.kind,h.ss.ok,h.ss.arr,h.ss.perm⟩,?_,h.ok⟩
  show(Kw st).modify ((Kw st).size-1) (rePw a)=_;rw[h.pd];rfl
 .obtain⟨I,b,o⟩:∃I b,gs=I++[b]:=⟨gs.dropLast,gs.getLast e,(List.dropLast_concat_getLast e).symm⟩
  subst o;obtain⟨b,k⟩:=b;have j:flt (I++[(b,a)])=flt (I++[(b,k)]):=by simp[flt]
  refine⟨I++[(b,a)],am,j,⟨h.ss.kind,h.ss.ok,?_,?_⟩,?_,λg m=>?_⟩
  .rw[j];exact h.ss.arr
  .rw[j];exact h.ss.perm
  .show(Kw st).modify ((Kw st).size-1) (rePw a)=_;rw[h.size,h.pd,Ax,Ax];have l:=Aw I 0;apply Array.ext_getElem?;intro i;rw[Array.getElem?_modify];simp only[Hy,NF,Nat.add_sub_cancel,Ll,mkP];by_cases c:I.length=i
   .subst c;rw[f_ rfl,<- l,Jf (r_ _),Jf (r_ _),Nat.sub_self];rfl
   .rw[k_ c];rcases Nat.lt_or_ge i I.length with d|d
    .rw[IA ad,IA ad]
    .rw[JR (by simp;lia),JR (by simp;lia)]
  .rcases HR.mp m with e|e
   .exact h.ok g (Ls _ e)
   .have:=Ik.mp e;subst this;exact h.ok (b,k) am
end
section
open PySem.W hiding kindOf
end
section
open PySem SetTable
end
section
open PySem
end
section
open PySem SetTable
end
section
open PySem.W
end
section
open PySem
variable{κ μ:Type}[DecidableEq κ][DecidableEq μ]
end
section
open PySem
end
section
open PySem.W
end
section
open PySem PySem.W
end
mutual
noncomputable def qY:A3->Bool
 |.tup ds=>qX ds|.lst ds=>qX ds|.ins _ _=>b_|.dic _=>b_|.dil _=>b_|_=>d_
noncomputable def qX:bv->Bool
 |[]=>d_|d::ds=>qY d&&qX ds
end
mutual
theorem aU.plain{K:Pn}{F F':Hp}(s:∀a xs,SqT K F a xs->SqT K F' a xs)(t:∀a xs,SqL K F a xs->SqL K F' a xs):∀{d:A3} {v:V},qY d=d_->aU K F d v->aU K F' d v
 |.non,_,_,h=>h|.bl _,_,_,h=>h|.int _,_,_,h=>h|.str _,_,_,h=>h|.tup ds,_,f,⟨a,xs,e,q,r⟩=>⟨a,xs,e,s _ _ q,aD.plain s t (by simpa[qY] using f) r⟩|.lst ds,_,f,⟨a,xs,e,q,r⟩=>⟨a,xs,e,t _ _ q,aD.plain s t (by simpa[qY] using f) r⟩|.ins _ _,_,f,_=>by simp_all[qY]|.dic _,_,f,_=>by simp_all[qY]|.dil _,_,f,_=>by simp_all[qY]
theorem aD.plain{K:Pn}{F F':Hp}(s:∀a xs,SqT K F a xs->SqT K F' a xs)(t:∀a xs,SqL K F a xs->SqL K F' a xs):∀{ds:bv} {xs:b9},qX ds=d_->aD K F ds xs->aD K F' ds xs
 |[],_,_,h=>h|d::ds,_,f,⟨v,vs,e,q,r⟩=>by simp only[qX,o_]at f;exact⟨v,vs,e,aU.plain s t f.1 q,aD.plain s t f.2 r⟩
end
section
open PySem PySem.W
end
structure B7 where
 f:e_
 c:j_
 A:JK
 o:List LY
 s:v_
 H:Hp
 E:XK
section
variable{base:H_}{q:m_}{ps:List m_}{k:Nat}{g:ai->M A9}
def YO(_:∃f fd,Def K mg x st ps f fd)(P:HY)(w:IF)(base:H_)(k:Nat)(ro:Bool)(m:bv->M A3):Prop:=∃f fd,Yd P w K mg base CX0 k x st ps (spF K ro m ps.length) f fd
def YX(_:∃f fd,Def K mg x st ps f fd)(P:HY)(w:IF)(base:H_)(k:Nat)(ro:Bool)(m:bv->M A3):Prop:=∃f fd,Yd P w K mg base (CXd P w) k x st ps (spX K ro m ps.length) f fd
def YM(_:∃f fd,Mth K C x q st ps f fd)(P:HY)(w:IF)(mg:Ld)(base:H_)(k:Nat)(ro:Bool)(m:bv->M A3):Prop:=∃f fd,Mth K C x q st ps f fd/\iS P w K mg base CX0 k f fd ps (spF K ro m ps.length)
def fY(N:b8){h:∃f fd,Def K mg x st ps f fd}(Y:∀z:B7,N.Nodup->iu k (z.A.deeper (JS x (aK st) z.s.heap.objs.size z.f z.c))->DSs K D' ro (Bb CX0 P w K mg base N x (aK st) z.f z.c z.A z.o z.s z.H z.E).nox [] [] [] (bY st) g)(S:autoParam (gM N ps (aK st)) Jq9):YO h P w base (k+1) ro (bH N.length ps.length g):=
 let ⟨f,fd,D⟩:=h
 ⟨f,fd,D,fn_D D.fn S ro g λc A o s H E I=>Y ⟨f,c,A,o,s,H,E⟩ S.nd I⟩
def fX(N:b8){h:∃f fd,Def K mg x st ps f fd}(Y:∀z:B7,N.Nodup->iu k (z.A.deeper (JS x (aK st) z.s.heap.objs.size z.f z.c))->DSs K (WE K z.E) ro (Bb (CXd P w) P w K mg base N x (aK st) z.f z.c z.A z.o z.s z.H z.E) [] [] [] (bY st) g)(S:autoParam (gM N ps (aK st)) Jq9):YX h P w base (k+1) ro (bH N.length ps.length g):=
 let ⟨f,fd,D⟩:=h
 ⟨f,fd,D,fn_X D.fn S ro g λc A o s H E I=>Y ⟨f,c,A,o,s,H,E⟩ S.nd I⟩
def fM(N:b8){h:∃f fd,Mth K C x q st ps f fd}(Y:∀z:B7,N.Nodup->iu k (z.A.deeper (JS q (aK st) z.s.heap.objs.size z.f z.c))->DSs K D' ro (Bb CX0 P w K mg base N q (aK st) z.f z.c z.A z.o z.s z.H z.E).nox [] [] [] (bY st) g)(S:autoParam (gM N ps (aK st)) Jq9):YM h P w mg base (k+1) ro (bH N.length ps.length g):=
 let ⟨f,fd,D⟩:=h
 ⟨f,fd,D,fn_D D.fn S ro g λc A o s H E I=>Y ⟨f,c,A,o,s,H,E⟩ S.nd I⟩
end
section
variable{W:eZ}{a b d:Ii}{f:ai->M A3}{fr:ai->M (List A3)}
def dY{j k:Nat}{ps:b8}{g:ai->M A9}(Y:∃f fd,Yd X.prog X.w X.K X.mg X.base CX0 k x st ps (spF K ro (bH nN n g) n) f fd)(c:iu j X.A)(i:DA K D' X (e::es) fr)(d:(k<=j)⁻¹)(h: ~~~(Gl X x))(b:((x==("__debug__":m_))=b_)⁻¹)(I: ~~~(i_ (e::es) X.env=(b_,Hv e X.env)::i_ es X.env))(a: ~~~((HQ pos (i_ es X.env)).any (·.1)=b_)):
  DE K D' ro X (.Call (.Name x p) (e::es) [] pos) (fL (bH nN n g) fr):=let ⟨_,_,Y⟩:=Y;de_call Y.o (c.mono d) Y.d.mg Y.d.fn.kp Y.d.bd i h b I a
def da1(Y:DE K W b_ X a fa)(I: ~~~(i_ [a] X.env=[(b_,Hv a X.env)])):DA K W X [a] (aa fa aB):=aX Y eG I
def da2(d:DE K W b_ X a fa)(c:DE K W b_ X b fb)(Y: ~~~(i_ [a,b] X.env=[(b_,Hv a X.env),(b_,Hv b X.env)]))(I: ~~~(i_ [b] X.env=[(b_,Hv b X.env)])):DA K W X [a,b] (aa fa (aa fb aB)):=aX d (da1 c I) (by rw[Y,I])
def da3{f1 f2:ai->M A3}(h1:DE K W b_ X e1 f1)(h2:DE K W b_ X e2 f2)(b:DE K W b_ X e3 f3)(a: ~~~(i_ [e1,e2,e3] X.env=(b_,Hv e1 X.env)::i_ [e2,e3] X.env))(Y: ~~~(i_ [e2,e3] X.env=(b_,Hv e2 X.env)::i_ [e3] X.env))(I: ~~~(i_ [e3] X.env=(b_,Hv e3 X.env)::i_ [] X.env)):DA K W X [e1,e2,e3] (aa f1 (aa f2 (aa f3 aB))):=(aX h1 (aX h2 (aX b eG I) Y) a)
def da4{f1 f2 f4:ai->M A3}(h1:DE K W b_ X e1 f1)(h2:DE K W b_ X e2 f2)(d:DE K W b_ X e3 f3)(c:DE K W b_ X e4 f4)(b: ~~~(i_ [e1,e2,e3,e4] X.env=(b_,Hv e1 X.env)::i_ [e2,e3,e4] X.env))(a: ~~~(i_ [e2,e3,e4] X.env=(b_,Hv e2 X.env)::i_ [e3,e4] X.env))(Y: ~~~(i_ [e3,e4] X.env=(b_,Hv e3 X.env)::i_ [e4] X.env))(I: ~~~(i_ [e4] X.env=(b_,Hv e4 X.env)::i_ [] X.env)):DA K W X [e1,e2,e3,e4] (aa f1 (aa f2 (aa f3 (aa f4 aB)))):=(aX h1 (aX h2 (aX d (aX c eG I) Y) a) b)
def da5{f1 f2 f4:ai->M A3}(h1:DE K W b_ X e1 f1)(h2:DE K W b_ X e2 f2)(f:DE K W b_ X e3 f3)(e:DE K W b_ X e4 f4)(d:DE K W b_ X e5 f5)(c: ~~~(i_ [e1,e2,e3,e4,e5] X.env=(b_,Hv e1 X.env)::i_ [e2,e3,e4,e5] X.env))(b: ~~~(i_ [e2,e3,e4,e5] X.env=(b_,Hv e2 X.env)::i_ [e3,e4,e5] X.env))(a: ~~~(i_ [e3,e4,e5] X.env=(b_,Hv e3 X.env)::i_ [e4,e5] X.env))(Y: ~~~(i_ [e4,e5] X.env=(b_,Hv e4 X.env)::i_ [e5] X.env))(I: ~~~(i_ [e5] X.env=(b_,Hv e5 X.env)::i_ [] X.env)):DA K W X [e1,e2,e3,e4,e5] (aa f1 (aa f2 (aa f3 (aa f4 (aa f5 aB))))):=(aX h1 (aX h2 (aX f (aX e (aX d eG I) Y) a) b) c)
def da6{I:Ii}{f1 f2 f4 Y:ai->M A3}(h1:DE K W b_ X e1 f1)(h2:DE K W b_ X e2 f2)(j:DE K W b_ X e3 f3)(i:DE K W b_ X e4 f4)(h:DE K W b_ X e5 f5)(g:DE K W b_ X I Y)(f: ~~~(i_ [e1,e2,e3,e4,e5,I] X.env=(b_,Hv e1 X.env)::i_ [e2,e3,e4,e5,I] X.env))(e: ~~~(i_ [e2,e3,e4,e5,I] X.env=(b_,Hv e2 X.env)::i_ [e3,e4,e5,I] X.env))(d: ~~~(i_ [e3,e4,e5,I] X.env=(b_,Hv e3 X.env)::i_ [e4,e5,I] X.env))(c: ~~~(i_ [e4,e5,I] X.env=(b_,Hv e4 X.env)::i_ [e5,I] X.env))(b: ~~~(i_ [e5,I] X.env=(b_,Hv e5 X.env)::i_ [I] X.env))(a: ~~~(i_ [I] X.env=(b_,Hv I X.env)::i_ [] X.env)):DA K W X [e1,e2,e3,e4,e5,I] (aa f1 (aa f2 (aa f3 (aa f4 (aa f5 (aa Y aB)))))):=(aX h1 (aX h2 (aX j (aX i (aX h (aX g eG a) b) c) d) e) f)
def bF(c:X.N.Nodup)(b:DE K W b_ X e f)(hi: ~~~(X.N[i]?=a_ x))(I:autoParam (Loc X.env.scope x) Jq6)(Y: ~~~(Jb e (a_ (.Name x pos')) pos.line X.env=IQ b_))(a:autoParam (X.fn x=d_\/X.env.scope.names.lookup x=a_ .local) Jq3):
  DS K W ro X OL O (aft b_ i O) (.Assign [.Name x pos'] e pos) (aV O i f):=w9 c b hi I Y a
def AV(c:X.N.Nodup)(b:DE K W d_ X e f)(hi: ~~~(X.N[i]?=a_ x))(I:autoParam (Loc X.env.scope x) Jq6)(Y: ~~~(Jb e (a_ (.Name x pos')) pos.line X.env=IQ b_))(a:autoParam (X.fn x=d_\/X.env.scope.names.lookup x=a_ .local) Jq3):
  DS K W ro X OL O (aft d_ i O) (.Assign [.Name x pos'] e pos) (aV O i f):=w9 c b hi I Y a
end
section
variable{q:m_}{ps:List m_}{an:Option e_}{kV:j_}
def dF(Y:K.In h)(G:h.Ns HG mg)(a:autoParam (OY K HG x=a_ (a_ (.ref f))) Jq2)(l:autoParam (K.lookup f=a_ ⟨oc,od,.func (Ma x x (eu st) (bY st) (aK st) .none kV doc pm an cdv ct),osl⟩) Jq2)(c:autoParam (MV K cdv x=d_) Jq2)(k:autoParam (Ju K (.ref f)=d_) Jq2)(I:autoParam (∀(kV doc pm:j_) (an:Option e_) (cdv ct:j_) (us:ci),us.length=ps.length->LP (Ma x x (eu st) (bY st) (aK st) .none kV doc pm an cdv ct) ⟨us,[]⟩=IQ (ps.zip us)) Jq11):∃f fd,Def K mg x st ps f fd:=⟨_,_,def_of Y G a l c k I⟩
def mF(a:autoParam (Hq K (.ref C) x=a_ (a_ (.ref f))) Jq2)(i:autoParam (isFn K (.ref f)=d_) Jq2)(l:autoParam (K.lookup f=a_ ⟨oc,od,.func (Ma x q (eu st) (bY st) (aK st) .none kV doc pm an cdv ct),osl⟩) Jq2)(c:autoParam (MV K cdv q=d_) Jq2)(k:autoParam (Ju K (.ref f)=d_) Jq2)(I:autoParam (∀(kV doc pm:j_) (an:Option e_) (cdv ct:j_) (us:ci),us.length=ps.length->LP (Ma x q (eu st) (bY st) (aK st) .none kV doc pm an cdv ct) ⟨us,[]⟩=IQ (ps.zip us)) Jq11):∃f fd,Mth K C x q st ps f fd:=⟨_,_,mth_of a i l c k I⟩
def kF(i:K.In h)(G:h.Ns HG mg)(a:autoParam (OY K HG x=a_ (a_ (.ref C))) Jq2)(b:autoParam (MD K C Jw=d_) Jq2)(hd:autoParam (JN K C=d_) Jq2)(Y:autoParam (Oi K C=d_) Jq2)(I:autoParam (Hq K (.ref C) "__setattr__"=a_ (a_ (.builtin "object.__setattr__"))) Jq2)(mk:autoParam (OA K C=d_) Jq2)(c:autoParam (Ju K (.ref C)=d_) Jq2)(g:autoParam (Hq K (.ref C) "__class__"=a_ (a_ (.builtin "object.__class__"))) Jq2)(f:autoParam (LX K (.builtin "object.__class__") "__get__"=a_ (a_ (.builtin "getset_descriptor.__get__"))) Jq2)(e:autoParam (PL K (.builtin "object.__class__")=a_ d_) Jq2)(d:autoParam (JI K C (.type "object")=a_ d_) Jq2):Kls K mg x C:=kls_of i G a b hd Y I mk c g f e d
def xF(d:K.In h)(G:h.Ns HG mg)(a:autoParam (OY K HG x=a_ (a_ (.ref C))) Jq2)(i:autoParam (Hq K (.ref C) "__init__"=a_ (a_ (.ref f))) Jq2)(ex:autoParam (pA K C [.type "ValueError",.type "Exception",.type "BaseException",.type "object"] "ValueError.__new__" f=d_) Jq8)(b:autoParam (Hq K (.ref C) "__getattribute__"=a_ (a_ (.builtin "BaseException.__getattribute__"))) Jq2)(c:autoParam (Hq K (.ref C) "__class__"=a_ (a_ (.builtin "object.__class__"))) Jq2)(Y:autoParam (Hq K (.ref C) "__getattr__"=a_ c_) Jq2)(bs:autoParam (JI K C (.type "BaseException")=a_ d_) Jq2)(I:autoParam (JI K C (.type "object")=a_ d_) Jq2)(is:autoParam ((MW K C).isSome=d_) Jq8):XTry K mg x C:=
 ⟨mg_of d G a,xnamed2 ex,⟨b,c,Y,bs,I,Jm.mp is⟩⟩
def xM(Y:K.In h)(G:h.Ns HG mg)(N:∃f fd,Mth K C "__init__" q st ps f fd)(a:autoParam (OY K HG x=a_ (a_ (.ref C))) Jq2)(i:autoParam (Hq K (.ref C) "__init__"=a_ (a_ (.ref f))) Jq2)(ex:autoParam (pA K C [.type "ValueError",.type "Exception",.type "BaseException",.type "object"] "ValueError.__new__" f=d_) Jq8)(fn:autoParam (isFn K (.ref f)=d_) Jq2)(I:autoParam (Ju K (.ref C)=d_) Jq2):∃f fd,Mth K C "__init__" q st ps f fd/\XMk K mg x C f:=by obtain⟨b,fd,M⟩:=N;have e:=M.mt.1.symm.trans i;cases e;exact⟨_,fd,M,mg_of Y G a,ex,Ku.mp fn,I⟩
def lF{y:m_}(b:K.In h)(G:h.Ns HG mg)(a:autoParam (OY K HG x=a_ (a_ (.ref f))) Jq2)(l:autoParam (K.lookup f=a_ ⟨oc,od,.func (Ma x x (eu st) (bY st) (aK st) .none kV doc pm an cdv ct),osl⟩) Jq2)(c:autoParam (MV K cdv x=d_) Jq2)(k:autoParam (Ju K (.ref f)=d_) Jq2)(I:∀(kV doc pm:j_) (an:Option e_) (cdv ct:j_) (v:j_),LP (Ma x x (eu st) (bY st) (aK st) .none kV doc pm an cdv ct) ⟨[v],[]⟩=IQ [(y,v)]:=by intros;rfl):∃f fd,Def K mg x st [y] f fd/\∀(s:v_) (v:j_),LZ s fd ⟨[v],[]⟩ [(y,v)]:=
 ⟨_,_,def_of b G a l c k λ_ _ _ _ _ _ us Y=>match us,Y with|[_],_=>I ..,λ_ _=>.of_eq (I ..)⟩
theorem Fun.uniq{fd':Je}(a:Fun K x q st f fd)(b:Fun K x q st f fd'):fd=fd':=by obtain⟨oc,od,kV,doc,pm,an,cdv,ct,osl,rfl,l,_⟩:=a.ex;obtain⟨g,e,i,Y,d,k,c,j,I,rfl,h,_⟩:=b.ex;lia
def rS{mc:j_}(N:∃f fd,Mth K C x q st ps f fd)(a:autoParam (Hq K (.ref C) x=a_ (a_ (.ref f))) Jq2)(c:autoParam (LX K (.ref C) "__getattribute__"=a_ (a_ (.builtin "type.__getattribute__"))) Jq8)(b:autoParam (Oh K C mc=d_) Jq8)(Y:autoParam (Oj K (.ref C) mc x=a_ (.val (.ref f))) Jq8)(I:autoParam (Ju K (.ref f)=d_) Jq2):∃f fd,Mth K C x q st ps f fd/\Stat K C mc x f:=by obtain⟨d,fd,M⟩:=N;have e:=M.mt.1.symm.trans a;cases e;exact⟨_,fd,M,c,b,Y,I⟩
end
def gR:bv->M b8
 |[]=>.ok []|.str x::ds=>(gR ds).bind λr=>.ok (x::r)|_::_=>stk
@[simp]def e_strs0:gR []=.ok []:=id rfl
@[simp]def e_strs1(x:m_)(ds:bv):gR (.str x::ds)=(gR ds).bind λr=>.ok (x::r):=id rfl
noncomputable def isS:A3->Bool
 |.str _=>d_|_=>b_
def nE:A3->A3->M A3
 |.str I,.lst ds=>(gR ds).bind λxs=>if (xs.map (·.length)).sum+xs.length*I.length<=h_ then .ok (.str (Iy I xs))else stk
 |_,_=>stk
@[simp]def e_joinD(I:m_)(ds:bv):nE (.str I) (.lst ds)=(gR ds).bind λxs=>if (xs.map (·.length)).sum+xs.length*I.length<=h_ then .ok (.str (Iy I xs))else stk:=id rfl
def fSM(g:A3->A3->M A3)(fo fe:ai->M A3):ai->M A3:=λρ=>(fo ρ).bind λa=>if isS a=d_ then(fe ρ).bind λb=>g a b else stk
@[simp]def e_fSM(g:A3->A3->M A3)(fo fe:ai->M A3)(ρ:ai):fSM g fo fe ρ=(fo ρ).bind λa=>if isS a=d_ then(fe ρ).bind λb=>g a b else stk:=id rfl
@[simp]def e_isS(x:m_):isS (.str x)=d_:=id rfl
def rSM(K:Pn)(W:eZ)(own:Bool)(g:A3->A3->M A3):V->b9->Hp->VK->Prop:=λx vs H Q=>∃F z b y,aM F H/\x=.str z/\vs=[y]/\aU K F b y/\aJ K W own F H (g (.str z) b) Q
theorem uy{M:Mf}{A:JK}{E:Mq}{Q R:m_->v_->Prop}:∀{ps:List (PQ j_)} {I:m_} {s:v_},Joins M A E ps I Q s->(∀z s,Q z s->R z s)->Joins M A E ps I R s
 |[],I,s,h,k=>k _ _ h|x::ps,I,s,h,k=>HU h (λv Y ⟨y,t,e,l,q⟩=>⟨y,t,e,l,uy q k⟩) λ_ _ z=>z
section
variable{W:eZ}{own:Bool}{o:Ii}{fo:ai->M A3}{name:m_}{id:String}
def oQ(u:MtR X id (rSM X.K W own g))(d:Slot "str" name id)(k:typeOf (.builtin id)=IQ (.type "method_descriptor"))(t:DE K W b_ X o fo)(i:DE K W b_ X e fe)(A: ~~~(X.K=K))(c: ~~~(IZ o name X.env (Hv o X.env)=Hv o X.env))(f: ~~~(((HQ cpos (i_ [e] X.env)).all (λx=> !x.1)&&(JH cpos (IK [] X.env)).all (λx=>x.1.isSome)&&q_ ([e].length+([]:List J0).length+(if ([]:List J0).isEmpty then 0 else 1)<30))=d_))(Y: ~~~((apos.endLine==cpos.line)=d_))(m: ~~~(i_ [e] X.env=(b_,Hv e X.env)::i_ [] X.env))(I: ~~~((HQ cpos (i_ [] X.env)).any (·.1)=b_)):
  DE K W own X (.Call (.Attribute o name apos) [e] [] cpos) (fSM g fo fe):=by
 subst A;refine PE.imp (pG PySem.F.plainAttrs_str d k u t (ax i aP (by rw[m])) c f Y m I) λσ H Q h=>?_;obtain⟨F,ρ,r,s,p⟩:=h;refine aT r s (λe i=>p.err (by unfold fSM;rw[i];rfl)) λa w x F1 H1 j q=>?_;have B:fSM g fo fe ρ=if isS a=d_ then(fe ρ).bind λb=>g a b else stk:=by unfold fSM;rw[w];rfl
 rw[B]at p;have p:=p.step j;cases a with
 |str z=>
  have p:aJ X.K W own F1 H1 ((fe ρ).bind λb=>g (.str z) b) Q:=p;cases(show x=V.str z from q);refine⟨rfl,?_⟩
  refine aT (r.mono j.ff) j.fh (λe i=>p.err (by rw[i];rfl)) λb v y F2 H2 l n=>?_;rw[v]at p;exact⟨F2,z,b,y,l.fh,rfl,rfl,n,p.step l⟩
 |_=>exact aJ.stuck p
theorem qL{F:Hp}:∀{ds:bv} {xs:b9} {I:b8},aD K F ds xs->gR ds=.ok I->xs=I.map V.str
 |[],_,_,q,e=>by cases e;exact q|d::ds,_,I,⟨v,vs,e1,q,r⟩,e=>by
  cases d with
  |str z=>
   cases e2:gR ds with
   |error x=>simp_all[gR]|ok r2=>rw[gR,e2]at e;cases e;rw[e1,qL r e2,show v=.str z from q];rfl
  |_=>cases e
theorem qM:∀{ds:bv} {e:Err},gR ds=.error e->e=.stuck
 |[],_,h=>by cases h|d::ds,e,h=>by
  cases d with
  |str z=>
   cases e2:gR ds with
   |error x=>rw[gR,e2]at h;cases h;exact qM e2|ok r2=>simp_all[gR]
  |_=>cases h;rfl
theorem qF:∀{I:b8} {us:ci},B' (I.map V.str) us->∃l:List (m_×OM),us=JZ l/\l.map (·.1)=I
 |[],_,.nil=>⟨[],rfl,rfl⟩|x::I,_,.cons r rs=>by
  obtain⟨t,rfl⟩:=(show ∃t,_=IM x t from r)
  obtain⟨l,rfl,e⟩:=qF rs;exact⟨(x,t)::l,rfl,bb⟩
theorem kA:MtR X "str.join" (rSM X.K W own nE):=by
 intro A4 s σ H x vs v us Q I i j h;obtain⟨F,Y,b,y,g,rfl,rfl,m,p⟩:=h;obtain⟨u,rfl,k⟩:=j.one;obtain⟨t,rfl⟩:=(show ∃t,v=IM Y t from i)
 cases b with
 |lst ds=>
  obtain⟨l,xs,rfl,q,z⟩:=m;cases k;cases e1:gR ds with
  |error e=>rw[nE,e1]at p;rw[qM e1]at p;exact aJ.stuck p|ok d=>
   rw[nE,e1]at p;have p:aJ X.K W own F H (if (d.map (·.length)).sum+d.length*Y.length<=h_ then .ok (.str (Iy Y d))else stk) Q:=p;have n:=qL z e1;subst n;obtain⟨A8,r,pl,o⟩:=I.list (g.lst q);obtain⟨L,rfl,rfl⟩:=qF r;by_cases f:((L.map (·.1)).map (·.length)).sum+(L.map (·.1)).length*Y.length<=h_
   .rw[f_ f]at p;have a:=p.str g;refine Mn Io (Lv _ _ _) PySem.F.entry_str_join (PySem.F.args_str_join_2 _ _) (meets_str_join_list Y t l L (by rw[StrLaws.joinTotal];exact p9 (MZ.mpr f))) ⟨pl.isList,?_⟩;have c:(Builtin.Str.glued Y (L.map (·.1))).length<=h_:=by
     rw[size_glued];have:=N7 Y.length (Nat.sub_le (L.map (·.1)).length 1);lia
    have e:=StrLaws.glued_eq_join Y (L.map (·.1))
    match L,a,c,e with
    |[],a,c,e=>exact⟨c,.str _,H,I.tok _,⟨_,rfl⟩,by rw[e];exact a⟩|[p],a,_,_=>exact⟨.str _,H,I,⟨_,rfl⟩,a⟩|p1::p2::L,a,c,e=>exact⟨c,.str _,H,I.tok _,⟨_,rfl⟩,by rw[e];exact a⟩
   .rw[k_ f]at p;exact aJ.stuck p
 |_=>exact aJ.stuck p
noncomputable def d7(i:Int):m_:=toString i
def ES:bv->M A3
 |[.int i]=>if i.natAbs.log2<1920 then .ok (.str (d7 i))else stk
 |_=>stk
@[simp]def e_strD(i:Int):ES [.int i]=if i.natAbs.log2<1920 then .ok (.str (d7 i))else stk:=_root_.id rfl
def Ef:pV K W own X (.type "str") ES:=zg.imp λxs H Q h=>by
 obtain⟨F,d,x,s,e,q,p⟩:=m7 (λds=>by match ds with|[d]=>exact .inl ⟨d,rfl⟩|[]=>exact .inr rfl|a::b::c=>exact .inr (by cases a<;>rfl)) h;cases d with
 |int i=>
  have p:aJ K W own F H (if i.natAbs.log2<1920 then .ok (.str (d7 i))else stk) Q:=p;by_cases I:i.natAbs.log2<1920
  .rw[f_ I]at p;exact⟨i,by rw[e,show x=.int i from q],I,p.str s⟩
  .rw[k_ I]at p;exact aJ.stuck p
 |_=>exact aJ.stuck p
def uz:A3->A3->M A3
 |.str z,.int i=>if z.length<=h_ then(match atI z.cps.toList i with
  |some c=>.ok (.str ⟨#[c]⟩)|none=>stk)else stk
 |_,_=>stk
def oo:IxR X (rD2 K W own uz):=ix_str.imp λx y H Q h=>by
 obtain⟨F,a,b,s,e,d,p⟩:=h;cases a with
 |str z=>cases b with
  |int i=>
   have p:aJ K W own F H (if z.length<=h_ then(match atI z.cps.toList i with
    |some c=>.ok (.str ⟨#[c]⟩)|none=>stk)else stk) Q:=p
   by_cases I:z.length<=h_
   .rw[f_ I]at p;cases Y:atI z.cps.toList i with
    |none=>rw[Y]at p;exact aJ.stuck p|some c=>rw[Y]at p;exact⟨z,i,c,e,d,I,Y,p.str s⟩
   .rw[k_ I]at p;exact aJ.stuck p
  |_=>exact aJ.stuck p
 |_=>exact aJ.stuck p
def oO:A3->M A3
 |.int i=>if i.natAbs.log2<1920 then .ok (.str (d7 i))else stk
 |.str z=>if z.length<=h_ then .ok (.str z)else stk
 |_=>stk
@[simp]def e_fmtI(i:Int):oO (.int i)=if i.natAbs.log2<1920 then .ok (.str (d7 i))else stk:=_root_.id rfl
@[simp]def e_fmtS(z:m_):oO (.str z)=if z.length<=h_ then .ok (.str z)else stk:=_root_.id rfl
def sj(b:DE K W b_ X e fe):DE K W own X (.FormattedValue e (-1) c_ pos) (f1 oO fe):=by
 intro A4 s σ H Q I h;obtain⟨F,ρ,r,k,p⟩:=h;refine wpAny_FormattedValue_plain (C6 (b A4 s σ H (λv H1=>∃a F1,fe ρ=.ok a/\A5 F H F1 H1/\aU K F1 a v) I (aT r k (λe b=>p.err (by show(fe ρ).bind oO=_;rw[b];rfl)) λa c v F1 H1 f l=>⟨a,F1,c,f,l⟩)) λv f m=>?_);obtain⟨x,H1,d,g,a,F1,c,st,q⟩:=m;have p:aJ K W own F H (oO a) Q:=by have p:aJ K W own F H ((fe ρ).bind oO) Q:=p;rw[c]at p;exact p
 have p:=p.step st;cases a with
 |int i=>
  have p:aJ K W own F1 H1 (if i.natAbs.log2<1920 then .ok (.str (d7 i))else stk) Q:=p;cases(show x=V.int i from q);obtain⟨t,rfl⟩:=(show ∃t,v=Im i t from g)
  by_cases Y:i.natAbs.log2<1920
  .rw[f_ Y]at p;exact wpAny_formatField_int Y ⟨.str (d7 i),H1,(d.tok _).tok _,⟨_,rfl⟩,p.str st.fh⟩
  .rw[k_ Y]at p;exact aJ.stuck p
 |str z=>
  have p:aJ K W own F1 H1 (if z.length<=h_ then .ok (.str z)else stk) Q:=p;cases(show x=V.str z from q);obtain⟨t,rfl⟩:=(show ∃t,v=IM z t from g)
  by_cases Y:z.length<=h_
  .rw[f_ Y]at p;have j:=p.str st.fh;exact wpAny_formatField_str ⟨.str z,H1,d,⟨_,rfl⟩,j⟩ ⟨.str z,H1,d.tok _,⟨_,rfl⟩,j⟩ Y
  .rw[k_ Y]at p;exact aJ.stuck p
 |_=>exact aJ.stuck p
def pM(fs:List (ai->M A3))(ρ:ai):m_->M m_:=match fs with
 |[]=>λI=>.ok I|f::fs=>λI=>(f ρ).bind λd=>match d with
  |.str z=>if (I++z).length<=h_ then pM fs ρ (I++z)else stk
  |_=>stk
def fJ(fs:List (ai->M A3)):ai->M A3:=λρ=>(pM fs ρ Jw).bind λz=>.ok (.str z)
def tJ(K:Pn)(W:eZ)(fs:List (ai->M A3))(I:m_)(σ:St)(H:Hp)(Q:m_->Hp->Prop):Prop:=∃F ρ,ee K F σ ρ/\aM F H/\(match pM fs ρ I with
 |.ok z=>∀F' H',A5 F H F' H'->Q z H'|.error e=>W.p e F H)
def DJ(K:Pn)(W:eZ)(X:Cx)(es:List Ii)(fs:List (ai->M A3)):Prop:=∀(A4:Vp) (s:v_) (σ:St) (H:Hp) (I:m_) (Q:m_->Hp->Prop),I.length<=h_->A6 X A4 σ H s->tJ K W fs I σ H Q ->
 Joins (C_ X.prog X.w) X.A X.xe (OX es X.env) I (λout Y=>out.length<=h_/\∃H1,A6 X A4 σ H1 Y/\Q out H1) s
def GA(a: ~~~(OX [] X.env=[])):DJ K W X [] []:=λA4 s σ H c Q b I ⟨F,ρ,r,Y,p⟩=>by rw[a];exact⟨b,H,I,p F H (A5.refl Y)⟩
def gK{fs:List (ai->M A3)}(f:DE K W b_ X e fe)(l:DJ K W X es fs)(k: ~~~(OX (e::es) X.env=Hv e X.env::OX es X.env)):DJ K W X (e::es) (fe::fs):=λA4 s σ H Y Q g I ⟨F,ρ,r,h,p⟩=>by
 rw[k];have p:(match (fe ρ).bind (λd=>match d with
  |.str z=>if (Y++z).length<=h_ then pM fs ρ (Y++z)else stk
  |_=>stk)with
  |.ok z=>∀F' H',A5 F H F' H'->Q z H'|.error e=>W.p e F H):=p
 refine C6 (f A4 s σ H (λv H1=>∃a F1,fe ρ=.ok a/\A5 F H F1 H1/\aU K F1 a v) I (aT r h (λe f=>by rw[f]at p;exact p) λa g v F1 H1 c j=>⟨a,F1,g,c,j⟩)) λv c m=>?_;obtain⟨x,H1,o,i,a,F1,n,st,q⟩:=m;rw[n]at p;cases a with
 |str z=>
  cases(show x=V.str z from q);obtain⟨t,rfl⟩:=(show ∃t,v=IM z t from i)
  have p:(match (if (Y++z).length<=h_ then pM fs ρ (Y++z)else stk)with
   |.ok z=>∀F' H',A5 F H F' H'->Q z H'|.error e=>W.p e F H):=p
  by_cases b:(Y++z).length<=h_
  .rw[f_ b]at p;refine⟨z,t,rfl,b,l A4 c σ H1 (Y++z) Q b o ⟨F1,ρ,r.mono st.ff,st.fh,?_⟩⟩
   cases e1:pM fs ρ (Y++z)with
   |ok y=>rw[e1]at p;exact λF' H' s'=>p F' H' (st.trans s')|error e=>rw[e1]at p;exact W.mono p st
  .rw[k_ b]at p;exact(W.ns p).elim
 |_=>exact(W.ns p).elim
def AY{fs:List (ai->M A3)}(h:DJ K W X (e1::e2::es) fs):DE K W own X (.JoinedStr (e1::e2::es) pos) (fJ fs):=by
 intro A4 s σ H Q I ⟨F,ρ,r,Y,p⟩;have p:aJ K W own F H ((pM fs ρ Jw).bind λz=>.ok (.str z)) Q:=p;refine wpAny_JoinedStr ?_;refine uy (h A4 s σ H Jw (λz H1=>Q (.str z) H1) a8 I ⟨F,ρ,r,Y,?_⟩) λout c ⟨a,H1,b,q⟩=>⟨a,.str out,H1,b.tok _,⟨_,rfl⟩,q⟩
 cases e1:pM fs ρ Jw with
 |ok z=>rw[e1]at p;exact λF' H' s'=>(p.step s').str s'.fh|error e=>rw[e1]at p;exact p
end
def newS(C:e_)(g:bv->M A3):bv->M A3
 |[.lst a,I,.lst d1,.lst d2,.lst Y]=>(g [.lst a,I,.lst d1,.lst d2,.lst Y]).bind λt=>match t with
  |.str z=>.ok (.ins C [("kinds",.lst a),("rules",I),("names",.lst d1),("flights",.lst d2),("closed",.lst Y),("text",.str z)])|_=>stk
 |_=>stk
def spIS(K:Pn)(C:e_)(g:bv->M A3):Sp:=λvs H Q _=>∃(p dx m b1 b2 b3:e_) (d:V) (b a Y I:b9) (F:Hp) (l d1 d2 k:bv) (j:A3) (z:m_),
 vs=[.ref p,.ref m,d,.ref b1,.ref b2,.ref b3]/\H p=a_ (.ins C dx [])/\F p=c_/\aM F H/\(SqL K F m b/\aD K F l b)/\aU K F j d/\(SqL K F b1 a/\aD K F d1 a)/\(SqL K F b2 Y/\aD K F d2 Y)/\(SqL K F b3 I/\aD K F k I) /\
 g [.lst l,j,.lst d1,.lst d2,.lst k]=.ok (.str z)/\∀(i h f e:e_) (H':Hp),(∀c o,H c=a_ o->c≠p->H' c=a_ o)->H i=c_->H h=c_->H f=c_->H e=c_->H' i=a_ (.lst b)->H' h=a_ (.lst a)->H' f=a_ (.lst Y)->H' e=a_ (.lst I) ->
  H' p=a_ (.ins C dx [("kinds",.ref i),("rules",d),("names",.ref h),("flights",.ref f),("closed",.ref e),("text",.str z)])->Q .non H'
theorem A5.own(s:A5 F H F1 H1)(Y:H l=c_)(h1:H1 l=a_ o):A5 F H (upd F1 l o) H1 where
 ff:=λb u e=>by
  by_cases I:b=l
  .subst I;rw[au,<- h1,s.fh _ _ (s.ff _ _ e)]
  .rw[aw I];exact s.ff _ _ e
 hh:=s.hh
 fh:=λb u e=>by
  by_cases I:b=l
  .simp_all[au]
  .rw[aw I]at e;exact s.fh _ _ e
 nw:=λb u e=>by
  by_cases I:b=l
  .subst I;exact .inr Y
  .rw[aw I]at e;exact s.nw _ _ e
def A5.rg(s:A5 F H F1 H1)(h1:H1 l=a_ o):aM F1 (upd F1 l o):=λb u e=>by
 by_cases I:b=l
 .subst I;rw[au,<- h1,s.fh _ _ e]
 .rw[aw I];exact e
theorem born_S{x d m1 b a:e_}{p:V}{k j i g:b9}{v d1 d2 u:bv}{s:A3}{t:m_}(z:aM F H1)(O:H1 x=c_)(P:H1 dx=c_)(T:aD K F v k)(E:aU K F s p)(S:aD K F d1 j)(R:aD K F d2 i)(Q:aD K F u g)(k0:∀c o,upd (upd H1 dx (.own x)) x (.ins C dx []) c=a_ o->c≠x->H' c=a_ o)(N:upd (upd H1 dx (.own x)) x (.ins C dx []) d=c_)(L:upd (upd H1 dx (.own x)) x (.ins C dx []) m1=c_)(n2:upd (upd H1 dx (.own x)) x (.ins C dx []) b=c_)(H:upd (upd H1 dx (.own x)) x (.ins C dx []) a=c_)(k1:H' d=a_ (.lst k))(k2:H' m1=a_ (.lst j))(k3:H' b=a_ (.lst i))(m:H' a=a_ (.lst g))(k5:H' x=a_ (.ins C dx [("kinds",.ref d),("rules",p),("names",.ref m1),("flights",.ref b),("closed",.ref a),("text",.str t)])):
  ∃G,A5 F H1 G H'/\aU K G (.ins C [("kinds",.lst v),("rules",s),("names",.lst d1),("flights",.lst d2),("closed",.lst u),("text",.str t)]) (.ref x):=by
 have I:∀{c:e_},upd (upd H1 dx (.own x)) x (.ins C dx []) c=c_->H1 c=c_:=λ{c} h=>by grind[aw]
 have r:aM H1 H':=λc o e=>by grind[aw]
 have U:A5 F H1 F H':=⟨aM.refl _,r,z.trans r,λ_ _ h=>.inl h⟩
 have y:=U.own (I N) k1;have q:=y.own (I L) k2;have n:=q.own (I n2) k3;have w:=n.own (I H) m;have f:=w.own O k5;have Y:∀{l:e_} {o:HO},upd (upd (upd (upd F d (.lst k)) m1 (.lst j)) b (.lst i)) a (.lst g) l=a_ o->upd (upd (upd (upd (upd F d (.lst k)) m1 (.lst j)) b (.lst i)) a (.lst g)) x (.ins C dx [("kinds",.ref d),("rules",p),("names",.ref m1),("flights",.ref b),("closed",.ref a),("text",.str t)]) l=a_ o:=λ{l o} h=>w.rg k5 l o h;have D:=Y (n.rg m _ _ (q.rg k3 _ _ (y.rg k2 d _ au)));have B:=Y (n.rg m _ _ (q.rg k3 m1 _ au));have r2:=Y (n.rg m b _ au);have A:=Y (l:=a) au;exact⟨_,f,x,dx,_,rfl,au,_,_,rfl,⟨d,k,rfl,SqL.of D,aD.mono f.ff T⟩,_,_,rfl,aU.mono f.ff E,_,_,rfl,⟨m1,j,rfl,SqL.of B,aD.mono f.ff S⟩,_,_,rfl,⟨b,i,rfl,SqL.of r2,aD.mono f.ff R⟩,_,_,rfl,⟨a,g,rfl,SqL.of A,aD.mono f.ff Q⟩,_,_,rfl,rfl,rfl⟩
section
variable{e0:Ii}{fr:ai->M (List A3)}
theorem de_newS{k:Nat}{g:bv->M A3}{ps:b8}(n:Mk X.K C fI)(FI:iS X.prog X.w X.K X.mg X.base CX0 k fI fdI ps (spIS K C g))(hr:iu (k+1) X.A)(hm:X.mg x=a_ (.ref C))(hb:Binds X.K fdI ps [])(ha:DA K D' X [e0,e1,e2,e3,e4] fr)(hg: ~~~(Gl X x))(m:((x==("__debug__":m_))=b_)⁻¹)(j: ~~~(i_ [e0,e1,e2,e3,e4] X.env=(b_,Hv e0 X.env)::i_ [e1,e2,e3,e4] X.env))(l: ~~~((HQ pos (i_ [e1,e2,e3,e4] X.env)).any (·.1)=b_)):
  DE K D' b_ X (.Call (.Name x p) [e0,e1,e2,e3,e4] [] pos) (fL (newS C g) fr):=by
 refine PE.imp (Al n FI hr hg hm hb .nil r9 ha m j l) λσ H Q h=>?_;obtain⟨F,ρ,r,s,p⟩:=rd_L h;refine⟨F,ρ,r,s,?_⟩
 cases e1:fr ρ with
 |error z=>simp_all|ok ds=>
  rw[e1]at p;intro vs F1 H1 st q;obtain⟨F2,es1,Y,O,z⟩:=p vs F1 H1 st q;unfold newS at z;split at z
  .rename_i f b d1 d2 d;obtain⟨_,_,rfl,⟨b0,L,rfl,l0,A⟩,N,_,rfl,u,_,_,rfl,⟨b1,E,rfl,Z,y⟩,_,_,rfl,⟨b2,D,rfl,W,w⟩,_,_,rfl,⟨b3,B,rfl,U,v⟩,hn⟩:=O;cases hn;have z:aJ K D' b_ F2 H1 ((g [.lst f,b,.lst d1,.lst d2,.lst d]).bind λt=>match t with
    |.str z=>.ok (.ins C [("kinds",.lst f),("rules",b),("names",.lst d1),("flights",.lst d2),("closed",.lst d),("text",.str z)])|_=>stk) Q:=z
   cases I:g [.lst f,b,.lst d1,.lst d2,.lst d]with
   |error e=>rw[I]at z;exact HK z|ok t=>
    rw[I]at z;cases t with
    |str t=>
     intro x dx i a hne;refine⟨x,dx,b0,b1,b2,b3,N,L,E,D,B,F2,f,d1,d2,d,b,t,rfl,au,Y.free i,λc o e=>?_,⟨l0,A⟩,u,⟨Z,y⟩,⟨W,w⟩,⟨U,v⟩,I,?_⟩
     .have hc:c≠x:=λh=>by rw[h,Y.free i]at e;cases e
      have hd:c≠dx:=λh=>by rw[h,Y.free a]at e;cases e
      rw[aw hc,aw hd];exact Y _ _ e
     .intro m0 m1 m2 m3 H' k0 T R n2 P k1 k2 k3 k4 k5;obtain⟨G,S,q⟩:=born_S Y i a A u y w v k0 T R n2 P k1 k2 k3 k4 k5;exact⟨rfl,z (.ref x) G H' S q⟩
    |_=>exact aJ.stuck z
  .exact aJ.stuck z
end
def RLst(K:Pn):b9->Hp->VK->Prop:=λxs H Q=>∃p ys,xs=[.ref p]/\(SqL K H p ys\/SqT K H p ys)/\∀l,H l=c_->Q (.ref l) (upd H l (.lst ys))
theorem nj(f:m_)(v:V):∀fs:List (m_×V),f∉fs.map (·.1)->um f v fs=fs++[(f,v)]
 |[],_=>rfl|(g,x)::r,h=>by have h1:¬g=f:=λe=>h a';have h2:f∉r.map (·.1):=λe=>h bb;show(if g=f then _ else _)=_;rw[k_ h1,nj f v r h2];rfl
structure Cu(F H Hc:Hp)(p C dx:e_)(fs:List (m_×V)):Prop where
 f0:F p=c_
 sf:aM F Hc
 kp:∀c o,H c=a_ o->c≠p->Hc c=a_ o
 ob:Hc p=a_ (.ins C dx fs)
section
variable{p:e_}{fs:List (m_×V)}{f:m_}{D:Ends}
def Cu.put(c:Cu F H Hc p C dx fs)(f:m_)(v:V):Cu F H (upd Hc p (.ins C dx (fs++[(f,v)]))) p C dx (fs++[(f,v)]) where
 f0:=c.f0
 sf:=λb u e=>by
  have:b≠p:=λz=>by rw[z,c.f0]at e;cases e
  rw[aw this];exact c.sf _ _ e
 kp:=λb o e I=>by rw[aw I];exact c.kp b o e I
 ob:=au
theorem Cu.lay(c:Cu F H Hc p C dx fs)(I:Hc l=c_):Cu F H (upd Hc l o) p C dx fs where
 f0:=c.f0
 sf:=λb u e=>by
  have:b≠l:=λz=>by rw[z,c.sf.free I]at e;cases e
  rw[aw this];exact c.sf _ _ e
 kp:=λb u e Y=>by have h1:=c.kp b u e Y;grind[aw]
 ob:=by
  have:p≠l:=λz=>by have h:=c.ob;simp_all
  rw[aw this];exact c.ob
theorem Cu.new(c:Cu F H Hc p C dx fs)(I:Hc l=c_):H l=c_:=by
 cases h:H l with
 |none=>rfl|some o=>
  have:l≠p:=λz=>by have h:=c.ob;simp_all
  rw[c.kp l o h this]at I;lia
theorem Cu.list(c:Cu F H Hc p C dx fs)(s:Cls K C)(g:bu K C f)(j:f∉fs.map (·.1))(n:fs.length<1000)(r:σ[0]?=a_ (a_ (.ref p))){y:b9}(hi:σ[i]?=a_ (a_ (.ref b)))(q:SqL K F b y)(I:∀l a,H l=c_->Cu F H a p C dx (fs++[(f,.ref l)])->a l=a_ (.lst y)->(∀m o,Hc m=a_ o->m≠p->a m=a_ o)->D.nx σ a):BA K (cb 0) (tCB (RLst K) (aR (cb i) eP)) f D σ Hc:=by
 refine⟨.ref b,hi,b,y,rfl,.inl (c.sf.lst q),λl Y=>⟨.ref p,r,p,C,dx,fs,rfl,(c.lay Y).ob,s,g,n,?_⟩⟩
 rw[nj f _ fs j];have d:l≠p:=λz=>by have h:=c.ob;simp_all
 refine I l _ (c.new Y) ((c.lay Y).put f (.ref l)) (by rw[aw d,au]) λm o e k=>?_
 have:m≠l:=λz=>by rw[z,Y]at e;cases e
 rw[aw k,aw this];exact e
end
theorem rs_initS{g:bv->M A3}{E':XK}(d:Cls K C)(a:∀y∈(["kinds","rules","names","flights","closed","text"]:b8),bu K C y)(h:spIS K C g vs H Q E):
  eB (BA K (cb 0) (tCB (RLst K) (aR (cb 1) eP)) "kinds") (eB (BA K (cb 0) (cb 2) "rules") (eB (BA K (cb 0) (tCB (RLst K) (aR (cb 3) eP)) "names") (eB (BA K (cb 0) (tCB (RLst K) (aR (cb 4) eP)) "flights")
   (eB (BA K (cb 0) (tCB (RLst K) (aR (cb 5) eP)) "closed") (BA K (cb 0) (ia (spF K b_ g 5) [] E' (aR (cb 1) (aR (cb 2) (aR (cb 3) (aR (cb 4) (aR (cb 5) eP)))))) "text")))))
   {nx:=λ_ H'=>Q .non H',rt:=Q} (start ["self","kinds","rules","names","flights","closed"] vs) H:=by
 obtain⟨p,dx,G,b1,b2,b3,Y,P,O,N,L,F,d0,d1,d2,Z,X,z,rfl,U,W,R,⟨t,c0⟩,S,⟨s,c1⟩,⟨r,c2⟩,⟨n,c3⟩,T,q⟩:=h;have C0:Cu F H H p C dx []:=⟨W,R,λ_ _ e _=>e,U⟩
 refine C0.list d (a _ am) am a8 rfl rfl t λi H1 b C1 a0 k1=>?_;refine⟨Y,rfl,.ref p,rfl,p,C,dx,_,rfl,C1.ob,d,a _ am,am,?_⟩
 rw[nj _ Y _ (by show("rules":m_)∉(["kinds"]:b8);decide +kernel)];have C2:=C1.put "rules" Y;have e0:∀{l:e_},H l=c_->l≠p:=λ{l} h z=>by simp_all
 have k2:∀m o,H1 m=a_ o->m≠p->upd H1 p (.ins C dx ((([]:List (m_×V))++[(("kinds":m_),V.ref i)])++[(("rules":m_),Y)])) m=a_ o:=λm o e j=>by rw[aw j];exact e
 refine C2.list d (a _ am) (by show("names":m_)∉(["kinds","rules"]:b8);decide +kernel) am rfl rfl s λA H3 f C3 a1 k3=>?_;refine C3.list d (a _ am) (by show("flights":m_)∉(["kinds","rules","names"]:b8);decide +kernel) am rfl rfl r λx H4 n2 C4 a2 B=>?_;refine C4.list d (a _ am) (by show("closed":m_)∉(["kinds","rules","names","flights"]:b8);decide +kernel) am rfl rfl n λw H5 u k a3 k5=>?_;refine⟨.ref G,rfl,Y,rfl,.ref b1,rfl,.ref b2,rfl,.ref b3,rfl,F,[.lst d0,X,.lst d1,.lst d2,.lst Z],k.sf,⟨_,_,rfl,⟨G,P,rfl,t,c0⟩,_,_,rfl,S,_,_,rfl,⟨b1,O,rfl,s,c1⟩,_,_,rfl,⟨b2,N,rfl,r,c2⟩,_,_,rfl,⟨b3,L,rfl,n,c3⟩,rfl⟩,rfl,?_⟩
 rw[T];intro v F' H' st hv;cases(show v=.str z from hv);refine⟨.ref p,rfl,p,C,dx,_,rfl,st.hh _ _ k.ob,d,a _ am,am,?_⟩
 rw[nj _ _ _ (by show("text":m_)∉(["kinds","rules","names","flights","closed"]:b8);decide +kernel)];have I:∀m o,H5 m=a_ o->m≠p->upd H' p (.ins C dx (((((([]:List (m_×V))++[(("kinds":m_),V.ref i)])++[(("rules":m_),Y)])++[(("names":m_),V.ref A)])++[(("flights":m_),V.ref x)])++[(("closed":m_),V.ref w)]++[(("text":m_),V.str z)])) m=a_ o:=λm o e j=>by rw[aw j];exact st.hh _ _ e
 exact q i A x w _ (λc o e D=>I c o (k.kp c o e D) D) b f n2 u (I _ _ (k5 _ _ (B _ _ (k3 _ _ (k2 _ _ a0 (e0 b)) (e0 b)) (e0 b)) (e0 b)) (e0 b)) (I _ _ (k5 _ _ (B _ _ a1 (e0 f)) (e0 f)) (e0 f)) (I _ _ (k5 _ _ a2 (e0 n2)) (e0 n2)) (I _ _ a3 (e0 u)) au
def isi1{P:e_->Bool->Prop}(h1:P C1 b1):∀C b,IE C [(C1,b1)]=a_ b->P C b:=λC b h=>by
 rw[w_]at h;cases e:C==C1 with
 |true=>rw[e]at h;cases h;rw[Ku.mp e];exact h1|false=>rw[e]at h;cases h
structure Lent(K:Pn)(H0 G H:Hp)(hh:e_)(bs:List e_)(ys:List b9)(ds:List bv):Prop where
 sg:aM G H
 s0:aM H0 H
 top:H hh=a_ (.lst (bs.map .ref))
 gh:G hh=c_
 h0:H0 hh=c_
 nt:hh∉bs
 own:∀(j:Nat) (b:e_),bs[j]?=a_ b->G b=c_/\H0 b=c_/\∃y d,ys[j]?=a_ y/\ds[j]?=a_ d/\H b=a_ (.lst y)/\aD K G d y
section
variable{hh:e_}{bs:List e_}{ys:List (List V)}{ds:List (List A3)}
theorem Lent.step{I:Hp}(l:Lent K H0 G H hh bs ys ds)(s:A5 G H I H'):Lent K H0 I H' hh bs ys ds where
 sg:=s.fh
 s0:=l.s0.trans s.hh
 top:=s.hh _ _ l.top
 gh:=by
  cases e:I hh with
  |none=>rfl|some o=>
   rcases s.nw _ _ e with z|z
   .rw[l.gh]at z;cases z
   .rw[l.top]at z;cases z
 h0:=l.h0
 nt:=l.nt
 own:=λj b e=>by
  obtain⟨h1,h2,y,d,f,c,a,Y⟩:=l.own j b e;refine⟨?_,h2,y,d,f,c,s.hh _ _ a,aD.mono s.ff Y⟩
  cases e:I b with
  |none=>rfl|some o=>
   rcases s.nw _ _ e with z|z
   .simp_all
   simp_all
open Classical in
end
theorem ee.hide(r:ee K F σ ρ)(i:Nat)(v:Option V):ee K F (σ.set i v) (ρ.set i c_):=
 ⟨by rw[Hs,Hs,r.len],λj d e=>by
  by_cases I:i=j
  .subst I;by_cases hi:i<ρ.length
   .rw[sy hi]at e;cases e
   .rw[JR (by rw[Hs];lia)]at e;cases e
  .rw[p_ I]at e;obtain⟨v,h1,h2⟩:=r.sl j d e;simp_all⟩
theorem ee.tell(r:ee K F σ ρ){d:A3}(e:σ[i]?=a_ (a_ v))(q:aU K F d v):ee K F σ (ρ.set i (a_ d)):=
 ⟨by rw[Hs,r.len],λj d' I=>by
  by_cases Y:i=j
  .subst Y;by_cases hi:i<ρ.length
   .rw[sy hi]at I;cases I;exact⟨v,e,q⟩
   .rw[JR (by rw[Hs];lia)]at I;cases I
  .rw[p_ Y]at I;exact r.sl j d' I⟩
noncomputable def unF:HO->HO
 |.frz _ u=>u|o=>o
open Classical in
def Rep.ofE(r:ee K F σ ρ)(st:A5 F0 H0 F H)(fb:aM FB F):Rep K F0 H0 FB [] F H σ ρ:=
 ⟨st,fb,r.len,λi d e _=>r.sl i d e,(λ_ _ _ h=>nomatch h),(λ_ _ _ _ _ h=>nomatch h)⟩
def oX:A3->A3->M A3
 |.str x,.str y=>if (q_ (y.length=1)&&q_ (x.length+2<=h_))=d_ then .ok (.lst ((Jl x y).map .str))else stk
 |_,_=>stk
@[simp]def e_splitD(x y:m_):oX (.str x) (.str y)=if (q_ (y.length=1)&&q_ (x.length+2<=h_))=d_ then .ok (.lst ((Jl x y).map .str))else stk:=id rfl
def oy:A3->A3->M A3
 |.str x,.str y=>.ok (.bl (HP x y))|_,_=>stk
@[simp]def e_startsD(x y:m_):oy (.str x) (.str y)=.ok (.bl (HP x y)):=id rfl
noncomputable def By:A3->M bv
 |.str x=>.ok (x.cps.toList.map λc=>.str ⟨#[c]⟩)|_=>.error .stuck
def fItS(fa:ai->M A3):ai->M bv:=λρ=>(fa ρ).bind By
@[simp]def e_fItS(fa:ai->M A3)(ρ:ai):fItS fa ρ=(fa ρ).bind By:=id rfl
@[simp]def e_signsD(x:m_):By (.str x)=.ok (x.cps.toList.map λc=>.str ⟨#[c]⟩):=id rfl
def G8:A3->A3->M A3
 |.str a,.str b=>.ok (.bl (!(HE b a 0 b.length 1).isEmpty))|_,_=>stk
def kz:A3->A3->M A3
 |.str a,.str b=>.ok (.bl (!(!(HE b a 0 b.length 1).isEmpty)))|_,_=>stk
@[simp]def e_inSD(c:Nat)(b:m_):G8 (.str ⟨#[c]⟩) (.str b)=.ok (.bl (q_ (c∈b.cps.toList))):=by show Hr (A3.bl (!(HE b ⟨#[c]⟩ 0 b.length 1).isEmpty))=_;rw[NJ]
@[simp]def e_notInSD(c:Nat)(b:m_):kz (.str ⟨#[c]⟩) (.str b)=.ok (.bl (!decide (c∈b.cps.toList))):=by show Hr (A3.bl (!(!(HE b ⟨#[c]⟩ 0 b.length 1).isEmpty)))=_;rw[NJ]
def G7:bv->M A3
 |[.str x]=>if x.length<=640 then(match Jn x with
  |some n=>.ok (.int n)|none=>stk)else stk
 |_=>stk
@[simp]def e_intSD(x:m_):G7 [.str x]=if x.length<=640 then(match Jn x with
  |some n=>.ok (.int n)|none=>stk)else stk:=id rfl
def pI:bv->M A3
 |[.str z]=>if z.length<=h_ then .ok (.int z.length)else stk
 |_=>stk
@[simp]def e_lenSD(z:m_):pI [.str z]=if z.length<=h_ then .ok (.int z.length)else stk:=id rfl
noncomputable def Its(x:m_):It:=⟨λi _=>i<x.cps.size,λi H v H'=>H'=H/\∃c,x.cps[i]?=a_ c/\v=.str ⟨#[c]⟩,λi _=>i=x.cps.size⟩
def turn_str{nm:String}(m:nm="str_ascii_iterator"\/nm="str_iterator")(x:m_)(t:OM)(Y:e_):Turn P w K tg (Its x) [Y] Y (λi h=>h.IsStrIter Y nm x t i):=by
 have W:∀A:JK,A.handled=c_->Walks P w A Y [Y] [Y] x.cps.size (SignAt x) (λi h=>h.IsStrIter Y nm x t i):=λA y=>by
  rcases m with rfl|rfl
  .exact Walks.strAscii y Y x t
  .exact Walks.strWide y Y x t
 have B:["enumerate","zip","dict_itemiterator","dict_reverseitemiterator","odict_iterator","itertools.zip_longest","itertools.pairwise"].contains nm=b_:=by rcases m with rfl|rfl<;>decide
 refine⟨am,λi h st b a=>?_,λi h h' st k=>?_,?_,?_,λA i s Q E st h=>?_⟩
 .obtain rfl:b=Y:=by simpa using a
  obtain⟨o,e,c,d⟩:=st;exact⟨o,e,λv z=>by rw[d]at z;cases z⟩
 .obtain⟨o,e,r⟩:=st;exact⟨o,k Y am o e,r⟩
 .intro X p hw q n i A4 s σ H E I j st g;subst p hw q;obtain⟨f0,f1,_,f3,f4,f5⟩:=j Y am;refine(W X.A (I.ok.hd n)).item i s _ _ g st λv h' tk D f l=>?_;obtain⟨c,u,C,F⟩:=D;have L:A6 X A4 σ H {s with heap:=h',toks:=tk}:=I.turned (λb o a e=>l b o (by simpa using a) e) f0 f1 f3 f4 f5;obtain⟨o,e,G,d⟩:=id f;exact⟨v,rfl,go_of (s:={s with heap:=h',toks:=tk}) e G d B ⟨.str ⟨#[c]⟩,H,L,⟨u,F⟩,⟨rfl,c,C,rfl⟩,f,λb a=>(j b a).1⟩⟩
 .intro X p hw q n i A4 s σ H E I j st g;subst p hw q;obtain⟨f0,f1,_,f3,f4,f5⟩:=j Y am;have g:i=x.cps.size:=g;subst g;exact(W X.A (I.ok.hd n)).done s _ _ st λh' tk l=>⟨rfl,I.turned (λb o a e=>l b o (by simpa using a) e) f0 f1 f3 f4 f5⟩
 .rcases m with rfl|rfl
  .exact wpAny_pyIter_striter_ascii st h
  .exact wpAny_pyIter_striter_wide st h
theorem iter_str(x:m_):zw K F (Its x) (x.cps.toList.map λc=>.str ⟨#[c]⟩) where
 go:=λi F' H' _ _ hi=>by show i<x.cps.size;simp_all
 yl:=λi F' H' v H2 d e Y hd a=>by
  obtain⟨rfl,c,b,rfl⟩:=a;have I:x.cps.toList[i]?=a_ c:=by simpa using b
  rw[HJ,I]at hd;cases hd;exact⟨F',A5.refl Y,rfl⟩
 st:=λF' H' _ _=>by show _=_;simp
section
variable{W:eZ}{own:Bool}
def Cy(l:DE K W b_ X e fa)(u: ~~~(X.K=K)):DI K W X tg e (fItS fa):=by
 subst u;intro A4 s σ H R I ⟨F,ρ,r,g,p⟩;have p:(match (fa ρ).bind By with
  |.ok ds=>∀J F1 H1,A5 F H F1 H1->zw X.K F1 J ds->R J H1|.error e=>W.p e F H):=p
 refine C6 (l A4 s σ H (λv H1=>∃a F1,fa ρ=.ok a/\A5 F H F1 H1/\aU X.K F1 a v) I (aT r g (λe m=>by rw[m]at p;exact p) λa d v F1 H1 Y i=>⟨a,F1,d,Y,i⟩)) λv Y j=>?_;obtain⟨y,H1,f,h,a,F1,w,st,q⟩:=j;rw[w]at p;cases a with
 |str z=>
  cases(show y=V.str z from q);obtain⟨t,rfl⟩:=(show ∃t,v=IM z t from h)
  have c:∀nm,(nm="str_ascii_iterator"\/nm="str_iterator")->PIE X A4 σ tg R (.ref Y.z) {Y with heap:=Y.heap.push {cls:=.type nm,data:=.fields #[.str z t,.int 0 0]}}:=λnm k=>by
   refine⟨Y.z,[Y.z],_,_,H1,rfl,f.kept (t':=Y.toks) λb o e=>l_ _ e,turn_str k z t _,⟨_,Cb _ rfl,rfl,rfl⟩,λb n=>?_,p (Its z) F1 H1 st (iter_str z)⟩
   obtain rfl:b=Y.z:=by simpa using n
   exact f.fpOk (r_ _) (f.hok.fresh (r_ _))
  cases d:z.cps.all (·<128)
  .exact wpAny_pyIter_wide d (c _ (.inr rfl))
  .exact wpAny_pyIter_ascii d (c _ (.inl rfl))
 |_=>exact(W.ns p).elim
theorem ql:MtR X "str.split" (rSM X.K W d_ oX):=by
 intro A4 s σ H x vs v us Q I w A h;obtain⟨F,z,b,y,n,rfl,rfl,C,p⟩:=h;obtain⟨u,rfl,B⟩:=A.one;obtain⟨t,rfl⟩:=(show ∃t,v=IM z t from w)
 cases b with
 |str Y=>
  cases(show y=V.str Y from C);obtain⟨t2,rfl⟩:=(show ∃t,u=IM Y t from B)
  have p:aJ X.K W d_ F H (if (q_ (Y.length=1)&&q_ (z.length+2<=h_))=d_ then .ok (.lst ((Jl z Y).map .str))else stk) Q:=p;by_cases f:(q_ (Y.length=1)&&q_ (z.length+2<=h_))=d_
  .rw[f_ f]at p;rw[o_,Hx,Hx]at f;have K:=split_le z Y;have j:∀l:b8,aD X.K F (l.map .str) (l.map V.str):=λl=>by
    induction l with
    |nil=>rfl|cons a l g=>exact⟨.str a,_,rfl,rfl,g⟩
   have vs:∀l:List (m_×OM),B' ((l.map (·.1)).map V.str) (JZ l):=λl=>by
    induction l with
    |nil=>exact .nil|cons a l g=>exact .cons ⟨a.2,rfl⟩ g
   have d:∀(l:List (m_×OM)) (k:Nat),l.map (·.1)=Jl z Y->EP X A4 σ Q (.ref s.z) {s with toks:=k,heap:=s.heap.push {cls:=.type "list",data:=.seq (JZ l).toArray}}:=λl k E=>by
    have e:((Jl z Y).map V.str).length<=h_:=by rw[A_];lia
    refine⟨.ref s.z,_,I.laid (t':=k) (o:=.lst ((Jl z Y).map V.str)) (λ_ _ q=>l_ _ q) (r_ _) ⟨e,JZ l,0,by rw[<- E];exact vs l,Cb _ rfl⟩,rfl,?_⟩
    have c:=I.hok.fresh (r_ s.z);exact p (.ref s.z) F _ (A5.grow n c) ⟨_,_,rfl,au,n.free c,c,j _⟩
   have r:(Y.length==0)=b_:=by rw[f.1];rfl
   have D:(Mb z (HE z Y 0 z.length (z.length+1)) Y.length).length<=h_:=by have:=StrLaws.occ_length_le z Y 0 z.length (z.length+1);rw[length_partsBetween];lia
   have i:∀{S:PySem.Spec},Meets (Builtin.«str.split» ⟨[.str z t,.str Y t2],[]⟩) S->S X.A (wants (EP X A4 σ Q) X.xe) s->B_ (C_ X.prog X.w) X.A (Kp (.builtin "str.split") [.str z t,.str Y t2]) (EP X A4 σ Q) X.xe s:=λm G=>Mn Jx (Lv _ _ _) PySem.F.entry_str_split (PySem.F.args_str_split_2 _ _) m G;cases h1:(q_ (z.length<Y.length)||q_ (MN z<MN Y))
   .cases c:(HE z Y 0 z.length (z.length+1)).isEmpty
    .refine i (meets_str_split_sep z Y t t2 h1 r c ad D) ?_;show wants _ _ _ {s with toks:=_,heap:=s.heap.push {cls:=.type "list",data:=.seq (strsFrom s.toks (Mb z (HE z Y 0 z.length (z.length+1)) Y.length)).toArray}};rw[strsFrom_eq];exact d (numbered s.toks _) _ ((numbered_texts _ _).trans ((k_ (by rw[h1];decide)).trans (k_ bb)).symm)
    .exact i (meets_str_split_not_found z Y t t2 h1 r c) (d [(z,t)] s.toks ((k_ (by rw[h1];decide)).trans (f_ c)).symm)
   .exact i (meets_str_split_cannot_occur z Y t t2 h1) (d [(z,t)] s.toks (f_ h1).symm)
  .rw[k_ f]at p;exact aJ.stuck p
 |_=>exact aJ.stuck p
def FL:MtR X "str.startswith" (rSM X.K W own oy):=by
 intro A4 s σ H x vs v us Q I c d h;obtain⟨F,z,b,y,a,rfl,rfl,f,p⟩:=h;obtain⟨u,rfl,e⟩:=d.one;obtain⟨t,rfl⟩:=(show ∃t,v=IM z t from c)
 cases b with
 |str Y=>
  cases(show y=V.str Y from f);obtain⟨t2,rfl⟩:=(show ∃t,u=IM Y t from e)
  have p:aJ X.K W own F H (.ok (.bl (HP z Y))) Q:=p;exact call_gives Mg (Lv _ _ _) PySem.F.entry_str_startswith (PySem.F.args_str_startswith_2 _ _) (gives_str_startswith z Y t t2) ⟨.bl _,H,I,rfl,p (.bl _) F H (A5.refl a) (by cases own<;>rfl)⟩
 |_=>exact aJ.stuck p
def o_inS:Op2 K W own X (Ht .In) G8:=OpR.imp Fy λx y H Q ⟨F,a,b,s,Y,I,p⟩=>by
 cases a with
 |str i=>cases b with
  |str j=>have p:aJ K W own F H (.ok (.bl (!(HE j i 0 j.length 1).isEmpty))) Q:=p;exact⟨i,j,Y,I,p (.bl _) F H (A5.refl s) (by cases own<;>rfl)⟩
  |_=>exact aJ.stuck p
 |_=>exact aJ.stuck p
def qj:Op2 K W own X (Ht .NotIn) kz:=OpR.imp ym λx y H Q ⟨F,a,b,s,Y,I,p⟩=>by
 cases a with
 |str i=>cases b with
  |str j=>have p:aJ K W own F H (.ok (.bl (!(!(HE j i 0 j.length 1).isEmpty)))) Q:=p;exact⟨i,j,Y,I,p (.bl _) F H (A5.refl s) (by cases own<;>rfl)⟩
  |_=>exact aJ.stuck p
 |_=>exact aJ.stuck p
def sA:pV K W own X (.builtin "len") pI:=zm.imp λxs H Q h=>by
 obtain⟨F,d,x,s,e,q,p⟩:=m7 (λds=>by match ds with|[d]=>exact .inl ⟨d,rfl⟩|[]=>exact .inr rfl|a::b::c=>exact .inr (by cases a<;>rfl)) h;cases d with
 |str z=>
  have p:aJ K W own F H (if z.length<=h_ then .ok (.int z.length)else stk) Q:=p;by_cases I:z.length<=h_
  .rw[f_ I]at p;exact⟨z,by rw[e,show x=.str z from q],I,p (.int _) F H (A5.refl s) (by cases own<;>rfl)⟩
  .rw[k_ I]at p;exact aJ.stuck p
 |_=>exact aJ.stuck p
def GV:fj X (.type "int") (λxs H Q=>∃z n,xs=[.str z]/\z.length<=640/\Jn z=a_ n/\Q (.int n) H):=by
 intro A4 s σ H xs us Q I r ⟨z,n,e,b,a,q⟩;subst e;obtain⟨u,rfl,Y⟩:=vals1 r;obtain⟨t,rfl⟩:=(show ∃t,u=IM z t from Y)
 exact PySem.W.KIN.call_text a b ⟨.int n,H,I.tok _,⟨_,rfl⟩,q⟩
def Ha:pV K W own X (.type "int") G7:=GV.imp λxs H Q h=>by
 obtain⟨F,d,x,s,e,q,p⟩:=m7 (λds=>by match ds with|[d]=>exact .inl ⟨d,rfl⟩|[]=>exact .inr rfl|a::b::c=>exact .inr (by cases a<;>rfl)) h;cases d with
 |str z=>
  have p:aJ K W own F H (if z.length<=640 then(match Jn z with
   |some n=>.ok (.int n)|none=>stk)else stk) Q:=p
  by_cases Y:z.length<=640
  .rw[f_ Y]at p;cases I:Jn z with
   |none=>rw[I]at p;exact aJ.stuck p|some n=>rw[I]at p;exact⟨z,n,by rw[e,show x=.str z from q],Y,I,p (.int _) F H (A5.refl s) (by cases own<;>rfl)⟩
  .rw[k_ Y]at p;exact aJ.stuck p
 |_=>exact aJ.stuck p
def wc(I:∃t,X.mg x=a_ (.str z t))(Y: ~~~(Gl X x))(hd:((x==("__debug__":m_))=b_)⁻¹):DE K W b_ X (.Name x pos) (fC (.str z)):=by obtain⟨t,e⟩:=I;exact(vC (v:=.str z) Y e ⟨t,rfl⟩ hd).imp λ_ _ _=>rd_c λ_=>rfl
end
noncomputable def Ca(xs:b8)(k:m_):Option Nat:=xs.findIdx? (·==k)
def oH:A3->A3->M A3
 |.lst ds,.str k=>(gR ds).bind λxs=>match Ca xs k with
  |some j=>.ok (.int j)|none=>stk
 |_,_=>stk
@[simp]def e_indexS(ds:bv)(k:m_):oH (.lst ds) (.str k)=(gR ds).bind λxs=>match Ca xs k with
  |some j=>.ok (.int j)|none=>stk:=id rfl
def hV(fo fe:ai->M A3):ai->M A3:=λρ=>(fo ρ).bind λa=>if isL a=d_ then(fe ρ).bind λb=>oH a b else stk
@[simp]def e_fIndexS(fo fe:ai->M A3)(ρ:ai):hV fo fe ρ=(fo ρ).bind λa=>if isL a=d_ then(fe ρ).bind λb=>oH a b else stk:=id rfl
def rIndexS(K:Pn):V->b9->Hp->VK->Prop:=λx vs H Q=>∃l is k j,x=.ref l/\vs=[.str k]/\SqL K H l (is.map V.str)/\Ca is k=a_ j/\Q (.int j) H
noncomputable def isKS(k:m_):j_->Bool
 |.str i _=>i==k|_=>b_
section
variable{W:eZ}
theorem FN(R:X.A.units+64<IU):MtR X "list.index" (rIndexS X.K):=by
 intro A4 s σ H x vs v us Q I o p ⟨l,is,k,j,ex,O,N,K,q⟩;subst ex O;cases o;obtain⟨u,rfl,B⟩:=p.one;obtain⟨A8,r,pl,D⟩:=I.list N;obtain⟨⟨oc,b,C,osl⟩,n,e,Y,g,h⟩:=id pl;obtain⟨t,rfl⟩:=(show ∃t,u=IM k t from B)
 obtain⟨d,f,E⟩:=Kb.mp K;obtain⟨L,rfl,rfl⟩:=qF r;have hsz:=Hu;have i:(JZ L).length=L.length:=by unfold JZ;rw[A_]
 have a:∀m (G:m<(JZ L).length),(JZ L)[m]=.str ((L.map (·.1))[m]' bb) (L[m]'(by omega)).2:=λm G=>by simp[JZ]
 rw[A_]at d;refine Mn ML ⟨_,e,Y⟩ PySem.F.entry_list_index (PySem.F.args_list_index_2 _ _) (SeqAt.list_indexAt l (JZ L).toArray n b osl (.str k t) (isKS k) j bb (by have:=D;rw[A_,A_]at this;lia) ?_ ?_) ⟨?_,λy P=>?_,⟨.int j,H,I.tok _,⟨_,rfl⟩,q⟩⟩
 .rw[NT,a j ad];exact f
 .simp_all[HI,NT,isKS]
 .simp_all
 .obtain⟨m,c,rfl⟩:=LC (show y∈JZ L by simp_all);rw[a m c];generalize (L.map (·.1))[m]'(by rw[A_];lia)=z;have w:=Gk (F:=H) (x:=.str z) (y:=.str k) (A:=X.A.in1) I (aM.refl H) (.str z) (.str k) rfl rfl rfl rfl ⟨(L[m]'(by omega)).2,rfl⟩ ⟨t,rfl⟩ (by show X.A.units+1+40<IU;lia);simp_all[eqD,isKS]
variable{o:Ii}{fo:ai->M A3}
def nX(v:X.A.units+64<IU)(A:DE K W b_ X o fo)(f:DE K W b_ X e fe)(D: ~~~(X.K=K))(c: ~~~(IZ o "index" X.env (Hv o X.env)=Hv o X.env))(d: ~~~(((HQ cpos (i_ [e] X.env)).all (λx=> !x.1)&&(JH cpos (IK [] X.env)).all (λx=>x.1.isSome)&&q_ ([e].length+([]:List J0).length+(if ([]:List J0).isEmpty then 0 else 1)<30))=d_))(Y: ~~~((apos.endLine==cpos.line)=d_))(m: ~~~(i_ [e] X.env=(b_,Hv e X.env)::i_ [] X.env))(I: ~~~((HQ cpos (i_ [] X.env)).any (·.1)=b_)):
  DE K W b_ X (.Call (.Attribute o "index" apos) [e] [] cpos) (hV fo fe):=by
 subst D;refine PE.imp (pG HF ML PySem.F.type_list_index (FN v) A (ax f aP (by rw[m])) c d Y m I) λσ H Q w=>?_;obtain⟨F,ρ,r,s,p⟩:=w;refine aT r s (λe f=>p.err (by unfold hV;rw[f];rfl)) λa C x F1 H1 h q=>?_;rw[show hV fo fe ρ=if isL a=d_ then(fe ρ).bind λb=>oH a b else stk by unfold hV;rw[C];rfl]at p;have p:=p.step h;cases a with
 |lst ds=>
  have p:aJ X.K W b_ F1 H1 ((fe ρ).bind λb=>oH (.lst ds) b) Q:=p;obtain⟨l,xs,rfl,t,z⟩:=id q;refine⟨.inl ⟨rfl,_,h.fh.lst t⟩,aT (r.mono h.ff) h.fh (λe f=>p.err (by rw[f];rfl)) λb B y F2 H2 g n=>?_⟩
  rw[B]at p;have p:aJ X.K W b_ F1 H1 (oH (.lst ds) b) Q:=p;have p:=p.step g;cases b with
  |str k=>
   have p:aJ X.K W b_ F2 H2 ((gR ds).bind λxs=>match Ca xs k with
    |some j=>.ok (.int j)|none=>stk) Q:=p
   cases hi:gR ds with
   |error e=>rw[hi]at p;rw[qM hi]at p;exact aJ.stuck p|ok is=>
    rw[hi]at p;have p:aJ X.K W b_ F2 H2 (match Ca is k with
     |some j=>.ok (.int j)|none=>stk) Q:=p
    have u:=qL z hi;subst u;cases i:Ca is k with
    |none=>rw[i]at p;exact aJ.stuck p|some j=>rw[i]at p;cases(show y=V.str k from n);exact⟨l,is,k,j,rfl,rfl,g.fh.lst (g.ff.lst t),i,p (.int j) F2 H2 (A5.refl g.fh) rfl⟩
  |_=>exact aJ.stuck p
 |_=>exact aJ.stuck p
end
noncomputable abbrev k1(t:OM):List (m_×j_):=[(n_ "start",.int 1 t)]
def lst_it(h:H_)(l:e_):(h.push {cls:=.type "list_iterator",data:=.fields #[.ref l,.int 0 0]}).objs.size=h.objs.size+1:=IW ..
def FJ(l:e_)(I:Array j_)(n:Nat)(t:OM)(a:Option e_)(f:Array (Option j_)):
  Meets (Builtin.«enumerate.__new__» ⟨[.type "enumerate",.ref l],k1 t⟩) (λ_ R s=>s.heap.get? l=a_ {cls:=.type "list",dict:=a,data:=.seq I n,slots:=f} /\
   R (.ok (.ret (.ref (s.heap.objs.size+1)))) {s with heap:=(s.heap.push {cls:=.type "list_iterator",data:=.fields #[.ref l,.int 0 0]}).push {cls:=.type "enumerate",data:=.fields #[.none,.bool b_,.ref s.heap.objs.size,Mm 1,.none,.none]}}):=
 PV λP w A R s ⟨Y,h⟩=>by
  obtain⟨b,g,d,tk,os⟩:=s;rw[<- lst_it b l]at h;have z:=sub_enumerate;have e:Heap.IsList (Shared.heap ⟨b,g,d,tk,os⟩) l I:=⟨_,Y,rfl,n,rfl⟩
  wp_walk using KI Y
  refine wpAny_stack_any λst=>y_ ?_;split
  .rename_i c _ _ _ _ _;cases(c==Kh "enumerate")<;>(wp_walk using KI Y,Km e)<;>exact⟨_,rfl,h⟩
  .wp_walk using KI Y,Km e
   exact⟨_,rfl,h⟩
def ini_k1{I a:j_}{t:OM}(d:Pd (.type "enumerate") "__init__"=IQ (a_ (.builtin "object.__init__")))(c:Bind.madeBy (.type "enumerate")=IQ (a_ "enumerate.__new__")):
  Meets (Builtin.«object.__init__» ⟨[I,a],k1 t⟩) (λ_ R s=>s.TypeIs I "enumerate"/\R (.ok (.ret .none)) s):=PV λP w A R s ⟨e,Y⟩=>by
 have b:(a_ "enumerate.__new__" != a_ "object.__new__")=d_:=by decide
 repeat (any_goals (first|assumption|wp_step))
 exact⟨_,rfl,Y⟩
section
variable{E:Mq}{Q:Mq}
theorem Ee{Y:Array j_}{t:OM}(O:s.heap.IsList l Y)(h:∀h',IsEnum h' (s.heap.objs.size+1) s.heap.objs.size 1 .none->h'.IsListIter s.heap.objs.size l 0->(∀b o,s.heap.get? b=a_ o->h'.get? b=a_ o)->Q (.ref (s.heap.objs.size+1)) {s with heap:=h'}):
  B_ (C_ prog w) A (Kp (.type "enumerate") [.ref l] (k1 t)) Q E s:=by
 obtain⟨⟨c,p,P,B⟩,H,L,n,hd⟩:=O;cases(show c=.type "list" from L);cases(show P=.seq Y n from hd);have ft:=F.called_enumerate;obtain⟨c,tl,z⟩:=ft.mro;have d:=ft.made;have y:=ft.sub;have h1:=ft.notType;have h2:=ft.canCreate;have K:checkTypeCall "enumerate" ⟨[.ref l],k1 t⟩=IQ ():=by kernel_rfl
 have m:MT "enumerate.__new__" ⟨[.type "enumerate",.ref l],k1 t⟩=IQ ():=by kernel_rfl
 have i:∀a,argsOk "object.__init__" ⟨[a,.ref l],k1 t⟩:=λa=>by unfold argsOk;kernel_rfl
 have G:=lst_it s.heap l;have k:IsEnum ((s.heap.push {cls:=.type "list_iterator",data:=.fields #[.ref l,.int 0 0]}).push {cls:=.type "enumerate",data:=.fields #[.none,.bool b_,.ref s.z,Mm 1,.none,.none]}) (s.z+1) s.z 1 .none:=by rw[<- G];exact Cb _ rfl
 refine Lu (codeAny_of_tree (show B_ _ _ (callAny (.type "enumerate") _) _ _ _ from y_ ⟨LI _ dkK,codeAny_builtin F.entry_type_call ?_⟩));rw[Around.under_plain (weight_type_call_type "enumerate" [.ref l] (k1 t)) (units_type_call_type "enumerate" [.ref l] (k1 t))]
 repeat (any_goals (first|assumption|wp_step))
 refine Jp (JY ft.plain F.entry_enumerate_new (wpAny_of_eq m (FJ l Y n t p B prog w A.in1 (wants (λv D=>v=.ref (s.z+1)/\D={s with heap:=(s.heap.push {cls:=.type "list_iterator",data:=.fields #[.ref l,.int 0 0]}).push {cls:=.type "enumerate",data:=.fields #[.none,.bool b_,.ref s.z,Mm 1,.none,.none]}}) E) s ⟨H,rfl,rfl⟩))) λr u g=>?_
 match r,g with
 |.error e,g=>exact g|.ok (.ret a),g=>
  obtain⟨rfl,rfl⟩:=g;have j:=ft.init.lookup;have N:=ft.init.bind (.ref (s.z+1))
  repeat (any_goals (first|assumption|wp_step))
  refine Jp (JY ft.init.plain F.entry_object_init (ft.init.check _ _ _ _ _ _ _ _ ⟨_,k,rfl⟩ (i _) (ini_k1 j d prog w A.in1 (wants (λr C=>r=.none/\C=_) E) _ ⟨⟨_,k,rfl⟩,rfl,rfl⟩))) λf q I=>?_
  match f,I with
  |.error e,I=>simp_all|.ok (.ret r),I=>
   obtain⟨rfl,rfl⟩:=I
   repeat (any_goals (first|assumption|wp_step))
   exact h _ k ⟨_,l_ _ (Cb _ rfl),rfl,rfl⟩ λb o x=>l_ _ (l_ _ x)
end
theorem draws1(hh:A.handled=c_){Y:e_}(d:l≠Y)(I:Array j_):Draws prog w A Y [Y,l] (I.size+1) (λk v=>∃j,k=j+1/\I[j]?=a_ v) (λk h=>∃j,k=j+1/\h.IsListIter Y l j/\h.IsList l I) where
 live:=λi h ⟨j,_,⟨o,e,_⟩,_⟩=>⟨o,e⟩
 frame:=λi h h' ⟨j,e,⟨o,a1,p⟩,⟨c,b1,b2⟩⟩ k=>⟨j,e,⟨o,k Y am _ a1,p⟩,⟨c,k l am _ b1,b2⟩⟩
 item:=λi s Q E hi ⟨j,e,a,b⟩ m=>by
  subst e;have g:j<I.size:=ad
  refine wpAny_nextOf_list_item a b (x:=I[j]) am λh' q f=>m _ h' s.toks ⟨j,rfl,am⟩ ⟨j+1,rfl,q,?_⟩ f;obtain⟨c,b1,b2⟩:=b;exact⟨c,(f.2 l d).trans b1,b2⟩
 done:=λs Q E ⟨j,e,a,b⟩ n=>by
  have g:j=I.size:=ad
  subst g;exact wpAny_nextOf_list_end hh a b am n
noncomputable def Ite1(K:Pn)(a:e_):It:=
 ⟨λi H=>∃xs x,SqL K H a xs/\xs[i]?=a_ x,λi H x H'=>∃T y,H T=c_/\x=.ref T/\H'=upd H T (.tup [.int (i+1:Nat),y])/\∀xs,SqL K H a xs->xs[i]?=a_ y,λi H=>∃xs,SqL K H a xs/\xs.length=i⟩
theorem CT{k:Nat}(a e g:e_)(C:e≠g):Turn P w K (.Tuple elts k pos) (Ite1 K a) [e,g] e (λi h=>(∃Y,IsEnum h e g (i+1:Nat) Y)/\h.IsListIter g a i):=by
 have n:∀{i:Nat} {h:H_} {Y:j_} {A8:Array j_},IsEnum h e g (i+1:Nat) Y->h.IsListIter g a i->h.IsList a A8->a≠g/\e∉[g,a]:=λ{i h Y A8} m f ⟨ol,h1,L,_⟩=>by obtain⟨o,h2,hc2,_⟩:=f;grind
 refine⟨am,λi h ⟨⟨Y,m⟩,o,e1,c,d⟩ b l=>?_,λi h h' ⟨⟨Y,m⟩,f⟩ Z=>⟨⟨Y,Z e am _ m⟩,f.at λo x=>Z g am o x⟩,?_,?_,λ_ _ _ _ _ ⟨⟨Y,m⟩,_⟩ h=>Pw m h⟩
 .rcases t_.mp l with rfl|l
  .exact⟨_,m,λv z=>by cases z⟩
  .obtain rfl:b=g:=by simpa using l
   exact⟨o,e1,λv z=>by rw[d]at z;cases z⟩
 .intro X t hw W L i A4 s σ H E I G ⟨⟨Y,m⟩,f⟩ ⟨xs,x,F,Q⟩;subst t hw W;obtain⟨A8,N,p,hz⟩:=I.list F;obtain⟨u,hu,ru⟩:=N.get Q;obtain⟨O,n2⟩:=n m f p.isList;have hil:i<A8.length:=(s_.mp hu).1;refine wpAny_pyNext_enum_itemD (i:=i+1) (draws1 (A:=X.A.in1) (I.ok.hd L) O A8.toArray) m ⟨i,rfl,f,p.isList⟩ (by simp;lia) C n2 λv h1 tk S ho R hT hsz hk=>?_;obtain⟨j,ej,t⟩:=S;obtain⟨j2,ej2,B,_⟩:=R;obtain rfl:j=i:=ad
  obtain rfl:j2=j+1:=ad
  obtain rfl:v=u:=by rw[Ll,hu]at t;exact(Hz t).symm
  refine⟨_,rfl,wpAny_letOwnedTupleGo_enum ho λh2 U r=>?_⟩
  have T:e<s.z:=u_ m;have D:s.z≠e:=KD T;have I1:A6 X A4 σ (upd H s.z (.tup [.int (j+1:Nat),x])) {s with heap:=h2,toks:=tk+1}:=I.EA (ch:=[e,g]) G (λb o l q=>by have h3:=hk b o (λz=>l (by simp[z])) (λz=>l (by simp[z])) q;exact(r.2 b (λz=>l (by simp[z]))).trans h3) (r_ _) ⟨by show 2<=h_;decide,[.int (j+1:Nat) tk,v],.cons ⟨_,rfl⟩ (.cons ru .nil),⟨_,(r.2 _ D).trans hT,rfl,0,rfl⟩⟩
  refine⟨.ref s.z,_,I1,rfl,⟨s.z,x,I.hok.fresh (r_ _),rfl,rfl,λys hy=>by rw[I.qo hy F];exact Q⟩,⟨⟨v,by simpa using U⟩,B.at λo y=>(r.2 g C.symm).trans y⟩,λb l=>?_⟩
  have:b≠s.z:=by
   rcases t_.mp l with rfl|l
   .exact D.symm
   .obtain rfl:b=g:=by simpa using l
    obtain⟨o,e1,_⟩:=f;exact HC (u_ e1)
  rw[aw this];exact(G b l).1
 .intro X t hw W L i A4 s σ H E I G ⟨⟨Y,m⟩,f⟩ ⟨xs,F,Q⟩;subst t hw W;obtain⟨A8,N,p,hz⟩:=I.list F;obtain⟨O,n2⟩:=n m f p.isList;have hl:=N.length;refine wpAny_pyNext_enum_endD (draws1 (A:=X.A.in1) (I.ok.hd L) O A8.toArray) m ⟨i,a',f,p.isList⟩ λh2 eb=>⟨rfl,I.EB (t':=s.toks) (ch:=[e,g]) G λb o l q=>eb b o (λz=>l (by simp[z])) q⟩
section
variable{W:eZ}{a:Ii}
def zo{M:Mf}{E:Mq}{env:LY}{Y:List J0}{Q:Mq}(h:B_ M A (PF (HQ pos (i_ [e] env))) (λvs I=>B_ M A (evalAll ((JH pos (IK Y env)).map (·.2))) (λA7 b=>B_ M A (Kp (.type T) vs (((JH pos (IK Y env)).filterMap (·.1)).zip A7)) Q E b) E I) E s)(i:i_ [e] env=[(b_,Hv e env)])(d:(JH pos (IK Y env)).all (·.1.isSome)=d_)(f:(JH pos (IK Y env)).any (·.1.isNone)=b_):
  B_ M A (Nu pos (.type T) [] (HQ pos (i_ [e] env)) (JH pos (IK Y env))) Q E s:=by
 have k:(HQ pos (i_ [e] env)).any (·.1)=b_:=by rw[i];rfl
 have g:∃x,HQ pos (i_ [e] env)=[(b_,x)]:=by rw[i];exact⟨_,rfl⟩
 obtain⟨x,g⟩:=g;unfold Nu;refine g_ (Js (HU (Q:=λa I=>B_ M A (Kp (.type T) ([]++a.pos) a.kw) Q E I) ?_ (λa I c=>g_ (Ky ?_)) λ_ _ z=>z))
 .rw[g]at h ⊢;exact PyProof.Rows.evalArgs_kwB d h
 .rw[k,f];exact g_ (y_ (g_ (HU c (λr b j=>g_ (Js (wpAny_point (y_ j)))) λ_ _ z=>z)))
def G9(K:Pn)(tl:TE):TI:=λσ H R=>tl σ H λx H1=>∃a,x=.ref a/\(∃xs,SqL K H1 a xs)/\R (Ite1 K a) H1
def pi_enum1{k:Nat}{B o:PR}{j}{tl:TE}(K:Gl X "enumerate")(E:X.mg "enumerate"=c_)(F:PE X a tl)(m: ~~~(i_ [a] X.env=[(b_,Hv a X.env)])):
  PI X (.Tuple elts k q) (.Call (.Name "enumerate" p) [a] [⟨a_ (n_ "start"),.Constant (.int 1) j o,B⟩] pos) (G9 X.K tl):=by
 intro A4 s σ H R I h;have L:PA X [a] (aR tl eP):=ax F aP m;refine IY (uv I K E boot_enumerate ?_);refine zo (C6 (L pos A4 s σ H (λvs H1=>match vs with
  |[x]=>∃a,x=.ref a/\(∃xs,SqL X.K H1 a xs)/\R (Ite1 X.K a) H1
  |_=>False) I h) λus r ⟨vs,H1,O,A,e⟩=>?_) m rfl rfl
 rcases vs with _|⟨x,_|⟨_,_⟩⟩
 .exact HK e
 rotate_left
 .exact HK e
 .obtain⟨l,e1,⟨xs,C⟩,q⟩:=e;subst e1;obtain⟨u,rfl,z⟩:=A.one;cases z;refine kws_cons (C6 (BS (X:=X) (i:=1) (j:=j) (pos:=o) A4 r σ H1 (λv H2=>v=.int 1/\H2=H1) O ⟨rfl,rfl⟩) λw Y D=>?_);obtain⟨y,H2,d,r2,e2,e3⟩:=D;refine kws_nil ?_;subst e2 e3;obtain⟨t,rfl⟩:=(show ∃t,w=Im 1 t from r2)
  obtain⟨A8,P,pl,Q⟩:=d.list C;refine Ee pl.isList λh2 n f G=>?_;have N:A6 X A4 σ H2 {Y with heap:=h2}:=d.kept (t':=Y.toks) G;refine Pw n ⟨Y.z+1,[Y.z+1,Y.z],_,_,H2,rfl,N,CT l _ _ (Nat.succ_ne_self _),⟨⟨_,n⟩,f⟩,λb g=>?_,q⟩;have c:Y.z<=b:=by
   rcases t_.mp g with rfl|g
   .simp
   .obtain rfl:b=Y.z:=by simpa using g
    simp
  exact d.fpOk c (d.hok.fresh c)
end
structure Cells(K:Pn)(F H:Hp)(xs:List e_)(ds:bv):Prop where
 fh:aM F H
 nd:xs.Nodup
 len:xs.length=ds.length
 own:∀(j:Nat) (x:e_) (d:A3),xs[j]?=a_ x->ds[j]?=a_ d->isO d=d_/\mL K F (λ_=>c_) H d (.ref x)
structure mH(xs:List e_)(F H F' H':Hp):Prop where
 ff:aM F F'
 hh:∀b o,b∉xs->H b=a_ o->H' b=a_ o
 fh:aM F' H'
 nw:∀b o,F' b=a_ o->F b=a_ o\/H b=c_
section
variable{xs:List e_}{ds:List A3}
def A5.toC(s:A5 F H F' H'):mH xs F H F' H':=⟨s.ff,λb o _ h=>s.hh b o h,s.fh,s.nw⟩
theorem mH.trans{F2 H2:Hp}(a:mH xs F H F' H')(b:mH xs F' H' F2 H2)(Y:∀x∈xs,∃o,H' x=a_ o):mH xs F H F2 H2:=
 ⟨a.ff.trans b.ff,λc o n h=>b.hh c o n (a.hh c o n h),b.fh,λc o h=>(b.nw c o h).elim (λz=>a.nw c o z) λz=>.inr (by
  cases e:H c with
  |none=>rfl|some u=>
   by_cases I:c∈xs
   .obtain⟨o',d⟩:=Y c I;rw[d]at z;cases z
   .rw[a.hh c u I e]at z;cases z)⟩
def Cells.at(c:Cells K F H xs ds){x:e_}(Y:x∈xs):F x=c_/\∃o,H x=a_ o/\isMu o=d_:=by
 obtain⟨j,I,rfl⟩:=LC Y;have hd:j<ds.length:=by rw[<- c.len];exact I
 obtain⟨h1,h2⟩:=c.own j xs[j] ds[j] (HA I) (HA hd);obtain⟨a,o,e,p,m,f,_⟩:=h2.top h1;cases e;exact⟨f,o,p,m⟩
def Cells.step(c:Cells K F H xs ds)(s:A5 F H F' H'):Cells K F' H' xs ds:=⟨s.fh,c.nd,c.len,λj x d e1 e2=>by obtain⟨h1,h2⟩:=c.own j x d e1 e2;obtain⟨a,o,e,p,_,f,_⟩:=h2.top h1;cases e;exact⟨h1,h2.re h1 s.ff (s.stays f p) λo h=>s.hh _ _ h⟩⟩
def Cells.ff(c:Cells K F H xs ds):aM F (plus F H (·∈xs)):=λb o h=>by
 by_cases I:b∈xs
 .rw[(c.at I).1]at h;cases h
 .rw[cV I];exact h
def Cells.zh(c:Cells K F H xs ds):aM (plus F H (·∈xs)) H:=λb o h=>by
 by_cases I:b∈xs
 .rw[jL I]at h;exact h
 .rw[cV I]at h;exact c.fh b o h
def Cells.deep(c:Cells K F H xs ds){j:Nat}{x:e_}{d:A3}(e1:xs[j]?=a_ x)(e2:ds[j]?=a_ d):aU K (plus F H (·∈xs)) d (.ref x):=by obtain⟨h1,h2⟩:=c.own j x d e1 e2;exact h2.give h1 c.ff (jL (HS e1))
theorem Cells.back(c:Cells K F H xs ds)(s:A5 (plus F H (·∈xs)) H F' H'):A5 F H (minus F' (·∈xs)) H':=by
 refine⟨λb o h=>?_,s.hh,λb o h=>?_,λb o h=>?_⟩
 .by_cases I:b∈xs
  .rw[(c.at I).1]at h;cases h
  .rw[g7 I];exact s.ff b o (by rw[cV I];exact h)
 .by_cases I:b∈xs
  .simp_all[qm]
  .rw[g7 I]at h;exact s.fh b o h
 .by_cases I:b∈xs
  .simp_all[qm]
  .rw[g7 I]at h;exact(s.nw b o h).elim (λz=>by rw[cV I]at z;exact .inl z) .inr
theorem Cells.flat(c:Cells K F H xs ds)(s:A5 (plus F H (·∈xs)) H F' H'){d:A3}{v:V}(f:ik d=d_)(q:aU K F' d v):aU K (minus F' (·∈xs)) d v:=by
 have key:∀{b:e_} {o:HO},F' b=a_ o->isMu o=b_->minus F' (·∈xs) b=a_ o:=λ{b o} h n=>by
  by_cases I:b∈xs
  .obtain⟨_,u,e,m⟩:=c.at I;have:=s.ff b u (by rw[jL I];exact e);simp_all
  .rw[g7 I];exact h
 refine q.flat (λa ys h=>?_) f;rcases h with(h|⟨o,h⟩)|h
 .exact .inl (.inl (key h rfl))
 .exact .inl (.inr ⟨o,key h rfl⟩)
 .exact .inr h
def Cells.put(c:Cells K F H xs ds){j:Nat}{x:e_}{u:HO}(e:xs[j]?=a_ x)(hd:isO d'=d_)(q:F x=c_->mL K F (λ_=>c_) (upd H x u) d' (.ref x)):Cells K F (upd H x u) xs (ds.set j d') where
 fh:=λb o h=>by
  have:b≠x:=λz=>by rw[z,(c.at (HS e)).1]at h;cases h
  rw[aw this];exact c.fh b o h
 nd:=c.nd
 len:=by rw[Hs,c.len]
 own:=λi y d e1 e2=>by
  by_cases I:j=i
  .subst I;rw[e]at e1;cases e1;have g:j<ds.length:=by have:=(s_.mp e2).1;simpa using this
   rw[sy g]at e2;cases e2;exact⟨hd,q (c.at (HS e)).1⟩
  .rw[p_ I]at e2;obtain⟨h1,h2⟩:=c.own i y d e1 e2;have Y:y≠x:=λz=>I ((OH (s_.mp e).1 c.nd).mp (by rw[e,e1,z]));obtain⟨a,o,k,p,_,f,_⟩:=h2.top h1;cases k;exact⟨h1,h2.re h1 (aM.refl _) f λo h=>by rw[aw Y];exact h⟩
theorem Cells.lst(c:Cells K F H xs ds){j:Nat}{x:e_}{es:bv}(e1:xs[j]?=a_ x)(e2:ds[j]?=a_ (.lst es)):∃ys,H x=a_ (.lst ys)/\aD K F es ys:=by obtain⟨a,ys,I,p,_,_,q⟩:=(c.own j x _ e1 e2).2;simp_all
theorem Cells.dic(c:Cells K F H xs ds){j:Nat}{x:e_}{ks:List (cc×A3)}(e1:xs[j]?=a_ x)(e2:ds[j]?=a_ (.dic ks)):∃rs ep,H x=a_ (zx x rs ep)/\dG K F ks rs:=by obtain⟨a,rs,I,⟨ep,p⟩,_,_,q⟩:=(c.own j x _ e1 e2).2;cases I;exact⟨rs,ep,p,q⟩
def Cells.app(c:Cells K F H xs ds){j:Nat}{x:e_}{es:bv}{ys:b9}{d:A3}(e1:xs[j]?=a_ x)(p:H x=a_ (.lst ys))(q:aD K F es ys)(I:aU K F d v):Cells K F (upd H x (.lst (ys++[v]))) xs (ds.set j (.lst (es++[d]))):=
 c.put e1 rfl λf=>⟨x,_,rfl,au,f,rfl,q.append ⟨v,[],rfl,I,rfl⟩⟩
theorem Cells.updC(c:Cells K F H xs ds){x:e_}(u:HO)(I:x∈xs):mH xs F H F (upd H x u):=
 ⟨aM.refl _,λb o n h=>by rw[aw (λz=>n (by rw[z];exact I))];exact h,λb o h=>by
  have:b≠x:=λz=>by rw[z,(c.at I).1]at h;lia
  rw[aw this];exact c.fh b o h,λ_ _ h=>.inl h⟩
end
noncomputable def gz(xs:List e_):List (m_×V):=(["kinds","gaps","beside","names","flights","closed"]:b8).zip (xs.map V.ref)
structure Dr(K:Pn)(C:e_)(F H:Hp)(p dx:e_)(xs:List e_)(ds:bv):Prop where
 c:Cells K F H xs ds
 ob:H p=a_ (.ins C dx (gz xs))
 fp:F p=c_
 np:p∉xs
section
variable{p:e_}{xs:List e_}{ds:List A3}
theorem Dr.step(d:Dr K C F H p dx xs ds)(s:A5 F H F' H'):Dr K C F' H' p dx xs ds:=⟨d.c.step s,s.hh _ _ d.ob,s.stays d.fp d.ob,d.np⟩
theorem Dr.put(d:Dr K C F H p dx xs ds){x:e_}{u:HO}(I:x∈xs)(c:Cells K F (upd H x u) xs ds'):Dr K C F (upd H x u) p dx xs ds':=
 ⟨c,by rw[aw (λz=>d.np bb)];exact d.ob,d.fp,d.np⟩
end
def mX:Sp:=λvs H Q _=>∃a v,vs=[.ref a,v]/\(v=.non->Q (.bl b_) H)/\(v≠.non->∃ys,H a=a_ (.lst ys)/\ys.length<h_/\Q (.bl d_) (upd H a (.lst (ys++[v]))))
def rs_told(h:mX vs H Q E):
  eB (ou (tB (tIsN (cb 1))) (sO (tC (.bl b_))) hI) (eB (sP (tBM K "list" jK (cb 0) (aR (cb 1) eP))) (sO (tC (.bl d_)))) {nx:=λ_ H'=>Q .non H',rt:=Q} (start ["kept","told"] vs) H:=by
 obtain⟨a,v,rfl,h1,h2⟩:=h;refine⟨v,rfl,_,rfl,?_⟩
 by_cases hv:v=.non
 .rw[x_ hv];exact h1 hv
 .obtain⟨ys,I,Y,h2⟩:=h2 hv;rw[p9 hv];exact⟨.ref a,rfl,jH I,v,rfl,a,ys,v,rfl,rfl,I,Y,h2⟩
def zK(K:Pn)(mg:bv->M A3):Sp:=λvs H Q _=>∃(k g:e_) (vw:V) (F:Hp) (xs:List e_) (ds:bv) (b I:Nat) (a Y:A3) (ks:List (cc×A3)),vs=[.ref k,.ref g,vw]/\Cells K F H xs ds/\xs[b]?=a_ k/\ds[b]?=a_ a/\xs[I]?=a_ g/\ds[I]?=a_ (.dic ks)/\aU K F Y vw /\
 ((mg [a,Y]=.ok .non/\∀F' H',A5 F H F' H'->Q (.bl b_) H')\/∃i j v:Int,mg [a,Y]=.ok (.tup [.int i,.int j,.int v])/\ks.length<h_/\∀F' H' u,A5 F H F' H'->Cells K F' (upd H' g u) xs (ds.set I (.dic (Di ks [i,j] (.int v))))->Q (.bl d_) (upd H' g u))
abbrev fk3:ai->M A3:=fL iU (aa (f2 ixD (ah 3) (fC (.int 0))) (aa (f2 ixD (ah 3) (fC (.int 1))) aB))
abbrev fv3:ai->M A3:=f2 ixD (ah 3) (fC (.int 2))
def ee.only{d:A3}(e:σ[i]?=a_ (a_ v))(q:aU K F d v):ee K F σ ((Ie σ.length c_).set i (a_ d)):=
 ⟨am,λj d' h=>by
  by_cases I:i=j
  .subst I;rw[sy (by rw[JQ];exact(s_.mp e).1)]at h;cases h;exact⟨v,e,q⟩
  .rw[p_ I,J9]at h;split at h<;>cases h⟩
def rs_gap{mg:bv->M A3}{O:XK}(h:zK K mg vs H Q E):
  eB (sI (ia (spF K b_ mg 2) [] O (aR (cb 0) (aR (cb 2) eP))) (cK 3)) (eB (ou (tB (tIsN (cb 3))) (sO (tC (.bl b_))) hI) (eB (sPut K (cb 1) (tD K D' b_ fk3) (tD K D' b_ fv3)) (sO (tC (.bl d_))))) {nx:=λ_ H'=>Q .non H',rt:=Q} (start ["kinds","gaps","words","told"] vs) H:=by
 obtain⟨k,g,vw,F,xs,ds,P,R,L,G,ks,rfl,c,ek,A,o,hd,u,h⟩:=h;refine⟨.ref k,rfl,vw,rfl,plus F H (·∈xs),[L,G],c.zh,⟨_,_,rfl,c.deep ek A,vw,_,rfl,u.mono c.ff,rfl⟩,rfl,?_⟩
 rcases h with⟨e,h⟩|⟨i,j,v,e,z,h⟩
 .rw[e];intro w F1 H1 I d;cases(show w=V.non from d);exact⟨.non,rfl,_,rfl,h _ H1 (c.back I)⟩
 .rw[e];intro w F1 H1 l d;have I:=c.back l;have n:aU K (minus F1 (·∈xs)) (.tup [.int i,.int j,.int v]) w:=c.flat l rfl d;obtain⟨b,ys,rfl,_⟩:=id n;refine⟨.ref b,rfl,_,rfl,?_⟩
  have m:ee K (minus F1 (·∈xs)) ([a_ (.ref k),a_ (.ref g),a_ vw,a_ (.ref b)]:St) [c_,c_,c_,a_ (.tup [.int i,.int j,.int v])]:=ee.only (i:=3) rfl n;refine⟨_,_,m,I.fh,?_⟩
  show aJ K D' b_ _ H1 (.ok (.int v)) _;intro w2 F2 H2 Y y;cases(show w2=V.int v from y);refine⟨.ref g,rfl,F2,_,m.mono Y.ff,Y.fh,?_⟩
  have C:fk3 [c_,c_,c_,a_ (.tup [.int i,.int j,.int v])]=.ok (.tup [.int i,.int j]):=by show iU [.int i,.int j]=_;unfold iU;rw[f_ am]
  rw[C];intro s q N t x;obtain⟨b3,r,rfl,t3,_,_,rfl,e4,_,_,rfl,e5,D⟩:=(show aU K q (.tup [.int i,.int j]) s from x)
  cases e4;cases e5;cases D;have st:=(I.trans Y).trans t;have p:=c.step st;obtain⟨rs,ep,B,a⟩:=p.dic o hd;exact⟨g,b3,[i,j],rs,ep,rfl,rfl,B,a.key.mono st.fh,st.fh.tup t3,by rw[a.length];exact z,λep'=>h q N _ st (p.put o rfl λf=>⟨g,_,rfl,⟨ep',au⟩,f,rfl,a.put (k:=[i,j]) t3 rfl⟩)⟩
def tTr(K:Pn)(ta:TE):TT:=λσ H Q=>ta σ H λx H'=>∃k,TruV K x H' k/\Q k H'
def tY(j:Nat)(ds:bv)(t:A3):M (Bool×bv):=match t with
 |.non=>.ok (b_,ds)|t=>match ds[j]? with
  |some (.lst es)=>if (ik t&&q_ (es.length<h_))=d_ then .ok (d_,ds.set j (.lst (es++[t])))else stk
  |_=>stk
def Eo(j:Nat)(ds:bv)(t:A3):M (Bool×bv):=match t with
 |.non=>.ok (b_,ds)|.tup [.int a,.int b,.int v]=>match ds[j]? with
  |some (.dic ks)=>if ks.length<h_ then .ok (d_,ds.set j (.dic (Di ks [a,b] (.int v))))else stk
  |_=>stk
 |_=>stk
def mT(mf:bv->M A3)(ds ws:bv):M (Bool×bv):=match ds with
 |[.lst Y,.dic a,.dic d,.lst I,.lst b,.lst c]=>(mf [.lst Y,.lst I,.lst ws]).bind λt=>(tY 4 ds t).bind λr=>if r.1=d_ then(ixD (.lst ws) (.int 1)).bind λnm=>match nm with
  |.non=>stk|nm=>tY 3 r.2 nm
  else .ok r
 |_=>stk
def oq(t1 t2 t3 t4 t5:ai->M Bool)(t6:ai->M A3)(mk mg ms mf:bv->M A3)(ds ws:bv):M (Bool×bv):=match ds with
 |[.lst I,.dic c,.dic f,.lst a,.lst e,.lst Y]=>
  (t1 [c_,a_ (.lst ws)]).bind λb=>if b=d_ then .ok (d_,ds)else
  (t2 [c_,a_ (.lst ws)]).bind λb=>if b=d_ then(mk [.lst I,.lst ws]).bind (tY 0 ds)else
  (t3 [c_,a_ (.lst ws)]).bind λb=>if b=d_ then(mg [.lst I,.lst ws]).bind (Eo 1 ds)else
  (t4 [c_,a_ (.lst ws)]).bind λb=>if b=d_ then(mg [.lst I,.lst ws]).bind (Eo 2 ds)else
  (t5 [c_,a_ (.lst ws)]).bind λb=>if b=d_ then(ms [.lst Y,.lst ws]).bind (tY 5 ds)else
  (t6 [c_,a_ (.lst ws)]).bind λd=>match d with
   |.bl d_=>mT mf ds ws|.bl b_=>.ok (b_,ds)|_=>stk
 |_=>stk
def bind_eq{I:Type}{x:M α}{f:α->M I}{r:I}(h:x.bind f=.ok r):∃a,x=.ok a/\f a=.ok r:=by
 cases x with
 |error e=>cases h|ok a=>exact⟨a,rfl,h⟩
def aU.nn{t:A3}(q:aU K F t v):v=.non↔t=.non:=by
 cases t with
 |non=>exact⟨λ_=>rfl,λ_=>q⟩|bl b=>cases(show v=.bl b from q);simp|int b=>cases(show v=.int b from q);simp|str b=>cases(show v=.str b from q);simp|tup _=>obtain⟨a,_,rfl,_⟩:=q;simp
 |lst _=>obtain⟨a,_,rfl,_⟩:=q;simp
 |ins _ _=>obtain⟨a,_,_,rfl,_⟩:=q;simp
 |dic _=>obtain⟨a,_,rfl,_⟩:=q;simp
 |dil _=>obtain⟨a,_,rfl,_⟩:=q;simp
def oh{j:Nat}{ds:bv}{t:A3}(n:t≠.non)(h:tY j ds t=.ok r):∃es,ds[j]?=a_ (.lst es)/\ik t=d_/\es.length<h_/\r=(d_,ds.set j (.lst (es++[t]))):=by
 have h:(match ds[j]? with
  |some (.lst es)=>if (ik t&&q_ (es.length<h_))=d_ then .ok (d_,ds.set j (.lst (es++[t])))else stk
  |_=>stk:M (Bool×bv))=.ok r:=by
  cases t<;>first|exact Ho rfl n|exact h
 split at h
 .rename_i es Y;split at h
  .rename_i I;rw[o_,Hx]at I;cases h;exact⟨es,Y,I.1,I.2,rfl⟩
  .cases h
 .cases h
def dF0{k g n:e_}:(gz [k,g,b,n,f,c]).lookup ("kinds":m_)=a_ (V.ref k):=by rfl
def dF1{k g n:e_}:(gz [k,g,b,n,f,c]).lookup ("gaps":m_)=a_ (V.ref g):=by rfl
def dF2{k g n:e_}:(gz [k,g,b,n,f,c]).lookup ("beside":m_)=a_ (V.ref b):=by rfl
def dF3{k g n:e_}:(gz [k,g,b,n,f,c]).lookup ("names":m_)=a_ (V.ref n):=by rfl
def dF4{k g n:e_}:(gz [k,g,b,n,f,c]).lookup ("flights":m_)=a_ (V.ref f):=by rfl
def dF5{k g n:e_}:(gz [k,g,b,n,f,c]).lookup ("closed":m_)=a_ (V.ref c):=by rfl
section
variable{p:e_}{xs:List e_}{ds:List A3}
def Hk(K:Pn)(C:e_)(F H:Hp)(p dx:e_)(xs:List e_)(r:Bool×bv)(Q:VK):Prop:=∀F' H',mH xs F H F' H'->Dr K C F' H' p dx xs r.2->Q (.bl r.1) H'
def Dr.ex(d:Dr K C F H p dx xs ds):∀x∈xs,∃o,H x=a_ o:=λ_ I=>let ⟨_,o,h,_⟩:=d.c.at I;⟨o,h⟩
theorem Hk.step{r:Bool×bv}(f:Hk K C F H p dx xs r Q)(d:Dr K C F H p dx xs ds)(s:A5 F H F' H'):Hk K C F' H' p dx xs r Q:=λF2 H2 I d2=>f F2 H2 (s.toC.trans I (d.step s).ex) d2
def Dr.tell(d:Dr K C F H p dx xs ds){j:Nat}{x:e_}{t:A3}(E:XK)(ex:xs[j]?=a_ x)(q:aU K F t v)(e:tY j ds t=.ok r)(I:Hk K C F H p dx xs r Q):mX [.ref x,v] H Q E:=by
 refine⟨x,v,rfl,λhv=>?_,λhv=>?_⟩
 .cases q.nn.mp hv;cases e;exact I F H ⟨aM.refl _,λ_ _ _ h=>h,d.c.fh,λ_ _ h=>.inl h⟩ d
 .obtain⟨es,g,f,c,rfl⟩:=oh (λz=>hv (q.nn.mpr z)) e;obtain⟨ys,a,Y⟩:=d.c.lst ex g;have b:=HS ex;exact⟨ys,a,by rw[Y.length];exact c,I F _ (d.c.updC _ b) (d.put b (d.c.app ex a Y q))⟩
variable{mg:List A3->M A3}
def wY{r:List α}(h:r.length=n+1):∃x t,r=x::t/\t.length=n:=by
 cases r with
 |nil=>cases h|cons x t=>exact⟨x,t,rfl,Iv h⟩
theorem Dr.len6{h e j l:bv}{i m:List (cc×A3)}(d:Dr K C F H p dx xs [.lst h,.dic i,.dic m,.lst e,.lst j,.lst l]):∃k g b n f c,xs=[k,g,b,n,f,c]:=by obtain⟨k,t,rfl,h1⟩:=wY d.c.len;obtain⟨g,t,rfl,h2⟩:=wY h1;obtain⟨b,t,rfl,a⟩:=wY h2;obtain⟨n,t,rfl,Y⟩:=wY a;obtain⟨f,t,rfl,I⟩:=wY Y;obtain⟨c,t,rfl,o⟩:=wY I;grind
def BC{fx I:m_}{j jy:Nat}{x y:e_}{a:A3}(d:Dr K C F H p dx xs ds)(g:Cls K C)(m:bu K C fx)(l:bu K C I)(f:σ[0]?=a_ (a_ (.ref p)))(h1:σ[1]?=a_ (a_ vw))(h:aU K F (.lst ws) vw)(o:(gz xs).lookup fx=a_ (.ref x))(n:(gz xs).lookup I=a_ (.ref y))(ex:xs[j]?=a_ x)(s:xs[jy]?=a_ y)(q:ds[jy]?=a_ a)(e:(mk [a,.lst ws]).bind (tY j ds)=.ok r)(Y:Hk K C F H p dx xs r Q):
  ia mX [] E1 (aR (uX K (cb 0) fx) (aR (ia (spF K b_ mk 2) [] E2 (aR (uX K (cb 0) I) (aR (cb 1) eP))) eP)) σ H Q:=by
 obtain⟨t,u,e⟩:=bind_eq e;refine⟨.ref p,f,p,C,dx,_,_,rfl,d.ob,g,m,o,?_⟩
 refine⟨.ref p,f,p,C,dx,_,_,rfl,d.ob,g,l,n,?_⟩
 refine⟨vw,h1,plus F H (·∈xs),[a,.lst ws],d.c.zh,⟨_,_,rfl,d.c.deep s q,_,_,rfl,h.mono d.c.ff,rfl⟩,rfl,?_⟩
 rw[u];intro v F1 H1 b k;have S:=d.c.back b;have i:aU K (minus F1 (·∈xs)) t v:=d.c.flat b (by
  by_cases c:t=.non
  .rw[c];rfl
  .exact(oh c e).choose_spec.2.1) k
 exact(d.step S).tell E1 ex i e (Y.step d S)
theorem rs_putD2{fx:m_}{j:Nat}{x k:e_}{Y:A3}(d:Dr K C F H p dx xs ds)(h:Cls K C)(m:bu K C fx)(n:bu K C "kinds")(f:σ[0]?=a_ (a_ (.ref p)))(h1:σ[1]?=a_ (a_ vw))(i:aU K F (.lst ws) vw)(q:(gz xs).lookup ("kinds":m_)=a_ (V.ref k))(o:(gz xs).lookup fx=a_ (.ref x))(ek:xs[0]?=a_ k)(y:ds[0]?=a_ Y)(ex:xs[j]?=a_ x)(hd:ds[j]?=a_ (.dic ks))(e:(mg [Y,.lst ws]).bind (Eo j ds)=.ok r)(I:Hk K C F H p dx xs r Q):
  ia (zK K mg) [] E1 (aR (uX K (cb 0) "kinds") (aR (uX K (cb 0) fx) (aR (cb 1) eP))) σ H Q:=by
 obtain⟨t,g,e⟩:=bind_eq e;refine⟨.ref p,f,p,C,dx,_,_,rfl,d.ob,h,n,q,?_⟩
 refine⟨.ref p,f,p,C,dx,_,_,rfl,d.ob,h,m,o,?_⟩
 refine⟨vw,h1,k,x,vw,F,xs,ds,0,j,Y,.lst ws,ks,rfl,d.c,ek,y,ex,hd,i,?_⟩
 have c:=HS ex;cases t with
 |non=>cases e;exact .inl ⟨g,λF1 H1 s=>I _ H1 s.toC (d.step s)⟩|tup l=>
  unfold Eo at e;split at e
  .simp_all
  .rename_i a b v hh;cases hh;rw[hd]at e;dsimp only at e;split at e
   rotate_left
   .cases e
   rename_i w;cases e;exact .inr ⟨a,b,v,g,w,λF1 H1 u S z=>I _ _ (S.toC.trans ((d.step S).c.updC u c) (d.step S).ex) ((d.step S).put c z)⟩
  .cases e
 |_=>cases e
def ve(K:Pn)(C:e_)(mr:bv->bv->M (Bool×bv)):Sp:=λvs H Q _=>∃(p dx:e_) (xs:List e_) (F:Hp) (ds ws:bv) (vw:V) (r:Bool×bv),vs=[.ref p,vw]/\Dr K C F H p dx xs ds/\aU K F (.lst ws) vw/\mr ds ws=.ok r/\Hk K C F H p dx xs r Q
def Ff(q:Cls K C)(m:∀y∈(["kinds","gaps","beside","names","flights","closed"]:b8),bu K C y)(h:ve K C (mT mf) vs H Q E):
  eB (ou (tNot (tTr K (ia mX [] E1 (aR (uX K (cb 0) "flights") (aR (ia (spF K b_ mf 3) [] E2 (aR (uX K (cb 0) "kinds") (aR (uX K (cb 0) "names") (aR (cb 1) eP)))) eP))))) (sO (tC (.bl b_))) hI)
   (eB (sP (tBM K "list" jK (uX K (cb 0) "names") (aR (tD K D' b_ (f2 ixD (ah 1) (bm 1))) eP))) (sO (tC (.bl d_)))) {nx:=λ_ H'=>Q .non H',rt:=Q} (start ["draft","words"] vs) H:=by
 obtain⟨p,dx,xs,F,ds,ws,vw,r,rfl,d,N,e,l⟩:=h;unfold mT at e;split at e
 rotate_left
 .cases e
 rename_i dk dg db dn df dc;obtain⟨k,g,b,n,f,c,rfl⟩:=d.len6;obtain⟨t,X,e⟩:=bind_eq e;obtain⟨s,e1,e⟩:=bind_eq e;refine⟨.ref p,rfl,p,C,dx,_,_,rfl,d.ob,q,(m _ am),dF4,?_⟩
 refine⟨.ref p,rfl,p,C,dx,_,_,rfl,d.ob,q,(m _ am),dF0,?_⟩
 refine⟨.ref p,rfl,p,C,dx,_,_,rfl,d.ob,q,(m _ am),dF3,?_⟩
 refine⟨vw,rfl,plus F H (·∈[k,g,b,n,f,c]),[.lst dk,.lst dn,.lst ws],d.c.zh,⟨_,_,rfl,d.c.deep (j:=0) rfl rfl,_,_,rfl,d.c.deep (j:=3) rfl rfl,_,_,rfl,N.mono d.c.ff,rfl⟩,rfl,?_⟩
 rw[X];intro v F1 H1 L U;have S:=d.c.back L;have T:aU K (minus F1 (·∈[k,g,b,n,f,c])) t v:=d.c.flat L (by
  by_cases I:t=.non
  .rw[I];rfl
  .exact(oh I e1).choose_spec.2.1) U
 have d1:=d.step S;unfold eP;dsimp only[];show mX [V.ref f,v] H1 _ E1;refine d1.tell E1 (j:=4) rfl T e1 (λF2 H2 G d2=>?_);refine⟨s.1,rfl,?_⟩
 cases A:s.1 with
 |false=>rw[A,k_ a8]at e;cases e;have:=l F2 H2 (S.toC.trans G d1.ex) d2;rw[A]at this;exact this|true=>
  rw[A,f_ rfl]at e;obtain⟨nm,en,e⟩:=bind_eq e;have a:nm≠.non:=λz=>by rw[z]at e;cases e
  have e:tY 3 s.2 nm=.ok r:=by cases nm<;>first|exact Ho rfl a|exact e
  obtain⟨Z,D,W,B,rfl⟩:=oh a e;obtain⟨ys,I,O⟩:=d2.c.lst (j:=3) (x:=n) rfl D;refine⟨.ref p,rfl,p,C,dx,_,_,rfl,d2.ob,q,(m _ am),dF3,?_⟩
  have u:=(N.mono S.ff).mono G.ff;refine⟨jH I,F2,[c_,a_ (.lst ws)],ee.only (σ:=[a_ (.ref p),a_ vw]) (i:=1) rfl u,d2.c.fh,?_⟩
  rw[show f2 ixD (ah 1) (bm 1) [c_,a_ (.lst ws)]=.ok nm from en];intro w F3 H3 Y R;have o:=d2.step Y;have P:n∈[k,g,b,n,f,c]:=by simp
  refine⟨n,ys,w,rfl,rfl,Y.hh _ _ I,by rw[O.length];exact B,?_⟩
  exact l F3 _ (((S.toC.trans G d1.ex).trans Y.toC d2.ex).trans (o.c.updC _ P) o.ex) (o.put P (o.c.app (j:=3) rfl (Y.hh _ _ I) (O.mono Y.ff) R))
end
section
variable{p:e_}{xs:List e_}{ds:List A3}{mg ms:List A3->M A3}{E4 E5 E6 E7:XK}
def Dr.ask(d:Dr K C F H p dx xs ds)(g:aU K F (.lst ws) vw){t:ai->M Bool}{f:Bool->M (Bool×bv)}(e:(t [c_,a_ (.lst ws)]).bind f=.ok r)(Y:Hk K C F H p dx xs r Q){T:TS}{D:Ends}(c:∀F1 H1,Dr K C F1 H1 p dx xs ds->aU K F1 (.lst ws) vw->Hk K C F1 H1 p dx xs r Q->f d_=.ok r->T D [a_ (.ref p),a_ vw] H1)(k:∀F1 H1,Dr K C F1 H1 p dx xs ds->aU K F1 (.lst ws) vw->Hk K C F1 H1 p dx xs r Q->f b_=.ok r->U D [a_ (.ref p),a_ vw] H1):ou (tDT K D' t) T U D [a_ (.ref p),a_ vw] H:=by
 obtain⟨b,j,e⟩:=bind_eq e;refine iy (ee.only (σ:=[a_ (.ref p),a_ vw]) (i:=1) rfl g) d.c.fh (λl h=>?_) λm a F1 H1 I=>?_
 .have h:t [c_,a_ (.lst ws)]=.error l:=h;rw[j]at h;cases h
 .have a:t [c_,a_ (.lst ws)]=.ok m:=a;rw[j]at a;cases a;cases b with
  |true=>exact c F1 H1 (d.step I) (g.mono I.ff) (Y.step d I) e|false=>exact k F1 H1 (d.step I) (g.mono I.ff) (Y.step d I) e
def rs_row{t2:ai->M Bool}{t6:ai->M A3}(w:Cls K C)(Y:∀y∈(["kinds","gaps","beside","names","flights","closed"]:b8),bu K C y)(h:ve K C (oq t1 t2 t3 t4 t5 t6 mk mg ms mf) vs H Q E):
  eB (ou (tDT K D' t1) (sO (tC (.bl d_))) hI)
  (eB (ou (tDT K D' t2) (sO (ia mX [] E1 (aR (uX K (cb 0) "kinds") (aR (ia (spF K b_ mk 2) [] E2 (aR (uX K (cb 0) "kinds") (aR (cb 1) eP))) eP)))) hI)
  (eB (ou (tDT K D' t3) (sO (ia (zK K mg) [] E3 (aR (uX K (cb 0) "kinds") (aR (uX K (cb 0) "gaps") (aR (cb 1) eP))))) hI)
  (eB (ou (tDT K D' t4) (sO (ia (zK K mg) [] E4 (aR (uX K (cb 0) "kinds") (aR (uX K (cb 0) "beside") (aR (cb 1) eP))))) hI)
  (eB (ou (tDT K D' t5) (sO (ia mX [] E5 (aR (uX K (cb 0) "closed") (aR (ia (spF K b_ ms 2) [] E6 (aR (uX K (cb 0) "closed") (aR (cb 1) eP))) eP)))) hI)
   (sO (tAndV (tD K D' b_ t6) (ia (ve K C (mT mf)) [] E7 (aR (cb 0) (aR (cb 1) eP))))))))) {nx:=λ_ H'=>Q .non H',rt:=Q} (start ["draft","words"] vs) H:=by
 obtain⟨p,dx,xs,F,ds,ws,vw,r,rfl,d,G,e,I⟩:=h;unfold oq at e;split at e
 rotate_left
 .cases e
 rename_i l o u m s t;obtain⟨k,g,b,n,f,c,rfl⟩:=d.len6;refine d.ask G e I (λF1 H1 d q I e=>?_) (λF1 H1 d q I e=>?_)
 .cases e;exact I F1 H1 ⟨aM.refl _,λ_ _ _ h=>h,d.c.fh,λ_ _ h=>.inl h⟩ d
 refine d.ask q e I (λF1 H1 d q I e=>?_) (λF1 H1 d q I e=>?_)
 .exact BC d w (Y _ am) (Y _ am) rfl rfl q dF0 dF0 (j:=0) rfl (jy:=0) rfl rfl e I
 have A:∀{j:Nat} {fx:m_} {x:e_} {ks:List (cc×A3)} {D:XK} {F1 H1:Hp},Dr K C F1 H1 p dx [k,g,b,n,f,c] [.lst l,.dic o,.dic u,.lst m,.lst s,.lst t]->aU K F1 (.lst ws) vw->Hk K C F1 H1 p dx [k,g,b,n,f,c] r Q->(mg [.lst l,.lst ws]).bind (Eo j [.lst l,.dic o,.dic u,.lst m,.lst s,.lst t])=.ok r->bu K C fx->(gz [k,g,b,n,f,c]).lookup fx=a_ (V.ref x)->[k,g,b,n,f,c][j]?=a_ x->([.lst l,.dic o,.dic u,.lst m,.lst s,.lst t]:bv)[j]?=a_ (.dic ks) ->
   ia (zK K mg) [] D (aR (uX K (cb 0) "kinds") (aR (uX K (cb 0) fx) (aR (cb 1) eP))) [a_ (.ref p),a_ vw] H1 Q:=λ{j fx x ks D F1 H1} d q I e nx L ex hd=>rs_putD2 d w nx (Y _ am) rfl rfl q dF0 L rfl rfl ex hd e I
 refine d.ask q e I (λF1 H1 d q I e=>?_) (λF1 H1 d q I e=>?_)
 .exact A (j:=1) d q I e (Y _ am) dF1 rfl rfl
 refine d.ask q e I (λF1 H1 d q I e=>?_) (λF1 H1 d q I e=>?_)
 .exact A (j:=2) d q I e (Y _ am) dF2 rfl rfl
 refine d.ask q e I (λF1 H1 d q I e=>?_) (λF1 H1 d q I e=>?_)
 .exact BC d w (Y _ am) (Y _ am) rfl rfl q dF5 dF5 (j:=5) rfl (jy:=5) rfl rfl e I
 obtain⟨dd,B,e⟩:=bind_eq e;refine aT (ee.only (σ:=[a_ (.ref p),a_ vw]) (i:=1) rfl q) d.c.fh (λN h=>?_) λd' hd v F1 H1 a z=>?_
 .have h:t6 [c_,a_ (.lst ws)]=.error N:=h;rw[B]at h;cases h
 .have hd:t6 [c_,a_ (.lst ws)]=.ok d':=hd;rw[B]at hd;cases hd;cases dd with
  |bl c=>
   cases c with
   |true=>cases(show v=V.bl d_ from z);exact⟨d_,rfl,.ref p,rfl,vw,rfl,p,dx,_,F1,_,ws,vw,r,rfl,d.step a,q.mono a.ff,e,I.step d a⟩|false=>cases(show v=V.bl b_ from z);cases e;exact⟨b_,rfl,I F1 H1 a.toC (d.step a)⟩
  |_=>cases e
end
def spID(C:e_):Sp:=λvs H Q _=>∃(p dx:e_),vs=[.ref p]/\H p=a_ (.ins C dx [])/\∀(k g b n f c:e_) (H':Hp),(∀m o,H m=a_ o->m≠p->H' m=a_ o)->(∀x∈[k,g,b,n,f,c],H x=c_)->[k,g,b,n,f,c].Nodup ->
 H' k=a_ (.lst [])->H' g=a_ (zx g [] 0)->H' b=a_ (zx b [] 0)->H' n=a_ (.lst [])->H' f=a_ (.lst [])->H' c=a_ (.lst [])->H' p=a_ (.ins C dx (gz [k,g,b,n,f,c]))->Q .non H'
section
variable{p:e_}{fs:List (m_×V)}{f:m_}{D:Ends}
theorem Cu.cell(c:Cu F H Hc p C dx fs)(q:Cls K C)(g:bu K C f)(i:f∉fs.map (·.1))(k:fs.length<1000)(n:σ[0]?=a_ (a_ (.ref p)))(Y:Hc l=c_)(I:∀b,Cu F H b p C dx (fs++[(f,.ref l)])->H l=c_->b l=a_ o->(∀m u,Hc m=a_ u->m≠p->b m=a_ u)->D.nx σ b):(cb 0) σ (upd Hc l o) λx H2=>∃a C dx fs,x=.ref a/\H2 a=a_ (.ins C dx fs)/\Cls K C/\bu K C f/\fs.length<1000/\D.nx σ (upd H2 a (.ins C dx (um f (.ref l) fs))):=by
 refine⟨.ref p,n,p,C,dx,fs,rfl,(c.lay Y).ob,q,g,k,?_⟩
 rw[nj f _ fs i];have d:l≠p:=λz=>by have h:=c.ob;simp_all
 refine I _ ((c.lay Y).put f (.ref l)) (c.new Y) (by rw[aw d,au]) λm u e j=>?_
 have:m≠l:=λz=>by rw[z,Y]at e;cases e
 rw[aw j,aw this];exact e
end
theorem rs_initD(d:Cls K C)(a:∀y∈(["kinds","gaps","beside","names","flights","closed"]:b8),bu K C y)(h:spID C vs H Q E):
  eB (BA K (cb 0) (Bu eP) "kinds") (eB (BA K (cb 0) tNewK "gaps") (eB (BA K (cb 0) tNewK "beside") (eB (BA K (cb 0) (Bu eP) "names") (eB (BA K (cb 0) (Bu eP) "flights") (BA K (cb 0) (Bu eP) "closed"))))) {nx:=λ_ H'=>Q .non H',rt:=Q} (start ["self"] vs) H:=by
 obtain⟨p,dx,rfl,Z,q⟩:=h;have C0:Cu (λ_=>c_) H H p C dx []:=⟨rfl,λ_ _ h=>(nomatch h),λ_ _ e _=>e,Z⟩
 have m:(0:Nat)<=h_:=HX _;refine⟨m,λk X=>C0.cell d (a _ am) am am rfl X λH1 C1 i a1 k1=>?_⟩
 refine λg B=>C1.cell d (a _ am) (by show("gaps":m_)∉(["kinds"]:b8);decide +kernel) am rfl B λH2 C2 r T k2=>?_;refine λb u=>C2.cell d (a _ am) (by show("beside":m_)∉(["kinds","gaps"]:b8);decide +kernel) am rfl u λH3 C3 t S k3=>?_;refine⟨m,λn s=>C3.cell d (a _ am) (by show("names":m_)∉(["kinds","gaps","beside"]:b8);decide +kernel) am rfl s λH4 C4 A R v=>?_⟩
 refine⟨m,λf j=>C4.cell d (a _ am) (by show("flights":m_)∉(["kinds","gaps","beside","names"]:b8);decide +kernel) am rfl j λH5 C5 W P k5=>?_⟩
 refine⟨m,λc Y=>C5.cell d (a _ am) (by show("closed":m_)∉(["kinds","gaps","beside","names","flights"]:b8);decide +kernel) am rfl Y λH6 U o6 a6 l=>?_⟩
 have np:∀{x:e_},H x=c_->x≠p:=λ{x} h z=>by lia
 have b1:=k2 _ _ a1 (np i);have b2:=k3 _ _ b1 (np i);have b3:=v _ _ b2 (np i);have O:=k5 _ _ b3 (np i);have g2:=k3 _ _ T (np r);have F:=v _ _ g2 (np r);have D:=k5 _ _ F (np r);have N:=v _ _ S (np t);have L:=k5 _ _ N (np t);have G:=k5 _ _ R (np A);have I:∀{x y:e_} {w:Hp} {o:HO},w x=a_ o->w y=c_->x≠y:=λ{x y w o} h1 h2 z=>by lia
 refine q k g b n f c H6 U.kp (λx hx=>?_) ?_ (l _ _ O (np i)) (l _ _ D (np r)) (l _ _ L (np t)) (l _ _ G (np A)) (l _ _ P (np W)) a6 U.ob
 .grind
 .simp only[J5,t_,Ig,Kd,Np,not_false_eq_true,Lr,and_true];exact⟨⟨I a1 B,I b1 u,I b2 s,I b3 j,I O Y⟩,⟨I T u,I g2 s,I F j,I D Y⟩,⟨I S s,I N j,I L Y⟩,⟨I R j,I G Y⟩,I P Y⟩
noncomputable def drD(C:e_)(ds:bv):A3:=.ins C ((["kinds","gaps","beside","names","flights","closed"]:b8).zip ds)
noncomputable def ds0:bv:=[.lst [],.dic [],.dic [],.lst [],.lst [],.lst []]
section
variable{p:e_}{xs:List e_}{ds:List A3}
def Dr.frz(d:Dr K C F H p dx xs ds)(r:xs.length=6)(st:A5 F0 H0 F H)(m:∀x∈p::xs,H0 x=c_):∃G,A5 F0 H0 G H/\aM F G/\aU K G (drD C ds) (.ref p):=by
 have Y:∀b,(b=p\/b∈xs)->F b=c_:=λb h=>h.elim (λz=>by rw[z];exact d.fp) λz=>(d.c.at z).1;have f:aM F (plus F H λb=>b=p\/b∈xs):=λb o h=>by
  by_cases I:b=p\/b∈xs
  .rw[Y b I]at h;cases h
  .rw[cV I];exact h
 refine⟨plus F H λb=>b=p\/b∈xs,⟨st.ff.trans f,st.hh,λb o h=>?_,λb o h=>?_⟩,f,p,dx,gz xs,rfl,by rw[jL (.inl rfl)];exact d.ob,?_⟩
 .by_cases I:b=p\/b∈xs
  .rw[jL I]at h;exact h
  .rw[cV I]at h;exact st.fh b o h
 .by_cases I:b=p\/b∈xs
  .exact .inr (m b (I.elim (λz=>by rw[z];exact HD ..) λz=>E_ _ z))
  .rw[cV I]at h;exact st.nw b o h
 .have:∀(ns:b8) (ys:List e_) (es:bv),ys.length=es.length->(∀(j:Nat) y e,ys[j]?=a_ y->es[j]?=a_ e->aU K (plus F H λb=>b=p\/b∈xs) e (.ref y))->jD K (plus F H λb=>b=p\/b∈xs) (ns.zip es) (ns.zip (ys.map V.ref)):=by
   intro ns
   induction ns with
   |nil=>intro _ _ _ _;rfl|cons a ns l=>
    intro ys es c q
    match ys,es,c with
    |[],[],_=>rfl|y::ys,e::es,c=>exact⟨.ref y,_,rfl,q 0 y e rfl rfl,l ys es (by simpa using c) λj g n h1 h2=>q (j+1) g n (by simpa using h1) (by simpa using h2)⟩
  refine this _ xs ds d.c.len λj y e h1 h2=>?_;obtain⟨k,i⟩:=d.c.own j y e h1 h2;exact i.give k f (jL (.inr (HS h1)))
end
def eqE:A3->A3->M A3
 |.dic ks,.dic []=>.ok (.bl ks.isEmpty)|a,b=>eqM a b
@[simp]def e_eqE(ks:List (cc×A3)):eqE (.dic ks) (.dic [])=.ok (.bl ks.isEmpty):=id rfl
def eq_dicE{E:Mq}{Q:Mq}{xs:List om}(e:oU s.heap a xs ep)(d:oU s.heap b [] ep')(Y:A.units<IU)(h:Q (.bool xs.isEmpty) s):B_ (C_ prog w) A (Ht .Eq (.ref a) (.ref b)) Q E s:=by
 cases xs with
 |nil=>obtain⟨m,d1⟩:=GC (P:=prog) (w:=w) e;obtain⟨n2,d2⟩:=GC (P:=prog) (w:=w) d;exact OB m n2 d1 d2 Y (λ_=>.nil) h
 |cons x xs=>
  obtain⟨vs,f,l,_,_,j,es,h1,h2,o,n⟩:=e;obtain⟨us,g,k,_,_,i,fs,c,g2,q,p⟩:=d;have ta:s.TypeIs (.ref a) "dict":=⟨j,h1,h2.1⟩
  have tb:s.TypeIs (.ref b) "dict":=⟨i,c,g2.1⟩
  have I:es.size≠fs.size:=by
   have e1:es.size=vs.length:=by rw[<- IP,n,A_]
   have e2:fs.size=us.length:=by rw[<- IP,p,A_]
   have e3:=f.length;have e4:=g.length;rw[e1,e2,<- e3,<- e4];simp
  refine Ng (op:=.Eq) ta tb Kj (Lm Kj ta M6 ?_ (MY _ _)) Y;refine(show B_ _ _ (JO "__eq__" ⟨[.ref a,.ref b],[]⟩ >>= _) _ _ s from g_ (by unfold JO;refine g_ (OI ta (show B_ _ _ (IQ (D_ a,D_ b)) _ _ s from y_ (g_ (P5 (T:="dict") tb M5 ?_))));simp only[Pt,LM,O_];refine g_ (y_ (g_ (y_ (g_ ?_))));unfold Mh Mr;rw[k_ (by rw[l];decide),k_ (by rw[k];decide)];refine g_ (y_ (g_ (y_ (g_ (La h1 o (g_ (La c q ?_)))))));rw[f_ (by simpa using I)];refine g_ (wpAny_rule (y_ (y_ ⟨_,rfl,(λx=>nomatch x),?_⟩)));simpa using h))
section
variable{W:eZ}{own:Bool}
theorem o_eqE(k:X.A.units+64<IU)(l: ~~~(X.K=K)):Op2 K W own X (Ht .Eq) eqE:=by
 intro A4 s σ H x y v u Q I d c h;obtain⟨F,a,b,Y,g,f,p⟩:=h;by_cases i:∃ks,a=.dic ks/\b=.dic []
 .obtain⟨ks,rfl,rfl⟩:=i;obtain⟨q,xs,rfl,⟨n,h1⟩,j⟩:=g;obtain⟨o,ys,rfl,⟨m,h2⟩,r2⟩:=f;cases d;cases c;cases(show ys=[]from r2);have e:xs.isEmpty=ks.isEmpty:=by
   have:=j.length;cases xs<;>cases ks<;>simp_all
  refine eq_dicE (Ct I (Y _ _ h1)) (Ct I (Y _ _ h2)) ad ⟨.bl _,H,I,rfl,?_⟩;rw[e];exact p (.bl _) F H (A5.refl Y) (by cases own<;>rfl)
 .have e:eqE a b=eqM a b:=by
   unfold eqE;split
   .rename_i ks;exact Ho ⟨ks,rfl,rfl⟩ i
   .rfl
  rw[e]at p;exact nB k l A4 s σ H x y v u Q I d c ⟨F,a,b,Y,g,f,p⟩
end
section
variable{base:H_}{ps:List m_}{k:Nat}
def YR(_:∃f fd,Def K mg x st ps f fd)(P:HY)(w:IF)(base:H_)(k:Nat)(sp:Sp):Prop:=∃f fd,Yd P w K mg base CX0 k x st ps sp f fd
def fR(N:b8){h:∃f fd,Def K mg x st ps f fd}(I:∀vs H Q E,sp vs H Q E->vs.length=ps.length)(a:∀z:B7,N.Nodup->iu k (z.A.deeper (JS x (aK st) z.s.heap.objs.size z.f z.c))->∀(vs:b9) (Q:VK),sp vs z.H Q z.E->∃t,PSs (Bb CX0 P w K mg base N x (aK st) z.f z.c z.A z.o z.s z.H z.E).nox (bY st) t/\t {nx:=λ_ H'=>Q .non H',rt:=Q} (start N vs) z.H)(S:autoParam (gM N ps (aK st)) Jq9):YR h P w base (k+1) sp:=
 let ⟨f,fd,D⟩:=h
 ⟨f,fd,D,D.fn.okX S I λc A o s H vs Q E Y h=>a ⟨f,c,A,o,s,H,E⟩ S.nd Y vs Q h⟩
end
section
variable{t:TA}
def pY{j k:Nat}{ps:b8}(Y:∃f fd,Yd X.prog X.w X.K X.mg X.base CX0 k x st ps sp f fd)(c:iu j X.A)(h:PA X (e::es) t)(d:(k<=j)⁻¹)(g: ~~~(Gl X x))(b:((x==("__debug__":m_))=b_)⁻¹)(I: ~~~(i_ (e::es) X.env=(b_,Hv e X.env)::i_ es X.env))(a: ~~~((HQ pos (i_ es X.env)).any (·.1)=b_)):PE X (.Call (.Name x p) (e::es) [] pos) (ia sp [] E0 t):=let ⟨_,_,Y⟩:=Y;oB Y.o (c.mono d) g Y.d.mg Y.d.fn.kp Y.d.bd .nil r9 h b I a
theorem hU(h:n+64<IU):n+1<IU:=ad
end
def len_told(h:mX vs H Q E):vs.length=2:=by obtain⟨_,_,rfl,_⟩:=h;rfl
def len_gap{mg:bv->M A3}(h:zK K mg vs H Q E):vs.length=3:=by obtain⟨_,_,_,_,_,_,_,_,_,_,_,rfl,_⟩:=h;rfl
def FV(h:ve K C mr vs H Q E):vs.length=2:=by obtain⟨_,_,_,_,_,_,_,_,rfl,_⟩:=h;rfl
def len_ID(h:spID C vs H Q E):vs.length=1:=by obtain⟨_,_,rfl,_⟩:=h;rfl
def Av:A3->A3->M A3
 |.str z,.int n=>if z.length<=1000/\ -1000<=n/\n<=1000 then .ok (.str (MK z n))else stk
 |_,_=>stk
@[simp]def Gs(z:m_)(n:Int):Av (.str z) (.int n)=if z.length<=1000/\ -1000<=n/\n<=1000 then .ok (.str (MK z n))else stk:=id rfl
def jJ:A3->Option Int->Option Int->M A3
 |.str z,lo,hi=>if z.length<=h_ then .ok (.str (LA z lo hi))else stk
 |_,_,_=>stk
section
variable{W:eZ}{own:Bool}
theorem mul_okS{n:Int}(h:z.length<=1000/\ -1000<=n/\n<=1000):MulOk z n:=by
 obtain⟨h1,h2,Y⟩:=h;refine⟨?_,λI _=>?_,λI _=>?_⟩
 .lia
 .have:(z.length:Int)<=(2^63-1)/n:=by
   refine(Int.le_ediv_iff_mul_le ad).mpr ?_;have a:(z.length:Int)*n<=1000*1000:=M0 ad ad ad ad;lia
  lia
 .have a:z.length*n.toNat<=1000*1000:=Pl h1 ad;exact p9 (by rw[Hu];lia)
def o_mulS:Op2 K W own X (Jd .Mult) Av:=by
 intro A4 s σ H x y v u Q I e d h;obtain⟨F,a,b,c,g,f,p⟩:=h;cases a with
 |str z=>cases b with
  |int n=>
   have p:aJ K W own F H (if z.length<=1000/\ -1000<=n/\n<=1000 then .ok (.str (MK z n))else stk) Q:=p;cases(show x=V.str z from g);cases(show y=V.int n from f);obtain⟨t,rfl⟩:=(show ∃t,v=IM z t from e)
   obtain⟨t',rfl⟩:=(show ∃t,u=Im n t from d)
   by_cases Y:z.length<=1000/\ -1000<=n/\n<=1000
   .rw[f_ Y]at p;exact SB.mul (mul_okS Y) λt1 k=>⟨.str (MK z n),H,I.tok _,⟨_,rfl⟩,p.str c⟩
   .rw[k_ Y]at p;exact aJ.stuck p
  |_=>exact aJ.stuck p
 |_=>exact aJ.stuck p
def CK:SlR X (rDS K W own jJ):=by
 intro A4 s σ H x v c b lo hi q Q I e m pl g h;obtain⟨F,a,d,f,p⟩:=h;cases a with
 |str z=>
  have p:aJ K W own F H (if z.length<=h_ then .ok (.str (LA z lo hi))else stk) Q:=p;cases(show x=V.str z from f);obtain⟨t,rfl⟩:=(show ∃t,v=IM z t from e)
  by_cases Y:z.length<=h_
  .rw[f_ Y]at p;obtain⟨l,o,j⟩:∃l,c=partValue l/\lo=l.map (·.1):=by
    cases pl with
    |none=>exact⟨c_,rfl,rfl⟩|int i t=>exact⟨a_ (i,t),rfl,rfl⟩
   obtain⟨r,n,mr⟩:∃l,b=partValue l/\hi=l.map (·.1):=by
    cases g with
    |none=>exact⟨c_,rfl,rfl⟩|int i t=>exact⟨a_ (i,t),rfl,rfl⟩
   subst o n j mr;refine⟨"str",_,PySem.F.slot_str_getitem.lookup,Lv _ _ _,wpAny_getItem_str_slice (l:=l) (u:=r) (st:=c_) m rfl (post_val_or_str ⟨HB (Txt.slice_le z _ _) Y,λt' k=>?_⟩)⟩
   exact⟨.str _,H,I.tok _,⟨_,rfl⟩,p.str d⟩
  .rw[k_ Y]at p;exact aJ.stuck p
 |_=>exact aJ.stuck p
end
section
variable{ds:List A3}
theorem El.upd{c:e_}{u:HO}(o:El K F G H ds vs)(n:∀k:Nat,vs[k]?≠a_ (.ref c)):El K F G (Lake.upd H c u) ds vs:=⟨o.len,λk d e=>by obtain⟨a,xs,es,h1,h2,Y,I⟩:=o.get k d e;exact⟨a,xs,es,h1,h2,by rw[aw (λz=>n k (by rw[<- z];exact h1))];exact Y,I⟩,o.ap⟩
def qu(l:List α)(j k:Nat):(l.eraseIdx j)[k]?=l[if k<j then k else k+1]?:=by rw[List.getElem?_eraseIdx];split<;>rfl
theorem El.erase(o:El K F G H ds vs)(j:Nat):El K F G H (ds.eraseIdx j) (vs.eraseIdx j):=by
 refine⟨by rw[NS,NS,o.len],λk d e=>?_,λi k a e1 e2=>?_⟩
 .rw[qu]at e ⊢;exact o.get _ d e
 .rw[qu]at e1 e2;have:=o.ap _ _ a e1 e2;lia
end
structure MixH(K:Pn)(F0 H0 F:Hp)(ar al:e_)(H:Hp)(xs ys:b9)(out rs:bv):Prop where
 st:A5 F0 H0 F H
 hr:H ar=a_ (.lst xs)
 fr:F ar=c_/\H0 ar=c_
 hl:H al=a_ (.lst ys)
 fl:F al=c_/\H0 al=c_
 na:ar≠al
 nl:∀m:Nat,ys[m]?≠a_ (.ref al)
 nr:∀m:Nat,ys[m]?≠a_ (.ref ar)
 ow:El K F H0 H rs ys
 dq:aD K F out xs
def mixA(ar al:e_)(ys:b9)(c:e_):Prop:=c=ar\/c=al\/∃m:Nat,ys[m]?=a_ (.ref c)
section
variable{ar al:e_}{xs ys:List V}{out rs:List A3}
theorem MixH.same(h:MixH K F0 H0 F ar al H xs ys out rs)(s:aM H H'):MixH K F0 H0 F ar al H' xs ys out rs:=
 have t:=A5.same h.st.fh s
 ⟨h.st.trans t,s _ _ h.hr,h.fr,s _ _ h.hl,h.fl,h.na,h.nl,h.nr,h.ow.step t,h.dq⟩
def A5.put{u:HO}(s:A5 F0 H0 F H)(f:F c=c_/\H0 c=c_):A5 F0 H0 F (upd H c u):=
 ⟨s.ff,λb o e=>by rw[aw (aQ e f.2)];exact s.hh b o e,λb o e=>by rw[aw (aQ e f.1)];exact s.fh b o e,s.nw⟩
def MixH.drop(h:MixH K F0 H0 F ar al H xs ys out rs)(j:Nat):MixH K F0 H0 F ar al (upd H al (.lst (ys.eraseIdx j))) xs (ys.eraseIdx j) out (rs.eraseIdx j):=
 ⟨h.st.put h.fl,by rw[aw h.na];exact h.hr,h.fr,au,h.fl,h.na,λm e=>h.nl _ (by rw[qu]at e;exact e),λm e=>h.nr _ (by rw[qu]at e;exact e),(h.ow.upd h.nl).erase j,h.dq⟩
def MixH.none(h:MixH K F0 H0 F ar al H xs ys out rs){c:e_}(I:mixA ar al ys c):F c=c_:=by
 rcases I with rfl|rfl|⟨m,e⟩
 .exact h.fr.1
 .exact h.fl.1
 .obtain⟨_,_,_,_,z,_⟩:=h.ow.at e;exact z
end
def Th(F F':Hp):Prop:=∀b o,F b=a_ o->F' b=a_ (unF o)
def Th.tup(s:Th F F'){xs:b9}(h:SqT K F a xs):SqT K F' a xs:=by
 rcases h with(h|⟨o,h⟩)|h
 .exact .inl (.inl (s _ _ h))
 .exact .inl (.inl (s _ _ h))
 .exact .inr h
def Th.lst(s:Th F F'){xs:b9}(h:SqL K F a xs):SqL K F' a xs:=by
 rcases h with(h|⟨o,h⟩)|h
 .exact .inl (.inl (s _ _ h))
 .exact .inl (.inl (s _ _ h))
 .exact .inr h
mutual
theorem aU.th(s:Th F F'):∀{d:A3} {v:V},aU K F d v->aU K F' d v
 |.non,_,h=>h|.bl _,_,h=>h|.int _,_,h=>h|.str _,_,h=>h|.tup _,_,⟨a,xs,e,q,r⟩=>⟨a,xs,e,s.tup q,aD.th s r⟩|.lst _,_,⟨a,xs,e,q,r⟩=>⟨a,xs,e,s.lst q,aD.th s r⟩|.ins _ _,_,⟨a,dx,fs,e,q,r⟩=>⟨a,dx,fs,e,s _ _ q,jD.th s r⟩|.dic _,_,⟨a,xs,e,⟨ep,q⟩,r⟩=>⟨a,xs,e,⟨ep,s _ _ q⟩,dG.th s r⟩|.dil _,_,⟨a,xs,e,⟨ep,q⟩,r,z⟩=>⟨a,xs,e,⟨ep,s _ _ q⟩,r,λx Y=>let ⟨r,bs,t1,t2,l,t3⟩:=z x Y;⟨r,bs,s.tup t1,s.tup t2,l,λj I c e1 e2=>s.tup (t3 j I c e1 e2)⟩⟩
theorem aD.th(s:Th F F'):∀{ds:bv} {xs:b9},aD K F ds xs->aD K F' ds xs
 |[],_,h=>h|_::_,_,⟨v,vs,e,q,r⟩=>⟨v,vs,e,aU.th s q,aD.th s r⟩
theorem jD.th(s:Th F F'):∀{gs:List (m_×A3)} {fs:List (m_×V)},jD K F gs fs->jD K F' gs fs
 |[],_,h=>h|(_,_)::_,_,⟨v,r,e,q,t⟩=>⟨v,r,e,aU.th s q,jD.th s t⟩
theorem dG.th(s:Th F F'):∀{ks:List (cc×A3)} {xs:List om},dG K F ks xs->dG K F' ks xs
 |[],_,h=>h|(_,_)::_,_,⟨b,v,r,e,t,q,z⟩=>⟨b,v,r,e,s.tup t,aU.th s q,dG.th s z⟩
end
open Classical in
structure Bent(F0 H0 F:Hp)(p C dx:Addr)(fs:List (Str×V))(bk bf be:Addr)(H:Hp):Prop where
 st:A5 F0 H0 F H
 ob:H p=some (.ins C dx fs)
 k:∃y,H bk=some (.lst y)
 f:∃y,H bf=some (.lst y)
 e:∃y,H be=some (.lst y)/\y.length<sizeLine
 nk:F bk=none/\H0 bk=none
 nf:F bf=none/\H0 bf=none
 ne:F be=none/\H0 be=none
section
variable{p:e_}{fs:List (m_×V)}{bk bf be:e_}
theorem Bent.same(b:Bent F0 H0 F p C dx fs bk bf be H)(s:aM H H'):Bent F0 H0 F p C dx fs bk bf be H':=
 ⟨b.st.trans (A5.same b.st.fh s),s _ _ b.ob,b.k.imp λ_ h=>s _ _ h,b.f.imp λ_ h=>s _ _ h,b.e.imp λ_ h=>⟨s _ _ h.1,h.2⟩,b.nk,b.nf,b.ne⟩
end
def spX1(C:e_)(f1:m_):Sp:=λvs H Q _=>∃a v1,vs=[.ref a,v1]/\H a=a_ (XO a C c_)/\∀d,H d=c_->d≠a->Q .non (upd (upd H d (XD d [(f1,v1)])) a (XO a C (a_ d)))
section
variable{k:Nat}{ps:List m_}{f1:m_}{v1:V}
theorem new_x1(FB:Lx B newId initId bmB)(D:pA X.K C bmB newId f=d_)(y:Nv X.K (.ref f)=a_ (.type "function"))(F:iS X.prog X.w X.K X.mg X.base CX0 k f fd ps (spX1 C f1))(t:iu (k+1) X.A)(A:Binds X.K fd ps [])(I:A6 X A4 σ H s)(r:B' [v1] us):B_ (C_ X.prog X.w) X.A (Kp (.ref C) us) (λv s'=>∃a d,v=.ref a/\s.heap.objs.size<=a/\H a=c_/\H d=c_/\d≠a/\A6 X A4 σ (upd (upd H d (XD d [(f1,v1)])) a (XO a C (a_ d))) s') X.xe s:=by
 obtain⟨tl,N,nm,O,bs,hdct,sn,sub,ab,col,dd,k0,k1,k2,k3,k5,mN,l,j,i,h⟩:=w5 I.kIn D;obtain⟨oI,p,o⟩:=fn_at I.kIn y;obtain⟨hh,gg,K,tk,os⟩:=s;have P:=Hu;have x:us.length<=h_:=by rw[<- r.length];show 1<=h_;lia
 refine x_call FB h l j i p o x ?_;have m:(uT hh C us).get? (hh.objs.size+1)=a_ (Ex C hh.objs.size):=xh;have J:A6 X A4 σ (upd H (hh.objs.size+1) (XO (hh.objs.size+1) C c_)) {(⟨hh,gg,K,tk,os⟩:v_)with heap:=uT hh C us,toks:=tk}:=
  I.laid (λb u q=>qE q) (Iq _) (xo_ok (vs:=#[.ref hh.objs.size,.none,.none,.none,.bool b_,.none]) rfl m)
 have fa:H (hh.objs.size+1)=c_:=I.hok.fresh (Iq _);have w:B' [V.ref (hh.objs.size+1),v1] (D_ (hh.objs.size+1)::us++[]):=by rw[IH];exact .cons rfl r
 have q:spX1 C f1 [V.ref (hh.objs.size+1),v1] (upd H (hh.objs.size+1) (XO (hh.objs.size+1) C c_)) (λv H2=>v=.non/\∃d,H d=c_/\d≠hh.objs.size+1/\H2=upd (upd H d (XD d [(f1,v1)])) (hh.objs.size+1) (XO (hh.objs.size+1) C (a_ d))) (λ_ _ _=>False):=
  ⟨_,v1,rfl,au,λd hd c=>⟨rfl,d,by rw[aw c]at hd;exact hd,c,upd_low⟩⟩
 have n:(D_ (hh.objs.size+1)::us++[]).length=ps.length:=w.length.symm.trans (F.len _ _ _ _ q);refine Lu (Jp (F.run _ X.stack _ _ ⟨.ref (hh.objs.size+1)::us,[]⟩ _ _ _ (λ_ _ _=>False) (t.make C us []) (J.env0.make C us []) (A _ (.ref (hh.objs.size+1)::us) J.kIn n) w q) λz s' Y=>?_);cases z with
 |error e=>exact(show False from Y).elim|ok fl=>
  cases fl with
  |ret u=>obtain⟨v,H',L,g,G,d,h1,h2,E⟩:=J.after Y;subst G E;exact⟨g,_,d,rfl,Iq _,fa,h1,h2,L⟩
  |_=>exact HK Y
end
def zG(t:TA)(C:e_)(f1:m_)(E:XK):TS:=λ_ σ H=>t σ H λvs H1=>∃v1,vs=[v1]/\∀d,H1 d=c_->E (.ref C) (a_ d) (upd H1 d (.xd [(f1,v1)]))
section
variable{t:TA}{k:Nat}{ps:List m_}{f1:m_}
theorem yh(FB:Lx B newId initId bmB)(O:XEq2 X E C)(z:pA X.K C bmB newId f=d_)(U:Nv X.K (.ref f)=a_ (.type "function"))(R:Ju X.K (.ref C)=d_)(F:iS X.prog X.w X.K X.mg X.base CX0 k f fd ps (spX1 C f1))(w:iu (k+1) X.A)(c:Binds X.K fd ps [])(Q:X.mg x=a_ (.ref C))(W:PA X [e1] t)(S: ~~~(Gl X x))(n:((x==("__debug__":m_))=b_)⁻¹)(l: ~~~(i_ [e1] X.env=[(b_,Hv e1 X.env)])):
  PS X (.Raise (a_ (.Call (.Name x np) [e1] [] cpos)) c_ pos) (zG t C f1 E):=by
 intro A4 s σ H D I h;obtain⟨tl,N,nm,A,bs,hdct,sn,sub,ab,col,dd,k0,k1,k2,k3,k5,mN,K,o2,o3,G⟩:=w5 I.mod.kin z;rw[arm_exec_Raise];refine g_ (Ky (zC (C:=C) (nm:=nm) (q:=A) (N:=N) (bs:=bs) (tl:=tl) (hdct:=hdct) (sn:=sn) (sub:=sub) (ab:=ab) (col:=col) (dd:=dd) (k0:=k0) (k1:=k1) (k2:=k2) (k3:=k3) (k5:=k5) (newId:=newId) (G.hasType FB.hasBase) w.hd (g_ (C6 ?_ λv u Y=>g_ (Ky (y_ Y))))));refine IY (jS I S Q (Mo (h₀:=X.base) I.ok.mod.kin R (C6 (W cpos A4 s σ H _ I h) λus s1 m=>?_) l rfl) n);obtain⟨vs,H1,p,r,i⟩:=m;refine⟨p.kIn,?_⟩
 obtain⟨v1,rfl,i⟩:=i;refine C6 (new_x1 FB z U F w c p r) λv g m=>?_;obtain⟨a,d,ev,P,fa,fd',j,J⟩:=m;subst ev;obtain⟨vs,w1,y⟩:=xo_get (J.hok a _ au);have e:upd (upd H1 d (XD d [(f1,v1)])) a (XO a C (a_ d)) d=a_ (XD d [(f1,v1)]):=by rw[aw j];exact au
 have J2:A6 X A4 σ (upd H1 d (.xd [(f1,v1)])) {g with heap:=g.heap,toks:=g.toks}:=by
  refine J.turn (λb=>b=a\/b=d) (λb o _ q=>q) (λb nb=>?_) (λb c=>?_) (λb o _ q=>⟨o,q⟩) λb o c q=>?_
  .simp_all[aw]
  .rcases c with rfl|rfl
   .exact .inl ⟨_,au⟩
   .exact .inl ⟨_,e⟩
  .rcases c with rfl|rfl
   .rw[aw (HM j),fa]at q;cases q
   .rw[au]at q;cases q;obtain⟨mA,L,n2,_⟩:=xd_get (J.hok _ _ e);exact⟨mA,L,n2⟩
 refine⟨a,_,rfl,J.bk _ _ K,y,rfl,⟨vs,rfl,w1⟩,O A4 σ _ g a d J2 ⟨⟨_,vs,y,rfl,rfl,rfl,w1⟩,λT Z=>nomatch Z⟩ (get_none (HB p.sz P)) (by rw[aw (HM j)];exact fa) (i d fd')⟩
end
noncomputable def xRes1(C:e_)(f1:m_):bv->M A9
 |[a]=>.error (.exc C [(f1,a)])|_=>.error .stuck
noncomputable def D6(C:e_)(f1:m_)(fr:ai->M bv):ai->M A9:=λρ=>(fr ρ).bind (xRes1 C f1)
@[simp]def e_sExc1(C:e_)(f1:m_)(fr:ai->M bv)(ρ:ai):D6 C f1 fr ρ=(fr ρ).bind (xRes1 C f1):=id rfl
@[simp]def e_xRes1(C:e_)(f1:m_)(a:A3):xRes1 C f1 [a]=.error (.exc C [(f1,a)]):=id rfl
section
variable{O':List Nat}{fr:ai->M (List A3)}{k:Nat}{ps:List m_}{f1:m_}
def Gx(FB:Lx B newId initId bmB)(l:XEq2 X E C)(z:pA X.K C bmB newId f=d_)(u:Nv X.K (.ref f)=a_ (.type "function"))(s:Ju X.K (.ref C)=d_)(F:iS X.prog X.w X.K X.mg X.base CX0 k f fd ps (spX1 C f1))(m:iu (k+1) X.A)(w:Binds X.K fd ps [])(o:X.mg x=a_ (.ref C))(y:DA K (WE K E) X [e1] fr)(t: ~~~(Gl X x))(c:((x==("__debug__":m_))=b_)⁻¹)(b: ~~~(i_ [e1] X.env=[(b_,Hv e1 X.env)])):
  DS K (WE K E) ro X OL O O' (.Raise (a_ (.Call (.Name x np) [e1] [] cpos)) c_ pos) (D6 C f1 fr):=λF0 H0=>PS.imp (yh FB l z u s F m w o y t c b) λD σ H ⟨G,F,ρ,r,p⟩=>by
 have i:=r.freeze (O2:=[]) am;refine qK r.ui r.lZ (λe v=>p.tI i.st (by unfold D6;rw[v];rfl)) λds hd vs F1 H1 h q=>?_;have A:D6 C f1 fr ρ=xRes1 C f1 ds:=by unfold D6;rw[hd];rfl
 rw[A]at p;rcases ds with _|⟨a,_|⟨_,_⟩⟩
 .exact((WE K E).ns p).elim
 rotate_left
 .exact((WE K E).ns p).elim
 .obtain⟨w1,Y,rfl,j,n⟩:=q;cases(show Y=[]from n);refine⟨w1,rfl,λd g=>?_⟩
  have st:=i.st.trans h;have I:A5 F1 H1 (upd F1 d (.xd [(f1,w1)])) (upd H1 d (.xd [(f1,w1)])):=A5.lay h.fh g;exact p _ _ (st.trans I) d _ au ⟨w1,[],rfl,aU.mono I.ff j,rfl⟩
end
def oz(CN:e_)(f1:m_)(mr:bv->bv->M (Bool×bv))(mw:bv->M A3):Nat->bv->bv->M bv
 |_,[],ds=>.ok ds|k,I::rows,ds=>(noX (mw [I])).bind λw=>match w with
  |.lst ws=>(noX (mr ds ws)).bind λr=>if r.1=d_ then oz CN f1 mr mw (k+1) rows r.2 else .error (.exc CN [(f1,.int (k:Nat))])
  |_=>stk
def qR(C CN:e_)(f1:m_)(mr:bv->bv->M (Bool×bv))(mw:bv->M A3)(di ni ri:Nat)(fs:ai->M A3)(g:ai->M A9):ai->M A9:=λρ=>if (q_ (di<ρ.length)&&q_ (ni<ρ.length)&&q_ (ri<ρ.length))=d_ then(noX (fs (ρ.set di c_))).bind λd=>match d with
 |.lst rows=>(oz CN f1 mr mw 1 rows ds0).bind λds=>g ((((ρ.set di c_).set ni c_).set ri c_).set di (a_ (drD C ds)))|_=>stk
 else stk
section
variable{f1:m_}{O':List Nat}{D:Ends}{fs:ai->M A3}{gg:ai->M A9}
theorem Fh(B:di≠ni)(A:di≠ri)(hnr:ni≠ri)(t:tS K (WE K E) b_ F0 H0 OL [] O' (qR C CN f1 mr mw di ni ri fs gg) D σ H):
  eB (sI (tMake C (spID C) [] E1 eP) (cK di)) (eB (tFor (G9 K (tD K D' b_ fs)) (gTup K 2 (lK (cK ni) (lK (cK ri) gNil)))
   (ou (tNot (tTr K (ia (ve K C mr) [] E2 (aR (cb di) (aR (ia (spF K b_ mw 1) [] E3 (aR (cb ri) eP)) eP))))) (zG (aR (cb ni) eP) CN f1 E) hI)) (tS K (WE K E) b_ F0 H0 OL [] O' gg)) D σ H:=by
 obtain⟨FB,F,ρ,r,q⟩:=t;unfold qR at q;split at q
 rotate_left
 .exact q.stuck rfl
 rename_i hc;simp only[o_,Hx]at hc;obtain⟨⟨hd,hn⟩,hr⟩:=hc;have rE:=r.repE;have ls:=rE.len;intro p dx hp hdx hne;refine⟨p,dx,rfl,au,λk g b n f c H1 kp R nd ak ag ab an af ac ap=>⟨rfl,?_⟩⟩
 have old:∀{m:e_},upd (upd H dx (.own p)) p (.ins C dx []) m=c_->H m=c_:=λ{m} h=>by grind[aw]
 have s1:aM H H1:=λm o e=>by grind[aw]
 have S1:A5 F H F H1:=A5.same r.st.fh s1;have L:∀x∈p::[k,g,b,n,f,c],H x=c_:=λx L=>(t_.mp L).elim (λz=>by rw[z];exact hp) λz=>old (R x z);have h0:∀x∈p::[k,g,b,n,f,c],H0 x=c_:=λx h=>r.st.hh.free (L x h);have cell:∀(j:Nat) (x:e_) (d:A3),[k,g,b,n,f,c][j]?=a_ x->ds0[j]?=a_ d->isO d=d_/\mL K F (λ_=>c_) H1 d (.ref x):=λj x d e1 e2=>by
  have fx:F x=c_:=r.st.fh.free (L x (E_ _ (HS e1)));rcases j with _|_|_|_|_|_|j
  .cases e1;cases e2;exact⟨rfl,_,[],rfl,ak,fx,rfl,rfl⟩
  .cases e1;cases e2;exact⟨rfl,_,[],rfl,⟨0,ag⟩,fx,rfl,rfl⟩
  .cases e1;cases e2;exact⟨rfl,_,[],rfl,⟨0,ab⟩,fx,rfl,rfl⟩
  .cases e1;cases e2;exact⟨rfl,_,[],rfl,an,fx,rfl,rfl⟩
  .cases e1;cases e2;exact⟨rfl,_,[],rfl,af,fx,rfl,rfl⟩
  .cases e1;cases e2;exact⟨rfl,_,[],rfl,ac,fx,rfl,rfl⟩
  simp_all
 have d1:Dr K C F H1 p dx [k,g,b,n,f,c] ds0:=⟨⟨S1.fh,nd,rfl,cell⟩,ap,r.st.fh.free hp,λz=>by have:=R p z;rw[au]at this;cases this⟩
 have Z:(σ.set di (a_ (.ref p)))[di]?=a_ (a_ (.ref p)):=sy bb;refine aT (rE.hide di (a_ (.ref p))) S1.fh (λe he=>by rw[he]at q;exact q.stuck rfl) λdl hdl v F2 H2 Q q2=>?_;rw[hdl]at q;simp only[noX_ok,aj]at q;cases dl with
 |lst rows=>
  dsimp only at q;obtain⟨a,ys,rfl,sq,qs⟩:=(show aU K F2 (.lst rows) v from q2)
  refine⟨a,rfl,⟨ys,Q.fh.lst sq⟩,?_⟩
  have W1:=(r.st.trans S1).trans Q;refine⟨λi m σ' H'=>m+i=rows.length/\σ'.length=σ.length/\(∀j,j≠ni->j≠ri->σ'[j]?=(σ.set di (a_ (.ref p)))[j]?)/\∃F' ds',aM F2 F'/\A5 F0 H0 F' H'/\Dr K C F' H' p dx [k,g,b,n,f,c] ds'/\jC K (WE K E) b_ F0 H0 FB OL O' D ((oz CN f1 mr mw (i+1) (rows.drop i) ds').bind λds=>gg ((((ρ.set di c_).set ni c_).set ri c_).set di (a_ (drD C ds)))),
   ⟨rows.length,rfl,Hs,λ_ _ _=>rfl,F2,ds0,aM.refl _,W1,d1.step Q,q⟩,λi m σ' H' ⟨e1,e2,e3,F',ds',O,st,d,I⟩=>?_⟩
  have s:SqL K H' a ys:=st.fh.lst (O.lst sq);by_cases hm:m=0
  .refine .inl ⟨⟨ys,s,by rw[qs.length];lia⟩,?_⟩;rw[Nl ad]at I;have q:jC K (WE K E) b_ F0 H0 FB OL O' D (gg ((((ρ.set di c_).set ni c_).set ri c_).set di (a_ (drD C ds')))):=I;obtain⟨G,sG,fG,qG⟩:=d.frz rfl st h0;refine⟨FB,G,_,Rep.ofE (F:=G) ?_ sG (r.fb.trans ((S1.ff.trans Q.ff).trans (O.trans fG))),q⟩
   have a1:=(rE.mono ((S1.ff.trans Q.ff).trans (O.trans fG))).hide di (a_ (.ref p));have a2:ee K G σ' (((ρ.set di c_).set ni c_).set ri c_):=⟨bb,λj d' h=>by
    have hj1:ri≠j:=λz=>by simp_all
    rw[p_ hj1]at h;have hj2:ni≠j:=λz=>by simp_all
    rw[p_ hj2]at h;obtain⟨v,h1,h2⟩:=a1.sl j d' h;exact⟨v,by rw[e3 j (HM hj2) (HM hj1)];exact h1,h2⟩⟩
   exact a2.tell (v:=.ref p) (by rw[e3 di B A];exact Z) qG
  .have hi:i<rows.length:=ad
   have hiy:i<ys.length:=by rw[qs.length];exact hi
   refine .inr ⟨⟨ys,ys[i],s,am⟩,_,λσ2 H2 z=>⟨m-1,ad,z⟩,λx H3 hp=>?_⟩;obtain⟨T,y,hT,ex,eH,hy⟩:=hp;subst ex eH;have ey:=hy ys s;rw[HA hiy]at ey;cases ey;obtain⟨y',X,qy⟩:=qs.get (i:=i) (d:=rows[i]) am;rw[HA hiy]at X;cases X;have sT:A5 F' H' F' (upd H' T (.tup [.int (i+1:Nat),ys[i]])):=A5.grow st.fh hT;have dT:=d.step sT;rw[JX hi]at I;cases ew:mw [rows[i]]with
   |error e=>exact I.stuck (by rw[oz,ew];rfl)|ok w=>
   refine⟨T,_,rfl,SqT.of au,rfl,_,_,rfl,_,_,rfl,rfl,?_⟩
   have W:((σ'.set ni (a_ (.int (i+1:Nat)))).set ri (a_ ys[i]))[di]?=a_ (a_ (.ref p)):=by rw[p_ (HM A),p_ (HM B),e3 di B A];exact Z
   have S:((σ'.set ni (a_ (.int (i+1:Nat)))).set ri (a_ ys[i]))[ri]?=a_ (a_ ys[i]):=sy bb;refine⟨.ref p,W,ys[i],S,F',[rows[i]],sT.fh,⟨_,_,rfl,qy.mono O,rfl⟩,rfl,?_⟩
   rw[ew];intro w' F4 H4 s4 q4;cases w with
   |lst ws=>
    cases er:mr ds' ws with
    |error e=>exact I.stuck (by rw[oz,ew];show((noX (mr ds' ws)).bind _).bind _=_;rw[er];rfl)|ok Y=>
    have I:jC K (WE K E) b_ F0 H0 FB OL O' D ((if Y.1=d_ then oz CN f1 mr mw (i+1+1) (rows.drop (i+1)) Y.2 else .error (.exc CN [(f1,.int (i+1:Nat))])).bind λds=>gg ((((ρ.set di c_).set ni c_).set ri c_).set di (a_ (drD C ds)))):=by
     have e:oz CN f1 mr mw (i+1) (rows[i]::rows.drop (i+1)) ds'=if Y.1=d_ then oz CN f1 mr mw (i+1+1) (rows.drop (i+1)) Y.2 else .error (.exc CN [(f1,.int (i+1:Nat))]):=by rw[oz,ew];show(noX (mr ds' ws)).bind _=_;rw[er];rfl
     rw[<- e];exact I
    have d4:=dT.step s4;unfold eP;dsimp only[];show ve K C mr [V.ref p,w'] H4 _ E2;refine⟨p,dx,_,F4,ds',ws,w',Y,rfl,d4,q4,er,λF5 H5 P d5=>⟨Y.1,rfl,?_⟩⟩
    have l:A5 F0 H0 F5 H5:=by have z:=(st.trans sT).trans s4;exact⟨z.ff.trans P.ff,λN o h=>P.hh N o (λhm=>by rw[h0 N (E_ _ hm)]at h;cases h) (z.hh N o h),P.fh,λN o h=>(P.nw N o h).elim (λu=>z.nw N o u) λu=>.inr (z.hh.free u)⟩
    cases hb:Y.1 with
    |true=>rw[hb,f_ rfl]at I;exact⟨ad,bb,λj h1 h2=>by rw[p_ (HM h2),p_ (HM h1)];exact e3 j h1 h2,F5,Y.2,(O.trans s4.ff).trans P.ff,l,d5,I⟩|false=>
     rw[hb,k_ a8]at I;have U:((σ'.set ni (a_ (.int (i+1:Nat)))).set ri (a_ ys[i]))[ni]?=a_ (a_ (.int (i+1:Nat))):=by rw[p_ (HM hnr)];exact sy bb
     refine⟨_,U,_,rfl,λx L=>?_⟩
     have s6:A5 F5 H5 (upd F5 x (.xd [(f1,.int (i+1:Nat))])) (upd H5 x (.xd [(f1,.int (i+1:Nat))])):=A5.lay l.fh L;have I:(WE K E).p (.exc CN [(f1,.int (i+1:Nat))]) F0 H0:=I;exact I _ _ (l.trans s6) x _ au ⟨_,[],rfl,rfl,rfl⟩
   |_=>exact I.stuck (by rw[oz,ew];rfl)
 |_=>exact q.stuck rfl
end
def Gy{Y I:Ia}{f1:m_}{fs:ai->M A3}{g:ai->M A9}{O':ce}(p1:PS X Y (sI (tMake C (spID C) [] E1 eP) (cK di)))(p2:PS X I (tFor (G9 K (tD K D' b_ fs)) (gTup K 2 (lK (cK ni) (lK (cK ri) gNil))) (ou (tNot (tTr K (ia (ve K C mr) [] E2 (aR (cb di) (aR (ia (spF K b_ mw 1) [] E3 (aR (cb ri) eP)) eP))))) (zG (aR (cb ni) eP) CN f1 E) hI)))(h:DSs K (WE K E) b_ X OL [] O' sts g)(c:(di≠ni)⁻¹)(b:(di≠ri)⁻¹)(a:(ni≠ri)⁻¹):DSs K (WE K E) b_ X OL [] O' (Y::I::sts) (qR C CN f1 mr mw di ni ri fs g):=λF0 H0=>PSs.imp (aA p1 (aA p2 (h F0 H0))) λ_ _ _=>Fh c b a
noncomputable def ua(i j:Nat)(f1:m_)(b1 b2 b3:Bool):List (m_×A3)->ai->M ai:=λfs ρ=>match fs.lookup f1 with
 |some (.int k)=>.ok ((ρ.set j (a_ (.lst [.non,.int k,.bl b1,.bl b2,.bl b3]))).set i c_)|_=>.error .stuck
@[simp]def e_xToldN(i j:Nat)(f1:m_)(b1 b2 b3:Bool)(k:Int)(fs:List (m_×A3))(ρ:ai):ua i j f1 b1 b2 b3 ((f1,.int k)::fs) ρ=.ok ((ρ.set j (a_ (.lst [.non,.int k,.bl b1,.bl b2,.bl b3]))).set i c_):=by simp[ua,w_,L9]
def EG(K:Pn)(i j:Nat)(f1:m_)(b1 b2 b3:Bool)(ys:List e_)(a d:e_):TS:=
 eB (sI (Bu (aR (tC .non) (aR (tFldX i a d f1) (aR (tIsiR i a (XDk d) b1) (aR (tIsiR i a (XDk d) b2) eP))))) (cK j)) (sP (tBM K "list" jK (cb j) (aR (tIsiTR i a (XDk d) ys b3) eP)))
def tsToldN(K:Pn)(i j:Nat)(f1:m_)(b1 b2 b3:Bool)(ys:List e_)(a:e_):Option e_->TS
 |none=>tNever|some d=>EG K i j f1 b1 b2 b3 ys a d
section
variable{D:Ends}{j:Nat}{d:e_}{gs:List (m_×V)}{fs:List (m_×A3)}{f1:m_}{ys:List e_}
theorem rs_toldN(r:Rep K F0 H0 FB O F H σ ρ)(hd:F d=a_ (.xd gs))(t:jD K F fs gs)(f:i≠j)(hi:i<σ.length)(o:j<σ.length)(h:i∉O)(g:j∉O)(q:jC K D' ro F0 H0 FB OL O D ((ua i j f1 b1 b2 b3 fs ρ).bind λρ'=>.ok (.nx ρ'))):
  EG K i j f1 b1 b2 b3 ys a d (D.less i) (σ.set i (a_ (.ref a))) H:=by
 have u:=Hu;have c:H d=a_ (.xd gs):=r.st.fh d _ hd;have e1:(σ.set i (a_ (.ref a)))[i]?=a_ (a_ (.ref a)):=by rw[sy hi]
 unfold ua at q;cases Y:fs.lookup f1 with
 |none=>rw[Y]at q;exact(D'.ns q).elim|some b=>
 rw[Y]at q;cases b with
 |int k=>
  obtain⟨v,s,n⟩:=t.at.1 _ Y;cases(show v=V.int k from n);refine⟨e1,gs,.int k,c,s,e1,⟨gs,c⟩,e1,⟨gs,c⟩,am,λl Y=>?_⟩
  have e2:((σ.set i (a_ (.ref a))).set j (a_ (.ref l)))[j]?=a_ (a_ (.ref l)):=by rw[sy bb]
  have e3:((σ.set i (a_ (.ref a))).set j (a_ (.ref l)))[i]?=a_ (a_ (.ref a)):=by rw[p_ (HM f)];exact e1
  refine⟨.ref l,e2,jH au,e3,λp m=>?_⟩
  have I:l≠p:=λz=>by simp_all[au]
  have e:H p=c_:=by rw[aw (HM I)]at m;exact m
  refine⟨⟨gs,by rw[aw (aQ c e),aw (aQ c Y)];exact c⟩,l,[.non,.int k,.bl b1,.bl b2],.bl b3,rfl,rfl,by rw[aw I];exact au,am,?_⟩
  exact q _ _ _ (r.toldG f hi o h g (step_app (xs:=[.non,.int k,.bl b1,.bl b2]) r.st.fh Y e (HM I)) (r.st.fh.free Y) ⟨_,_,rfl,rfl,_,_,rfl,rfl,_,_,rfl,rfl,_,_,rfl,rfl,_,_,rfl,rfl,rfl⟩)
 |_=>exact(D'.ns q).elim
end
section
variable{c n to:m_}{j:Nat}{fb:ai->M A9}{f1:m_}{ys:List e_}
def ds_toldN(v:∀(A4:Vp) (σ:St) (E:XK) (k:Mq),lH (CXd X.prog X.w) (X.xm k) A4 σ E->DSat K E ro (X.xm k) OL [] O A4 σ body fb)(Z:XTry X.K X.mg c C)(w:X.N.Nodup)(o:∀(a d:e_) (oe:Lg),oe.cls=.ref C->(∃vs,oe.data=.fields vs)->oe.dict=a_ d->PSs (X.hand a oe) (b₀::suite) (EG K i j f1 b1 b2 b3 ys a d))(b:(i≠j)⁻¹)(e:(i∉O)⁻¹)(Y:(j∉O)⁻¹)(hi: ~~~(X.N[i]?=a_ n))(s: ~~~(X.N[j]?=a_ to))(q: ~~~(X.env.scope.names.lookup n=a_ .local))(t: ~~~(Gl X c))(g: ~~~(X.ex=[]))(I: ~~~(X.stack=X.env::X.outer))(f: ~~~(X.env.frame=a_ X.env.locals))(h:((c==("__debug__":m_))=b_)⁻¹):
  DS K D' ro X OL O O (.Try body [.ExceptHandler (a_ (.Name c np)) (a_ n) (b₀::suite) hpos] [] [] pos) (qQ O C fb (ua i j f1 b1 b2 b3)):=by
 refine ds_tryF (ts:=λa dx=>tsToldN K i j f1 b1 b2 b3 ys a dx) v (λa oe u hd=>?_) (λF0 H0 D σ a d gs fs FB F H ρ l r h1 h2 p=>rs_toldN r h1 h2 b ?_ ?_ e Y p) Z.nm (by rfl) Z.mg w hi q t g I f h
 .cases m:oe.dict with
  |none=>exact yg|some d=>exact o a d oe u hd m
 .rw[l];exact(s_.mp hi).1
 .rw[l];exact(s_.mp s).1
end
noncomputable abbrev PKs:=List ((m_×m_)×Int)
noncomputable def pJ(k:m_×m_):List Key:=[.inr k.1,.inr k.2]
def rH{a b:m_×m_}:pJ a=pJ b↔a=b:=by obtain⟨a1,I⟩:=a;obtain⟨b1,b2⟩:=b;simp[pJ,K1,Sum.inr.injEq,and_true]
def pkV(ks:PKs):List (List Key×V):=ks.map λp=>(pJ p.1,.int p.2)
noncomputable def jE(ks:PKs)(k:m_×m_):Option Int:=(ks.find? λp=>q_ (p.1=k)).map (·.2)
def mJ(ks:PKs)(k:m_×m_)(v:Int):PKs:=if (jE ks k).isSome=d_ then ks.map (λp=>if p.1=k then(p.1,v)else p)else ks++[(k,v)]
theorem Ai(k:m_×m_):∀ks:PKs,wX (pkV ks) (pJ k)=(jE ks k).map V.int
 |[]=>rfl|p::ks=>by
  have I:=Ai k ks;unfold wX pkV jE at I ⊢;by_cases e:p.1=k
  .simp only[F_,Ic,rH,e,decide_true,K9]
  .simp only[F_,Ic,rH,e,NU];exact I
theorem Fu(ks:PKs)(k:m_×m_)(v:Int):putK (pkV ks) (pJ k) (.int v)=pkV (mJ ks k v):=by
 unfold putK mJ;rw[pW,Ai];by_cases h:(jE ks k).isSome=d_
 .rw[f_ bb,f_ h];unfold pkV;rw[G_,G_];refine ID λp _=>?_;simp only[Nf,rH];by_cases e:p.1=k
  .rw[f_ e,f_ e]
  .rw[k_ e,k_ e]
 .rw[k_ (by rw[KQ];exact h),k_ h];unfold pkV;rw[IG];rfl
def Fv(ks:PKs):(pkV ks).length=ks.length:=A_ ..
structure Jst where
 dk:bv
 dn:bv
 df:bv
 dc:bv
 g:PKs
 b:PKs
variable{m1:Jst->List A3->M (Bool×Jst)}
noncomputable def Jst.ds(s:Jst):bv:=[.lst s.dk,.lst s.dn,.lst s.df,.lst s.dc]
structure Jad where
 p:e_
 T:e_
 g:e_
 b:e_
 k:e_
 n:e_
 f:e_
 c:e_
noncomputable def Jad.xs(a:Jad):List e_:=[a.k,a.n,a.f,a.c]
def Jad.ys(a:Jad):List e_:=a.g::a.b::a.xs
noncomputable def tabs(a:Jad):List (Key×V):=[(.inr "gap",.ref a.g),(.inr "beside",.ref a.b)]
structure Lj(K:Pn)(F H:Hp)(a:Jad)(s:Jst):Prop where
 c:Cells K F H a.xs s.ds
 tp:H a.p=a_ (.tup [.ref a.k,.ref a.T,.ref a.n,.ref a.f,.ref a.c])
 ot:H a.T=a_ (.dK (tabs a))
 og:H a.g=a_ (.dT (pkV s.g))
 ob:H a.b=a_ (.dT (pkV s.b))
 fg:F a.g=c_
 fb:F a.b=c_
 ng:a.g≠a.b
 xg:a.g∉a.xs
 xb:a.b∉a.xs
section
variable{a:Jad}{s:Jst}
theorem Lj.step(L:Lj K F H a s)(t:A5 F H F' H'):Lj K F' H' a s:=
 ⟨L.c.step t,t.hh _ _ L.tp,t.hh _ _ L.ot,t.hh _ _ L.og,t.hh _ _ L.ob,t.stays L.fg L.og,t.stays L.fb L.ob,L.ng,L.xg,L.xb⟩
def Lj.ex(L:Lj K F H a s):∀x∈a.ys,∃o,H x=a_ o:=λx I=>by
 rcases t_.mp I with rfl|I
 .exact⟨_,L.og⟩
 rcases t_.mp I with rfl|I
 .exact⟨_,L.ob⟩
 .obtain⟨_,o,h,_⟩:=L.c.at I;exact⟨o,h⟩
def Hj(K:Pn)(F H:Hp)(a:Jad)(r:Bool×Jst)(Q:VK):Prop:=∀F' H',mH a.ys F H F' H'->Lj K F' H' a r.2->Q (.bl r.1) H'
theorem Hj.step{r:Bool×Jst}(f:Hj K F H a r Q)(L:Lj K F H a s)(t:A5 F H F' H'):Hj K F' H' a r Q:=λF2 H2 t2 I=>f F2 H2 (t.toC.trans t2 (L.step t).ex) I
def Hj.same{r:Bool×Jst}{b:Bool}(f:Hj K F H a r Q)(L:Lj K F H a s)(e:(.ok (b,s):M (Bool×Jst))=.ok r):Q (.bl b) H:=by cases e;exact f F H ⟨aM.refl _,λ_ _ _ h=>h,L.c.fh,λ_ _ h=>.inl h⟩ L
theorem Cells.upd0{xs:List e_}{ds:bv}(c:Cells K F H xs ds){x:e_}{u:HO}(Y:x∉xs)(e:F x=c_):Cells K F (upd H x u) xs ds where
 fh:=λb o h=>by
  have:b≠x:=λz=>by simp_all
  rw[aw this];exact c.fh b o h
 nd:=c.nd
 len:=c.len
 own:=λi y d e1 e2=>by obtain⟨h1,h2⟩:=c.own i y d e1 e2;have I:y≠x:=λz=>Y (by rw[<- z];exact HS e1);obtain⟨_,o,a,p,_,f,_⟩:=h2.top h1;cases a;exact⟨h1,h2.re h1 (aM.refl _) f λo h=>by rw[aw I];exact h⟩
theorem Lj.app(L:Lj K F H a s){j:Nat}{x:e_}{es:bv}{d:A3}{v:V}{s':Jst}(e1:a.xs[j]?=a_ x)(e2:s.ds[j]?=a_ (.lst es))(f:aU K F d v)(e3:s'.ds=s.ds.set j (.lst (es++[d])))(k:s'.g=s.g)(l:s'.b=s.b):
  ∃ys,H x=a_ (.lst ys)/\ys.length=es.length/\Lj K F (upd H x (.lst (ys++[v]))) a s'/\mH a.ys F H F (upd H x (.lst (ys++[v]))):=by
 obtain⟨ys,c,q⟩:=L.c.lst e1 e2;have i:=HS e1;have g:∀{y:e_} {o:HO},H y=a_ o->(∀Y,o≠.lst Y)->y≠x:=λ{y o} h n z=>by grind
 have I:∀{y:e_} {o:HO},H y=a_ o->(∀Y,o≠.lst Y)->upd H x (.lst (ys++[v])) y=a_ o:=λ{y o} h n=>by rw[aw (g h n)];exact h
 have e:=L.c.app (d:=d) (v:=v) e1 c q f;rw[<- e3]at e;refine⟨ys,c,q.length,⟨e,I L.tp (λ_ h=>nomatch h),I L.ot (λ_ h=>nomatch h),by rw[k];exact I L.og (λ_ h=>nomatch h),by rw[l];exact I L.ob (λ_ h=>nomatch h),L.fg,L.fb,L.ng,L.xg,L.xb⟩,?_⟩
 have u:=L.c.updC (.lst (ys++[v])) i;exact⟨u.ff,λb o n h=>u.hh b o (λz=>n (E_ _ (E_ _ z))) h,u.fh,u.nw⟩
theorem Lj.putg(L:Lj K F H a s)(k:m_×m_)(v:Int):Lj K F (upd H a.g (.dT (putK (pkV s.g) (pJ k) (.int v)))) a {s with g:=mJ s.g k v}/\mH a.ys F H F (upd H a.g (.dT (putK (pkV s.g) (pJ k) (.int v)))):=by
 rw[Fu];have I:∀{y:e_} {o:HO},H y=a_ o->y≠a.g->upd H a.g (.dT (pkV (mJ s.g k v))) y=a_ o:=λ{y o} h n=>by rw[aw n];exact h
 have c:a.p≠a.g:=λz=>by have h:=L.tp;rw[z,L.og]at h;cases h
 have n2:a.T≠a.g:=λz=>by have h:=L.ot;rw[z,L.og]at h;lia
 have Y:=L.c.upd0 (u:=.dT (pkV (mJ s.g k v))) L.xg L.fg;refine⟨⟨Y,I L.tp c,I L.ot n2,au,I L.ob (HM L.ng),L.fg,L.fb,L.ng,L.xg,L.xb⟩,aM.refl _,λb o n h=>I h (λz=>n (by rw[z];exact HD ..)),Y.fh,λ_ _ h=>.inl h⟩
theorem Lj.putb(L:Lj K F H a s)(k:m_×m_)(v:Int):Lj K F (upd H a.b (.dT (putK (pkV s.b) (pJ k) (.int v)))) a {s with b:=mJ s.b k v}/\mH a.ys F H F (upd H a.b (.dT (putK (pkV s.b) (pJ k) (.int v)))):=by
 rw[Fu];have I:∀{y:e_} {o:HO},H y=a_ o->y≠a.b->upd H a.b (.dT (pkV (mJ s.b k v))) y=a_ o:=λ{y o} h n=>by rw[aw n];exact h
 have c:a.p≠a.b:=λz=>by have h:=L.tp;rw[z,L.ob]at h;cases h
 have n2:a.T≠a.b:=λz=>by have h:=L.ot;rw[z,L.ob]at h;lia
 have Y:=L.c.upd0 (u:=.dT (pkV (mJ s.b k v))) L.xb L.fb;refine⟨⟨Y,I L.tp c,I L.ot n2,I L.og L.ng,au,L.fg,L.fb,L.ng,L.xg,L.xb⟩,aM.refl _,λb o n h=>I h (λz=>n (by rw[z];exact E_ _ (HD ..))),Y.fh,λ_ _ h=>.inl h⟩
end
noncomputable def eJ(s:Jst)(ws:bv)(r:List (Option A3)):ai:=[c_,a_ (.lst ws),a_ (.lst s.dk),c_,a_ (.lst s.dn),a_ (.lst s.df),a_ (.lst s.dc)]++r
noncomputable def eW(ws:bv)(r:List (Option A3)):ai:=[c_,a_ (.lst ws),c_,c_,c_,c_,c_]++r
noncomputable def sJ(a:Jad)(vw:V)(τ:St):St:=[a_ (.ref a.p),a_ vw,a_ (.ref a.k),a_ (.ref a.T),a_ (.ref a.n),a_ (.ref a.f),a_ (.ref a.c)]++τ
def okJ(n:Nat)(x:Bool×Jst):M (Bool×Jst):=if n<h_ then .ok x else stk
def putJ(s:Jst):A3->A3->A3->A3->M (Bool×Jst)
 |.int v,.str w,.str x,.str y=>if w="gap" then okJ s.g.length (d_,{s with g:=mJ s.g (x,y) v})else if w="beside" then okJ s.b.length (d_,{s with b:=mJ s.b (x,y) v})else stk
 |_,_,_,_=>stk
def oneD(t1 t2 t3 t4 t5 t6 t7 t8 t9 t10:ai->M Bool)(a1 fg w0 w1 w2 fs fe fc fn a9 fl:ai->M A3)(s:Jst)(ws:bv):M (Bool×Jst):=
 let I:List (Option A3):=[c_,c_,c_,c_]
 (t1 (eJ s ws I)).bind λb=>if b=d_ then(t2 (eJ s ws I)).bind λb=>if b=d_ then .ok (b_,s)else(a1 (eW ws I)).bind λd=>okJ s.dk.length (d_,{s with dk:=s.dk++[d]})else
 (t3 (eJ s ws I)).bind λb=>if b=d_ then(fg (eW ws I)).bind λa=>(t4 (eJ s ws [a_ a,c_,c_,c_])).bind λb=>if b=d_ then .ok (b_,s)else
  (w0 (eW ws [a_ a,c_,c_,c_])).bind λx=>(w1 (eW ws [a_ a,c_,c_,c_])).bind λy=>(w2 (eW ws [a_ a,c_,c_,c_])).bind λz=>putJ s a x y z else
 (t5 (eJ s ws I)).bind λb=>if b=d_ then(fs (eW ws I)).bind λc=>(fe (eW ws [c_,a_ c,c_,c_])).bind λe=>(t6 (eJ s ws [c_,a_ c,a_ e,c_])).bind λb=>if b=d_ then .ok (b_,s)else
  (fc (eW ws [c_,a_ c,a_ e,c_])).bind λd=>okJ s.dc.length (d_,{s with dc:=s.dc++[d]})else
 (t7 (eJ s ws I)).bind λb=>if b=d_ then .ok (b_,s)else
 (fn (eW ws I)).bind λdn=>let Y:List (Option A3):=[c_,c_,c_,a_ dn]
 (t8 (eJ s ws Y)).bind λb=>if b=d_ then .ok (b_,s)else
 (t9 (eJ s ws Y)).bind λb=>if b=d_ then .ok (b_,s)else
 (t10 (eJ s ws Y)).bind λb=>if b=d_ then .ok (b_,s)else
 (a9 (eW ws Y)).bind λnm=>(fl (eJ {s with dn:=s.dn++[nm]} ws Y)).bind λd=>if (ik d&&q_ (s.dn.length<h_))=d_ then okJ s.df.length (d_,{s with dn:=s.dn++[nm],df:=s.df++[d]})else stk
def tSetD(K:Pn)(i:Nat)(f:ai->M A3):TS:=λD σ H=>tD K D' b_ f σ H λv H'=>D.nx (σ.set i (a_ v)) H'
section
variable{a:Jad}{s:Jst}{τ:St}{r:List (Option A3)}{z:Bool×Jst}{D:Ends}
def ee.put{d:A3}(q:ee K F σ ρ)(e:σ[i]?=a_ (a_ v))(h:aU K F d v):ee K F σ (ρ.set i (a_ d)):=q.tell e h
def Lj.full(L:Lj K F H a s)(q:ee K F (sJ a vw τ) (eW ws r)):ee K (plus F H (·∈a.xs)) (sJ a vw τ) (eJ s ws r):=by have b:=(q.mono L.c.ff).put (i:=2) (v:=.ref a.k) rfl (L.c.deep (j:=0) rfl rfl);have Y:=b.put (i:=4) (v:=.ref a.n) rfl (L.c.deep (j:=1) rfl rfl);have I:=Y.put (i:=5) (v:=.ref a.f) rfl (L.c.deep (j:=2) rfl rfl);exact I.put (i:=6) (v:=.ref a.c) rfl (L.c.deep (j:=3) rfl rfl)
theorem Lj.ask(L:Lj K F H a s)(q:ee K F (sJ a vw τ) (eW ws r)){t:ai->M Bool}{f:Bool->M (Bool×Jst)}(e:(t (eJ s ws r)).bind f=.ok z)(I:Hj K F H a z Q){T:TS}(Y:∀F1 H1,Lj K F1 H1 a s->ee K F1 (sJ a vw τ) (eW ws r)->Hj K F1 H1 a z Q->f d_=.ok z->T D (sJ a vw τ) H1)(g:∀F1 H1,Lj K F1 H1 a s->ee K F1 (sJ a vw τ) (eW ws r)->Hj K F1 H1 a z Q->f b_=.ok z->U D (sJ a vw τ) H1):ou (tDT K D' t) T U D (sJ a vw τ) H:=by
 obtain⟨b,i,e⟩:=bind_eq e;refine iy (L.full q) L.c.zh (λj h=>by simp_all) λk c F1 H1 d=>?_;rw[i]at c;cases c;have S:=L.c.back d;cases b with
 |true=>exact Y _ H1 (L.step S) (q.mono S.ff) (I.step L S) e|false=>exact g _ H1 (L.step S) (q.mono S.ff) (I.step L S) e
theorem Lj.val(L:Lj K F H a s)(q:ee K F (sJ a vw τ) (eW ws r)){g:ai->M A3}{f:A3->M (Bool×Jst)}(e:(g (eW ws r)).bind f=.ok z)(I:Hj K F H a z Q){R:VK}(b:∀d v F1 H1,Lj K F1 H1 a s->ee K F1 (sJ a vw τ) (eW ws r)->Hj K F1 H1 a z Q->aU K F1 d v->f d=.ok z->R v H1):tD K D' b_ g (sJ a vw τ) H R:=by obtain⟨d,c,e⟩:=bind_eq e;refine aT q L.c.fh (λi h=>by simp_all) λd' hd v F1 H1 S Y=>?_;rw[c]at hd;cases hd;exact b d v F1 H1 (L.step S) (q.mono S.ff) (I.step L S) Y e
def putJ_ok{Y I:A3}(e:putJ s d1 d2 Y I=.ok z):∃(v:Int) (w x y:m_),d1=.int v/\d2=.str w/\Y=.str x/\I=.str y/\((w="gap"/\okJ s.g.length (d_,{s with g:=mJ s.g (x,y) v})=.ok z)\/(w="beside"/\okJ s.b.length (d_,{s with b:=mJ s.b (x,y) v})=.ok z)):=by
 unfold putJ at e;split at e
 .rename_i v w x y;refine⟨v,w,x,y,rfl,rfl,rfl,rfl,?_⟩
  split at e
  .rename_i h;exact .inl ⟨h,e⟩
  .split at e
   .rename_i h;exact .inr ⟨h,e⟩
   .cases e
 .cases e
theorem yv{x:Bool×Jst}(e:okJ n x=.ok z):n<h_/\z=x:=by
 unfold okJ at e;split at e
 .simp_all
 .cases e
def Lj.add(L:Lj K F H a s){j:Nat}{x:e_}{es:bv}{d:A3}{s':Jst}(I:σ[i]?=a_ (a_ (.ref x)))(e1:a.xs[j]?=a_ x)(e2:s.ds[j]?=a_ (.lst es))(e3:s'.ds=s.ds.set j (.lst (es++[d])))(l:s'.g=s.g)(m:s'.b=s.b)(h:es.length<h_)(g:∀R:VK,(∀v F1 H1,A5 F H F1 H1->aU K F1 d v->R v H1)->te σ H R)(k:∀F1 H1,mH a.ys F H F1 H1->Lj K F1 H1 a s'->U D σ H1):eB (sP (tBM K "list" jK (cb i) (aR te eP))) U D σ H:=by
 obtain⟨b,Y,_⟩:=L.c.lst e1 e2;refine⟨.ref x,I,jH Y,g _ λv F1 H1 S c=>?_⟩
 obtain⟨ys,f,e,o,n⟩:=(L.step S).app e1 e2 c e3 l m;exact⟨x,ys,v,rfl,rfl,f,by rw[e];exact h,k F1 _ (S.toC.trans n (L.step S).ex) o⟩
def Bt{a:Jad}(h:H a.T=a_ (.dK (tabs a))):zy H a.T (.str "gap") (a_ (.ref a.g)):=by
 have:wX (tabs a) (.inr "gap")=a_ (.ref a.g):=by unfold tabs;exact mP rfl
 rw[<- this];exact zy.k (k:=.inr "gap") h
def lV{a:Jad}(h:H a.T=a_ (.dK (tabs a))):zy H a.T (.str "beside") (a_ (.ref a.b)):=by
 have:wX (tabs a) (.inr "beside")=a_ (.ref a.b):=by unfold tabs;rw[mQ (by show ¬(L_ (n_ "gap"):Key)=L_ (n_ "beside");decide +kernel)];exact mP rfl
 rw[<- this];exact zy.k (k:=.inr "beside") h
end
def spOne(K:Pn)(m:Jst->bv->M (Bool×Jst)):Sp:=λvs H Q _=>∃(a:Jad) (F:Hp) (s:Jst) (ws:bv) (vw:V) (r:Bool×Jst),vs=[.ref a.p,vw]/\Lj K F H a s/\aU K F (.lst ws) vw/\m s ws=.ok r/\Hj K F H a r Q
def len_one{m:Jst->bv->M (Bool×Jst)}(h:spOne K m vs H Q E):vs.length=2:=by obtain⟨_,_,_,_,_,_,rfl,_⟩:=h;rfl
section
variable{t2 t6 t7 t8 t9 t10:ai->M Bool}{a1 fg w0 w1 w2 fs fn a9 fl:ai->M A3}
noncomputable def nOne:b8:=["_law_state","_law_words_here","_law_kinds","_law_tables","_law_names","_law_flights","_law_closed","_law_gap_here","_law_start","_law_stop","_law_numbers"]
abbrev rNo:TS:=sO (tC (.bl b_))
abbrev rYes:TS:=sO (tC (.bl d_))
abbrev tAppJ(K:Pn)(i:Nat)(f:ai->M A3):TS:=sP (tBM K "list" jK (cb i) (aR (tD K D' b_ f) eP))
theorem rs_one(h:spOne K (oneD t1 t2 t3 t4 t5 t6 t7 t8 t9 t10 a1 fg w0 w1 w2 fs fe fc fn a9 fl) vs H Q E):
  eB (sI (cb 0) (gTup K 5 (lK (cK 2) (lK (cK 3) (lK (cK 4) (lK (cK 5) (lK (cK 6) gNil)))))))
  (eB (ou (tDT K D' t1) (eB (ou (tDT K D' t2) rNo hI) (eB (tAppJ K 2 a1) rYes)) hI)
  (eB (ou (tDT K D' t3) (eB (sI (tD K D' b_ fg) (cK 7)) (eB (ou (tDT K D' t4) rNo hI) (eB (sDPut (tDGet (cb 3) (tD K D' b_ w0)) (tTup (aR (tD K D' b_ w1) (aR (tD K D' b_ w2) eP))) (cb 7)) rYes))) hI)
  (eB (ou (tDT K D' t5) (eB (sI (tD K D' b_ fs) (cK 8)) (eB (sI (tD K D' b_ fe) (cK 9)) (eB (ou (tDT K D' t6) rNo hI) (eB (tAppJ K 6 fc) rYes)))) hI)
  (eB (ou (tDT K D' t7) rNo hI)
  (eB (tSetD K 10 fn)
  (eB (ou (tDT K D' t8) rNo hI)
  (eB (ou (tDT K D' t9) rNo hI)
  (eB (ou (tDT K D' t10) rNo hI)
  (eB (tAppJ K 4 a9)
  (eB (tAppJ K 5 fl) rYes)))))))))) {nx:=λ_ H'=>Q .non H',rt:=Q} (start nOne vs) H:=by
 obtain⟨a,F,s,ws,vw,z,rfl,L,qw,e,I⟩:=h;refine⟨.ref a.p,rfl,a.p,_,rfl,SqT.of L.tp,rfl,_,_,rfl,_,_,rfl,_,_,rfl,_,_,rfl,_,_,rfl,rfl,?_⟩
 have q:ee K F (sJ a vw [c_,c_,c_,c_]) (eW ws [c_,c_,c_,c_]):=ee.only (σ:=sJ a vw [c_,c_,c_,c_]) (i:=1) rfl qw;show eB _ _ _ (sJ a vw [c_,c_,c_,c_]) H;unfold oneD at e;dsimp only at e;refine L.ask q e I (λF L' L q I e=>?_) (λF H L q I e=>?_)
 .rw[f_ rfl]at e;refine L.ask q e I (λF H L q I e=>?_) (λF H L q I e=>?_)
  .rw[f_ rfl]at e;exact I.same L e
  .rw[k_ a8]at e;obtain⟨d,r,e⟩:=bind_eq e;obtain⟨f,rfl⟩:=yv e;refine L.add (i:=2) (j:=0) (d:=d) rfl rfl rfl (s':={s with dk:=s.dk++[d]}) rfl rfl rfl f (λR l=>aT q L.c.fh (λu h=>by simp_all) λd' hd v F1 H1 S k=>?_) λF1 H1 S Y=>I F1 H1 S Y;rw[r]at hd;cases hd;exact l v F1 H1 S k
 rw[k_ a8]at e;refine L.ask q e I (λF H L q I e=>?_) (λF H L q I e=>?_)
 .rw[f_ rfl]at e;refine L.val q e I λD g F H L q I q7 e=>?_;have q:ee K F (sJ a vw [a_ g,c_,c_,c_]) (eW ws [a_ D,c_,c_,c_]):=q.set q7 7;refine L.ask q e I (λF H L q I e=>?_) (λF H L q I e=>?_)
  .rw[f_ rfl]at e;exact I.same L e
  .rw[k_ a8]at e;refine⟨g,rfl,.ref a.T,rfl,L.val q e I λdw G F H L q I O e=>?_⟩
   have key:∀(x y:m_) (o:e_) (F H:Hp),Lj K F H a s->ee K F (sJ a vw [a_ g,c_,c_,c_]) (eW ws [a_ D,c_,c_,c_])->w1 (eW ws [a_ D,c_,c_,c_])=.ok (.str x)->w2 (eW ws [a_ D,c_,c_,c_])=.ok (.str y)->(∀F1 H1 q,Lj K F1 H1 a s->A5 F H F1 H1->H1 q=a_ (.tup ((pJ (x,y)).map kV))->∃A C,V.ref o=V.ref A/\DPut H1 A (.ref q) g C/\Q (.bl d_) C) ->
     tTup (aR (tD K D' b_ w1) (aR (tD K D' b_ w2) eP)) (sJ a vw [a_ g,c_,c_,c_]) H λy' H3=>∃A C,V.ref o=V.ref A/\DPut H3 A y' g C/\Q (.bl d_) C:=λx y o F H L q e1 e2 go=>by
    refine aT q L.c.fh (λu h=>by rw[e1]at h;cases h) λd1 p u1 F1 H1 c T=>?_;rw[e1]at p;cases p;cases(show u1=V.str x from T);refine aT (q.mono c.ff) c.fh (λu h=>by rw[e2]at h;cases h) λd2 n u2 F2 H2 b P=>?_;rw[e2]at n;cases n;cases(show u2=V.str y from P);refine⟨am,λt m=>?_⟩
    have S3:A5 F H F2 (upd H2 t (.tup [.str x,.str y])):=(c.trans b).trans (A5.grow b.fh m);exact go F2 _ t (L.step S3) S3 au
   obtain⟨dx,ex,e⟩:=bind_eq e;obtain⟨dy,ey,e⟩:=bind_eq e;obtain⟨i,w,x,y,rfl,rfl,rfl,rfl,e9⟩:=putJ_ok e;clear e;cases(show g=V.int i from by obtain⟨v,h1,h2⟩:=q.sl 7 _ rfl;cases h1;exact h2)
   have X:G=V.str w:=O;subst X;rcases e9 with⟨rfl,Z⟩|⟨rfl,Z⟩
   .obtain⟨f,rfl⟩:=yv Z;refine⟨a.T,.ref a.g,rfl,Bt L.ot,key x y a.g F H L q ex ey λF1 H1 t Y c m=>?_⟩
    obtain⟨B,b⟩:=Y.putg (x,y) i;exact⟨a.g,_,rfl,DPut.t Y.og m (by rw[Fv];exact f),I F1 _ (c.toC.trans b Y.ex) B⟩
   .obtain⟨f,rfl⟩:=yv Z;refine⟨a.T,.ref a.b,rfl,lV L.ot,key x y a.b F H L q ex ey λF1 H1 t Y c m=>?_⟩
    obtain⟨B,b⟩:=Y.putb (x,y) i;exact⟨a.b,_,rfl,DPut.t Y.ob m (by rw[Fv];exact f),I F1 _ (c.toC.trans b Y.ex) B⟩
 rw[k_ a8]at e;refine L.ask q e I (λF H L q I e=>?_) (λF H L q I e=>?_)
 .rw[f_ rfl]at e;refine L.val q e I λd8 v8 F H L q I q8 e=>?_;have q:ee K F (sJ a vw [c_,a_ v8,c_,c_]) (eW ws [c_,a_ d8,c_,c_]):=q.set q8 8;refine L.val q e I λd9 v9 F H L q I q9 e=>?_;have q:ee K F (sJ a vw [c_,a_ v8,a_ v9,c_]) (eW ws [c_,a_ d8,a_ d9,c_]):=q.set q9 9;refine L.ask q e I (λF H L q I e=>?_) (λF H L q I e=>?_)
  .rw[f_ rfl]at e;exact I.same L e
  .rw[k_ a8]at e;obtain⟨d,r,e⟩:=bind_eq e;obtain⟨f,rfl⟩:=yv e;refine L.add (i:=6) (j:=3) (d:=d) rfl rfl rfl (s':={s with dc:=s.dc++[d]}) rfl rfl rfl f (λR l=>aT q L.c.fh (λu h=>by simp_all) λd' hd v F1 H1 S k=>?_) λF1 H1 S Y=>I F1 H1 S Y;rw[r]at hd;cases hd;exact l v F1 H1 S k
 rw[k_ a8]at e;refine L.ask q e I (λF H L q I e=>?_) (λF H L q I e=>?_)
 .rw[f_ rfl]at e;exact I.same L e
 rw[k_ a8]at e;refine L.val q e I λdn N F H L q I U e=>?_;have q:ee K F (sJ a vw [c_,c_,c_,a_ N]) (eW ws [c_,c_,c_,a_ dn]):=q.set U 10;refine L.ask q e I (λF H L q I e=>?_) (λF H L q I e=>?_)
 .rw[f_ rfl]at e;exact I.same L e
 rw[k_ a8]at e;refine L.ask q e I (λF H L q I e=>?_) (λF H L q I e=>?_)
 .rw[f_ rfl]at e;exact I.same L e
 rw[k_ a8]at e;refine L.ask q e I (λF H L q I e=>?_) (λF H L q I e=>?_)
 .rw[f_ rfl]at e;exact I.same L e
 rw[k_ a8]at e;obtain⟨nm,en,e⟩:=bind_eq e;obtain⟨d,r,e⟩:=bind_eq e;split at e
 rotate_left
 .cases e
 rename_i W;rw[o_,Hx]at W;obtain⟨f,rfl⟩:=yv e;refine L.add (i:=4) (j:=1) (d:=nm) rfl rfl rfl (s':={s with dn:=s.dn++[nm]}) rfl rfl rfl W.2 (λR l=>aT q L.c.fh (λu h=>by simp_all) λd' hd v F1 H1 S k=>?_) λF1 H1 c Y=>?_
 .rw[en]at hd;cases hd;exact l v F1 H1 S k
 .have q1:=q.mono c.ff;refine Y.add (i:=5) (j:=2) (d:=d) rfl rfl rfl (s':={s with dn:=s.dn++[nm],df:=s.df++[d]}) rfl rfl rfl f (λR l=>aT (Y.full q1) Y.c.zh (λu h=>by simp_all) λd' hd v F2 H2 b k=>?_) λF2 H2 b B=>I F2 H2 (c.trans b Y.ex) B;rw[r]at hd;cases hd;exact l v _ H2 (Y.c.back b) (Y.c.flat b W.1 k)
end
def eq_sz{E:Mq}{Q:Mq}{Y I:Lg}{es fs:Array Om}(e:(a==Ir)=b_)(d:(b==Ir)=b_)(h1:s.heap.get? a=a_ Y)(h2:Y.ExactDict)(g:Y.data=.dict es ep)(c:s.heap.get? b=a_ I)(g2:I.ExactDict)(j:I.data=.dict fs ep')(k:fs.toList=[])(f:A.units<IU)(h:Q (.bool es.toList.isEmpty) s):B_ (C_ prog w) A (Ht .Eq (.ref a) (.ref b)) Q E s:=by
 obtain⟨es⟩:=es;obtain⟨fs⟩:=fs;cases(show fs=[]from k);cases es with
 |nil=>exact OB e d (show s.heap.DictOf (MA prog w) a []from⟨Y,_,ep,h1,h2,g,λi hi=>Ho hi am,.nil,.nil⟩) (show s.heap.DictOf (MA prog w) b []from⟨I,_,ep',c,g2,j,λi hi=>Ho hi am,.nil,.nil⟩) f (λ_=>.nil) h|cons x xs=>
  have ta:s.TypeIs (.ref a) "dict":=⟨Y,h1,h2.1⟩
  have tb:s.TypeIs (.ref b) "dict":=⟨I,c,g2.1⟩
  refine Ng (op:=.Eq) ta tb Kj (Lm Kj ta M6 ?_ (MY _ _)) f;refine(show B_ _ _ (JO "__eq__" ⟨[.ref a,.ref b],[]⟩ >>= _) _ _ s from g_ (by unfold JO;refine g_ (OI ta (show B_ _ _ (IQ (D_ a,D_ b)) _ _ s from y_ (g_ (P5 (T:="dict") tb M5 ?_))));simp only[Pt,LM,O_];refine g_ (y_ (g_ (y_ (g_ ?_))));unfold Mh Mr;rw[k_ (by rw[e];decide),k_ (by rw[d];decide)];refine g_ (y_ (g_ (y_ (g_ (La h1 g (g_ (La c j ?_)))))));rw[f_ am];refine g_ (wpAny_rule (y_ (y_ ⟨_,rfl,(λx=>nomatch x),?_⟩)));simpa using h))
noncomputable def rEqT:R2:=λx y H Q=>∃a b A7,x=.ref a/\y=.ref b/\H a=a_ (.dT A7)/\H b=a_ (.dT [])/\Q (.bl A7.isEmpty) H
theorem op_eqT(t:X.A.units+64<IU):OpR X (Ht .Eq) rEqT:=by
 intro A4 s σ H y x u v Q I Y c h;obtain⟨a,b,A7,rfl,rfl,n,m,q⟩:=h;cases(show u=D_ a from Y);cases(show v=D_ b from c);obtain⟨_,f,xs,r,p,es,ep,h1,h2,i,g,_⟩:=dt_of I.hok n;obtain⟨_,d,ys,r',o,fs,ep',l,g2,k,j,_⟩:=dt_of I.hok m;cases r';refine eq_sz f d h1 h2 i l g2 k j ad ⟨.bl _,H,I,rfl,?_⟩;have e:es.toList.isEmpty=A7.isEmpty:=by rw[g];have:=r.length;cases xs<;>cases A7<;>simp_all
 rw[e];exact q
noncomputable def eT(x:m_):ai:=[a_ (.str x),c_,c_,c_,c_,c_,c_,c_,c_,c_,c_,c_]
noncomputable def eK(rows:bv)(k:Nat)(w:Option A3):ai:=[c_,c_,a_ (.lst rows),a_ (.int k),w,c_,c_,c_,c_,c_,c_,c_]
noncomputable def eM(s:Jst)(I:Option A3):ai:=[c_,c_,c_,c_,c_,a_ (.lst s.dk),c_,a_ (.lst s.dn),a_ (.lst s.df),a_ (.lst s.dc),I,c_]
def pN(m1:Jst->bv->M (Bool×Jst))(fw fr:ai->M A3)(f1 f2:ai->M Bool)(rows:bv):Nat->Nat->Jst->M (Sum A3 Jst)
 |0,_,s=>.ok (.inr s)|m+1,k,s=>(fw (eK rows k c_)).bind λw=>match w with
  |.lst ws=>(f1 (eK rows k (a_ (.lst ws)))).bind λb=>if b=d_ then(f2 (eK rows k (a_ (.lst ws)))).bind λb=>if b=d_ then(m1 s ws).bind λr=>if r.1=d_ then pN m1 fw fr f1 f2 rows m (k+1) r.2 else(fr (eK rows k (a_ (.lst ws)))).bind λd=>.ok (.inl d)
   else pN m1 fw fr f1 f2 rows m (k+1) s else pN m1 fw fr f1 f2 rows m (k+1) s
  |_=>stk
def rowJ(ks:PKs)(ns:b8)(x:m_):A3:=.lst (ns.map λy=>.int ((jE ks (x,y)).getD 0))
def tabJ(ks:PKs)(ns:b8):A3:=.lst (ns.map (rowJ ks ns))
def AB(s:Jst)(ns:b8):bv:=[tabJ s.g ns,if s.b.isEmpty=d_ then .non else tabJ s.b ns]
noncomputable def s0J:Jst:=⟨[],[],[],[],[],[]⟩
def ux(m1:Jst->bv->M (Bool×Jst))(f0 fw fr f8:ai->M A3)(f1 f2 f4:ai->M Bool)(x:m_):M A3:=(f0 (eT x)).bind λd=>match d with
 |.lst rows=>if rows.length<=h_ then(pN m1 fw fr f1 f2 rows rows.length 0 s0J).bind λr=>match r with
  |.inl d=>.ok d|.inr s=>(f4 (eM s c_)).bind λb=>if b=d_ then .ok (.int 0)else(gR s.dk).bind λns=>if ns.length<=h_ then f8 (eM s (a_ (.lst (AB s ns))))else stk
  else stk
 |_=>stk
def sJud0(ρ:ai):M m_:=match ρ.head? with
 |some (a_ (.str x))=>.ok x|_=>stk
def sJud1(h:sJud0 ρ=.ok x):ρ[0]?=a_ (a_ (.str x)):=by
 unfold sJud0 at h;cases e:ρ.head? with
 |none=>rw[e]at h;cases h|some o=>
  rw[e]at h;cases o with
  |none=>cases h|some d=>cases d<;>first|(cases h;rw[<- List.head?_eq_getElem?];exact e)|cases h
def Bz(m1:Jst->bv->M (Bool×Jst))(f0 fw fr f8:ai->M A3)(f1 f2 f4:ai->M Bool):ai->M A9:=λρ=>if ρ.length=12 then(sJud0 ρ).bind λx=>(ux m1 f0 fw fr f8 f1 f2 f4 x).bind λd=>.ok (.rt d)else stk
abbrev EI:TE:=tTup (aR (Bu eP) (aR (tDisp [(tC (.str "gap"),Bw),(tC (.str "beside"),Bw)]) (aR (Bu eP) (aR (Bu eP) (aR (Bu eP) eP)))))
section
variable{R:VK}
def AA(a:Jad):pe [] [((.inr "gap":Key),V.ref a.g),(.inr "beside",.ref a.b)]=tabs a:=by rfl
theorem rd_state(s:aM F H)(h:∀(a:Jad) (H':Hp),A5 F H F H'->(∀x∈a.ys,H x=c_)->Lj K F H' a s0J->R (.ref a.p) H'):EI σ H R:=by
 have z0:(0:Nat)<=h_:=HX _;refine⟨z0,λk nk=>λT nT=>λg ng=>λb L=>?_⟩
 generalize X:upd H k (HO.lst [])=H1 at *;generalize W:upd H1 T (HO.dK [])=H2 at *;generalize U:upd H2 g (HO.dT [])=H3 at *;generalize S:upd H3 b (HO.dT [])=Z at *;have k1:H1 k=a_ (.lst []):=by rw[<- X];exact au
 have q:∀{A B:Hp} {x:e_} {o:HO},upd A x o=B->A x=c_->aM A B:=λ{A B x o} e n c u hc=>by rw[<- e,aw (λz=>by simp_all)];exact hc
 have S1:aM H H1:=q X nk;have D:aM H1 H2:=q W nT;have C:aM H2 H3:=q U ng;have S4:aM H3 Z:=q S L;have T2:H2 T=a_ (.dK []):=by rw[<- W];exact au
 have g3:H3 g=a_ (.dT []):=by rw[<- U];exact au
 have b4:Z b=a_ (.dT []):=by rw[<- S];exact au
 have T4:Z T=a_ (.dK []):=S4 _ _ (C _ _ T2);refine⟨T4,[(.inr "gap",.ref g),(.inr "beside",.ref b)],rfl,by show 2<=15;decide,?_⟩
 generalize Q:upd Z T (HO.dK (pe [] [((.inr "gap":Key),V.ref g),(.inr "beside",.ref b)]))=m at *;have T5:m T=a_ (.dK (pe [] [((.inr "gap":Key),V.ref g),(.inr "beside",.ref b)])):=by rw[<- Q];exact au
 have S5:∀x o,x≠T->Z x=a_ o->m x=a_ o:=λx o n r=>by rw[<- Q,aw n];exact r
 refine⟨z0,λn G=>⟨z0,λf w=>⟨z0,λc t=>⟨by rw[Hu];show 5<=16777216;decide,λp np=>?_⟩⟩⟩⟩
 generalize P:upd m n (HO.lst [])=H6 at *;generalize O:upd H6 f (HO.lst [])=H7 at *;generalize N:upd H7 c (HO.lst [])=E at *;have l:aM m H6:=q P G;have v:aM H6 H7:=q O w;have S8:aM H7 E:=q N t;have S9:aM E (upd E p (.tup [.ref k,.ref T,.ref n,.ref f,.ref c])):=q rfl np;have I:∀{A:Hp} {x y:e_} {o:HO},A x=a_ o->A y=c_->x≠y:=λ{A x y o} h1 h2 z=>by simp_all
 have kT:k≠T:=I k1 nT;have k5:m k=a_ (.lst []):=S5 _ _ kT (S4 _ _ (C _ _ (D _ _ k1)));have gT:g≠T:=λz=>I T2 ng z.symm;have bT:b≠T:=λz=>I (C _ _ T2) L z.symm;have g5:m g=a_ (.dT []):=S5 _ _ gT (S4 _ _ g3);have b5:m b=a_ (.dT []):=S5 _ _ bT b4;have n6:H6 n=a_ (.lst []):=by rw[<- P];exact au
 have f7:H7 f=a_ (.lst []):=by rw[<- O];exact au
 have c8:E c=a_ (.lst []):=by rw[<- N];exact au
 have Y:aM m (upd E p (.tup [.ref k,.ref T,.ref n,.ref f,.ref c])):=((l.trans v).trans S8).trans S9;have i:aM H m:=λx o r=>S5 x o (λz=>by have hz:=S1 _ _ r;simp_all) (S4 _ _ (C _ _ (D _ _ (S1 _ _ r))));have fr:∀{A:Hp} {x:e_},aM H A->A x=c_->H x=c_:=λ{A x} hs r=>hs.free r;have hk:H k=c_:=nk;have hg:H g=c_:=fr (S1.trans D) ng;have hb:H b=c_:=fr ((S1.trans D).trans C) L;have hn:H n=c_:=fr i G;have hf:H f=c_:=fr (i.trans l) w;have hc:H c=c_:=fr ((i.trans l).trans v) t;have knf:k≠n:=I k5 G;have kf:k≠f:=I (l _ _ k5) w;have kc:k≠c:=I (v _ _ (l _ _ k5)) t;have nf':n≠f:=I n6 w;have nc':n≠c:=I (v _ _ n6) t;have fc':f≠c:=I f7 t;have gn:g≠n:=I g5 G;have gf:g≠f:=I (l _ _ g5) w;have gc:g≠c:=I (v _ _ (l _ _ g5)) t;have bn:b≠n:=I b5 G;have bf:b≠f:=I (l _ _ b5) w;have bc:b≠c:=I (v _ _ (l _ _ b5)) t;have gk:g≠k:=λz=>I (D _ _ k1) ng z.symm;have bk:b≠k:=λz=>I (C _ _ (D _ _ k1)) L z.symm;have gb:g≠b:=I g3 L;have SH:aM H (upd E p (.tup [.ref k,.ref T,.ref n,.ref f,.ref c])):=i.trans Y;have all:∀x∈Jad.ys ⟨p,T,g,b,k,n,f,c⟩,H x=c_:=λx r=>by simp only[Jad.ys,Jad.xs,t_,Ig,Kd]at r;lia
 refine h ⟨p,T,g,b,k,n,f,c⟩ _ (A5.same s SH) all ?_;refine⟨⟨s.trans SH,?_,rfl,λj x d e1 e2=>?_⟩,au,?_,Y _ _ g5,Y _ _ b5,s.free hg,s.free hb,gb,?_,?_⟩
 .simp only[Jad.xs,J5,t_,Ig,Kd,Np,not_false_eq_true,Lr,and_true];exact⟨⟨knf,kf,kc⟩,⟨nf',nc'⟩,fc'⟩
 .have k9:=Y _ _ k5;have n9:=S9 _ _ (S8 _ _ (v _ _ n6));have f9:=S9 _ _ (S8 _ _ f7);have c9:=S9 _ _ c8;rcases j with _|_|_|_|j
  .cases e1;cases e2;exact⟨rfl,_,[],rfl,k9,s.free hk,rfl,rfl⟩
  .cases e1;cases e2;exact⟨rfl,_,[],rfl,n9,s.free hn,rfl,rfl⟩
  .cases e1;cases e2;exact⟨rfl,_,[],rfl,f9,s.free hf,rfl,rfl⟩
  .cases e1;cases e2;exact⟨rfl,_,[],rfl,c9,s.free hc,rfl,rfl⟩
  simp_all[Jad.xs]
 .rw[<- AA];exact Y _ _ T5
 .simp_all[Jad.xs,t_,Ig,Kd,Np]
 simp_all[Jad.xs,t_,Ig,Kd,Np]
end
abbrev tGet1:TE:=tDGet2 (tDGet (cb 2) (cb 3)) (tTup (aR (cb 1) (aR (cb 0) eP))) (tC (.int 0))
abbrev tRowJ(K:Pn):TE:=tComp (iList K (cb 1)) [c_,a_ 0,a_ 2,a_ 3] (cK 0) tYes tGet1
abbrev tTabJ(K:Pn):TE:=tComp (iList K (cb 5)) [c_,a_ 5,a_ 6,a_ 11] (cK 0) tYes (tRowJ K)
section
variable{a:Jad}{s:Jst}{R:VK}{k T o:e_}{ns:List m_}{ks:PKs}{w:m_}
theorem uJ(f:m_->Int):∀ns:b8,aD K F (ns.map λy=>A3.int (f y)) (ns.map λy=>V.int (f y))
 |[]=>rfl|_::ns=>⟨_,_,rfl,rfl,uJ f ns⟩
theorem rd_rowJ(b:aM F H)(c:SqL K F k (ns.map V.str))(m:ns.length<=h_)(h:∀H',aM H H'->zy H' T (.str w) (a_ (.ref o)))(hd:H o=a_ (.dT (pkV ks)))(j:∀v F' H',A5 F H F' H'->aU K F' (rowJ ks ns x) v->R v H'):
  tRowJ K [a_ (.str x),a_ (.ref k),a_ (.ref T),a_ (.str w)] H R:=by
 refine⟨.ref k,rfl,k,rfl,⟨_,b.lst c⟩,zd (xs:=ns.map V.str) (λi ys H'=>A5 F H F H'/\ys=(ns.take i).map λy=>V.int ((jE ks (x,y)).getD 0)) ⟨A5.refl b,rfl⟩ (λi ys H' hi ⟨st,e⟩=>⟨st.fh.lst c,?_⟩) (λi l ys H' Y ⟨st,e⟩=>?_) λys H' ⟨st,e⟩ p g=>?_⟩
 .grind
 .rw[HJ]at Y;cases d:ns[i]? with
  |none=>simp_all|some y=>
   rw[d]at Y;cases Y;have I:=st.hh _ _ hd;refine⟨.ref T,rfl,.str w,rfl,T,.ref o,rfl,h H' st.hh,o,rfl,.inr ⟨_,.inl I⟩,.str x,rfl,.str y,rfl,am,λt f=>?_⟩
   have a:A5 F H' F (upd H' t (.tup [.str x,.str y])):=A5.grow st.fh f;refine⟨_,zy.t (k:=pJ (x,y)) (a.hh _ _ I) au,st.trans a,?_⟩
   simp_all[Ai,L4,O1,IG,F_,JG]
 .rw[A_,OO]at e;refine j (.ref p) (upd F p (.lst ys)) _ (st.trans (A5.lay st.fh g)) ⟨p,ys,rfl,.inl (.inl au),?_⟩;rw[e];exact uJ _ ns
theorem rd_tabJ(g:σ[5]?=a_ (a_ (.ref k)))(l:σ[6]?=a_ (a_ (.ref T)))(b:σ[11]?=a_ (a_ (.str w)))(c:aM F H)(a:SqL K F k (ns.map V.str))(j:ns.length<=h_)(h:∀H',aM H H'->zy H' T (.str w) (a_ (.ref o)))(hd:H o=a_ (.dT (pkV ks)))(m:∀v F' H',A5 F H F' H'->aU K F' (tabJ ks ns) v->R v H'):
  tTabJ K σ H R:=by
 refine⟨.ref k,g,k,rfl,⟨_,c.lst a⟩,zd (xs:=ns.map V.str) (λi ys H'=>∃F',A5 F H F' H'/\aD K F' ((ns.take i).map (rowJ ks ns)) ys) ⟨F,A5.refl c,rfl⟩ (λi ys H' hi ⟨F',st,e⟩=>⟨st.fh.lst (st.ff.lst a),?_⟩) (λi n ys H' Y ⟨F',st,e⟩=>?_) λys H' ⟨F',st,e⟩ p f=>?_⟩
 .rw[e.length,A_,IS];lia
 .rw[HJ]at Y;cases d:ns[i]? with
  |none=>simp_all|some y=>
   rw[d]at Y;cases Y;have es:(inS [c_,a_ 5,a_ 6,a_ 11] σ).set 0 (a_ (.str y))=[a_ (.str y),a_ (.ref k),a_ (.ref T),a_ (.str w)]:=by unfold inS;simp only[F_,JG,g,l,b];rfl
   unfold cK tYes;dsimp only;rw[f_ rfl,es];refine rd_rowJ (st.fh) (st.ff.lst a) j (λH2 h2=>h H2 (st.hh.trans h2)) (st.hh _ _ hd) λv F2 H2 I q=>⟨F2,st.trans I,?_⟩
   rw[L4,d];simp only[O1,IG,F_,JG];exact(e.mono I.ff).append ⟨v,[],rfl,q,rfl⟩
 .rw[A_,OO]at e;exact m (.ref p) (upd F' p (.lst ys)) _ (st.trans (A5.lay st.fh f)) ⟨p,ys,rfl,.inl (.inl au),e.mono (A5.lay st.fh f).ff⟩
def Lj.frz(L:Lj K F H a s)(st:A5 F0 H0 F H)(Y:∀x∈a.ys,H0 x=c_):∃G,A5 F0 H0 G H/\aM F G/\aU K G (.lst s.dk) (.ref a.k)/\aU K G (.lst s.dn) (.ref a.n)/\aU K G (.lst s.df) (.ref a.f)/\aU K G (.lst s.dc) (.ref a.c):=
 ⟨plus F H (·∈a.xs),⟨st.ff.trans L.c.ff,st.hh,L.c.zh,λb o h=>by
  by_cases I:b∈a.xs
  .exact .inr (Y b (E_ _ (E_ _ I)))
  .rw[cV I]at h;exact st.nw b o h⟩,L.c.ff,L.c.deep (j:=0) rfl rfl,L.c.deep (j:=1) rfl rfl,L.c.deep (j:=2) rfl rfl,L.c.deep (j:=3) rfl rfl⟩
theorem ER:∀{ds:bv} {ns:b8} {ys:b9},gR ds=.ok ns->aD K F ds ys->ys=ns.map V.str
 |[],_,_,e,q=>by cases e;exact q|d::ds,ns,ys,e,⟨v,r,Y,q,I⟩=>by
  unfold gR at e;split at e
  .simp_all
  .rename_i x r' hh;cases hh;obtain⟨xs,ex,e⟩:=bind_eq e;cases e;cases(show v=V.str x from q);rw[Y,ER ex I];rfl
  .cases e
end
theorem mH.into{xs:List e_}(z:A5 F0 H0 F H)(t:mH xs F H F' H')(Y:∀x∈xs,H0 x=c_):A5 F0 H0 F' H':=
 ⟨z.ff.trans t.ff,λb o h=>t.hh b o (λI=>by simp_all) (z.hh b o h),t.fh,λb o h=>(t.nw b o h).elim (λu=>z.nw b o u) λu=>.inr (z.hh.free u)⟩
section
variable{D:Ends}{fr:ai->M A3}{f1 f2:ai->M Bool}
def EL(K:Pn)(m1:Jst->bv->M (Bool×Jst))(fw fr:ai->M A3)(f1 f2:ai->M Bool)(E1:XK):TS:=
 tFor (iRng1 (aR (tD K D' b_ (fL iT (aa (ah 2) aB))) eP)) (cK 3) (eB (sI (tD K D' b_ fw) (cK 4))
  (ou (tAnd (tDT K D' f1) (tAnd (tDT K D' f2) (tNot (tTr K (ia (spOne K m1) [] E1 (aR (cb 1) (aR (cb 4) eP))))))) (sO (tD K D' b_ fr)) hI))
def EK(K:Pn)(F0 H0:Hp)(OL:ce)(f8:ai->M A3)(f4:ai->M Bool):TS:=
 eB (sI (cb 1) (gTup K 5 (lK (cK 5) (lK (cK 6) (lK (cK 7) (lK (cK 8) (lK (cK 9) gNil)))))))
 (eB (ou (tDT K D' f4) (sO (tC (.int 0))) hI)
 (eB (sI (Bu eP) (cK 10))
 (eB (tFor (iList K (Bu (aR (tC (.str "gap")) (aR (tC (.str "beside")) eP)))) (cK 11) (sP (tBM K "list" jK (cb 10) (aR (tTabJ K) eP))))
 (eB (ou (tTest (tOp rEqT (tDGet (cb 6) (tC (.str "beside"))) Bw)) (tS K D' b_ F0 H0 OL [10] [10] (D5 10 (bm 1) (fC .non))) hI)
  (sO (tD K D' b_ f8))))))
theorem rs_made{a:Jad}{s:Jst}{d:A3}{g f:Option V}(L:Lj K F H a s)(st:A5 F0 H0 F H)(h0:∀x∈a.ys,H0 x=c_)(e:((f4 (eM s c_)).bind λb=>if b=d_ then .ok (.int 0)else(gR s.dk).bind λns=>if ns.length<=h_ then f8 (eM s (a_ (.lst (AB s ns))))else stk)=.ok d)(q:∀v F H,A5 F0 H0 F H->aU K F d v->D.rt v H):
  EK K F0 H0 OL f8 f4 D [g,a_ (.ref a.p),f,u3,u4,u5,u6,u7,u8,u9,u10,u11] H:=by
 refine⟨.ref a.p,rfl,a.p,_,rfl,SqT.of L.tp,rfl,_,_,rfl,_,_,rfl,_,_,rfl,_,_,rfl,_,_,rfl,rfl,?_⟩
 show eB _ _ D [g,a_ (.ref a.p),f,u3,u4,a_ (.ref a.k),a_ (.ref a.T),a_ (.ref a.n),a_ (.ref a.f),a_ (.ref a.c),u10,u11] H;obtain⟨G,W,_,qk,qn,qf,qc⟩:=L.frz st h0;obtain⟨b,eb,e⟩:=bind_eq e;have O:∀(G':Hp) (A t:Option V),aM G G'->ee K G' [g,a_ (.ref a.p),f,u3,u4,a_ (.ref a.k),a_ (.ref a.T),a_ (.ref a.n),a_ (.ref a.f),a_ (.ref a.c),A,t] (eM s c_):=λG' A t U=>(((ee.only (σ:=[g,a_ (.ref a.p),f,u3,u4,a_ (.ref a.k),a_ (.ref a.T),a_ (.ref a.n),a_ (.ref a.f),a_ (.ref a.c),A,t]) (i:=5) rfl (qk.mono U)).put (i:=7) (v:=.ref a.n) rfl (qn.mono U)).put (i:=8) (v:=.ref a.f) rfl (qf.mono U)).put (i:=9) (v:=.ref a.c) rfl (qc.mono U)
 refine iy (O G _ _ (aM.refl _)) W.fh (λe' h=>by simp_all) λb' hb F1 H1 k=>?_;rw[eb]at hb;cases hb;cases b with
 |true=>rw[f_ rfl]at e;cases e;exact q _ F1 H1 (W.trans k) rfl|false=>
 rw[k_ a8]at e;obtain⟨ns,en,e⟩:=bind_eq e;split at e
 rotate_left
 .cases e
 rename_i hns;obtain⟨ka,ysk,hka,sqk,qks⟩:=id qk;cases hka;have eys:=ER en qks;subst eys;refine⟨HX _,λI C=>?_⟩
 show eB _ _ D [g,a_ (.ref a.p),f,u3,u4,a_ (.ref a.k),a_ (.ref a.T),a_ (.ref a.n),a_ (.ref a.f),a_ (.ref a.c),a_ (.ref I),u11] (upd H1 I (.lst []));have z0:H0 I=c_:=(W.trans k).hh.free C;have S2:A5 F1 H1 F1 (upd H1 I (.lst [])):=A5.grow k.fh C;refine⟨am,λE hlp=>⟨E,rfl,⟨_,.inl (.inl au)⟩,?_⟩⟩
 have S3:A5 F1 H1 F1 (upd (upd H1 I (.lst [])) E (.lst [.str "gap",.str "beside"])):=S2.trans (A5.grow S2.fh hlp);have Q:I≠E:=λz=>by simp_all[au]
 have sk1:=k.ff.lst sqk;have hT:=L.ot
 let tb:bv:=[tabJ s.g ns,tabJ s.b ns]
 refine⟨λi m σ' H'=>m+i=2/\(∃u,σ'=[g,a_ (.ref a.p),f,u3,u4,a_ (.ref a.k),a_ (.ref a.T),a_ (.ref a.n),a_ (.ref a.f),a_ (.ref a.c),a_ (.ref I),u])/\∃F' ys,aM F1 F'/\A5 F0 H0 F' H'/\F' I=c_/\H' I=a_ (.lst ys)/\H' E=a_ (.lst [.str "gap",.str "beside"])/\H' a.T=a_ (.dK (tabs a))/\H' a.g=a_ (.dT (pkV s.g))/\H' a.b=a_ (.dT (pkV s.b))/\aD K F' (tb.take i) ys,
  ⟨2,rfl,⟨_,rfl⟩,F1,[],aM.refl _,(W.trans k).trans S3,k.fh.free C,by rw[aw Q];exact au,au,S3.hh _ _ (k.hh _ _ hT),S3.hh _ _ (k.hh _ _ L.og),S3.hh _ _ (k.hh _ _ L.ob),rfl⟩,λi m σ' H' ⟨e1,⟨u,e2⟩,F',ys,sf,c,fm,Z,hl,p,R,l,qy⟩=>?_⟩
 subst e2;by_cases hm0:m=0
 .refine .inl ⟨⟨_,.inl (.inl hl),bb⟩,?_⟩;have hi:i=2:=ad
  subst hi;refine⟨.ref a.T,rfl,a.T,.ref a.b,rfl,lV p,λnp B=>⟨a.b,np,pkV s.b,rfl,rfl,?_,au,s.b.isEmpty,?_,?_⟩⟩
  .rw[aw (λz=>by rw[<- z,l]at B;cases B)];exact l
  .simp[pkV]
  have S5:A5 F' H' F' (upd H' np (.dT [])):=A5.grow c.fh B;have hm5:=S5.hh _ _ Z;have rp:Rep K F0 H0 F0 [10] F' (upd H' np (.dT [])) [g,a_ (.ref a.p),f,u3,u4,a_ (.ref a.k),a_ (.ref a.T),a_ (.ref a.n),a_ (.ref a.f),a_ (.ref a.c),a_ (.ref I),u] (eM s (a_ (.lst tb))):=by have r0:=Rep.ofE (FB:=F0) (O F' (a_ (.ref I)) u (k.ff.trans sf)) (c.trans S5) (c.trans S5).ff;refine r0.setOwn (i:=10) (d:=.lst tb) (v:=.ref I) ⟨I,ys,rfl,hm5,fm,z0,qy⟩ (λ_ _ _ hp=>?_);obtain⟨j,d',hj,_⟩:=hp;exact Ho hj am
  have T:∀(md:bv) (Y:St) (F2 H2:Hp),AB s ns=md->Rep K F0 H0 F0 [10] F2 H2 Y (eM s (a_ (.lst md)))->sO (tD K D' b_ f8) D Y H2:=λmd Y F2 H2 hmd r2=>by rw[hmd]at e;refine aT r2.ui r2.lZ (λe' h=>by simp_all) λd' hd v F3 H3 r qd=>?_;rw[e]at hd;cases hd;exact q v F3 H3 ((r2.freeze (O2:=[]) am).st.trans r) qd
  cases S:s.b.isEmpty with
  |true=>
   show if d_=d_ then _ else _
   rw[f_ rfl];refine⟨F0,F',_,rp,?_⟩
   show ∀σ F H,Rep K F0 H0 F0 [10] F H σ (eM s (a_ (.lst [tabJ s.g ns,.non])))->_;exact λY F2 H2 r2=>T _ Y F2 H2 (by unfold AB;rw[S];rfl) r2
  |false=>
   show if b_=d_ then _ else _
   rw[k_ a8];exact T _ _ _ _ (by unfold AB;rw[S];rfl) rp
 .have hi:i<2:=ad
  have N:SqL K H' E [.str "gap",.str "beside"]:=.inl (.inl hl);have P:∀(w:m_) (o:e_) (ks:PKs),(∀H2,aM H' H2->zy H2 a.T (.str w) (a_ (.ref o)))->H' o=a_ (.dT (pkV ks))->tb[i]?=a_ (tabJ ks ns) ->
    sP (tBM K "list" jK (cb 10) (aR (tTabJ K) eP)) {D with nx:=λY H2=>(m-1)+(i+1)=2/\(∃u,Y=[g,a_ (.ref a.p),f,u3,u4,a_ (.ref a.k),a_ (.ref a.T),a_ (.ref a.n),a_ (.ref a.f),a_ (.ref a.c),a_ (.ref I),u])/\∃F' ys,aM F1 F'/\A5 F0 H0 F' H2/\F' I=c_/\H2 I=a_ (.lst ys)/\H2 E=a_ (.lst [.str "gap",.str "beside"])/\H2 a.T=a_ (.dK (tabs a))/\H2 a.g=a_ (.dT (pkV s.g))/\H2 a.b=a_ (.dT (pkV s.b))/\aD K F' (tb.take (i+1)) ys} [g,a_ (.ref a.p),f,u3,u4,a_ (.ref a.k),a_ (.ref a.T),a_ (.ref a.n),a_ (.ref a.f),a_ (.ref a.c),a_ (.ref I),a_ (.str w)] H':=λw o ks ho hd ht=>by
   refine⟨.ref I,rfl,jH Z,?_⟩
   unfold aR eP;refine rd_tabJ (σ:=[g,a_ (.ref a.p),f,u3,u4,a_ (.ref a.k),a_ (.ref a.T),a_ (.ref a.n),a_ (.ref a.f),a_ (.ref a.c),a_ (.ref I),a_ (.str w)]) rfl rfl rfl c.fh (sf.lst sk1) hns ho hd λv F3 H3 r qv=>?_;have hm3:=r.hh _ _ Z;have fm3:F3 I=c_:=r.stays fm Z;have X:∀{y:e_} {o':HO},H' y=a_ o'->y≠I->upd H3 I (.lst (ys++[v])) y=a_ o':=λ{y o'} h n=>by rw[aw n];exact r.hh _ _ h
   have ly:ys.length=i:=by rw[qy.length,IS];show OE i 2=i;lia
   have w1:a.T≠I:=λz=>by simp_all
   have w2:a.g≠I:=λz=>by simp_all
   have w3:a.b≠I:=λz=>by simp_all
   refine⟨I,ys,v,rfl,rfl,hm3,by rw[ly,Hu];lia,ad,⟨_,rfl⟩,F3,ys++[v],sf.trans r.ff,?_,fm3,au,X hl (HM Q),X p w1,X R w2,X l w3,?_⟩
   .have z:=c.trans r;exact⟨z.ff,λb o' h=>by rw[aw (λx=>by simp_all)];exact z.hh b o' h,λb o' h=>by rw[aw (λx=>by simp_all)];exact z.fh b o' h,z.nw⟩
   .rw[L4,ht];exact(qy.mono r.ff).append ⟨v,[],rfl,qv,rfl⟩
  have hgo:i<[V.str "gap",V.str "beside"].length:=hi;refine .inr ⟨⟨_,[V.str "gap",V.str "beside"][i],N,am⟩,_,λY H2 z=>⟨m-1,ad,z⟩,λxv H2 ⟨eH,hx⟩=>?_⟩;subst eH;have ex:=hx _ N;rcases i with _|_|i
  .cases ex;exact P "gap" a.g s.g (λH2 h2=>Bt (h2 _ _ p)) R rfl
  .cases ex;exact P "beside" a.b s.b (λH2 h2=>lV (h2 _ _ p)) l rfl
  .exact Ho hi ad
end
section
variable{D:Ends}{fr:ai->M A3}{f1 f2:ai->M Bool}{O':List Nat}
theorem rs_loopJ{F2:Hp}{a:Jad}{b:Sum A3 Jst}{rows:bv}{g:e_}{k:Option V}(L:Lj K F H a s0J)(st:A5 F0 H0 F H)(h0:∀x∈a.ys,H0 x=c_)(qr:aU K F (.lst rows) (.ref g))(hl:rows.length<=h_)(e:pN m1 fw fr f1 f2 rows rows.length 0 s0J=.ok b)(S:∀d v F H,b=.inl d->A5 F0 H0 F H->aU K F d v->D.rt v H)(T:∀s F H c Y,b=.inr s->A5 F0 H0 F H->Lj K F H a s->U D [k,a_ (.ref a.p),a_ (.ref g),c,Y,u5,u6,u7,u8,u9,u10,u11] H):
  eB (EL K m1 fw fr f1 f2 E1) U D [k,a_ (.ref a.p),a_ (.ref g),u3,u4,u5,u6,u7,u8,u9,u10,u11] H:=by
 have A:∀(G:Hp) (c Y:Option V),aM F G->ee K G [k,a_ (.ref a.p),a_ (.ref g),c,Y,u5,u6,u7,u8,u9,u10,u11] [c_,c_,a_ (.lst rows),c_,c_,c_,c_,c_,c_,c_,c_,c_]:=λG c Y p=>ee.only (σ:=[k,a_ (.ref a.p),a_ (.ref g),c,Y,u5,u6,u7,u8,u9,u10,u11]) (i:=2) rfl (qr.mono p);refine aT (A F u3 u4 (aM.refl _)) st.fh (λP h=>nomatch h) λd0 X v0 F1 H1 R q0=>?_;cases X;cases(show v0=V.int rows.length from q0);have hz:(rows.length:Int)<2^62:=by rw[Hu]at hl;lia
 refine⟨_,rfl,ad,hz,?_⟩
 show ∃W:Nat->Nat->St->Hp->Prop,_;refine⟨λi m σ' H'=>m+i=rows.length/\(∃c Y,σ'=[k,a_ (.ref a.p),a_ (.ref g),c,Y,u5,u6,u7,u8,u9,u10,u11])/\∃F' s',aM F F'/\A5 F0 H0 F' H'/\Lj K F' H' a s'/\pN m1 fw fr f1 f2 rows m i s'=.ok b,
  ⟨rows.length,rfl,⟨_,_,rfl⟩,F1,s0J,R.ff,st.trans R,L.step R,e⟩,λi m σ' H' ⟨e1,⟨c,Y,e2⟩,F',s',sf,n,L',I⟩=>?_⟩
 subst e2;cases m with
 |zero=>cases I;exact .inl ⟨by show(rows.length:Int).toNat<=i;lia,T s' F' H' c Y rfl n L'⟩|succ m=>
  refine .inr ⟨by show i<(rows.length:Int).toNat;lia,_,λσ2 H2 z=>⟨m,JW m,z⟩,λxv H2 hp=>?_⟩;obtain⟨eH,ex⟩:=hp;subst eH ex;unfold pN at I;obtain⟨w,ew,I⟩:=bind_eq I;have xi:(0:Int)+(i:Int)=((i:Nat):Int):=ad
  rw[xi];have rk:∀(G:Hp) (Y:Option V),aM F' G->ee K G [k,a_ (.ref a.p),a_ (.ref g),a_ (.int (i:Nat)),Y,u5,u6,u7,u8,u9,u10,u11] (eK rows i c_):=λG Y p=>(A G (a_ (.int (i:Nat))) Y (sf.trans p)).put (i:=3) (v:=.int (i:Nat)) (d:=.int (i:Nat)) rfl rfl;show tD K D' b_ fw [k,a_ (.ref a.p),a_ (.ref g),a_ (.int (i:Nat)),Y,u5,u6,u7,u8,u9,u10,u11] H2 _;refine aT (rk F' Y (aM.refl _)) n.fh (λP h=>by simp_all) λdw B vw F3 H3 y qw=>?_;rw[ew]at B;cases B;have L3:=L'.step y;have u:=n.trans y;cases w with
  |lst ws=>
   dsimp only at I;have o:∀(G:Hp),aM F3 G->ee K G [k,a_ (.ref a.p),a_ (.ref g),a_ (.int (i:Nat)),a_ vw,u5,u6,u7,u8,u9,u10,u11] (eK rows i (a_ (.lst ws))):=λG p=>(rk G (a_ vw) (y.ff.trans p)).put (i:=4) (v:=vw) rfl (qw.mono p);unfold cK;simp only[List.set_cons_succ,List.set_cons_zero];have j:∀(N E:Hp) (O:Jst),aM F3 N->A5 F0 H0 N E->Lj K N E a O->pN m1 fw fr f1 f2 rows m (i+1) O=.ok b ->
     m+(i+1)=rows.length/\(∃c Y,[k,a_ (.ref a.p),a_ (.ref g),a_ (.int (i:Nat)),a_ vw,u5,u6,u7,u8,u9,u10,u11]=[k,a_ (.ref a.p),a_ (.ref g),c,Y,u5,u6,u7,u8,u9,u10,u11])/\∃F' s',aM F F'/\A5 F0 H0 F' E/\Lj K F' E a s'/\pN m1 fw fr f1 f2 rows m (i+1) s'=.ok b:=
    λN E O g1 g2 g3 g4=>⟨ad,⟨_,_,rfl⟩,N,O,(sf.trans y.ff).trans g1,g2,g3,g4⟩
   obtain⟨b1,eb1,I⟩:=bind_eq I;refine iy (o F3 (aM.refl _)) y.fh (λP h=>by simp_all) λb' C F4 H4 f=>?_;rw[eb1]at C;cases C;cases b1 with
   |false=>rw[k_ a8]at I;exact j F4 H4 s' f.ff (u.trans f) (L3.step f) I|true=>
    rw[f_ rfl]at I;obtain⟨b2,Z,I⟩:=bind_eq I;refine iy (o F4 f.ff) f.fh (λP h=>by simp_all) λb' C F5 H5 q=>?_;rw[Z]at C;cases C;have L5:=(L3.step f).step q;have t:=(u.trans f).trans q;cases b2 with
    |false=>rw[k_ a8]at I;exact j F5 H5 s' (f.ff.trans q.ff) t L5 I|true=>
     rw[f_ rfl]at I;obtain⟨r,er,I⟩:=bind_eq I;refine⟨.ref a.p,rfl,vw,rfl,a,F5,s',ws,vw,r,rfl,L5,qw.mono (f.ff.trans q.ff),er,λF6 H6 Q L6=>⟨r.1,rfl,?_⟩⟩
     have l:=mH.into t Q h0;cases hr:r.1 with
     |true=>rw[hr,f_ rfl]at I;exact j F6 H6 r.2 ((f.ff.trans q.ff).trans Q.ff) l L6 I|false=>rw[hr,k_ a8]at I;obtain⟨d,ed,I⟩:=bind_eq I;cases I;refine aT (o F6 ((f.ff.trans q.ff).trans Q.ff)) l.fh (λP h=>by simp_all) λd' hd v F7 H7 s7 qd=>?_;rw[ed]at hd;cases hd;exact S d v F7 H7 rfl (l.trans s7) qd
  |_=>cases I
theorem rs_judge(t:tS K D' b_ F0 H0 OL [] O' (Bz m1 f0 fw fr f8 f1 f2 f4) D σ H):
  eB (sI EI (cK 1)) (eB (sI (tD K D' b_ f0) (cK 2)) (eB (EL K m1 fw fr f1 f2 E1) (EK K F0 H0 OL f8 f4))) D σ H:=by
 obtain⟨FB,F,ρ,r,q⟩:=t;unfold Bz at q;by_cases k:ρ.length=12
 rotate_left
 .rw[k_ k]at q;exact q.stuck rfl
 rw[f_ k]at q;cases f:sJud0 ρ with
 |error e=>rw[f]at q;exact HK q|ok x=>
 rw[f,aj]at q;obtain⟨v,hv,C⟩:=r.fz 0 _ (sJud1 f) am;have N:σ.length=12:=by rw[<- r.len];exact k
 obtain⟨u0,y0,rfl,A0⟩:=wY N;obtain⟨u1,y1,rfl,A1⟩:=wY A0;obtain⟨n,y2,rfl,A2⟩:=wY A1;obtain⟨u3,y3,rfl,Z⟩:=wY A2;obtain⟨u4,y4,rfl,X⟩:=wY Z;obtain⟨u5,y5,rfl,W⟩:=wY X;obtain⟨u6,y6,rfl,U⟩:=wY W;obtain⟨u7,y7,rfl,T⟩:=wY U;obtain⟨u8,y8,rfl,S⟩:=wY T;obtain⟨u9,y9,rfl,R⟩:=wY S;obtain⟨u10,A,rfl,m⟩:=wY R;obtain⟨u11,z,rfl,l⟩:=wY m;cases J8.mp l;cases(show v=V.str x from C);cases hv;cases I:ux m1 f0 fw fr f8 f1 f2 f4 x with
 |error e=>rw[I]at q;exact HK q|ok d=>
 rw[I]at q;have q:∀v F H,A5 F0 H0 F H->aU K F d v->D.rt v H:=q;unfold ux at I;obtain⟨P,e0,I⟩:=bind_eq I;unfold eB sI;refine rd_state (K:=K) r.st.fh λa H1 Q c w=>?_;have u:∀y∈a.ys,H0 y=c_:=λy G=>r.st.hh.free (c y G);show tD K D' b_ f0 [a_ (.str x),a_ (.ref a.p),n,u3,u4,u5,u6,u7,u8,u9,u10,u11] H1 _;refine aT (ρ:=eT x) (ee.only (σ:=[a_ (.str x),a_ (.ref a.p),n,u3,u4,u5,u6,u7,u8,u9,u10,u11]) (i:=0) (d:=.str x) rfl rfl) w.c.fh (λe' h=>by simp_all) λO Y v0 F2 H2 o p=>?_;rw[e0]at Y;cases Y;cases P with
 |lst rows=>
  dsimp only at I;split at I
  rotate_left
  .cases I
  rename_i g;obtain⟨ra,ys,rfl,_⟩:=id p;obtain⟨B,b,I⟩:=bind_eq I;refine rs_loopJ (F2:=F2) (a:=a) (w.step o) ((r.st.trans Q).trans o) u p g b (λd' v F H j st E=>?_) λs F H v3 v4 j st L=>?_
  .subst j;cases I;exact q v F H st E
  .subst j;exact rs_made L st u I q
 |_=>cases I
end
def ds_judge{fr:ai->M A3}{f1 f2:ai->M Bool}{O':ce}(p:∀F0 H0,PSs X sts (eB (sI EI (cK 1)) (eB (sI (tD K D' b_ f0) (cK 2)) (eB (EL K m1 fw fr f1 f2 E0) (EK K F0 H0 OL f8 f4))))):DSs K D' b_ X OL [] O' sts (Bz m1 f0 fw fr f8 f1 f2 f4):=λF0 H0=>PSs.imp (p F0 H0) λ_ _ _=>rs_judge
def ps_compD{fi:ai->M bv}{pt:Pat}(N':b8)(ix:List (Option Nat))(k:X.N.Nodup)(hi:DI K D' X tg iter fi)(g:∀L cs s H fp,DG K (bA X N' sc L cs s H fp) tg pt)(d:sE ix (gP K pt))(b:∀L cs s H fp,PTs (bA X N' sc L cs s H fp) ifs (tDT K D' ft))(h:∀L cs s H fp,DE K D' b_ (bA X N' sc L cs s H fp) elt fe)(f: ~~~(X.N[i]?=a_ x))(a: ~~~(X.env.scope.names.lookup x=a_ .local))(j: ~~~(X.calm=d_))(I: ~~~(Jb (.ListComp elt [⟨tg,iter,ifs,0⟩] sc pos) (a_ (.Name x py)) spos.line X.env=IQ d_))(Y: ~~~(bV X.N X.env.scope N' sc ix=d_))(e: ~~~(sc.kind=.function))(c:autoParam (∀x,Jo iter X.env x=IQ x) Jq4):
  PS X (.Assign [.Name x py] (.ListComp elt [⟨tg,iter,ifs,0⟩] sc pos) spos) (tSetD K i (dm fi ix pt ft fe)):=
 (uo N' ix k f a j hi g d b h I Y e c).imp λD σ H t=>zY (tD_fr t)
section
variable{f:ai->M A3}
def at_lst1(h:PEat X A4 σ e te)(f: ~~~(i_ [e] X.env=[(b_,Hv e X.env)])):PEat X A4 σ (.List [e] pos) (Bu (aR te eP)):=by
 intro s H Q I g;refine Pc (C6 (Q:=λus Y=>∃xs H1,A6 X A4 σ H1 Y/\B' xs us/\xs.length<=h_/\∀p,H1 p=c_->Q (.ref p) (upd H1 p (.lst xs))) ?_ λus Y ⟨xs,H1,a,r,z,q⟩=>⟨by rw[<- r.length];exact z,?_⟩)
 .rw[f];show B_ _ _ (PF ((b_,Hv e X.env)::[])) _ _ s;refine JD (C6 (h s H _ I g) λu Y i=>?_);obtain⟨x,H1,a,d,c⟩:=i;refine KS ?_;exact⟨[x],H1,a,.cons d .nil,c.1,c.2⟩
 have j:H1 Y.z=c_:=a.hok.fresh (r_ _);refine⟨.ref Y.z,upd H1 Y.z (.lst xs),a.laid (t':=Y.toks) (λb u e=>l_ _ e) (r_ _) ?_,rfl,q _ j⟩
 exact⟨z,us,0,r,Cb _ rfl⟩
def dea_lst1(h:DEat K E b_ X A4 σ e f)(b: ~~~(i_ [e] X.env=[(b_,Hv e X.env)])):DEat K E b_ X A4 σ (.List [e] pos) (fL bQ (aa f aB)):=by
 refine PEat.imp (at_lst1 h b) λH Q c=>?_;obtain⟨F,ρ,r,s,p⟩:=c;refine aT r s (λi g=>?_) λd hd v F1 H1 I q=>⟨am,λa Y=>?_⟩
 .have z:fL bQ (aa f aB) ρ=.error i:=by unfold fL aa;rw[g];rfl
  rw[z]at p;exact p
 .have z:fL bQ (aa f aB) ρ=.ok (.lst [d]):=by
   unfold fL aa;rw[hd];show bQ [d]=_;unfold bQ;rw[f_ am]
  rw[z]at p;exact p (.ref a) (upd F1 a (.lst [v])) _ (I.trans (A5.lay I.fh Y)) ⟨a,[v],rfl,.inl (.inl au),v,[],rfl,aU.mono (A5.lay I.fh Y).ff q,rfl⟩
end
noncomputable abbrev kFs(v:V)(k:Int):List (m_×V):=[("sheet",v),("shift",.int k)]
structure Dk(K:Pn)(C:e_)(F H:Hp)(p dx:e_)(v:V)(S:A3)(k:Int):Prop where
 fh:aM F H
 ob:H p=a_ (.ins C dx (kFs v k))
 fp:F p=c_
 sh:aU K F S v
section
variable{F2:Hp}{p:e_}{S:A3}{k:Int}
def Dk.step(d:Dk K C F H p dx v S k)(s:A5 F H F' H'):Dk K C F' H' p dx v S k:=⟨s.fh,s.hh _ _ d.ob,s.stays d.fp d.ob,d.sh.mono s.ff⟩
def Abt.of(s:A5 F H F' H')(f:F p=c_)(I:H p=a_ o):Abt p F H F' H':=⟨s.ff,s.fh,s.stays f I,s.nw,λc u e _=>s.hh c u e⟩
theorem Abt.trans(a:Abt p F H F' H')(b:Abt p F' H' F2 H2):Abt p F H F2 H2:=⟨a.ff.trans b.ff,b.fh,b.fp,λc u e=>(b.nw c u e).elim (a.nw c u) λz=>.inr (by
 cases Y:H c with
 |none=>rfl|some o'=>
  have I:c≠p:=λw=>by rw[w,b.fp]at e;cases e
  rw[a.hh c o' Y I]at z;lia),λc u e I=>b.hh c u (a.hh c u e I) I⟩
theorem Abt.from(s:A5 F0 H0 F H)(a:Abt p F H F' H')(I:H0 p=c_):A5 F0 H0 F' H':=⟨s.ff.trans a.ff,λc u e=>a.hh c u (s.hh c u e) (λz=>by simp_all),a.fh,λc u e=>(a.nw c u e).elim (s.nw c u) λz=>.inr (s.hh.free z)⟩
end
section
variable(K:Pn)(C p dx:e_)(Q:VK)(E:XK)
def SayQ(m:M (A3×Int))(F H:Hp):Prop:=match m with
 |.ok z=>∀I F' H',Abt p F H F' H'->Dk K C F' H' p dx I z.1 z.2->Q .non H'|.error e=>∀F' H',A5 F H F' H'->(WE K E).p e F' H'
end
section
variable{p:e_}{m:M (A3×Int)}
def SayQ.step(q:SayQ K C p dx Q E m F H)(s:A5 F H F1 H1)(f:F p=c_)(Y:H p=a_ o):SayQ K C p dx Q E m F1 H1:=by
 cases m with
 |error e=>exact λF' H' s'=>q F' H' (s.trans s')|ok z=>exact λI F' H' ab d=>q I F' H' ((Abt.of s f Y).trans ab) d
end
structure Ki(K:Pn)(C:e_)(F0 H0 FB:Hp)(ρ:ai)(di:Nat)(p dx:e_)(F H:Hp)(σ:St)(w:V)(S:A3)(k:Int):Prop where
 d:Dk K C F H p dx w S k
 r:ee K F σ ρ
 st:A5 F0 H0 F H
 fb:aM FB F
 sl:σ[di]?=a_ (a_ (.ref p))
 h0:H0 p=c_
section
variable{p:e_}{w:V}{S:A3}{k:Int}{t:TE}{r:A3}
theorem Ki.step(I:Ki K C F0 H0 FB ρ di p dx F H σ w S k)(s:A5 F H F' H'):Ki K C F0 H0 FB ρ di p dx F' H' σ w S k:=⟨I.d.step s,I.r.mono s.ff,I.st.trans s,I.fb.trans s.ff,I.sl,I.h0⟩
def Arg(K:Pn)(t:TE)(r:A3)(F H:Hp)(σ:St):Prop:=∀R:VK,(∀F1 H1 v,A5 F H F1 H1->aU K F1 r v->R v H1)->t σ H R
def Ki.text{a:m_}(I:Ki K C F0 H0 FB ρ di p dx F H σ w S k):Arg K (tC (.str a)) (.str a) F H σ:=λ_ h=>h F H _ (A5.refl I.d.fh) rfl
end
section
open PySem.W
def ask2:AskR 2 (λ_=>True) (OZ 2):=And.intro a8 (And.intro a8 λb=>by cases b<;>exact Ml)
noncomputable abbrev kas2(b:Bool):KasT (Array Nat):=match OZ 2 with
 |.ask _ _ k=>k b|t=>t
def run2(lt:Nat->Nat->Bool):tRun lt (OZ 2)=if lt 1 0=d_ then #[1,0]else #[0,1]:=by show tRun lt (kas2 (lt 1 0))=_;cases lt 1 0<;>rfl
variable{E:Mq}{i j:Int}{t u:OM}
noncomputable def out2(i j:Int)(t u:OM):ci:=if j<i then [.int j u,.int i t]else [.int i t,.int j u]
theorem FT{P:PySem.Fin->v_->Prop}(v:s.heap.get? a=a_ (Jy "list" #[.int i t,.int j u] n))(h:∀(h':H_) (c:Nat),(∀b o,b≠a->s.heap.get? b=a_ o->h'.get? b=a_ o)->h'.get? a=a_ (Jy "list" (out2 i j t u).toArray c)->P (.done (.ret .none)) {s with heap:=h'}):
  B_ (C_ prog w) A (Builtin.«list.sort» ⟨[.ref a],[]⟩) P E s:=by
 have B:=Hu;obtain⟨e1,f⟩:∃e1,(s.heap.update a (IT λ_=>(#[]:Array j_))).get? a=a_ (Jy "list" #[] e1):=⟨_,get?_update_seq v λ_=>#[]⟩
 rw[list_sort_plain];refine g_ (listItems_at v rfl (g_ (listUpdate_at v rfl (g_ (seqEpoch_at f rfl (g_ (wpAny_newTuple (g_ (wpAny_newList (Js ?_) (HX _))) am)))) am (HX _))));have e:∀b o,b≠a->s.heap.get? b=a_ o->(((s.heap.update a (IT λ_=>(#[]:Array j_))).push (Jy "tuple" #[.int i t,.int j u] 0)).push (Jy "list" #[] 0)).get? b=a_ o:=λb o l q=>l_ _ (l_ _ ((Hw _ _ (HM l)).trans q))
 have d:(((s.heap.update a (IT λ_=>(#[]:Array j_))).push (Jy "tuple" #[.int i t,.int j u] 0)).push (Jy "list" #[] 0)).get? a=a_ (Jy "list" #[] e1):=l_ _ (l_ _ f);show B_ (C_ prog w) A _ P E {s with heap:=((s.heap.update a (IT λ_=>(#[]:Array j_))).push (Jy "tuple" #[.int i t,.int j u] 0)).push (Jy "list" #[] 0)};dsimp only;have h2:¬(#[Im i t,Im j u]).size<2:=by show ¬2<2;lia
 rw[k_ h2,k_ h2];have hi:MH [.int i t,.int j u] [i,j]:=.cons i t (.cons j u .nil);rw[show keyKind' #[Im i t,Im j u]=_ from keyKind_ints hi];refine g_ (y_ ?_);refine g_ (HU (kat_run (ks:=[.int i t,.int j u]) (vs:=[.int i t,.int j u]) (Q:=λI s'=>s'={s with heap:=((s.heap.update a (IT λ_=>(#[]:Array j_))).push (Jy "tuple" #[.int i t,.int j u] 0)).push (Jy "list" #[] 0)}/\(arrOf I).map (·.2)=(out2 i j t u).toArray/\O0 I=c_)
  (G:=λp s'=>s'={s with heap:=((s.heap.update a (IT λ_=>(#[]:Array j_))).push (Jy "tuple" #[.int i t,.int j u] 0)).push (Jy "list" #[] 0)}/\p=tRun (ltK λk=>[i,j].getD k 0) (OZ 2)) rfl (r_ 2) (by show 2<64;decide) (λp I s' _ D O K=>⟨K.1,?_,O⟩) (uw (n:=2) (R:=λ_=>True) (λx y C m L S=>?_) _ ask2 ⟨rfl,rfl⟩)) (λr s' N=>?_) λ_ _ x=>x)
 .rw[kat_snds rfl D,K.2,run2];unfold out2 ltK;by_cases Y:j<i
  .rw[f_ (show q_ ([i,j].getD 1 0<[i,j].getD 0 0)=d_ from x_ Y),f_ Y];rfl
  .rw[k_ (show ¬q_ ([i,j].getD 1 0<[i,j].getD 0 0)=d_ from λz=>Y (Jk z)),k_ Y];rfl
 .have g:∀x,x<2->∃t',[Im i t,Im j u].getD x JC=.int ([i,j].getD x 0) t':=λx m=>by
   match x,m with
   |0,_=>exact⟨t,rfl⟩|1,_=>exact⟨u,rfl⟩
  unfold kas_ask;obtain⟨t1,e1⟩:=g x m;obtain⟨t2,e2⟩:=g y L;rw[e1,e2];exact kat_lt_int S
 .obtain⟨⟨⟩,I⟩:=r;obtain⟨es,F,H⟩:=N;have es:s'=_:=es;subst es;have F:(arrOf I).map (·.2)=(out2 i j t u).toArray:=F;have H:O0 I=c_:=H;dsimp only;rw[F];refine g_ (seqEpoch_at d rfl (g_ (listUpdate_at d rfl ?_ (HX _) (by show(out2 i j t u).length<=_;unfold out2;split<;>(show 2<=_;lia)))));simp only[H,bne_self_eq_false,LM,O_];exact y_ (h _ _ (λb o l q=>(Hw _ _ (HM l)).trans (e b o l q)) (get?_update_seq d λ_=>(out2 i j t u).toArray))
theorem CV{Q:Mq}(g:s.heap.IsList l #[.int i t,.int j u])(h:∀(h':H_) (D:e_) (c:Nat),s.heap.objs.size<=D->(∀b o,s.heap.get? b=a_ o->h'.get? b=a_ o)->h'.get? D=a_ (Jy "list" (out2 i j t u).toArray c)->Q (.ref D) {s with heap:=h'}):
  B_ (C_ prog w) A (Kp (.builtin "sorted") [.ref l]) Q E s:=by
 have a:=Hu;refine Calls.call_function_entry kind_sorted plain_sorted entry_sorted (args_sorted1 _) ?_;unfold Builtin.«sorted»;refine g_ (m:=checkCount "sorted" 1 1 _) (y_ (g_ (collect_list g (g_ (wpAny_newList ?_ (by show 2<=_;lia))) (by show 2<=_;lia))));have d:((s.heap.push (Jy "list" #[] 0)).update s.z (IT (·++#[Im i t,Im j u]))).objs.size=s.z+1:=by rw[Heap.size_update,size_push']
 have e:(((s.heap.push (Jy "list" #[] 0)).update s.z (IT (·++#[Im i t,Im j u]))).push (Jy "list" #[.int i t,.int j u] 0)).get? (s.z+1)=a_ (Jy "list" #[.int i t,.int j u] 0):=by rw[<- d];exact Cb _ rfl
 have I:∀b o,s.heap.get? b=a_ o->(((s.heap.push (Jy "list" #[] 0)).update s.z (IT (·++#[Im i t,Im j u]))).push (Jy "list" #[.int i t,.int j u] 0)).get? b=a_ o:=λb o q=>l_ _ ((Hw _ _ (KD (u_ q))).trans (l_ _ q))
 show B_ _ _ _ _ _ {s with heap:=((s.heap.push (Jy "list" #[] 0)).update s.z (IT (·++#[Im i t,Im j u]))).push (Jy "list" #[.int i t,.int j u] 0)};rw[d];have Y:∀b o,s.heap.get? b=a_ o->b≠s.z+1:=λb o q=>HC (Mc (u_ q));refine g_ (Js (Lm slot_list_sort ⟨_,e,rfl⟩ entry_list_sort (FT e λh' c f k=>⟨_,rfl,?_⟩) (args_list_sort _)));exact y_ ⟨_,rfl,h h' _ c (Iq _) (λb o q=>f b o (Y b o q) (I b o q)) k⟩
end
def srt2:bv->M A3
 |[.lst [.int a,.int b]]=>.ok (.lst (if b<a then [.int b,.int a]else [.int a,.int b]))
 |_=>stk
theorem GX{W:eZ}(G: ~~~(X.K=K)):pV K W d_ X (.builtin "sorted") srt2:=by
 subst G;intro A4 s σ H xs us Q I w h;obtain⟨F,d,x,m,e,q,p⟩:=m7 (λds=>by match ds with|[d]=>exact .inl ⟨d,rfl⟩|[]=>exact .inr rfl|a::b::c=>simp[srt2]) h;subst e;obtain⟨u,rfl,v⟩:=w.one;unfold srt2 at p;split at p
 .rename_i i j E;cases E;obtain⟨a,ys,e1,t,r⟩:=q;subst e1;cases v;obtain⟨v1,ys,rfl,A,o,ys,rfl,z,C⟩:=r;cases(show v1=V.int i from A);cases(show o=V.int j from z);cases(show ys=[]from C);obtain⟨A8,Y,pl,N⟩:=I.list (m.lst t);obtain⟨t1,t2,rfl⟩:∃t1 t2,A8=[.int i t1,.int j t2]:=by
   cases Y with
   |cons y Y=>cases Y with
    |cons r2 Y=>cases Y;obtain⟨t1,rfl⟩:=y;obtain⟨t2,rfl⟩:=r2;exact⟨t1,t2,rfl⟩
  refine CV pl.isList λh' D c n B e=>?_;have l:=Hu;have key:∃ys,B' ys (out2 i j t1 t2)/\ys.length<=h_/\aD X.K F (if j<i then [.int j,.int i]else [.int i,.int j]) ys:=by
   unfold out2;split
   .exact⟨[.int j,.int i],.cons ⟨t2,rfl⟩ (.cons ⟨t1,rfl⟩ .nil),by show 2<=_;lia,_,_,rfl,rfl,_,_,rfl,rfl,rfl⟩
   .exact⟨[.int i,.int j],.cons ⟨t1,rfl⟩ (.cons ⟨t2,rfl⟩ .nil),by show 2<=_;lia,_,_,rfl,rfl,_,_,rfl,rfl,rfl⟩
  obtain⟨ys,g,k,f⟩:=key;have L:A6 X A4 σ (upd H D (.lst ys)) {s with heap:=h'}:=I.laid (t':=s.toks) B n (show dj X.prog X.w _ h' D (.lst ys)from⟨k,_,c,g,e⟩);exact⟨.ref D,_,L,rfl,p.lst m f (I.hok.fresh n)⟩
 .exact aJ.stuck p
end Lake
namespace Tactic
open PySem Lake PyProof.Rows
variable{mg:Ld}{x w z nm y v:m_}{C CP CS CW CD AStripError ANoRow ANoRules ANoTime ANoPlace ANotFree ATooMany ANoPlan:e_}{f g:ai->M A3}{fd dO: Je}{n m a b c:Nat}{eE: e_}{i:Int}{o:A3->A3->M A3}{ks r ns:List m_}{p:Pat}{rows r2:List (List Int)}{ρ:ai}{α:Type}{lo hi:ai->M (Option Int)}{O:List Nat}
def tT:ai->M A9:=
 sIf (fB (f2 gtD (f2 ixD (f2 ixD (ah 2) (ah 8)) (ah 9)) (bm 0)))
   (ji [7] 7 (fSM nE (fC (.str " ")) (fL bQ (aa (fC (.str "gap")) (aa (f2 ixD (ah 1) (ah 8)) (aa (f2 ixD (ah 1) (ah 9)) (aa (fL ES (aa (f2 ixD (f2 ixD (ah 2) (ah 8)) (ah 9)) aB)) aB)))))))
   cg
def tQ:ai->M A9:=
 sIf (fB (f2 vN (ah 3) (fC .non)))
   (ji [7] 7 (fSM nE (fC (.str " ")) (fL bQ (aa (fC (.str "beside")) (aa (f2 ixD (ah 1) (ah 8)) (aa (f2 ixD (ah 1) (ah 9)) (aa (fL ES (aa (f2 ixD (f2 ixD (ah 3) (ah 8)) (ah 9)) aB)) aB)))))))
   cg
def tX:ai->M A9:=
 (bo (tT)
  (tQ))
def tW:ai->M A9:=
 (oY [7] (pP qU (aa (fL iT (aa (ah 1) aB)) aB)) (.nm 9) (tX))
def tV:ai->M A9:=
 (ji [7] 7 (f2 cR (f2 cR (f2 cR (fC (.str "closed ")) (fL ES (aa (ah 10) aB))) (fC (.str " "))) (fL ES (aa (ah 11) aB))))
def tU:ai->M A9:=
 (bo (aV [7] 14 (dm (fIt (fSl bR (ah 13) (dC (bm 1)) gF)) [c_] (.nm 0) gZ (fL ES (aa (ah 0) aB))))
  (ji [7] 7 (f2 cR (f2 cR (f2 cR (f2 cR (f2 cR (fC (.str "flight ")) (ah 12)) (fC (.str " "))) (f2 ixD (ah 1) (f2 ixD (ah 13) (bm 0)))) (fC (.str " "))) (fSM nE (fC (.str " ")) (ah 14)))))
def yK:ai->M A9:=
 (bo (sX [] (.tp [1,2,3,4,5,6]) (ah 0))
  (bo (aV [] 7 (dm (fIt (ah 1)) [c_] (.nm 0) gZ (f2 cR (fC (.str "kind ")) (ah 0))))
  (bo (oY [7] (pP qU (aa (fL iT (aa (ah 1) aB)) aB)) (.nm 8) (tW))
  (bo (oY [7] (fIt (ah 6)) (.tp [10,11]) (tV))
  (bo (oY [7] (AR (ah 4) (ah 5)) (.tp [12,13]) (tU))
  (bZ (ah 7)))))))
def j3:bv->M A3:=bH 15 1 (yK)
def iQ:ai->M A9:=
 sIf (fB (f2 gtD (fL iT (aa (ah 2) aB)) (bm 0)))
   (aV [] 3 (f2 iZ (f2 ixD (ah 2) (f2 iZ (ah 1) (fL iT (aa (ah 2) aB)))) (f2 Fs (bm 10) (bm 24))))
   cg
def jV:ai->M A9:=
 (bo (aV [] 2 (fSl bR (ah 0) gF (dC (bm 63))))
  (bo (aV [] 3 (f2 cR (f2 yz (bm 13) (ah 1)) (bm 5)))
  (bo (iQ)
  (bo (aV [] 4 (f2 iZ (f2 yz (f2 cR (f2 cR (ah 3) (f2 yz (f2 yz (ah 1) (ah 1)) (bm 7919))) (fL iT (aa (ah 2) aB))) (bm 48271)) (bm 2305843009213693951)))
  (bZ (f2 iZ (f2 cR (f2 yz (ah 4) (bm 1442695040888963407)) (bm 4321)) (bm 2305843009213693921)))))))
def ba:bv->M A3:=bH 5 2 (jV)
def wQ:ai->M A9:=
 (bo (aV [] 0 (f2 cR (f2 cR (f2 yz (ah 0) (ah 0)) (f2 yz (bm 48271) (ah 0))) (ah 4)))
  (bo (aV [] 0 (f2 iZ (ah 0) (bm 2305843009213693951)))
  (aV [] 3 (f2 cR (ah 3) (f2 uz (f2 cR (ah 2) (fC (.str "0123456789"))) (f2 iZ (f2 eX (ah 0) (bm 64)) (bm 36)))))))
def AJ:ai->M A9:=
 (bo (aV [] 2 (fC (.str "abcdefghijklmnopqrstuvwxyz")))
  (bo (aV [] 3 (f2 cR (f2 uz (ah 2) (f2 iZ (ah 0) (bm 26))) (f2 uz (ah 2) (f2 iZ (ah 1) (bm 26)))))
  (bo (oY [] (pP qU (aa (f2 iZ (f2 eX (ah 0) (bm 32)) (bm 6)) aB)) (.nm 4) (wQ))
  (bZ (ah 3)))))
def mh:bv->M A3:=bH 5 2 (AJ)
def i5:ai->M A9:=
 sIf (fB (f2 ltD (ah 1) (fL iT (aa (ah 0) aB))))
   (bZ (f2 iZ (f2 ixD (ah 0) (ah 1)) (f2 Fs (bm 10) (bm 24))))
   cg
def jo:ai->M A9:=
 (bo (i5)
  (bZ (bm 0)))
def bU:bv->M A3:=bH 2 2 (jo)
def lM:ai->M A9:=
 (bo (aV [] 0 (f2 cR (f2 cR (f2 yz (ah 0) (ah 0)) (f2 yz (bm 48271) (ah 0))) (ah 3)))
  (bo (aV [] 0 (f2 iZ (ah 0) (bm 2305843009213693951)))
  (aV [] 2 (f2 cR (ah 2) (f2 uz (fC (.str "abcdefghijklmnopqrstuvwxyz0123456789")) (f2 iZ (f2 eX (ah 0) (bm 64)) (bm 36)))))))
def nO:ai->M A9:=
 (bo (aV [] 2 (f2 cR (f2 uz (fC (.str "abcdefghijklmnopqrstuvwxyz")) (f2 iZ (ah 1) (bm 26))) (f2 uz (fC (.str "0123456789")) (f2 eX (ah 1) (bm 26)))))
  (bo (oY [] (pP qU (aa (f2 iZ (f2 eX (ah 0) (bm 32)) (bm 7)) aB)) (.nm 3) (lM))
  (bZ (ah 2))))
def gj:bv->M A3:=bH 4 2 (nO)
def DV:ai->M A9:=
 (bZ (f2 ixD (fL bQ (aa (f2 iZ (f2 eX (ah 0) (bm 16)) (bm 7)) (aa (f2 iZ (f2 eX (ah 0) (bm 16)) (f2 cR (f2 Fs (bm 10) (bm 6)) (bm 1))) (aa (bm 0) (aa (f2 iZ (f2 eX (ah 0) (bm 16)) (bm 100)) aB))))) (f2 iZ (ah 0) (bm 4))))
def lu:bv->M A3:=bH 1 1 (DV)
def AI:ai->M A9:=
 (bZ (f2 ixD (fL bQ (aa (f2 iZ (f2 eX (ah 0) (bm 16)) (bm 60)) (aa (f2 iZ (f2 eX (ah 0) (bm 16)) (f2 cR (f2 Fs (bm 10) (bm 9)) (bm 1))) (aa (f2 iZ (f2 eX (ah 0) (bm 16)) (bm 1000)) aB)))) (f2 iZ (ah 0) (bm 3))))
def dN:bv->M A3:=bH 1 1 (AI)
def wW:ai->M A9:=
 (ji [1] 1 (fL (mh) (aa (fL (ba) (aa (ah 0) (aa (ah 2) aB))) (aa (ah 2) aB))))
def wV:ai->M A9:=
 (bo (aV [3,4] 5 (dm (pP qU (aa (fL iT (aa (ah 1) aB)) aB)) [c_,a_ 0,a_ 1,a_ 2] (.nm 0) gZ (fL (ba) (aa (ah 1) (aa (f2 cR (f2 cR (bm 7) (f2 yz (ah 3) (fL iT (aa (ah 2) aB)))) (ah 0)) aB)))))
  (bo (ji [3,4] 3 (dm (fIt (ah 5)) [c_] (.nm 0) gZ (fL (lu) (aa (ah 0) aB))))
  (ji [3,4] 4 (dm (fIt (ah 5)) [c_] (.nm 0) gZ (fL (lu) (aa (f2 eX (ah 0) (bm 64)) aB))))))
def wy:ai->M A9:=
 sIf (fB (f2 eqM (f2 iZ (fL (bU) (aa (ah 0) (aa (bm 2) aB))) (bm 2)) (bm 0)))
   (aV [] 4 (fC .non))
   cg
def wx:ai->M A9:=
 sIf (fB (f2 eqM (f2 iZ (f2 eX (fL (bU) (aa (ah 0) (aa (bm 1) aB))) (bm 64)) (bm 8)) (bm 5)))
   (aV [6,7] 8 (bm 40))
   cg
def wU:ai->M A9:=
 (bo (aV [6,7] 9 (fL (ba) (aa (ah 0) (aa (f2 cR (bm 50) (ah 2)) aB))))
  (bo (aV [6,7] 10 (fL srt2 (aa (fL bQ (aa (fL (dN) (aa (ah 9) aB)) (aa (fL (dN) (aa (f2 eX (ah 9) (bm 4096)) aB)) aB))) aB)))
  (bo (ji [6,7] 6 (fL (gj) (aa (f2 eX (ah 9) (bm 8)) (aa (ah 2) aB))))
  (ji [6,7] 7 (fL iU (aa (f2 iZ (ah 9) (fL iT (aa (ah 1) aB))) (aa (f2 ixD (ah 10) (bm 0)) (aa (f2 ixD (ah 10) (bm 1)) (aa (fL (dN) (aa (f2 eX (ah 9) (bm 9)) aB)) (aa (fL (dN) (aa (f2 eX (ah 9) (bm 27)) aB)) aB))))))))))
def wR:ai->M A9:=
 (bo (aV [11] 10 (fL srt2 (aa (fL bQ (aa (fL (dN) (aa (fL (ba) (aa (ah 0) (aa (f2 cR (bm 101) (ah 2)) aB))) aB)) (aa (fL (dN) (aa (fL (ba) (aa (ah 0) (aa (f2 cR (bm 107) (ah 2)) aB))) aB)) aB))) aB)))
  (ji [11] 11 (fL iU (aa (f2 eX (f2 ixD (ah 10) (bm 0)) (bm 2)) (aa (f2 cR (f2 eX (f2 ixD (ah 10) (bm 1)) (bm 2)) (bm 1)) aB)))))
def AK:ai->M A9:=
 (bo (aV [] 1 (fL bQ aB))
  (bo (oY [1] (pP qU (aa (f2 cR (bm 1) (f2 iZ (f2 iZ (f2 yz (fL (bU) (aa (ah 0) (aa (bm 0) aB))) (bm 16807)) (bm 2147483647)) (bm 6))) aB)) (.nm 2) (wW))
  (bo (aV [] 3 (fL bQ aB))
  (bo (aV [3] 4 (fL bQ aB))
  (bo (oY [3,4] (pP qU (aa (fL iT (aa (ah 1) aB)) aB)) (.nm 2) (wV))
  (bo (wy)
  (bo (aV [] 6 (fL bQ aB))
  (bo (aV [6] 7 (fL bQ aB))
  (bo (aV [6,7] 8 (f2 iZ (f2 iZ (f2 yz (fL (bU) (aa (ah 0) (aa (bm 1) aB))) (bm 39373)) (bm 2147483629)) (bm 9)))
  (bo (wx)
  (bo (oY [6,7] (pP qU (aa (ah 8) aB)) (.nm 2) (wU))
  (bo (aV [] 11 (fL bQ aB))
  (bo (oY [11] (pP qU (aa (f2 iZ (f2 eX (fL (ba) (aa (ah 0) (aa (bm 100) aB))) (bm 64)) (bm 4)) aB)) (.nm 2) (wR))
  (bZ (fL iU (aa (ah 1) (aa (ah 3) (aa (ah 4) (aa (ah 6) (aa (ah 7) (aa (ah 11) aB)))))))))))))))))))))
def mi:bv->M A3:=bH 12 1 (AK)
def px:ai->M A9:=
 (bZ (dm (fIt (fSM oX (ah 0) (fC (.str " ")))) [c_] (.nm 0) (fB (f2 neM (ah 0) (fC (.str "")))) (ah 0)))
def j0:bv->M A3:=bH 1 1 (px)
def eN:ai->M A9:=
 sIf (fOr (fB (f2 ltD (fL pI (aa (ah 0) aB)) (bm 1))) (fOr (fB (f2 gtD (fL pI (aa (ah 0) aB)) (bm 10))) (fB (f2 neM (dm (fItS (ah 0)) [c_] (.nm 0) (fB (f2 kz (ah 0) (fC (.str "0123456789")))) (ah 0)) (fL bQ aB)))))
   (bZ (f1 negD (bm 1)))
   cg
def cA:ai->M A9:=
 sIf (fOr (rV (fB (f2 eqM (f2 uz (ah 0) (bm 0)) (fC (.str "0")))) (fB (f2 neM (ah 0) (fC (.str "0"))))) (fB (f2 gtD (fL G7 (aa (ah 0) aB)) (ah 1))))
   (bZ (f1 negD (bm 1)))
   cg
def fK:ai->M A9:=
 (bo (eN)
  (bo (cA)
  (bZ (fL G7 (aa (ah 0) aB)))))
def bz:bv->M A3:=bH 2 2 (fK)
def dz:ai->M A9:=
 sIf (fOr (fB (f2 ltD (fL pI (aa (ah 0) aB)) (bm 1))) (fOr (fB (f2 gtD (fL pI (aa (ah 0) aB)) (bm 8))) (fB (f2 kz (f2 uz (ah 0) (bm 0)) (fC (.str "abcdefghijklmnopqrstuvwxyz"))))))
   (bZ (fC (.bl b_)))
   cg
def gO:ai->M A9:=
 (bo (dz)
  (bZ (f2 eqM (dm (fItS (ah 0)) [c_] (.nm 0) (fB (f2 kz (ah 0) (fC (.str "abcdefghijklmnopqrstuvwxyz0123456789")))) (ah 0)) (fL bQ aB))))
def cu:bv->M A3:=bH 1 1 (gO)
def oW:ai->M Bool:=
 (rV (fB (f2 eqM (f2 ixD (ah 1) (bm 0)) (fC (.str "kind")))) (fB (f2 eqM (fL iT (aa (ah 1) aB)) (bm 2))))
def fq:ai->M Bool:=
 (fOr (oP (ke (fL (cu) (aa (f2 ixD (ah 1) (bm 1)) aB)))) (fOr (fB (f2 inM (f2 ixD (ah 1) (bm 1)) (ah 2))) (fB (f2 gtD (fL iT (aa (ah 2) aB)) (bm 5)))))
def kW:ai->M A3:=
 (f2 ixD (ah 1) (bm 1))
def oV:ai->M Bool:=
 (rV (fB (f2 inM (f2 ixD (ah 1) (bm 0)) (fL bQ (aa (fC (.str "gap")) (aa (fC (.str "beside")) aB))))) (fB (f2 eqM (fL iT (aa (ah 1) aB)) (bm 4))))
def jc:ai->M A3:=
 (fL (bz) (aa (f2 ixD (ah 1) (bm 3)) (aa (f2 Fs (bm 10) (bm 6)) aB)))
def cf:ai->M Bool:=
 (fOr (fB (f2 iE (f2 ixD (ah 1) (bm 1)) (ah 2))) (fOr (fB (f2 iE (f2 ixD (ah 1) (bm 2)) (ah 2))) (fB (f2 ltD (ah 7) (bm 0)))))
def jb:ai->M A3:=
 (f2 ixD (ah 1) (bm 0))
def ja:ai->M A3:=
 (f2 ixD (ah 1) (bm 1))
def j9:ai->M A3:=
 (f2 ixD (ah 1) (bm 2))
def mV:ai->M Bool:=
 (rV (fB (f2 eqM (f2 ixD (ah 1) (bm 0)) (fC (.str "closed")))) (fB (f2 eqM (fL iT (aa (ah 1) aB)) (bm 3))))
def ir:ai->M A3:=
 (fL (bz) (aa (f2 ixD (ah 1) (bm 1)) (aa (f2 Fs (bm 10) (bm 9)) aB)))
def iq:ai->M A3:=
 (fL (bz) (aa (f2 ixD (ah 1) (bm 2)) (aa (f2 Fs (bm 10) (bm 9)) aB)))
def cU:ai->M Bool:=
 (fOr (fB (f2 ltD (ah 8) (bm 0))) (fOr (fB (f2 leD (ah 9) (ah 8))) (fB (f2 gtD (fL iT (aa (ah 6) aB)) (bm 19)))))
def ip:ai->M A3:=
 (fL iU (aa (ah 8) (aa (ah 9) aB)))
def mU:ai->M Bool:=
 (fOr (fB (f2 neM (f2 ixD (ah 1) (bm 0)) (fC (.str "flight")))) (fB (f2 neM (fL iT (aa (ah 1) aB)) (bm 7))))
def il:ai->M A3:=
 (dm (fIt (fSl bR (ah 1) (dC (bm 3)) gF)) [c_] (.nm 0) gZ (fL (bz) (aa (ah 0) (aa (f2 Fs (bm 10) (bm 9)) aB))))
def fS:ai->M Bool:=
 (fOr (oP (ke (fL (cu) (aa (f2 ixD (ah 1) (bm 1)) aB)))) (fB (f2 inM (f2 ixD (ah 1) (bm 1)) (ah 4))))
def i9:ai->M Bool:=
 (fOr (fB (f2 iE (f2 ixD (ah 1) (bm 2)) (ah 2))) (fB (f2 ltD (fL minD (aa (ah 10) aB)) (bm 0))))
def dS:ai->M Bool:=
 (fOr (fB (f2 gtD (f2 ixD (ah 10) (bm 0)) (f2 ixD (ah 10) (bm 1)))) (fB (f2 gtD (fL iT (aa (ah 5) aB)) (bm 39))))
def gu:ai->M A3:=
 (f2 ixD (ah 1) (bm 1))
def gr:ai->M A3:=
 (fL iU (aa (hV (ah 2) (f2 ixD (ah 1) (bm 2))) (aa (f2 ixD (ah 10) (bm 0)) (aa (f2 ixD (ah 10) (bm 1)) (aa (f2 ixD (ah 10) (bm 2)) (aa (f2 ixD (ah 10) (bm 3)) aB))))))
def gE:Jst->bv->M (Bool×Jst):=
 oneD (oW) (fq) (oV) (cf) (mV) (cU) (mU) (fS) (i9) (dS) (kW) (jc) (jb) (ja) (j9) (ir) (iq) (ip) (il) (gu) (gr)
def gv:ai->M A3:=
 (fSM oX (ah 0) (fC (.str "\n")))
def cN:ai->M A3:=
 (fL (j0) (aa (f2 ixD (ah 2) (ah 3)) aB))
def bq:ai->M Bool:=
 (fB (f2 neM (ah 4) (fL bQ aB)))
def cI:ai->M Bool:=
 (fB (f2 neM (f2 uz (f2 ixD (ah 4) (bm 0)) (bm 0)) (fC (.str "#"))))
def cM:ai->M A3:=
 (f2 cR (ah 3) (bm 1))
def fU:ai->M Bool:=
 (fB (f2 eqM (ah 5) (fL bQ aB)))
def iM:ai->M A3:=
 (fL iU (aa (ah 5) (aa (f2 ixD (ah 10) (bm 0)) (aa (f2 ixD (ah 10) (bm 1)) (aa (ah 7) (aa (ah 8) (aa (ah 9) aB)))))))
def w4:ai->M A9:=
 (Bz (gE) (gv) (cN) (cM) (iM) (bq) (cI) (fU))
def dW:bv->M A3:=bH 12 1 (w4)
def jq:ai->M A9:=
 sIf (fB (f2 geD (ah 8) (ah 3)))
   (ji [4] 4 (fJ [(f1 oO (ah 0)),(fC (.str " ")),(f1 oO (ah 5)),(fC (.str " ")),(f1 oO (ah 7)),(fC (.str " ")),(f1 oO (ah 8))]))
   cg
def dB:ai->M A9:=
 (jq)
def gQ:ai->M A9:=
 (oY [4] (AR (ah 1) (ah 6)) (.tp [7,8]) (dB))
def pj:ai->M A9:=
 (bo (aV [] 4 (fL bQ aB))
  (bo (oY [4] (AR (ah 1) (ah 2)) (.tp [5,6]) (gQ))
  (bZ (ah 4))))
def gS:bv->M A3:=bH 9 4 (pj)
def nL:ai->M A9:=
 (bZ (dm (fIt (ah 0)) [c_] (.nm 0) gZ (fL AD (aa (ah 0) aB))))
def dU:bv->M A3:=bH 1 1 (nL)
def kb(CR CP CS CW CD:e_)(n:Nat):ai->M A9:=
 (bZ (fL (dU) (aa (f1 (bO [CR,CP] "gaps") (ah 0)) aB)))
def b7(CR CP CS CW CD:e_)(n:Nat):bv->M A3:=bH 1 1 (kb CR CP CS CW CD n)
def lS:ai->M A9:=
 (bo (aV [] 3 (f2 cR (fL bQ (aa (fC (.str "flight")) (aa (ah 1) (aa (f2 ixD (ah 0) (f2 ixD (ah 2) (bm 0))) aB)))) (dm (fIt (fSl bR (ah 2) (dC (bm 1)) gF)) [c_] (.nm 0) gZ (fL ES (aa (ah 0) aB)))))
  (bZ (fSM nE (fC (.str " ")) (ah 3))))
def dA:bv->M A3:=bH 4 3 (lS)
def j7(CR CP CS CW CD:e_)(n:Nat):ai->M A9:=
 (bZ (fL (dU) (aa (f1 (bO [CP] "beside") (ah 0)) aB)))
def bK(CR CP CS CW CD:e_)(n:Nat):bv->M A3:=bH 1 1 (j7 CR CP CS CW CD n)
def jY(CR CP CS CW CD:e_)(n:Nat):ai->M A9:=
 sIf (ke (f1 (isiC [(CR,b_),(CP,d_)]) (ah 1)))
   (F8 [5] 5 (fL (gS) (aa (fC (.str "beside")) (aa (ah 0) (aa (jz CP "beside_rows" (bK CR CP CS CW CD n) (ah 1) aB) (aa (bm 0) aB))))))
   cg
def yI(CR CP CS CW CD:e_)(n:Nat):ai->M A9:=
 (bo (aV [] 5 (dm (fIt (ah 0)) [c_] (.nm 0) gZ (fJ [(fC (.str "kind ")),(f1 oO (ah 0))])))
  (bo (F8 [5] 5 (fL (gS) (aa (fC (.str "gap")) (aa (ah 0) (aa (jx CR CP "gap_rows" (b7 CR CP CS CW CD n) (b7 CR CP CS CW CD n) (ah 1) aB) (aa (bm 1) aB))))))
  (bo (jY CR CP CS CW CD n)
  (bo (F8 [5] 5 (dm (fIt (ah 4)) [c_,c_] (.tp [0,1]) gZ (fJ [(fC (.str "closed ")),(f1 oO (ah 0)),(fC (.str " ")),(f1 oO (ah 1))])))
  (bo (F8 [5] 5 (dm (AR (ah 2) (ah 3)) [c_,c_,a_ 0] (.tp [0,1]) gZ (fL (dA) (aa (ah 2) (aa (ah 0) (aa (ah 1) aB))))))
  (bZ (fSM nE (fC (.str "")) (dm (fIt (ah 5)) [c_] (.nm 0) gZ (f2 cR (ah 0) (fC (.str "\n")))))))))))
def eC(CR CP CS CW CD:e_)(n:Nat):bv->M A3:=bH 6 5 (yI CR CP CS CW CD n)
def yJ:ai->M A9:=
 (bZ (dm (pP qU (aa (ah 2) aB)) [c_,a_ 0,a_ 1] (.nm 0) gZ (yO (ah 1) (fL iU (aa (ah 2) (aa (ah 0) aB))) (bm 0))))
def kB:bv->M A3:=bH 3 3 (yJ)
def rN:ai->M A9:=
 (bZ (dm (pP qU (aa (ah 1) aB)) [c_,a_ 0,a_ 1] (.nm 0) gZ (fL (kB) (aa (ah 1) (aa (ah 0) (aa (ah 2) aB))))))
def iH:bv->M A3:=bH 2 2 (rN)
def lG:ai->M A9:=
 sIf (fOr (oP (ke (f1 gm (ah 0)))) (ke (f1 kJ (ah 0))))
   (bZ (fC (.bl b_)))
   cg
def qq:ai->M A9:=
 (bo (lG)
  (bZ (jA leD leD (bm 0) (ah 0) (bm 1000000))))
def g9:bv->M A3:=bH 1 1 (qq)
def pq:ai->M A9:=
 (bZ (hZ (f1 kH (ah 0)) (hZ (f2 eqM (fL iT (aa (ah 0) aB)) (ah 1)) (fL allD (aa (dm (fIt (ah 0)) [c_] (.nm 0) gZ (fL (g9) (aa (ah 0) aB))) aB)))))
def fH:bv->M A3:=bH 2 2 (pq)
def kh:ai->M A9:=
 sIf (oP (fB (jA leD leD (bm 1) (ah 1) (bm 6))))
   sStk
   cg
def kg:ai->M A9:=
 sIf (oP (ke (fL allD (aa (dm (fIt (ah 0)) [c_,a_ 1] (.nm 0) gZ (fL (fH) (aa (ah 0) (aa (ah 1) aB)))) aB))))
   sStk
   cg
def lT:ai->M A9:=
 (bo (aV [] 1 (fL iT (aa (ah 0) aB)))
  (bo (kh)
  (bo (kg)
  (bZ (fL (dU) (aa (ah 0) aB))))))
def aN:bv->M A3:=bH 2 1 (lT)
def gL(CR CP CS CW CD:e_)(n:Nat):ai->M A9:=
 sIf (fB (f2 eqE (f1 (bO [CD] "beside") (ah 0)) (fC (.dic []))))
   (bZ (fL (newR CR (aN)) (aa (ah 2) aB)))
   cg
def iK(CR CP CS CW CD:e_)(n:Nat):ai->M A9:=
 (bo (aV [] 1 (fL iT (aa (f1 (bO [CD] "kinds") (ah 0)) aB)))
  (bo (aV [] 2 (fL (iH) (aa (f1 (bO [CD] "gaps") (ah 0)) (aa (ah 1) aB))))
  (bo (gL CR CP CS CW CD n)
  (bZ (fL (newP CP (aN)) (aa (ah 2) (aa (fL (iH) (aa (f1 (bO [CD] "beside") (ah 0)) (aa (ah 1) aB))) aB)))))))
def cJ(CR CP CS CW CD:e_)(n:Nat):bv->M A3:=bH 3 1 (iK CR CP CS CW CD n)
def dh:ai->M A9:=
 sIf (fOr (fB (f2 gtD (fL pI (aa (ah 0) aB)) (bm 10))) (oP (ke (fL allD (aa (dm (fItS (ah 0)) [c_] (.nm 0) gZ (f2 G8 (ah 0) (fC (.str "0123456789")))) aB)))))
   (bZ (fC .non))
   cg
def ck:ai->M A9:=
 sIf (rV (fB (f2 eqM (f2 uz (ah 0) (bm 0)) (fC (.str "0")))) (fB (f2 neM (ah 0) (fC (.str "0")))))
   (bZ (fC .non))
   cg
def gJ:ai->M A9:=
 (bo (dh)
  (bo (ck)
  (bZ (fL G7 (aa (ah 0) aB)))))
def bj:bv->M A3:=bH 1 1 (gJ)
def dP:ai->M A9:=
 sIf (fOr (fB (f2 neM (fL iT (aa (ah 1) aB)) (bm 4))) (fOr (fB (f2 iE (f2 ixD (ah 1) (bm 1)) (ah 0))) (fB (f2 iE (f2 ixD (ah 1) (bm 2)) (ah 0)))))
   (bZ (fC .non))
   cg
def gI:ai->M A9:=
 (bo (dP)
  (bo (aV [] 2 (fL (bj) (aa (f2 ixD (ah 1) (bm 3)) aB)))
  (bZ (fIte (ke (fL (g9) (aa (ah 2) aB))) (fL iU (aa (hV (ah 0) (f2 ixD (ah 1) (bm 1))) (aa (hV (ah 0) (f2 ixD (ah 1) (bm 2))) (aa (ah 2) aB)))) (fC .non)))))
def bw:bv->M A3:=bH 3 2 (gI)
def nK:ai->M A9:=
 (bZ (jA leD leD (bm 0) (ah 0) (bm 1000000000)))
def g8:bv->M A3:=bH 1 1 (nK)
def eV:ai->M A9:=
 (bo (aV [] 1 (f2 ixD (ah 0) (bm 1)))
  (bo (aV [] 2 (f2 ixD (ah 0) (bm 2)))
  (bZ (hZ (f2 leD (ah 1) (ah 2)) (fL allD (aa (dm (fIt (fSl bR (ah 0) (dC (bm 1)) gF)) [c_] (.nm 0) gZ (fL (g8) (aa (ah 0) aB))) aB))))))
def bC:bv->M A3:=bH 3 1 (eV)
def eY:ai->M A9:=
 sIf (fOr (fB (f2 gtD (fL pI (aa (ah 0) aB)) (bm 8))) (fB (f2 kz (f2 uz (ah 0) (bm 0)) (fC (.str "abcdefghijklmnopqrstuvwxyz")))))
   (bZ (fC (.bl b_)))
   cg
def kL:ai->M A9:=
 (bo (eY)
  (bZ (fL allD (aa (dm (fItS (ah 0)) [c_] (.nm 0) gZ (AS (f2 G8 (ah 0) (fC (.str "abcdefghijklmnopqrstuvwxyz"))) (f2 G8 (ah 0) (fC (.str "0123456789"))))) aB))))
def eD:bv->M A3:=bH 1 1 (kL)
def cQ:ai->M A9:=
 sIf (fOr (fB (f2 neM (fL iT (aa (ah 2) aB)) (bm 7))) (fOr (fB (f2 geD (fL iT (aa (ah 1) aB)) (bm 40))) (fB (f2 iE (f2 ixD (ah 2) (bm 2)) (ah 0)))))
   (bZ (fC .non))
   cg
def dQ:ai->M A9:=
 sIf (fOr (oP (ke (fL (eD) (aa (f2 ixD (ah 2) (bm 1)) aB)))) (fB (f2 inM (f2 ixD (ah 2) (bm 1)) (ah 1))))
   (bZ (fC .non))
   cg
def iP:ai->M A9:=
 sIf (fB (f2 inM (fC .non) (ah 3)))
   (bZ (fC .non))
   cg
def de:ai->M A9:=
 (bo (cQ)
  (bo (dQ)
  (bo (aV [] 3 (dm (fIt (fSl bR (ah 2) (dC (bm 3)) gF)) [c_] (.nm 0) gZ (fL (bj) (aa (ah 0) aB))))
  (bo (iP)
  (bo (aV [] 4 (fL iU (aa (hV (ah 0) (f2 ixD (ah 2) (bm 2))) (aa (f2 ixD (ah 3) (bm 0)) (aa (f2 ixD (ah 3) (bm 1)) (aa (f2 ixD (ah 3) (bm 2)) (aa (f2 ixD (ah 3) (bm 3)) aB)))))))
  (bZ (fIte (ke (fL (bC) (aa (ah 4) aB))) (ah 4) (fC .non))))))))
def aY:bv->M A3:=bH 5 3 (de)
def dZ:ai->M A9:=
 sIf (fOr (fB (f2 neM (fL iT (aa (ah 1) aB)) (bm 2))) (fB (f2 geD (fL iT (aa (ah 0) aB)) (bm 6))))
   (bZ (fC .non))
   cg
def gH:ai->M A9:=
 (bo (dZ)
  (bZ (fIte (rV (ke (fL (eD) (aa (f2 ixD (ah 1) (bm 1)) aB))) (fB (f2 iE (f2 ixD (ah 1) (bm 1)) (ah 0)))) (f2 ixD (ah 1) (bm 1)) (fC .non))))
def bB:bv->M A3:=bH 2 2 (gH)
def pk:ai->M A9:=
 (bZ (kU leD ltD leD (bm 0) (f2 ixD (ah 0) (bm 0)) (f2 ixD (ah 0) (bm 1)) (bm 1000000000)))
def gU:bv->M A3:=bH 1 1 (pk)
def mx:ai->M A9:=
 (bZ (hZ (f2 leD (fL iT (aa (ah 0) aB)) (bm 20)) (fL allD (aa (dm (fIt (ah 0)) [c_] (.nm 0) gZ (fL (gU) (aa (ah 0) aB))) aB))))
def iG:bv->M A3:=bH 1 1 (mx)
def bN:ai->M A9:=
 sIf (fB (f2 neM (fL iT (aa (ah 1) aB)) (bm 3)))
   (bZ (fC .non))
   cg
def cv:ai->M A9:=
 (bo (bN)
  (bo (aV [] 2 (fL iU (aa (fL (bj) (aa (f2 ixD (ah 1) (bm 1)) aB)) (aa (fL (bj) (aa (f2 ixD (ah 1) (bm 2)) aB)) aB))))
  (bZ (fIte (rV (fB (f2 iE (fC .non) (ah 2))) (ke (fL (iG) (aa (f2 cR (ah 0) (fL bQ (aa (ah 2) aB))) aB)))) (ah 2) (fC .non)))))
def aW:bv->M A3:=bH 3 2 (cv)
def bJ:bv->bv->M (Bool×bv):=
 oq (fOr (fB (f2 eqM (ah 1) (fL bQ aB))) (ke (fSM oy (f2 ixD (ah 1) (bm 0)) (fC (.str "#")))))
  (fB (f2 eqM (f2 ixD (ah 1) (bm 0)) (fC (.str "kind"))))
  (fB (f2 eqM (f2 ixD (ah 1) (bm 0)) (fC (.str "gap"))))
  (fB (f2 eqM (f2 ixD (ah 1) (bm 0)) (fC (.str "beside"))))
  (fB (f2 eqM (f2 ixD (ah 1) (bm 0)) (fC (.str "closed")))) (f2 eqM (f2 ixD (ah 1) (bm 0)) (fC (.str "flight")))
  (bB) (bw) (aW) (aY)
def uC:ai->M A9:=
 (bZ (dm (fIt (fSM oX (ah 0) (fC (.str " ")))) [c_] (.nm 0) (fB (f2 neM (ah 0) (fC (.str "")))) (ah 0)))
def gG:bv->M A3:=bH 1 1 (uC)
def cz(CR CP CS CW CD:e_)(n:Nat):ai->M A9:=
 sIf (fB (f2 eqM (f1 (bO [CD] "kinds") (ah 1)) (fL bQ aB)))
   (D6 CW "row" (aa (bm 0) aB))
   cg
def j5(CR CP CS CW CD:e_)(n:Nat):ai->M A9:=
 (qR CD CW "row" (bJ) (gG) 1 2 3 (fSM oX (ah 0) (fC (.str "\n")))
  (bo (cz CR CP CS CW CD n)
  (fNoX (bZ (fL (newS CS (eC CR CP CS CW CD n)) (aa (f1 (bO [CD] "kinds") (ah 1)) (aa (fL (cJ CR CP CS CW CD n) (aa (ah 1) aB)) (aa (f1 (bO [CD] "names") (ah 1)) (aa (f1 (bO [CD] "flights") (ah 1)) (aa (f1 (bO [CD] "closed") (ah 1)) aB))))))))))
def cj(CR CP CS CW CD:e_)(n:Nat):bv->M A3:=bH 4 1 (j5 CR CP CS CW CD n)
def gA(CR CP CS CW CD:e_)(n:Nat):ai->M A9:=
 qQ [] CW (aV [] 1 (fL bQ (aa (fL (cj CR CP CS CW CD n) (aa (ah 0) aB)) aB))) (ua 2 1 "row" d_ d_ b_)
def my(CR CP CS CW CD:e_)(n:Nat):ai->M A9:=
 (bo (aV [] 1 (fL bQ aB))
  (bo (gA CR CP CS CW CD n)
  (bZ (ah 1))))
def eU(CR CP CS CW CD:e_)(n:Nat):bv->M A3:=bH 3 1 (my CR CP CS CW CD n)
def kM:ai->M A9:=
 (bZ (hZ (f1 gm (ah 0)) (f1 notD (f1 kJ (ah 0)))))
def dM:bv->M A3:=bH 1 1 (kM)
def lh:ai->M A9:=
 sIf (fOr (oP (ke (f1 kH (ah 0)))) (fB (f2 neM (ah 0) (ah 1))))
   (bZ (fC (.bl b_)))
   cg
def lg:ai->M A9:=
 sIf (fOr (oP (ke (f1 lB (ah 3)))) (fB (f2 neM (fL iT (aa (ah 3) aB)) (ah 2))))
   (bZ (fC (.bl b_)))
   cg
def la:ai->M A9:=
 sIf (oP (ke (fL allD (aa (dm (fIt (ah 3)) [c_] (.nm 0) gZ (fL (dM) (aa (ah 0) aB))) aB))))
   (bZ (fC (.bl b_)))
   cg
def gB:ai->M A9:=
 (bo (lg)
  (la))
def nM:ai->M A9:=
 (bo (lh)
  (bo (oY [] (fIt (ah 0)) (.nm 3) (gB))
  (bZ (fC (.bl d_)))))
def cY:bv->M A3:=bH 4 3 (nM)
noncomputable def iL:ai->M A9:=
 (bZ (bm 1))
def cZ:bv->M A3:=bH 1 1 (iL)
noncomputable def j6:ai->M A9:=
 (bZ (bm 2))
def dI:bv->M A3:=bH 1 1 (j6)
def mG(CR CP CS CW CD:e_)(n:Nat):ai->M A9:=
 sIf (oP (ke (f1 (isiC [(CS,d_)]) (ah 0))))
   (bZ (fC (.bl b_)))
   cg
def mE(CR CP CS CW CD:e_)(n:Nat):ai->M A9:=
 sIf (fOr (fB (f2 neM (f1 (bO [CS] "kinds") (ah 0)) (ah 2))) (fB (f2 neM (f1 (bO [CS] "names") (ah 0)) (ah 5))))
   (bZ (fC (.bl b_)))
   cg
def mD(CR CP CS CW CD:e_)(n:Nat):ai->M A9:=
 sIf (fOr (oP (ke (fL (cY) (aa (f1 (bO [CS] "flights") (ah 0)) (aa (ah 6) (aa (bm 5) aB)))))) (oP (ke (fL (cY) (aa (f1 (bO [CS] "closed") (ah 0)) (aa (ah 7) (aa (bm 2) aB)))))))
   (bZ (fC (.bl b_)))
   cg
def mC(CR CP CS CW CD:e_)(n:Nat):ai->M A9:=
 sIf (fOr (fB (f2 neM (jx CR CP "gap_rows" (b7 CR CP CS CW CD n) (b7 CR CP CS CW CD n) (f1 (bO [CS] "rules") (ah 0)) aB) (ah 3))) (fB (f2 neM (jx CR CP "many_strips" (cZ) (dI) (f1 (bO [CS] "rules") (ah 0)) aB) (f2 cR (bm 1) (fL intD (aa (f2 vN (ah 4) (fC .non)) aB))))))
   (bZ (fC (.bl b_)))
   cg
def rO(CR CP CS CW CD:e_)(n:Nat):ai->M A9:=
 (bo (sX [] (.tp [2,3,4,5,6,7]) (ah 1))
  (bo (mG CR CP CS CW CD n)
  (bo (mE CR CP CS CW CD n)
  (bo (mD CR CP CS CW CD n)
  (bo (mC CR CP CS CW CD n)
  (bZ (AS (f2 isND (ah 4) (fC .non)) (f2 eqM (jz CP "beside_rows" (bK CR CP CS CW CD n) (f1 (bO [CS] "rules") (ah 0)) aB) (ah 4)))))))))
def kC(CR CP CS CW CD:e_)(n:Nat):bv->M A3:=bH 8 2 (rO CR CP CS CW CD n)
def eO:ai->M A9:=
 sIf (ke (f1 gm (ah 1)))
   (bZ (hZ (f2 eqM (ah 2) (fL bQ (aa (fC .non) (aa (ah 1) (aa (fC (.bl d_)) (aa (fC (.bl d_)) (aa (fC (.bl b_)) aB))))))) (fL (dM) (aa (f2 ixD (ah 2) (bm 1)) aB))))
   cg
def kN(CR CP CS CW CD:e_)(n:Nat):ai->M A9:=
 (bo (aV [] 1 (fL (dW) (aa (ah 0) aB)))
  (bo (aV [] 2 (fL (eU CR CP CS CW CD n) (aa (ah 0) aB)))
  (bo (eO)
  (bZ (hZ (f2 eqM (fL iT (aa (ah 2) aB)) (bm 1)) (fL (kC CR CP CS CW CD n) (aa (f2 ixD (ah 2) (bm 0)) (aa (ah 1) aB))))))))
def bE(CR CP CS CW CD:e_)(n:Nat):bv->M A3:=bH 3 1 (kN CR CP CS CW CD n)
def wM:ai->M A9:=
 sIf (fB (f2 eqM (ah 3) (bm 0)))
   (bZ (f2 cR (f2 cR (fSl bR (ah 0) gF (dC (ah 2))) (fSl bR (ah 0) (dC (ah 2)) (dC (f2 cR (ah 2) (bm 1))))) (fSl bR (ah 0) (dC (ah 2)) gF)))
   cg
def wJ:ai->M A9:=
 sIf (rV (fB (f2 eqM (ah 3) (bm 1))) (fB (f2 gtD (fL iT (aa (ah 0) aB)) (bm 1))))
   (bZ (f2 cR (fSl bR (ah 0) gF (dC (ah 2))) (fSl bR (ah 0) (dC (f2 cR (ah 2) (bm 1))) gF)))
   cg
def wH:ai->M A9:=
 sIf (fB (f2 eqM (ah 3) (bm 2)))
   (bZ (f2 cR (f2 cR (fSl bR (ah 0) gF (dC (ah 2))) (f1 revD (fSl bR (ah 0) (dC (ah 2)) (dC (f2 cR (ah 2) (bm 2)))))) (fSl bR (ah 0) (dC (f2 cR (ah 2) (bm 2))) gF)))
   cg
def wA:ai->M A9:=
 sIf (fB (f2 ltD (ah 3) (bm 7)))
   (aV [] 4 (f2 cR (fSl jJ (ah 4) gF (dC (ah 5))) (fSl jJ (ah 4) (dC (f2 cR (ah 5) (bm 1))) gF)))
   (aV [] 4 (f2 cR (f2 cR (fSl jJ (ah 4) gF (dC (ah 5))) (ah 6)) (fSl jJ (ah 4) (dC (f2 cR (ah 5) (bm 1))) gF)))
def wz:ai->M A9:=
 sIf (fB (f2 ltD (ah 3) (bm 5)))
   (aV [] 4 (f2 cR (f2 cR (fSl jJ (ah 4) gF (dC (ah 5))) (ah 6)) (fSl jJ (ah 4) (dC (ah 5)) gF)))
   (wA)
def AL:ai->M A9:=
 (bo (aV [] 2 (f2 iZ (f2 eX (ah 1) (bm 16)) (fL iT (aa (ah 0) aB))))
  (bo (aV [] 3 (f2 iZ (ah 1) (bm 8)))
  (bo (wM)
  (bo (wJ)
  (bo (wH)
  (bo (aV [] 4 (f2 ixD (ah 0) (ah 2)))
  (bo (aV [] 5 (f2 iZ (f2 eX (ah 1) (bm 1024)) (f2 cR (fL pI (aa (ah 4) aB)) (bm 1))))
  (bo (aV [] 6 (f2 uz (fC (.str "abz019 \n#-.A  ")) (f2 iZ (f2 eX (ah 1) (bm 65536)) (bm 14))))
  (bo (wz)
  (bZ (f2 cR (f2 cR (fSl bR (ah 0) gF (dC (ah 2))) (fL bQ (aa (ah 4) aB))) (fSl bR (ah 0) (dC (f2 cR (ah 2) (bm 1))) gF))))))))))))
def jP:bv->M A3:=bH 7 2 (AL)
def pT:ai->M A9:=
 sIf (fB (f2 eqM (f2 iZ (ah 0) (bm 2)) (bm 1)))
   (bo (aV [] 3 (f2 cR (ah 3) (f2 uz (ah 1) (f2 iZ (ah 4) (bm 40)))))
  (aV [] 4 (f2 eX (ah 4) (bm 40))))
   (bo (aV [] 3 (f2 cR (f2 cR (ah 3) (f2 ixD (ah 2) (f2 iZ (ah 4) (bm 20)))) (fC (.str " "))))
  (aV [] 4 (f2 eX (ah 4) (bm 20))))
def pR:ai->M A9:=
 sIf (fB (f2 eqM (ah 4) (bm 0)))
   (bZ (ah 3))
   cg
def pU:ai->M A9:=
 (bo (pT)
  (pR))
def tu:ai->M A9:=
 (bo (aV [] 1 (fC (.str "abcdefghijklmnopqrstuvwxyz0123456789 #-.")))
  (bo (aV [] 2 (fL bQ (aa (fC (.str "kind")) (aa (fC (.str "gap")) (aa (fC (.str "beside")) (aa (fC (.str "closed")) (aa (fC (.str "flight")) (aa (fC (.str "a")) (aa (fC (.str "b")) (aa (fC (.str "c1")) (aa (fC (.str "0")) (aa (fC (.str "1")) (aa (fC (.str "7")) (aa (fC (.str "30")) (aa (fC (.str "1000000")) (aa (fC (.str "1000000000")) aB))))))))))))))))
  (bo (aV [] 2 (f2 cR (ah 2) (fL bQ (aa (fC (.str "zz")) (aa (fC (.str "")) (aa (fC (.str "#")) (aa (fC (.str "01")) (aa (f2 Av (fC (.str "x")) (bm 8)) (aa (f2 Av (fC (.str "x")) (bm 9)) aB)))))))))
  (bo (aV [] 3 (fC (.str "")))
  (bo (aV [] 4 (f2 eX (ah 0) (bm 4)))
  (bo (oY [] (pP qU (aa (f2 cR (f2 yz (f2 iZ (f2 eX (ah 0) (bm 2)) (bm 2)) (bm 40)) (bm 8)) aB)) (.nm 5) (pU))
  (bZ (ah 3))))))))
def jl:bv->M A3:=bH 6 1 (tu)
def nP(CR CP CS CW CD:e_)(n:Nat):ai->M A9:=
 (bZ (f1 (bO [CS] "text") (ah 0)))
def ig(CR CP CS CW CD:e_)(n:Nat):bv->M A3:=bH 1 1 (nP CR CP CS CW CD n)
def jr:ai->M A9:=
 sIf (ke (f1 gm (ah 1)))
   (bZ (fC (.bl d_)))
   cg
def kO(CR CP CS CW CD:e_)(n:Nat):ai->M A9:=
 (bo (aV [] 1 (fL (dW) (aa (ah 0) aB)))
  (bo (jr)
  (bo (aV [] 2 (jz CS "shown" (ig CR CP CS CW CD n) (fL (noM (cj CR CP CS CW CD n)) (aa (ah 0) aB)) aB))
  (bZ (hZ (f2 eqM (fL (dW) (aa (ah 2) aB)) (ah 1)) (fL (bE CR CP CS CW CD n) (aa (ah 2) aB)))))))
def cS(CR CP CS CW CD:e_)(n:Nat):bv->M A3:=bH 3 1 (kO CR CP CS CW CD n)
def b_law_1:ai->M A9:=
 (aV [] 3 (fL (jP) (aa (ah 3) (aa (fL (ba) (aa (ah 0) (aa (f2 cR (f2 cR (bm 520) (f2 yz (bm 3) (ah 2))) (ah 4)) aB))) aB))))
def c_law_2(CR CP CS CW CD:e_)(n:Nat):ai->M A9:=
 sIf (fOr (oP (ke (fL (bE CR CP CS CW CD n) (aa (ah 5) aB)))) (oP (ke (fL (cS CR CP CS CW CD n) (aa (ah 5) aB)))))
   (bZ (fC (.bl b_)))
   cg
def b_law_3(CR CP CS CW CD:e_)(n:Nat):ai->M A9:=
 (bo (aV [] 3 (fL AD (aa (ah 1) aB)))
  (bo (oY [] (pP qU (aa (f2 cR (bm 1) (f2 iZ (f2 eX (fL (ba) (aa (ah 0) (aa (f2 cR (bm 500) (ah 2)) aB))) (bm 8)) (bm 3))) aB)) (.nm 4) (b_law_1))
  (bo (aV [] 5 (fSM nE (fC (.str "\n")) (ah 3)))
  (c_law_2 CR CP CS CW CD n))))
def c_law_4(CR CP CS CW CD:e_)(n:Nat):ai->M A9:=
 sIf (fOr (oP (ke (fL (bE CR CP CS CW CD n) (aa (ah 6) aB)))) (fOr (oP (ke (fL (cS CR CP CS CW CD n) (aa (ah 6) aB)))) (oP (ke (fL (cS CR CP CS CW CD n) (aa (f2 cR (fC (.str "kind a\nkind b\n")) (ah 6)) aB))))))
   (bZ (fC (.bl b_)))
   cg
def g_law(CR CP CS CW CD:e_)(n:Nat):ai->M A9:=
 (bo (aV [] 1 (fL (j3) (aa (fL (mi) (aa (ah 0) aB)) aB)))
  (bo (oY [] (pP qU (aa (fL maxD (aa (bm 1) (aa (fL minD (aa (bm 8) (aa (fL iT (aa (ah 0) aB)) aB))) aB))) aB)) (.nm 2) (b_law_3 CR CP CS CW CD n))
  (bo (aV [] 6 (fSM nE (fC (.str "\n")) (dm (fIt (fSl bR (ah 0) gF (dC (bm 24)))) [c_] (.nm 0) gZ (fL (jl) (aa (ah 0) aB)))))
  (bo (c_law_4 CR CP CS CW CD n)
  (bZ (hZ (fL (bE CR CP CS CW CD n) (aa (f2 cR (fC (.str "kind a\nkind b\n")) (ah 6)) aB)) (fL (bE CR CP CS CW CD n) (aa (fSM nE (fC (.str "\n")) (ah 1)) aB))))))))
def m_law(CR CP CS CW CD:e_)(n:Nat):bv->M A3:=bH 7 1 (g_law CR CP CS CW CD n)
noncomputable def top(i:Nat):Ia:=Pj.main.body.getD i (.Pass ⟨0,0,0,0⟩)
abbrev xQ:Ia:=top 74
abbrev vq:Ia:=top 58
abbrev zS:Ia:=top 59
abbrev sV:Ia:=top 57
abbrev mZ:Ia:=top 60
abbrev D4:Ia:=top 61
abbrev zR:Ia:=top 62
abbrev zT:Ia:=top 63
abbrev xN:Ia:=top 67
abbrev xP:Ia:=top 69
abbrev sU:Ia:=top 68
abbrev D3:Ia:=top 70
abbrev vt:Ia:=top 71
abbrev xH:Ia:=top 43
abbrev vn:Ia:=top 26
abbrev k7:Ia:=inClass (top 28) 4
abbrev sS:Ia:=top 44
abbrev n8:Ia:=inClass (top 29) 3
abbrev xG:Ia:=top 45
abbrev EY:Ia:=top 52
abbrev zP:Ia:=top 53
abbrev s_is_gap:Ia:=top 24
abbrev xK:Ia:=top 25
abbrev jh:Ia:=top 27
abbrev qP:Ia:=top 54
abbrev zM:Ia:=top 48
abbrev zN:Ia:=top 37
abbrev D0:Ia:=top 39
abbrev D2:Ia:=top 49
abbrev vm:Ia:=top 14
abbrev lX:Ia:=top 15
abbrev EX:Ia:=top 36
abbrev vj:Ia:=top 41
abbrev vk:Ia:=top 50
abbrev zL:Ia:=top 38
abbrev xJ:Ia:=top 19
abbrev zO:Ia:=top 20
abbrev sR:Ia:=top 40
abbrev D1:Ia:=top 51
abbrev CZ:Ia:=top 35
abbrev xI:Ia:=top 55
abbrev zQ:Ia:=top 72
abbrev xO:Ia:=top 64
abbrev vo:Ia:=top 65
abbrev lY:Ia:=inClass (top 28) 2
abbrev n5:Ia:=inClass (top 29) 1
abbrev EZ:Ia:=top 66
abbrev xR:Ia:=top 73
abbrev zU:Ia:=top 75
abbrev sW:Ia:=top 76
abbrev vv:Ia:=inClass (top 46) 1
abbrev xS:Ia:=top 77
abbrev s_law:Ia:=top 78
abbrev s_nR:Ia:=inClass (top 28) 0
abbrev s_nP:Ia:=inClass (top 29) 0
abbrev s_nS:Ia:=inClass (top 46) 0
abbrev s_nCW:Ia:=inClass (top 9) 0
abbrev s_nD:Ia:=inClass (top 47) 0
structure Zs(K:Pn)(mg:Ld)(CR CP CS CW CD AStripError ANoRow ANoRules ANoTime ANoPlace ANotFree ATooMany ANoPlan:e_):Prop where
 vS:mg "StripError"=a_ (.ref AStripError)
 mI_NoRow:mg "NoRow"=a_ (.ref ANoRow)
 DB:mg "NoRules"=a_ (.ref ANoRules)
 FP:mg "NoTime"=a_ (.ref ANoTime)
 DC:mg "NoPlace"=a_ (.ref ANoPlace)
 Dz:mg "NotFree"=a_ (.ref ANotFree)
 Dy:mg "TooMany"=a_ (.ref ATooMany)
 FQ:mg "NoPlan"=a_ (.ref ANoPlan)
 xCW:XTry K mg "NoSheet" CW
 kR:Kls K mg "Rules" CR
 kP:Kls K mg "Pair" CP
 kS:Kls K mg "Sheet" CS
 kD:Kls K mg "Draft" CD
 ki_CR_CP:HV K (.ref CR) (.ref CP)=a_ b_
 ki_CP_CP:HV K (.ref CP) (.ref CP)=a_ d_
 pK:HV K (.ref CW) (.ref AStripError)=a_ d_
 pL:HV K (.ref CW) (.type "ValueError")=a_ d_
 kT_CW:kitAny K (.ref CW) ([ANoRow,ANoRules,ANoTime,ANoPlace,ANotFree,ATooMany,ANoPlan].map D_)=a_ b_
 ki_CS_CS:HV K (.ref CS) (.ref CS)=a_ d_
 aCW_row:He K CW "row"
 nR:∀C∈[CR,CP],Cls K C/\bu K C "gaps"
 uF:∀C∈[CP],Cls K C/\bu K C "beside"
 DX:∀C∈[CS],Cls K C/\bu K C "closed"
 AQ:∀C∈[CS],Cls K C/\bu K C "flights"
 Gh:∀C∈[CS],Cls K C/\bu K C "kinds"
 Gg:∀C∈[CS],Cls K C/\bu K C "names"
 rR:∀C∈[CS],Cls K C/\bu K C "rules"
 fld_text:∀C∈[CS],Cls K C/\bu K C "text"
 naS:∀y∈(["kinds","rules","names","flights","closed","text"]:b8),bu K CS y
 x9:mg "ValueError"=c_
 zB:mg "all"=c_
 z_bool:mg "bool"=c_
 zA:mg "enumerate"=c_
 x4:mg "int"=c_
 bh:mg "isinstance"=c_
 cH:mg "len"=c_
 x3:mg "list"=c_
 z_max:mg "max"=c_
 z_min:mg "min"=c_
 eS:mg "range"=c_
 Bk:mg "sorted"=c_
 CI:mg "str"=c_
 z_tuple:mg "tuple"=c_
 z_zip:mg "zip"=c_
 tH:∃t,mg "GREATEST_GAP"=a_ (.int 1000000 t)
 oK:∃t,mg "GREATEST_NUMBER"=a_ (.int 1000000000 t)
 rP:∃t,mg "GREATEST_STOP"=a_ (.int 1000000000 t)
 tG:∃t,mg "MOST_FIGURES"=a_ (.int 10 t)
 tE:∃t,mg "MOST_FLIGHTS"=a_ (.int 40 t)
 pz:∃t,mg "MOST_KINDS"=a_ (.int 6 t)
 yL:∃t,mg "MOST_SIGNS"=a_ (.int 8 t)
 pO:∃t,mg "MOST_STRETCHES"=a_ (.int 20 t)
 kit:Kit K
 gs_FIGURES:∃t,mg "FIGURES"=a_ (.str "0123456789" t)
 gs_LETTERS:∃t,mg "LETTERS"=a_ (.str "abcdefghijklmnopqrstuvwxyz" t)
 n_D:∃f fd,Mth K CD "__init__" "Draft.__init__" s_nD ["self"] f fd
 naD:∀y∈(["kinds","gaps","beside","names","flights","closed"]:b8),bu K CD y
 fldD_beside:∀C∈[CD],Cls K C/\bu K C "beside"
 fldD_closed:∀C∈[CD],Cls K C/\bu K C "closed"
 fldD_flights:∀C∈[CD],Cls K C/\bu K C "flights"
 fldD_gaps:∀C∈[CD],Cls K C/\bu K C "gaps"
 fldD_kinds:∀C∈[CD],Cls K C/\bu K C "kinds"
 fldD_names:∀C∈[CD],Cls K C/\bu K C "names"
 Ec:∃f fd,Def K mg "_law_one" D3 ["_law_state","_law_words_here"] f fd
 B1:∃f fd,Def K mg "take_told" zM ["kept","told"] f fd
 Eb:∃f fd,Def K mg "take_gap" D2 ["kinds","gaps","words"] f fd
 wg:∃f fd,Def K mg "take_flight" vk ["draft","words"] f fd
 Ea:∃f fd,Def K mg "take_row" D1 ["draft","words"] f fd
 za:∃f fd,Def K mg "_law_shown" xQ ["_law_data_here"] f fd
 wq:∃f fd,Def K mg "_law_number" vq ["_law_script","_law_k"] f fd
 B8:∃f fd,Def K mg "_law_name" zS ["_law_number_here","_law_k"] f fd
 tO:∃f fd,Def K mg "_law_cell_at" sV ["_law_script","_law_k"] f fd
 nZ:∃f fd,Def K mg "_law_flight_name" mZ ["_law_number_here","_law_k"] f fd
 Ed:∃f fd,Def K mg "_law_gap" D4 ["_law_number_here"] f fd
 B6:∃f fd,Def K mg "_law_time" zR ["_law_number_here"] f fd
 B9:∃f fd,Def K mg "_law_data" zT ["_law_script"] f fd
 yY:∃f fd,Def K mg "_law_words" xN ["_law_row"] f fd
 z9:∃f fd,Def K mg "_law_value" xP ["_law_word","_law_most"] f fd
 tN:∃f fd,Def K mg "_law_is_name" sU ["_law_word"] f fd
 wt:∃f fd,Def K mg "_law_judged" vt ["_law_text"] f fd
 yU:∃f fd,Def K mg "shown_gaps" xH ["word","kinds","rows","least"] f fd
 wm:∃f fd,Def K mg "copied_rows" vn ["rows"] f fd
 tL:∃f fd,Def K mg "shown_flight" sS ["kinds","name","flight"] f fd
 GH:∃f fd,Def K mg "text_of" xG ["kinds","rules","names","flights","closed"] f fd
 GL:∃f fd,Def K mg "gap_row" EY ["gaps","kind","many"] f fd
 B4:∃f fd,Def K mg "gap_table" zP ["gaps","many"] f fd
 d_is_gap:∃f fd,Def K mg "is_gap" s_is_gap ["number"] f fd
 yX:∃f fd,Def K mg "is_gap_row" xK ["row","kinds"] f fd
 tM:∃f fd,Def K mg "checked_rows" jh ["rows"] f fd
 sk:∃f fd,Def K mg "drafted_rules" qP ["draft"] f fd
 B2:∃f fd,Def K mg "number_of" zN ["word"] f fd
 E9:∃f fd,Def K mg "told_gap" D0 ["kinds","words"] f fd
 wj:∃f fd,Def K mg "is_in_range" vm ["number"] f fd
 mz:∃f fd,Def K mg "has_right_numbers" lX ["flight"] f fd
 GJ:∃f fd,Def K mg "is_name" EX ["word"] f fd
 we:∃f fd,Def K mg "told_flight" vj ["kinds","names","words"] f fd
 B0:∃f fd,Def K mg "told_kind" zL ["kinds","words"] f fd
 yW:∃f fd,Def K mg "is_stretch" xJ ["stretch"] f fd
 B3:∃f fd,Def K mg "is_closed" zO ["closed"] f fd
 tK:∃f fd,Def K mg "told_stretch" sR ["closed","words"] f fd
 E8:∃f fd,Def K mg "words_of" CZ ["row"] f fd
 yV:∃f fd,Def K mg "read_sheet" xI ["text"] f fd
 B5:∃f fd,Def K mg "_law_told" zQ ["_law_text"] f fd
 yZ:∃f fd,Def K mg "_law_whole" xO ["_law_found"] f fd
 wo:∃f fd,Def K mg "_law_tuples" vo ["_law_found","_law_due","_law_long"] f fd
 GN:∃f fd,Def K mg "_law_is" EZ ["_law_sheet","_law_data_here"] f fd
 zb:∃f fd,Def K mg "_law_right" xR ["_law_text"] f fd
 Ba:∃f fd,Def K mg "_law_bent" zU ["_law_rows","_law_number_here"] f fd
 tP:∃f fd,Def K mg "_law_any_row" sW ["_law_cell"] f fd
 zc:∃f fd,Def K mg "_law_again" xS ["_law_text"] f fd
 d_law:∃f fd,Def K mg "law" s_law ["_law_script"] f fd/\∀(s:v_) (v:j_),LZ s fd ⟨[v],[]⟩ [("_law_script",v)]
 m_M_R_gap_rows:∃f fd,Mth K CR "gap_rows" "Rules.gap_rows" k7 ["self"] f fd
 m_M_P_gap_rows:∃f fd,Mth K CP "gap_rows" "Rules.gap_rows" k7 ["self"] f fd
 m_M_P_beside_rows:∃f fd,Mth K CP "beside_rows" "Pair.beside_rows" n8 ["self"] f fd
 m_M_R_many_strips:∃f fd,Mth K CR "many_strips" "Rules.many_strips" lY ["self"] f fd
 m_M_P_many_strips:∃f fd,Mth K CP "many_strips" "Pair.many_strips" n5 ["self"] f fd
 m_M_S_shown:∃f fd,Mth K CS "shown" "Sheet.shown" vv ["self"] f fd
 n_P:∃f fd,Mth K CP "__init__" "Pair.__init__" s_nP ["self","gaps","beside"] f fd
 n_R:∃f fd,Mth K CR "__init__" "Rules.__init__" s_nR ["self","gaps"] f fd/\Stat K CR (.type "type") "__init__" f
 n_S:∃f fd,Mth K CS "__init__" "Sheet.__init__" s_nS ["self","kinds","rules","names","flights","closed"] f fd
 n_CW:∃f fd,Mth K CW "__init__" "NoSheet.__init__" s_nCW ["self","row"] f fd/\XMk K mg "NoSheet" CW f
 ne:CR≠CP
noncomputable abbrev Zq(_:Nat)(_:HY)(_:IF)(_:H_):=Zs
theorem law_d{K:Pn}{st:Ia}{ps:b8}{q:Je->Prop}(h:∃f fd,Def K mg x st ps f fd/\q fd):∃f fd,Def K mg x st ps f fd:=a'
def putGB(a b:V):um ("beside":m_) b [(("gaps":m_),a)]=[(("gaps":m_),a),(("beside":m_),b)]:=by rfl
def sc_nCW:gM ["self","row"] ["self","row"] (aK s_nCW):=⟨rfl,rfl,rfl,by decide +kernel,rfl,by decide +kernel,by decide +kernel⟩
def okn_CW{P:HY}{w:IF}{K:Pn}{base:H_}{f:e_}{fd:Je}(N:Fun K "__init__" "NoSheet.__init__" s_nCW f fd)(Y:He K C "row"):iS P w K mg base CX0 1 f fd ["self","row"] (spX1 C "row"):=by
 refine N.okX sc_nCW (λvs H Q E h=>?_) (λcdv A outer s H vs Q E c h=>?_)
 .obtain⟨a,v1,rfl,_⟩:=h;rfl
 .obtain⟨a,v1,rfl,b,q⟩:=h;refine⟨_,aZ (ps_x1 (pv 0) (pv 1) Y),?_⟩
  exact⟨v1,rfl,_,rfl,a,rfl,b,λd hd I=>q d hd I⟩
section
variable{P:HY}{w:IF}{base:H_}{K:Pn}{CR:e_}(Z:Zq n P w base K mg CR CP CS CW CD AStripError ANoRow ANoRules ANoTime ANoPlace ANotFree ATooMany ANoPlan)
include Z
def vJ:YO Z.za P w base 1 b_ (j3):=
 fY ["_law_data_here","_law_kinds","_law_gaps","_law_beside","_law_names","_law_flights","_law_closed","_law_rows","_law_k","_law_j","_law_start","_law_stop","_law_name_here","_law_flight","_law_numbers"] λz I Y=>(aq (Gw (ao 0) (yS rfl (bL (i:=1) I (bL (i:=2) I (bL (i:=3) I (bL (i:=4) I (bL (i:=5) I (bL (i:=6) I kZ)))))))) (aq (nV (i:=7) d_ ["_law_kind"] [c_] I (eF (ao 1)) (λ_ _ _ _ _=>cO dkK) (aH rfl) (λ_ _ _ _ _=>bX) (λ_ _ _ _ _=>(av (az bg aF (ao 0))))) (aq (i8 (pt:=.nm 8) (gw Z.eS (da1 (aC eA Z.cH z_ (da1 (ao 1))))) (pQ I) (ay (i8 (pt:=.nm 9) (gw Z.eS (da1 (aC eA Z.cH z_ (da1 (ao 1))))) (pQ I) (aq (cw (aE Ep (aL cq (aL cq (ao 2) (ao 8)) (ao 9)) ae) (ay (iN (i:=7) (oQ kA Io IC aF (av (cP (da4 aF (aL cq (ao 1) (ao 8)) (aL cq (ao 1) (ao 9)) (dv Ef Z.CI Ja (da1 (aL cq (aL cq (ao 2) (ao 8)) (ao 9)))))))))) bp) (ay (cw (aE o_notN (ao 3) fN) (ay (iN (i:=7) (oQ kA Io IC aF (av (cP (da4 aF (aL cq (ao 1) (ao 8)) (aL cq (ao 1) (ao 9)) (dv Ef Z.CI Ja (da1 (aL cq (aL cq (ao 3) (ao 8)) (ao 9)))))))))) bp)))))) (aq (i8 (pt:=.tp [10,11]) (eF (ao 6)) (yS rfl (bL (i:=10) I (bL (i:=11) I kZ))) (ay (iN (i:=7) (av (az bg (av (az bg (av (az bg aF (dv Ef Z.CI Ja (da1 (ao 10))))) aF)) (dv Ef Z.CI Ja (da1 (ao 11)))))))) (aq (i8 (pt:=.tp [12,13]) (Cw Z.z_zip (ao 4) (ao 5)) (yS rfl (bL (i:=12) I (bL (i:=13) I kZ))) (aq (nV (i:=14) b_ ["_law_number_here"] [c_] I (eF (av (iO xf (ao 13) (bG ae) cx))) (λ_ _ _ _ _=>cO dkK) (aH rfl) (λ_ _ _ _ _=>bX) (λ_ _ _ _ _=>(dv Ef Z.CI Ja (da1 (ao 0))))) (ay (iN (i:=7) (av (az bg (av (az bg (av (az bg (av (az bg (av (az bg aF (ao 12))) aF)) (aL cq (ao 1) (aL cq (ao 13) ae)))) aF)) (oQ kA Io IC aF (ao 14)))))))) (jd (O2:=[]) (ay (aG (ao 7)))))))))
def bS:YO Z.wq P w base 1 b_ (ba):=
 fY ["_law_script","_law_k","_law_cells","_law_cell","_law_number_here"] λz I Y=>(aq (bF I (av (iO xf (ao 0) cx (bG ae)))) (aq (bF I (av (az bg (az nA ae (ao 1)) ae))) (aq (cw (aE Ep (aC eA Z.cH z_ (da1 (ao 2))) ae) (ay (bF I (az cW (aL cq (ao 2) (az cW (ao 1) (aC eA Z.cH z_ (da1 (ao 2))))) (az yx ae ae)))) bp) (aq (bF I (az cW (az nA (av (az bg (av (az bg (ao 3) (az nA (az nA (ao 1) (ao 1)) ae))) (aC eA Z.cH z_ (da1 (ao 2))))) ae) ae)) (ay (aG (az cW (av (az bg (az nA (ao 4) ae) ae)) ae)))))))
def yr:YO Z.B8 P w base 1 b_ (mh):=
 fY ["_law_number_here","_law_k","_law_letters","_law_name_here","_law_j"] λz I Y=>(aq (bF I aF) (aq (bF I (av (az bg (aL oo (ao 2) (az cW (ao 0) ae)) (aL oo (ao 2) (az cW (ao 1) ae))))) (aq (i8 (pt:=.nm 4) (gw Z.eS (da1 (az cW (az cG (ao 0) ae) ae))) (pQ I) (aq (bF I (av (az bg (av (az bg (az nA (ao 0) (ao 0)) (az nA ae (ao 0)))) (ao 4)))) (aq (bF I (az cW (ao 0) ae)) (ay (bF I (av (az bg (ao 3) (aL oo (av (az bg (ao 2) aF)) (az cW (az cG (ao 0) ae) ae))))))))) (ay (aG (ao 3))))))
def fZ:YO Z.tO P w base 1 b_ (bU):=
 fY ["_law_script","_law_k"] λz I Y=>(aq (cw (aE o_lt (ao 1) (aC eA Z.cH z_ (da1 (ao 0)))) (ay (aG (az cW (aL cq (ao 0) (ao 1)) (az yx ae ae)))) bp) (ay (aG ae)))
def m9:YO Z.nZ P w base 1 b_ (gj):=
 fY ["_law_number_here","_law_k","_law_name_here","_law_j"] λz I Y=>(aq (bF I (av (az bg (aL oo aF (az cW (ao 1) ae)) (aL oo aF (az cG (ao 1) ae))))) (aq (i8 (pt:=.nm 3) (gw Z.eS (da1 (az cW (az cG (ao 0) ae) ae))) (pQ I) (aq (bF I (av (az bg (av (az bg (az nA (ao 0) (ao 0)) (az nA ae (ao 0)))) (ao 3)))) (aq (bF I (az cW (ao 0) ae)) (ay (bF I (av (az bg (ao 2) (aL oo aF (az cW (az cG (ao 0) ae) ae))))))))) (ay (aG (ao 2)))))
def rm:YO Z.Ed P w base 1 b_ (lu):=
 fY ["_law_number_here"] λz I Y=>(ay (aG (aL cq (av (cP (da4 (az cW (az cG (ao 0) ae) ae) (az cW (az cG (ao 0) ae) (av (az bg (az yx ae ae) ae))) ae (az cW (az cG (ao 0) ae) ae)))) (az cW (ao 0) ae))))
def fE:YO Z.B6 P w base 1 b_ (dN):=
 fY ["_law_number_here"] λz I Y=>(ay (aG (aL cq (av (cP (da3 (az cW (az cG (ao 0) ae) ae) (az cW (az cG (ao 0) ae) (av (az bg (az yx ae ae) ae))) (az cW (az cG (ao 0) ae) ae)))) (az cW (ao 0) ae))))
theorem yt:YO Z.B9 P w base 2 b_ (mi):=
 fY ["_law_script","_law_kinds","_law_k","_law_gaps","_law_beside","_law_row","_law_names","_law_flights","_law_many","_law_number_here","_law_times","_law_closed"] λz Y I=>(aq (AV Y (cP eG)) (aq (i8 (pt:=.nm 2) (gw Z.eS (da1 (av (az bg ae (az cW (az cW (az nA (dY (fZ Z) I (da2 (ao 0) ae)) ae) ae) ae))))) (pQ Y) (ay (iN (i:=1) (dY (yr Z) I (da2 (dY (bS Z) I (da2 (ao 0) (ao 2))) (ao 2)))))) (jd (O2:=[]) (aq (AV Y (cP eG)) (aq (AV Y (cP eG)) (jd (O2:=[3,4]) (aq (i8 (pt:=.nm 2) (gw Z.eS (da1 (aC eA Z.cH z_ (da1 (ao 1))))) (pQ Y) (aq (nV (i:=5) b_ ["_law_j","_law_script","_law_kinds","_law_k"] [c_,a_ 0,a_ 1,a_ 2] Y (gw Z.eS (da1 (aC eA Z.cH z_ (da1 (ao 1))))) (λ_ _ _ _ _=>cO dkK) (aH rfl) (λ_ _ _ _ _=>bX) (λ_ _ _ _ _=>(dY (bS Z) I (da2 (ao 1) (av (az bg (av (az bg ae (az nA (ao 3) (aC eA Z.cH z_ (da1 (ao 2)))))) (ao 0))))))) (aq (iN (i:=3) (av (cy ["_law_number_here"] [c_] (eF (ao 5)) (λ_ _ _ _ _=>cO a') (aH rfl) (λ_ _ _ _ _=>bX) (λ_ _ _ _ _=>(dY (rm Z) I (da1 (ao 0))))))) (ay (iN (i:=4) (av (cy ["_law_number_here"] [c_] (eF (ao 5)) (λ_ _ _ _ _=>cO a') (aH rfl) (λ_ _ _ _ _=>bX) (λ_ _ _ _ _=>(dY (rm Z) I (da1 (az cG (ao 0) ae))))))))))) (jd (O2:=[]) (aq (cw (aE (nB I.units) (az cW (dY (fZ Z) I (da2 (ao 0) ae)) ae) ae) (ay (bF Y fN)) bp) (aq (AV Y (cP eG)) (aq (AV Y (cP eG)) (jd (O2:=[6,7]) (aq (bF Y (az cW (az cW (az nA (dY (fZ Z) I (da2 (ao 0) ae)) ae) ae) ae)) (aq (cw (aE (nB I.units) (az cW (az cG (dY (fZ Z) I (da2 (ao 0) ae)) ae) ae) ae) (ay (bF Y ae)) bp) (aq (i8 (pt:=.nm 2) (gw Z.eS (da1 (ao 8))) (pQ Y) (aq (bF Y (dY (bS Z) I (da2 (ao 0) (av (az bg ae (ao 2)))))) (aq (bF Y (av (aC GX Z.Bk boot_sorted (da1 (av (cP (da2 (dY (fE Z) I (da1 (ao 9))) (dY (fE Z) I (da1 (az cG (ao 9) ae)))))))))) (aq (iN (i:=6) (dY (m9 Z) I (da2 (az cG (ao 9) ae) (ao 2)))) (ay (iN (i:=7) (l5 (da5 (az cW (ao 9) (aC eA Z.cH z_ (da1 (ao 1)))) (aL cq (ao 10) ae) (aL cq (ao 10) ae) (dY (fE Z) I (da1 (az cG (ao 9) ae))) (dY (fE Z) I (da1 (az cG (ao 9) ae))))))))))) (jd (O2:=[]) (aq (AV Y (cP eG)) (aq (i8 (pt:=.nm 2) (gw Z.eS (da1 (az cW (az cG (dY (bS Z) I (da2 (ao 0) ae)) ae) ae))) (pQ Y) (aq (bF Y (av (aC GX Z.Bk boot_sorted (da1 (av (cP (da2 (dY (fE Z) I (da1 (dY (bS Z) I (da2 (ao 0) (av (az bg ae (ao 2))))))) (dY (fE Z) I (da1 (dY (bS Z) I (da2 (ao 0) (av (az bg ae (ao 2)))))))))))))) (ay (iN (i:=11) (l5 (da2 (az cG (aL cq (ao 10) ae) ae) (av (az bg (az cG (aL cq (ao 10) ae) ae) ae)))))))) (jd (O2:=[]) (ay (aG (l5 (da6 (ao 1) (ao 3) (ao 4) (ao 6) (ao 7) (ao 11))))))))))))))))))))))))
def vI:YO Z.yY P w base 1 b_ (j0):=
 fY ["_law_row"] λz Y I=>(ay (aG (av (cy ["_law_word"] [c_] (eF (av (oQ ql Jx J7 (ao 0) aF))) (λ_ _ _ _ _=>cO dkK) (aH rfl) (λ_ _ _ _ _=>vz (aE (vM I.units) (ao 0) aF)) (λ_ _ _ _ _=>(ao 0))))))
def ic:YO Z.z9 P w base 1 b_ (bz):=
 fY ["_law_word","_law_most"] λz Y I=>(aq (cw (PW.pt (eh (aE o_lt (aC sA Z.cH z_ (da1 (ao 0))) ae) (eh (aE Ep (aC sA Z.cH z_ (da1 (ao 0))) ae) (du (aE (vM I.units) (av (cy ["_law_sign"] [c_] (Cy (ao 0)) (λ_ _ _ _ _=>cO dkK) (aH rfl) (λ_ _ _ _ _=>vz (aE qj (ao 0) aF)) (λ_ _ _ _ _=>(ao 0)))) (av (cP eG))))))) (ay (aG (de_un o_neg ae))) bp) (aq (cw (PW.pt (eh (PW.pt (pB (aE (nB I.units) (aL oo (ao 0) ae) aF) (kY (aE (vM I.units) (ao 0) aF)))) (du (aE Ep (dv Ha Z.x4 J1 (da1 (ao 0))) (ao 1))))) (ay (aG (de_un o_neg ae))) bp) (ay (aG (dv Ha Z.x4 J1 (da1 (ao 0)))))))
theorem ku:YO Z.tN P w base 1 b_ (cu):=
 fY ["_law_word"] λz Y I=>(aq (cw (PW.pt (eh (aE o_lt (aC sA Z.cH z_ (da1 (ao 0))) ae) (eh (aE Ep (aC sA Z.cH z_ (da1 (ao 0))) ae) (du (aE qj (aL oo (ao 0) ae) aF))))) (ay (aG l7)) bp) (ay (aG (jf (nB I.units) (av (cy ["_law_sign"] [c_] (Cy (ao 0)) (λ_ _ _ _ _=>cO a') (aH rfl) (λ_ _ _ _ _=>vz (aE qj (ao 0) aF)) (λ_ _ _ _ _=>(ao 0)))) (av (cP eG))))))
theorem Ar:YR Z.Ec P w base 2 (spOne K (gE)):=
 fR ["_law_state","_law_words_here","_law_kinds","_law_tables","_law_names","_law_flights","_law_closed","_law_gap_here","_law_start","_law_stop","_law_numbers"] (λ_ _ _ _=>len_one) λz Y I vs Q h=>⟨_,(aA (BP (pv 0) (BR rfl (dH (dJ (i:=2) Y rfl (by first|exact .inl rfl|exact .inr rfl)) (dH (dJ (i:=3) Y rfl (by first|exact .inl rfl|exact .inr rfl)) (dH (dJ (i:=4) Y rfl (by first|exact .inl rfl|exact .inr rfl)) (dH (dJ (i:=5) Y rfl (by first|exact .inl rfl|exact .inr rfl)) (dH (dJ (i:=6) Y rfl (by first|exact .inl rfl|exact .inr rfl)) vB))))))) (aA (ib (PW.pt (pB (aE (nB I.units) (aL cq (ao 1) ae) aF) (kY (aE (nB I.units) (aC eA Z.cH z_ (da1 (ao 1))) ae)))) (aA (ib (PW.pt (eh (gC (cT (dY (ku Z) I (da1 (aL cq (ao 1) ae))))) (eh (aE (o_in I.units) (aL cq (ao 1) ae) (ao 2)) (du (aE Ep (aC eA Z.cH z_ (da1 (ao 2))) ae))))) (aZ (cF jM)) bP) (aA (iA (pG HF HN HW g6 (pv 2) (ax (aL cq (ao 1) ae) aP))) (aZ (cF jM)))) bP) (aA (ib (PW.pt (pB (aE (o_in I.units) (aL cq (ao 1) ae) (av (cP (da2 aF aF)))) (kY (aE (nB I.units) (aC eA Z.cH z_ (da1 (ao 1))) ae)))) (aA (km (i:=7) Y rfl (by first|exact .inl rfl|exact .inr rfl) (dY (ic Z) I (da2 (aL cq (ao 1) ae) (az yx ae ae)))) (aA (ib (PW.pt (eh (aE (kx I.units) (aL cq (ao 1) ae) (ao 2)) (eh (aE (kx I.units) (aL cq (ao 1) ae) (ao 2)) (du (aE o_lt (ao 7) ae))))) (aZ (cF jM)) bP) (aA (ps_dput (hU I.units) (Am (hU I.units) (pv 3) (aL cq (ao 1) ae) (λ_ _=>rfl)) (yk (ax (aL cq (ao 1) ae) (ax (aL cq (ao 1) ae) aP))) (pv 7) rfl) (aZ (cF jM))))) bP) (aA (ib (PW.pt (pB (aE (nB I.units) (aL cq (ao 1) ae) aF) (kY (aE (nB I.units) (aC eA Z.cH z_ (da1 (ao 1))) ae)))) (aA (km (i:=8) Y rfl (by first|exact .inl rfl|exact .inr rfl) (dY (ic Z) I (da2 (aL cq (ao 1) ae) (az yx ae ae)))) (aA (km (i:=9) Y rfl (by first|exact .inl rfl|exact .inr rfl) (dY (ic Z) I (da2 (aL cq (ao 1) ae) (az yx ae ae)))) (aA (ib (PW.pt (eh (aE o_lt (ao 8) ae) (eh (aE FF (ao 9) (ao 8)) (du (aE Ep (aC eA Z.cH z_ (da1 (ao 6))) ae))))) (aZ (cF jM)) bP) (aA (iA (pG HF HN HW g6 (pv 6) (ax (l5 (da2 (ao 8) (ao 9))) aP))) (aZ (cF jM)))))) bP) (aA (ib (PW.pt (eh (aE (vM I.units) (aL cq (ao 1) ae) aF) (du (aE (vM I.units) (aC eA Z.cH z_ (da1 (ao 1))) ae)))) (aZ (cF jM)) bP) (aA (ps_compD (i:=10) ["_law_word"] [c_] Y (eF (av (iO xf (ao 1) (bG ae) cx))) (λ_ _ _ _ _=>cO a') (aH rfl) (λ_ _ _ _ _=>bX) (λ_ _ _ _ _=>(dY (ic Z) I (da2 (ao 0) (az yx ae ae))))) (aA (ib (PW.pt (eh (gC (cT (dY (ku Z) I (da1 (aL cq (ao 1) ae))))) (du (aE (o_in I.units) (aL cq (ao 1) ae) (ao 4))))) (aZ (cF jM)) bP) (aA (ib (PW.pt (eh (aE (kx I.units) (aL cq (ao 1) ae) (ao 2)) (du (aE o_lt (aC (c_min rfl) Z.z_min boot_min (da1 (ao 10))) ae)))) (aZ (cF jM)) bP) (aA (ib (PW.pt (eh (aE Ep (aL cq (ao 10) ae) (aL cq (ao 10) ae)) (du (aE Ep (aC eA Z.cH z_ (da1 (ao 5))) ae)))) (aZ (cF jM)) bP) (aA (iA (pG HF HN HW g6 (pv 4) (ax (aL cq (ao 1) ae) aP))) (aA (iA (pG HF HN HW g6 (pv 5) (ax (l5 (da5 (nX I.units (ao 2) (aL cq (ao 1) ae)) (aL cq (ao 10) ae) (aL cq (ao 10) ae) (aL cq (ao 10) ae) (aL cq (ao 10) ae))) aP))) (aZ (cF jM))))))))))))),rs_one h⟩
def jj:YO Z.wt P w base 3 b_ (dW):=
 fY ["_law_text","_law_state","_law_rows","_law_k","_law_words_here","_law_kinds","_law_tables","_law_names","_law_flights","_law_closed","_law_made","_law_word"] λz I Y=>(by refine ds_judge ?_;intro F0 H0;refine aA ?_ ?_;refine km (i:=1) ?_ ?_ ?_ ?_;exact I;exact rfl;(first|exact .inl rfl|exact .inr rfl);refine yk ?_;refine ax ?_ ?_;refine k8 ?_;exact aP;refine ax ?_ ?_;refine pe_disp ?_ ?_ ?_ ?_ ?_;refine BQ ?_ ?_ ?_;exact uq;exact vE;refine BQ ?_ ?_ ?_;exact uq;exact vE;exact pps_nil;exact rfl;exact rfl;exact List.cons_ne_nil _ _;exact NO rfl;refine ax ?_ ?_;refine k8 ?_;exact aP;refine ax ?_ ?_;refine k8 ?_;exact aP;refine ax ?_ ?_;refine k8 ?_;exact aP;exact aP;refine aA ?_ ?_;exact(km (i:=2) I rfl (by first|exact .inl rfl|exact .inr rfl) (av (oQ ql Jx J7 (ao 0) aF)));refine aA ?_ ?_;refine BO ?_ ?_ ?_ ?_ ?_;exact NK;exact rfl;exact(yj rfl Z.eS (ax (aC eA Z.cH z_ (da1 (ao 2))) aP));exact(dJ (i:=3) I rfl (by first|exact .inl rfl|exact .inr rfl));refine aA ?_ ?_;exact(km (i:=4) I rfl (by first|exact .inl rfl|exact .inr rfl) (dY (vI Z) Y (da1 (aL cq (ao 2) (ao 3)))));refine aZ ?_;refine ib ?_ ?_ ?_;refine PW.pt ?_;refine Fq ?_ ?_;exact(aE (vM Y.units) (ao 4) (av (cP eG)));refine Fq ?_ ?_;exact(aE (vM Y.units) (aL oo (aL cq (ao 4) ae) ae) aF);refine Fp ?_;exact(BN (qh (pY (Ar Z) Y (ax (pv 1) (ax (pv 4) aP))) (λ_=>rfl)));refine aZ ?_;refine cF ?_;exact(av (az bg (ao 3) ae));exact bP;refine aA ?_ ?_;exact(BP (pv 1) (BR rfl (dH (dJ (i:=5) I rfl (by first|exact .inl rfl|exact .inr rfl)) (dH (dJ (i:=6) I rfl (by first|exact .inl rfl|exact .inr rfl)) (dH (dJ (i:=7) I rfl (by first|exact .inl rfl|exact .inr rfl)) (dH (dJ (i:=8) I rfl (by first|exact .inl rfl|exact .inr rfl)) (dH (dJ (i:=9) I rfl (by first|exact .inl rfl|exact .inr rfl)) vB)))))));refine aA ?_ ?_;exact(ib (aE (nB Y.units) (ao 5) (av (cP eG))) (aZ (cF BS)) bP);refine aA ?_ ?_;exact(km (i:=10) I rfl (by first|exact .inl rfl|exact .inr rfl) (k8 aP));refine aA ?_ ?_;exact(BO NK rfl (Aj (k8 (ax uq (ax uq aP)))) (dJ (i:=11) I rfl (by first|exact .inl rfl|exact .inr rfl)) (aZ (iA (pG HF HN HW g6 (pv 10) (ax (An ["_law_one_here","_law_kinds","_law_tables","_law_word"] [c_,a_ 5,a_ 6,a_ 11] rfl (Aj (pv 5)) (λ_ _ _ _ _=>cO (K:=K) dkK) (aH rfl) (λ_ _ _ _ _=>Ag) (λ_ _ _ _ _=>(An ["_law_other","_law_one_here","_law_tables","_law_word"] [c_,a_ 0,a_ 2,a_ 3] rfl (Aj (pv 1)) (λ_ _ _ _ _=>cO (K:=K) dkK) (aH rfl) (λ_ _ _ _ _=>Ag) (λ_ _ _ _ _=>pe_dget2 (hU Y.units) (Am (hU Y.units) (pv 2) (pv 3) (λ_ _=>rfl)) (yk (ax (pv 1) (ax (pv 0) aP))) BS ⟨rfl,rfl,rfl,rfl⟩)))) aP)))));refine aA ?_ ?_;exact(ib (Ah (op_eqT Y.units) (Am (hU Y.units) (pv 6) uq (λ_ _=>rfl)) vE (BW _)) (aZ ((ds_setI fN ae) F0 H0)) bP);refine aZ ?_;refine cF ?_;exact(l5 (da6 (ao 5) (aL cq (ao 10) ae) (aL cq (ao 10) ae) (ao 7) (ao 8) (ao 9))))
def nq:YO Z.yU P w base 1 d_ (gS):=
 fY ["word","kinds","rows","least","shown","kind","row","other","gap"] λz I Y=>(aq (AV I (cP eG)) (aq (i8 (pt:=.tp [5,6]) (Cw Z.z_zip (ao 1) (ao 2)) (yS rfl (bL (i:=5) I (bL (i:=6) I kZ))) (ay (i8 (pt:=.tp [7,8]) (Cw Z.z_zip (ao 1) (ao 6)) (yS rfl (bL (i:=7) I (bL (i:=8) I kZ))) (ay (cw (aE o_ge (ao 8) (ao 3)) (ay (iN (i:=4) (AY (gK (sj (ao 0)) (gK aF (gK (sj (ao 5)) (gK aF (gK (sj (ao 7)) (gK aF (gK (sj (ao 8)) GA)))))))))) bp))))) (ay (ds_retV (i:=4)))))
def gN:YO Z.wm P w base 1 b_ (dU):=
 fY ["rows"] λz I Y=>(ay (aG (av (cy ["row"] [c_] (eF (ao 0)) (λ_ _ _ _ _=>cO dkK) (aH rfl) (λ_ _ _ _ _=>bX) (λ_ _ _ _ _=>(av (dv c_list Z.x3 IX (da1 (ao 0)))))))))
def lP:YM Z.m_M_R_gap_rows P w mg base 2 b_ (b7 CR CP CS CW CD n):=
 fM ["self"] λz Y I=>(ay (aG (dY (gN Z) I (da1 (fP (Cs:=[CR,CP]) Z.nR (ao 0))))))
def lQ:YM Z.m_M_P_gap_rows P w mg base 2 b_ (b7 CR CP CS CW CD n):=
 fM ["self"] λz Y I=>(ay (aG (dY (gN Z) I (da1 (fP (Cs:=[CR,CP]) Z.nR (ao 0))))))
def rl:YO Z.tL P w base 1 b_ (dA):=
 fY ["kinds","name","flight","words"] λz I Y=>(aq (bF I (av (az bg (av (cP (da3 aF (ao 1) (aL cq (ao 0) (aL cq (ao 2) ae))))) (av (cy ["number"] [c_] (eF (av (iO xf (ao 2) (bG ae) cx))) (λ_ _ _ _ _=>cO dkK) (aH rfl) (λ_ _ _ _ _=>bX) (λ_ _ _ _ _=>(dv Ef Z.CI Ja (da1 (ao 0))))))))) (ay (aG (oQ kA Io IC aF (ao 3)))))
def ju:YM Z.m_M_P_beside_rows P w mg base 2 b_ (bK CR CP CS CW CD n):=
 fM ["self"] λz Y I=>(ay (aG (dY (gN Z) I (da1 (fP (Cs:=[CP]) Z.uF (ao 0))))))
theorem Dp:YO Z.GH P w base 3 b_ (eC CR CP CS CW CD n):=
 fY ["kinds","rules","names","flights","closed","rows"] λz f b=>let ⟨_,_,e,I⟩:=ju Z;let ⟨_,_,c,a⟩:=lQ Z;let ⟨_,_,d,Y⟩:=lP Z;(aq (nV (i:=5) d_ ["name"] [c_] f (eF (ao 0)) (λ_ _ _ _ _=>cO dkK) (aH rfl) (λ_ _ _ _ _=>bX) (λ_ _ _ _ _=>(AY (gK aF (gK (sj (ao 0)) GA))))) (aq (Cr (i:=5) (dY (nq Z) b (da4 aF (ao 0) (rY Z.kR.cl d.mt Y b d.bd Z.kP.cl c.mt a b c.bd (ao 1)) ae))) (aq (cw (cT (GF (tb:=[(CR,b_),(CP,d_)]) (isi2 ⟨⟨_,Z.kR⟩,Z.ki_CR_CP⟩ ⟨⟨_,Z.kP⟩,Z.ki_CP_CP⟩) Z.bh Z.kP.mg (ao 1))) (ay (Cr (i:=5) (dY (nq Z) b (da4 aF (ao 0) (rZ Z.kP.cl e.mt I b e.bd (ao 1)) ae)))) bp) (aq (Cr (i:=5) (cy ["start","stop"] [c_,c_] (eF (ao 4)) (λ_ _ _ _ _=>yS rfl (nW (i:=0) dkK (nW (i:=1) dkK kZ))) (yC a8) (λ_ _ _ _ _=>bX) (λ_ _ _ _ _=>(AY (gK aF (gK (sj (ao 0)) (gK aF (gK (sj (ao 1)) GA)))))))) (aq (Cr (i:=5) (cy ["name","flight","kinds"] [c_,c_,a_ 0] (Cw Z.z_zip (ao 2) (ao 3)) (λ_ _ _ _ _=>yS rfl (nW (i:=0) dkK (nW (i:=1) dkK kZ))) (yC a8) (λ_ _ _ _ _=>bX) (λ_ _ _ _ _=>(dY (rl Z) b (da3 (ao 2) (ao 0) (ao 1)))))) (jd (O2:=[]) (ay (aG (oQ kA Io IC aF (av (cy ["row"] [c_] (eF (ao 5)) (λ_ _ _ _ _=>cO a') (aH rfl) (λ_ _ _ _ _=>bX) (λ_ _ _ _ _=>(av (az bg (ao 0) aF))))))))))))))
end
def sc_nS:gM ["self","kinds","rules","names","flights","closed"] ["self","kinds","rules","names","flights","closed"] (aK s_nS):=⟨rfl,rfl,rfl,by decide +kernel,rfl,by decide +kernel,by decide +kernel⟩
def okn_S{P:HY}{w:IF}{K:Pn}{base:H_}{CR:e_}{Y f:e_}{I fd:Je}(D:Def K mg "text_of" xG ["kinds","rules","names","flights","closed"] Y I)(e:iS P w K mg base CX0 3 Y I ["kinds","rules","names","flights","closed"] (spF K b_ (eC CR CP CS CW CD n) 5))(N:Fun K "__init__" "Sheet.__init__" s_nS f fd)(d:Cls K C)(b:∀y∈(["kinds","rules","names","flights","closed","text"]:b8),bu K C y)(a:mg "list"=c_):iS P w K mg base CX0 4 f fd ["self","kinds","rules","names","flights","closed"] (spIS K C (eC CR CP CS CW CD n)):=
 N.okX sc_nS (λvs H Q E h=>by obtain⟨_,_,_,_,_,_,_,_,_,_,_,_,_,_,_,_,_,_,rfl,_⟩:=h;rfl) λcdv A outer s H vs Q E c h=>
  ⟨_,aA (iW (pv 0) (ko gW rfl a IX (ax (pv 1) aP)) rfl) (aA (iW (pv 0) (pv 2) rfl) (aA (iW (pv 0) (ko gW rfl a IX (ax (pv 3) aP)) rfl) (aA (iW (pv 0) (ko gW rfl a IX (ax (pv 4) aP)) rfl)
   (aA (iW (pv 0) (ko gW rfl a IX (ax (pv 5) aP)) rfl) (aZ (iW (pv 0) (oB e c (by rfl) D.mg D.fn.kp D.bd .nil r9 (ax (pv 1) (ax (pv 2) (ax (pv 3) (ax (pv 4) (ax (pv 5) aP)))))) rfl)))))),rs_initS d b h⟩
section
variable{P:HY}{w:IF}{base:H_}{K:Pn}{CR:e_}(Z:Zq n P w base K mg CR CP CS CW CD AStripError ANoRow ANoRules ANoTime ANoPlace ANotFree ATooMany ANoPlan)
include Z
def Dq:YO Z.GL P w base 1 b_ (kB):=
 fY ["gaps","kind","many"] λz Y I=>(ay (aG (av (cy ["other","gaps","kind"] [c_,a_ 0,a_ 1] (gw Z.eS (da1 (ao 2))) (λ_ _ _ _ _=>cO dkK) (aH rfl) (λ_ _ _ _ _=>bX) (λ_ _ _ _ _=>(de_getD I.units (ao 1) (l5 (da2 (ao 2) (ao 0))) ae))))))
def pb:YO Z.B4 P w base 2 b_ (iH):=
 fY ["gaps","many"] λz Y I=>(ay (aG (av (cy ["kind","gaps","many"] [c_,a_ 0,a_ 1] (gw Z.eS (da1 (ao 1))) (λ_ _ _ _ _=>cO dkK) (aH rfl) (λ_ _ _ _ _=>bX) (λ_ _ _ _ _=>(dY (Dq Z) I (da3 (ao 1) (ao 0) (ao 2))))))))
def yo:YO Z.d_is_gap P w base 1 b_ (g9):=
 fY ["number"] λz I Y=>(aq (cw (PW.pt (eh (gC (cT (lE Z.kit Z.bh Z.x4 (ao 0)))) (du (cT (si Z.kit Z.bh Z.z_bool (ao 0)))))) (ay (aG l7)) bp) (ay (aG (CB FF FF ae (ao 0) (jX Z.tH)))))
theorem vH:YO Z.yX P w base 2 b_ (fH):=
 fY ["row","kinds"] λz Y I=>(ay (aG (nY (sd Z.kit Z.bh Z.x3 (ao 0)) (nY (jf (nB I.units) (aC eA Z.cH z_ (da1 (ao 0))) (ao 1)) (lU (aC (Bf rfl) Z.zB LS (da1 (av (cy ["number"] [c_] (eF (ao 0)) (λ_ _ _ _ _=>cO a') (aH rfl) (λ_ _ _ _ _=>bX) (λ_ _ _ _ _=>(dY (yo Z) I (da1 (ao 0)))))))))))))
def kr:YO Z.tM P w base 3 b_ (aN):=
 fY ["rows","kinds"] λz Y I=>(aq (bF Y (aC eA Z.cH z_ (da1 (ao 0)))) (aq (cw (gC (dt_chain FF FF ae (ao 1) (jX Z.pz))) (ay ds_stk) bp) (aq (cw (gC (cT (aC (Bf rfl) Z.zB LS (da1 (av (cy ["row","kinds"] [c_,a_ 1] (eF (ao 0)) (λ_ _ _ _ _=>cO dkK) (aH rfl) (λ_ _ _ _ _=>bX) (λ_ _ _ _ _=>(dY (vH Z) I (da2 (ao 0) (ao 1)))))))))) (ay ds_stk) bp) (ay (aG (dY (gN Z) I (da1 (ao 0))))))))
end
def sc_nR:gM ["self","gaps"] ["self","gaps"] (aK s_nR):=⟨rfl,rfl,rfl,by decide +kernel,rfl,by decide +kernel,by decide +kernel⟩
theorem okn_R{P : HY}{w : IF}{K : Pn}{mg : m_ -> Option j_}{base : H_}{C f: e_}(a : Def K mg "checked_rows" jh ["rows"] eE dO)(x : iS P w K mg base CX0 3 eE dO ["rows"] (spF K b_ (aN) 1))(N : Fun K "__init__" "Rules.__init__" s_nR f fd)(t : Cls K C)(k : bu K C "gaps"): iS P w K mg base CX0 4 f fd ["self", "gaps"] (spI1 K C (aN)) := by
  refine N.okX sc_nR (λvs H Q E h => ?_) (λcdv A outer s H vs Q E m h => ?_)
  · obtain⟨p,dx,v,F,d,rfl,_⟩ := h
    rfl
  · obtain⟨p,dx,v,F,d,rfl,n,y,g,j,q⟩ := h
    refine⟨_,aZ (iW (pv 0) (oB x m (by rfl) a.mg a.fn.kp a.bd .nil r9 (ax (pv 1) aP)) rfl),?_⟩
    refine⟨v,rfl,F,[d],g,⟨v,[],rfl,j,rfl⟩,rfl,?_⟩
    skip;cases b : aN [d]with
    | error e => rw[b]at q; exact q| ok r =>
      rw[b]at q;intro u F' H' st i;have Y : F' p = c_ := by
        cases l : F' p with
        | none => rfl| some o =>
          rcases st.nw p o l with z | z
          · simp_all
          simp_all
      refine⟨_,rfl,p,C,dx,[],rfl,st.hh _ _ n,t,k,am,?_⟩
      refine q u F' _ st.ff (λc o e => ?_) Y st.nw (λc o e I => by rw[aw I]; exact st.hh _ _ e) au i;have I : c ≠ p :=λz => by simp_all
      rw[aw I];exact st.fh _ _ e
def sc_nP:gM ["self","gaps","beside"] ["self","gaps","beside"] (aK s_nP):=⟨rfl,rfl,rfl,by decide +kernel,rfl,by decide +kernel,by decide +kernel⟩
theorem okn_P{P : HY}{w : IF}{K : Pn}{mg : m_ -> Option j_}{base : H_}{CR CP : e_}{f L: e_}{a: Je}{mc : j_}(n : Def K mg "checked_rows" jh ["rows"] eE dO)(OK : iS P w K mg base CX0 3 eE dO ["rows"] (spF K b_ (aN) 1))(S : Stat K CR mc "__init__" L)(bI : Binds K a ["self", "gaps"] [])(FI : iS P w K mg base CX0 4 L a ["self", "gaps"] (spI1 K CP (aN)))(mR : mg "Rules" = a_ (.ref CR))(t : mg "len" = c_)(N : Fun K "__init__" "Pair.__init__" s_nP f fd)(m : Cls K CP)(na : bu K CP "gaps")(B : bu K CP "beside"): iS P w K mg base CX0 5 f fd ["self", "gaps", "beside"] (spI2 K CP (aN)) := by
  refine N.okX sc_nP (λvs H Q E h => ?_) (λcdv A outer s H vs Q E D h => ?_)
  · obtain⟨p,dx,v,i,F,d,d2,rfl,_⟩ := h
    rfl
  · obtain⟨p,dx,v,i,F,d,d2,rfl,hp,hF,X,Z,k,q⟩ := h
    refine⟨_,aA (iA (pe_cmeth S (by rfl) mR FI D bI .nil r9 (ax (pv 0) (ax (pv 1) aP))))
      (aA (iW (pv 0) (oB OK (D.mono a8) (by rfl) n.mg n.fn.kp n.bd .nil r9 (ax (pv 2) aP)) rfl)
      (aZ (ib (Ah op_ne (iX l9 (by rfl) t z_ (ax (iB (pv 0) rfl) aP)) (iX l9 (by rfl) t z_ (ax (iB (pv 0) rfl) aP)) (BW _)) yg bP))),?_⟩
    refine⟨_,rfl,_,rfl,p,dx,v,F,d,rfl,hp,hF,X,Z,?_⟩
    cases G : aN [d]with
    | error e => rw[G]at q; exact q| ok r =>
      rw[G,aj]at q;intro u F1 H1 a1 a2 a3 a4 a5 a6 O;refine⟨i,rfl,F1,[d2],a2,⟨i,[],rfl,aU.mono a1 k,rfl⟩,rfl,?_⟩
      skip;cases Y : aN [d2]with
      | error e => rw[Y]at q; exact HK q| ok r2 =>
        rw[Y,aj]at q;intro x F2 H2 st y;by_cases I : twoL r r2 = d_
        · rw[f_ I]at q
          have l : F2 p = c_ := by
            cases C : F2 p with
            | none => rfl| some o =>
              rcases st.nw p o C with z | z
              · simp_all
              simp_all
          refine⟨_,rfl,p,CP,dx,_,rfl,st.hh _ _ a6,m,B,am,?_⟩
          rw[putGB];have j : aM F2 (upd H2 p (.ins CP dx [("gaps", u),("beside", x)])) :=λc o e => by
            have g : c ≠ p :=λz => by simp_all
            rw[aw g];exact st.fh _ _ e
          cases r with
          | lst xs =>
            cases r2 with
            | lst ys =>
              have hl : xs.length = ys.length := Jk I;obtain⟨g1,W,e1,t1,T⟩ := aU.mono st.ff O;obtain⟨g2,U,e2,t2,R⟩ := id y;refine⟨_,rfl,p,CP,dx,_,_,rfl,au,m,B,rfl,g2,_,by rw[e2],.inl (j.lst t2),_,rfl,p,CP,dx,_,_,rfl,au,m,na,rfl,g1,_,by rw[e1],.inl (j.lst t1),rfl,_,rfl,?_⟩
              refine iteNS (by rw[T.length,R.length,hl]) ?_;refine q u x F2 _ (a1.trans st.ff) j l (λb o e => ?_) (λc o e g => by rw[aw g]; exact st.hh _ _ (a5 c o e g)) au (aU.mono st.ff O) y;rcases st.nw b o e with z | z
              · exact a4 b o z
              · refine .inr ?_
                cases C : H b with
                | none => rfl| some o' =>grind
            | _ => cases I
          | _ => cases I
        · rw[k_ I]at q; exact HK q
section
variable{P:HY}{w:IF}{base:H_}{K:Pn}{CR:e_}(Z:Zq n P w base K mg CR CP CS CW CD AStripError ANoRow ANoRules ANoTime ANoPlace ANotFree ATooMany ANoPlan)
include Z
def on_P:∃f fd,Mth K CP "__init__" "Pair.__init__" s_nP ["self","gaps","beside"] f fd/\iS P w K mg base CX0 5 f fd ["self","gaps","beside"] (spI2 K CP (aN)):=
 let ⟨_,_,Y⟩:=kr Z;let ⟨_,_,N,S⟩:=Z.n_R;let ⟨_,_,M⟩:=Z.n_P;⟨_,_,M,okn_P Y.d Y.o S N.bd (okn_R (C:=CP) Y.d Y.o N.fn Z.kP.cl (Z.nR CP am).2) Z.kR.mg Z.cH M.fn Z.kP.cl (Z.nR CP am).2 (Z.uF CP am).2⟩
def on_R:∃f fd,Mth K CR "__init__" "Rules.__init__" s_nR ["self","gaps"] f fd/\iS P w K mg base CX0 4 f fd ["self","gaps"] (spI1 K CR (aN)):=
 let ⟨_,_,Y⟩:=kr Z;let ⟨_,_,N,_⟩:=Z.n_R;⟨_,_,N,okn_R Y.d Y.o N.fn Z.kR.cl (Z.nR CR am).2⟩
def pH:YO Z.sk P w base 7 b_ (cJ CR CP CS CW CD n):=
 fY ["draft","many","gaps"] λz d c=>let ⟨_,_,b,Y⟩:=on_P Z;let ⟨_,_,a,I⟩:=on_R Z;(aq (bF d (aC eA Z.cH z_ (da1 (fP (Cs:=[CD]) Z.fldD_kinds (ao 0))))) (aq (bF d (dY (pb Z) c (da2 (fP (Cs:=[CD]) Z.fldD_gaps (ao 0)) (ao 1)))) (aq (cw (aE (o_eqE c.units) (fP (Cs:=[CD]) Z.fldD_beside (ao 0)) (av de_newK)) (ay (aG (de_newR ⟨Z.kR.mks,a.mt.at_,a.mt.fn,Z.kR.kp⟩ I (c.mono a8) Z.kR.mg a.bd (da1 (ao 2))))) bp) (ay (aG (de_newP ⟨Z.kP.mks,b.mt.at_,b.mt.fn,Z.kP.kp⟩ Y c Z.kP.mg b.bd (da2 (ao 2) (dY (pb Z) c (da2 (fP (Cs:=[CD]) Z.fldD_beside (ao 0)) (ao 1))))))))))
def kq:YR Z.B1 P w base 1 mX:=
 fR ["kept","told"] (λ_ _ _ _=>len_told) λz I Y vs Q h=>⟨_,(aA (ib (pt_cmp (pc_isN (pv 1))) (aZ (cF jM)) bP) (aA (iA (pG HF HN HW g6 (pv 0) (ax (pv 1) aP))) (aZ (cF jM)))),rs_told h⟩
def iY:YO Z.B2 P w base 1 b_ (bj):=
 fY ["word"] λz Y I=>(aq (cw (PW.pt (eh (aE Ep (aC sA Z.cH z_ (da1 (ao 0))) (jX Z.tG)) (du (gC (cT (aC (Bf rfl) Z.zB LS (da1 (av (cy ["sign"] [c_] (Cy (ao 0)) (λ_ _ _ _ _=>cO dkK) (aH rfl) (λ_ _ _ _ _=>bX) (λ_ _ _ _ _=>(jf o_inS (ao 0) (wc Z.gs_FIGURES)))))))))))) (ay (aG fN)) bp) (aq (cw (PW.pt (pB (aE (nB I.units) (aL oo (ao 0) ae) aF) (kY (aE (vM I.units) (ao 0) aF)))) (ay (aG fN)) bp) (ay (aG (dv Ha Z.x4 J1 (da1 (ao 0)))))))
def Ap:YO Z.E9 P w base 2 b_ (bw):=
 fY ["kinds","words","gap"] λz Y I=>(aq (cw (PW.pt (eh (aE (vM I.units) (aC eA Z.cH z_ (da1 (ao 1))) ae) (eh (aE (kx I.units) (aL cq (ao 1) ae) (ao 0)) (du (aE (kx I.units) (aL cq (ao 1) ae) (ao 0)))))) (ay (aG fN)) bp) (aq (bF Y (dY (iY Z) I (da1 (aL cq (ao 1) ae)))) (ay (aG (Cz (cT (dY (yo Z) I (da1 (ao 2)))) (l5 (da3 (nX I.units (ao 0) (aL cq (ao 1) ae)) (nX I.units (ao 0) (aL cq (ao 1) ae)) (ao 2))) fN)))))
def rj:YR Z.Eb P w base 3 (zK K (bw)):=
 fR ["kinds","gaps","words","told"] (λ_ _ _ _=>len_gap) λz Y I vs Q h=>⟨_,(aA (km (i:=3) Y rfl (.inl rfl) (pY (Ap Z) I (ax (pv 0) (ax (pv 2) aP)))) (aA (ib (pt_cmp (pc_isN (pv 3))) (aZ (cF jM)) bP) (aA (ps_put (hU I.units) (pv 1) (l5 (da2 (aL cq (ao 3) ae) (aL cq (ao 3) ae))) (aL cq (ao 3) ae) rfl) (aZ (cF jM))))),rs_gap h⟩
def tj:YO Z.wj P w base 1 b_ (g8):=
 fY ["number"] λz I Y=>(ay (aG (CB FF FF ae (ao 0) (jX Z.oK))))
theorem lI:YO Z.mz P w base 2 b_ (bC):=
 fY ["flight","first","last"] λz I Y=>(aq (bF I (aL cq (ao 0) ae)) (aq (bF I (aL cq (ao 0) ae)) (ay (aG (nY (jf FF (ao 1) (ao 2)) (lU (aC (Bf rfl) Z.zB LS (da1 (av (cy ["number"] [c_] (eF (av (iO xf (ao 0) (bG ae) cx))) (λ_ _ _ _ _=>cO a') (aH rfl) (λ_ _ _ _ _=>bX) (λ_ _ _ _ _=>(dY (tj Z) Y (da1 (ao 0))))))))))))))
theorem ur:YO Z.GJ P w base 1 b_ (eD):=
 fY ["word"] λz I Y=>(aq (cw (PW.pt (eh (aE Ep (aC sA Z.cH z_ (da1 (ao 0))) (jX Z.yL)) (du (aE qj (aL oo (ao 0) ae) (wc Z.gs_LETTERS))))) (ay (aG l7)) bp) (ay (aG (aC (Bf rfl) Z.zB LS (da1 (av (cy ["sign"] [c_] (Cy (ao 0)) (λ_ _ _ _ _=>cO a') (aH rfl) (λ_ _ _ _ _=>bX) (λ_ _ _ _ _=>(de_or (jf o_inS (ao 0) (wc Z.gs_LETTERS)) (lU (jf o_inS (ao 0) (wc Z.gs_FIGURES))))))))))))
theorem sZ:YO Z.we P w base 3 b_ (aY):=
 fY ["kinds","names","words","numbers","flight"] λz Y I=>(aq (cw (PW.pt (eh (aE (vM I.units) (aC eA Z.cH z_ (da1 (ao 2))) ae) (eh (aE o_ge (aC eA Z.cH z_ (da1 (ao 1))) (jX Z.tE)) (du (aE (kx I.units) (aL cq (ao 2) ae) (ao 0)))))) (ay (aG fN)) bp) (aq (cw (PW.pt (eh (gC (cT (dY (ur Z) I (da1 (aL cq (ao 2) ae))))) (du (aE (o_in I.units) (aL cq (ao 2) ae) (ao 1))))) (ay (aG fN)) bp) (aq (nV (i:=3) b_ ["word"] [c_] Y (eF (av (iO xf (ao 2) (bG ae) cx))) (λ_ _ _ _ _=>cO a') (aH rfl) (λ_ _ _ _ _=>bX) (λ_ _ _ _ _=>(dY (iY Z) I (da1 (ao 0))))) (aq (cw (aE (o_in I.units) fN (ao 3)) (ay (aG fN)) bp) (aq (bF Y (l5 (da5 (nX I.units (ao 0) (aL cq (ao 2) ae)) (aL cq (ao 3) ae) (aL cq (ao 3) ae) (aL cq (ao 3) ae) (aL cq (ao 3) ae)))) (ay (aG (Cz (cT (dY (lI Z) I (da1 (ao 4)))) (ao 4) fN))))))))
def tf:YR Z.wg P w base 4 (ve K CD (mT (aY))):=
 fR ["draft","words"] (λ_ _ _ _=>FV) λz Y I vs Q h=>⟨_,(aA (ib (BN (qh (pY (kq Z) I (ax (iB (pv 0) rfl) (ax (pY (sZ Z) I (ax (iB (pv 0) rfl) (ax (iB (pv 0) rfl) (ax (pv 1) aP)))) aP))) (λ_=>rfl))) (aZ (cF jM)) bP) (aA (iA (pG HF HN HW g6 (iB (pv 0) rfl) (ax (aL cq (ao 1) ae) aP))) (aZ (cF jM)))),Ff Z.kD.cl Z.naD h⟩
def yn:YO Z.B0 P w base 2 b_ (bB):=
 fY ["kinds","words"] λz Y I=>(aq (cw (PW.pt (eh (aE (vM I.units) (aC eA Z.cH z_ (da1 (ao 1))) ae) (du (aE o_ge (aC eA Z.cH z_ (da1 (ao 0))) (jX Z.pz))))) (ay (aG fN)) bp) (ay (aG (Cz (PW.pt (pB (cT (dY (ur Z) I (da1 (aL cq (ao 1) ae)))) (kY (aE (kx I.units) (aL cq (ao 1) ae) (ao 0))))) (aL cq (ao 1) ae) fN))))
def vG:YO Z.yW P w base 1 b_ (gU):=
 fY ["stretch"] λz I Y=>(ay (aG (GG FF o_lt FF ae (aL cq (ao 0) ae) (aL cq (ao 0) ae) (jX Z.rP))))
theorem yp:YO Z.B3 P w base 2 b_ (iG):=
 fY ["closed"] λz Y I=>(ay (aG (nY (jf FF (aC eA Z.cH z_ (da1 (ao 0))) (jX Z.pO)) (lU (aC (Bf rfl) Z.zB LS (da1 (av (cy ["stretch"] [c_] (eF (ao 0)) (λ_ _ _ _ _=>cO a') (aH rfl) (λ_ _ _ _ _=>bX) (λ_ _ _ _ _=>(dY (vG Z) I (da1 (ao 0))))))))))))
def rh:YO Z.tK P w base 3 b_ (aW):=
 fY ["closed","words","stretch"] λz Y I=>(aq (cw (aE (vM I.units) (aC eA Z.cH z_ (da1 (ao 1))) ae) (ay (aG fN)) bp) (aq (bF Y (l5 (da2 (dY (iY Z) I (da1 (aL cq (ao 1) ae))) (dY (iY Z) I (da1 (aL cq (ao 1) ae)))))) (ay (aG (Cz (PW.pt (pB (aE (kx I.units) fN (ao 2)) (kY (cT (dY (yp Z) I (da1 (av (az bg (ao 0) (av (cP (da1 (ao 2)))))))))))) (ao 2) fN)))))
def Aq:YR Z.Ea P w base 5 (ve K CD (bJ)):=
 fR ["draft","words"] (λ_ _ _ _=>FV) λz Y I vs Q h=>⟨_,(aA (ib (PW.pt (eh (aE (nB I.units) (ao 1) (av (cP eG))) (du (cT (oQ FL Mg PySem.F.type_str_startswith (aL cq (ao 1) ae) aF))))) (aZ (cF jM)) bP) (aA (ib (aE (nB I.units) (aL cq (ao 1) ae) aF) (aZ (cF (pY (kq Z) I (ax (iB (pv 0) rfl) (ax (pY (yn Z) I (ax (iB (pv 0) rfl) (ax (pv 1) aP))) aP))))) bP) (aA (ib (aE (nB I.units) (aL cq (ao 1) ae) aF) (aZ (cF (pY (rj Z) I (ax (iB (pv 0) rfl) (ax (iB (pv 0) rfl) (ax (pv 1) aP)))))) bP) (aA (ib (aE (nB I.units) (aL cq (ao 1) ae) aF) (aZ (cF (pY (rj Z) I (ax (iB (pv 0) rfl) (ax (iB (pv 0) rfl) (ax (pv 1) aP)))))) bP) (aA (ib (aE (nB I.units) (aL cq (ao 1) ae) aF) (aZ (cF (pY (kq Z) I (ax (iB (pv 0) rfl) (ax (pY (rh Z) I (ax (iB (pv 0) rfl) (ax (pv 1) aP))) aP))))) bP) (aZ (cF (pe_and (jf (nB I.units) (aL cq (ao 1) ae) aF) (pe_one (pY (tf Z) I (ax (pv 0) (ax (pv 1) aP)))))))))))),rs_row Z.kD.cl Z.naD h⟩
theorem Ao:YO Z.E8 P w base 1 b_ (gG):=
 fY ["row"] λz Y I=>(ay (aG (av (cy ["word"] [c_] (eF (av (oQ ql Jx J7 (ao 0) aF))) (λ_ _ _ _ _=>cO a') (aH rfl) (λ_ _ _ _ _=>vz (aE (vM I.units) (ao 0) aF)) (λ_ _ _ _ _=>(ao 0))))))
def on_CW:∃f fd,Mth K CW "__init__" "NoSheet.__init__" s_nCW ["self","row"] f fd/\XMk K mg "NoSheet" CW f/\iS P w K mg base CX0 1 f fd ["self","row"] (spX1 CW "row"):=
 let ⟨_,_,N,X⟩:=Z.n_CW;⟨_,_,N,X,okn_CW N.fn Z.aCW_row⟩
theorem on_D:∃f fd,Mth K CD "__init__" "Draft.__init__" s_nD ["self"] f fd/\iS P w K mg base CX0 1 f fd ["self"] (spID CD):=
 let ⟨f,fd,N⟩:=Z.n_D;⟨f,fd,N,N.fn.okX (N:=["self"]) (by exact⟨rfl,rfl,rfl,a',rfl,by decide +kernel,by decide +kernel⟩) (λ_ _ _ _=>len_ID) λc A o s H vs Q E I h=>⟨_,aA (iW (pv 0) (k8 aP) rfl) (aA (iW (pv 0) Ak rfl) (aA (iW (pv 0) Ak rfl) (aA (iW (pv 0) (k8 aP) rfl) (aA (iW (pv 0) (k8 aP) rfl) (aZ (iW (pv 0) (k8 aP) rfl)))))),rs_initD Z.kD.cl Z.naD h⟩⟩
def on_S:∃f fd,Mth K CS "__init__" "Sheet.__init__" s_nS ["self","kinds","rules","names","flights","closed"] f fd/\iS P w K mg base CX0 4 f fd ["self","kinds","rules","names","flights","closed"] (spIS K CS (eC CR CP CS CW CD n)):=
 let ⟨_,_,Y⟩:=Dp Z;let ⟨_,_,N⟩:=Z.n_S;⟨_,_,N,okn_S Y.d Y.o N.fn Z.kS.cl Z.naS Z.x3⟩
def nv:YX Z.yV P w base 8 b_ (cj CR CP CS CW CD n):=
 fX ["text","draft","number","row"] λz g a=>let ⟨_,_,b,I,Y⟩:=on_CW Z;let ⟨_,_,f,d⟩:=on_D Z;let ⟨_,_,e,c⟩:=on_S Z;(Gy (km (i:=1) g rfl (.inl rfl) (pe_make0 ⟨Z.kD.mks,f.mt.at_,f.mt.fn,Z.kD.kp⟩ d (a.mono a8) rfl Z.kD.mg f.bd .nil r9)) (BO PassesOwn.leaving rfl (pi_enum1 rfl Z.zA (av (oQ ql Jx J7 (ao 0) aF))) (BR rfl (dH (dJ (i:=2) g rfl (.inl rfl)) (dH (dJ (i:=3) g rfl (.inl rfl)) vB))) (aZ (ib (BN (qh (pY (Aq Z) a (ax (pv 1) (ax (pY (Ao Z) a (ax (pv 3) aP)) aP))) (λ_=>rfl))) (aZ (yh Mp xeqD2 I.ex I.fn I.kp Y (a.mono a8) b.bd I.mg (ax (pv 2) aP))) bP))) (aq (cw (aE (nB a.units) (fP (Cs:=[CD]) Z.fldD_kinds (ao 1)) (av (cP eG))) (ay (Gx Mp xeqD2 I.ex I.fn I.kp Y (a.mono a8) b.bd I.mg (da1 ae))) bp) (dss_lift (ay (aG (de_newS ⟨Z.kS.mks,e.mt.at_,e.mt.fn,Z.kS.kp⟩ c (a.mono a8) Z.kS.mg e.bd (da5 (fP (Cs:=[CD]) Z.fldD_kinds (ao 1)) (dY (pH Z) a (da1 (ao 1))) (fP (Cs:=[CD]) Z.fldD_names (ao 1)) (fP (Cs:=[CD]) Z.fldD_flights (ao 1)) (fP (Cs:=[CD]) Z.fldD_closed (ao 1)))))))))
def yq:YO Z.B5 P w base 9 b_ (eU CR CP CS CW CD n):=
 fY ["_law_text","_law_told_here","e"] λz I e=>let ⟨_,_,c⟩:=nv Z;(aq (bF I (av (cP eG))) (aq (ds_toldN (i:=2) (j:=1) (ys:=[ANoRow,ANoRules,ANoTime,ANoPlace,ANotFree,ATooMany,ANoPlan]) (λA4 σ E g f=>(dsa_set (own:=b_) I (dea_lst1 (dea_call c.o f e c.d.mg c.d.fn.kp c.d.bd (da1 (ao 0)))))) Z.xCW I (λa d oe b hd Y=>aA (km I rfl (.inl rfl) (k8 (ax pe_non (ax (pe_xfld JL Z.xCW.isi Z.aCW_row b hd Y) (ax (pe_isO (GZ JL Z.xCW.isi b hd Y) Z.bh Z.vS Z.pK) (ax (pe_isB (GZ JL Z.xCW.isi b hd Y) Z.bh Z.x9 (by rfl) Z.pL) aP)))))) (aZ (iA (pG HF HN HW g6 (pv 1) (ax (pe_isT (GZ JL Z.xCW.isi b hd Y) Z.bh (m5 (m5 (m5 (m5 (m5 (m5 (m5 pa_refs0 Z.FQ) Z.Dy) Z.Dz) Z.DC) Z.FP) Z.DB) Z.mI_NoRow) (by show 7<=h_;rw[Hu];decide) Z.kT_CW) aP)))))) (ay (aG (ao 1)))))
def nz:YO Z.yZ P w base 1 b_ (dM):=
 fY ["_law_found"] λz I Y=>(ay (aG (nY (lE Z.kit Z.bh Z.x4 (ao 0)) (lU (de_not (si Z.kit Z.bh Z.z_bool (ao 0)))))))
theorem lO:YO Z.wo P w base 2 b_ (cY):=
 fY ["_law_found","_law_due","_law_long","_law_one_here"] λz Y I=>(aq (cw (PW.pt (eh (gC (cT (sd Z.kit Z.bh Z.x3 (ao 0)))) (du (aE (vM I.units) (ao 0) (ao 1))))) (ay (aG l7)) bp) (aq (i8 (pt:=.nm 3) (eF (ao 0)) (pQ Y) (aq (cw (PW.pt (eh (gC (cT (yT Z.kit Z.bh Z.z_tuple (ao 3)))) (du (aE (vM I.units) (aC eA Z.cH z_ (da1 (ao 3))) (ao 2))))) (ay (aG l7)) bp) (ay (cw (gC (cT (aC (Bf rfl) Z.zB LS (da1 (av (cy ["_law_number_here"] [c_] (eF (ao 3)) (λ_ _ _ _ _=>cO a') (aH rfl) (λ_ _ _ _ _=>bX) (λ_ _ _ _ _=>(dY (nz Z) I (da1 (ao 0)))))))))) (ay (aG l7)) bp)))) (ay (aG l7))))
def oE:YM Z.m_M_R_many_strips P w mg base 1 b_ (cZ):=
 fM ["self"] λz I Y=>(ay (aG ae))
def oF:YM Z.m_M_P_many_strips P w mg base 1 b_ (dI):=
 fM ["self"] λz I Y=>(ay (aG ae))
def Ds:YO Z.GN P w base 3 b_ (kC CR CP CS CW CD n):=
 fY ["_law_sheet","_law_data_here","_law_kinds","_law_gaps","_law_beside","_law_names","_law_flights","_law_closed"] λz e d=>let ⟨_,_,k,a⟩:=ju Z;let ⟨_,_,h,c⟩:=lQ Z;let ⟨_,_,f,Y⟩:=oF Z;let ⟨_,_,j,b⟩:=lP Z;let ⟨_,_,g,I⟩:=oE Z;(aq (Gw (ao 1) (yS rfl (bL (i:=2) e (bL (i:=3) e (bL (i:=4) e (bL (i:=5) e (bL (i:=6) e (bL (i:=7) e kZ)))))))) (aq (cw (gC (cT (GF (tb:=[(CS,d_)]) (isi1 ⟨⟨_,Z.kS⟩,Z.ki_CS_CS⟩) Z.bh Z.kS.mg (ao 0)))) (ay (aG l7)) bp) (aq (cw (PW.pt (eh (aE (vM d.units) (fP (Cs:=[CS]) Z.Gh (ao 0)) (ao 2)) (du (aE (vM d.units) (fP (Cs:=[CS]) Z.Gg (ao 0)) (ao 5))))) (ay (aG l7)) bp) (aq (cw (PW.pt (eh (gC (cT (dY (lO Z) d (da3 (fP (Cs:=[CS]) Z.AQ (ao 0)) (ao 6) ae)))) (du (gC (cT (dY (lO Z) d (da3 (fP (Cs:=[CS]) Z.DX (ao 0)) (ao 7) ae))))))) (ay (aG l7)) bp) (aq (cw (PW.pt (eh (aE (vM d.units) (rY Z.kR.cl j.mt b d j.bd Z.kP.cl h.mt c d h.bd (fP (Cs:=[CS]) Z.rR (ao 0))) (ao 3)) (du (aE (vM d.units) (rY Z.kR.cl g.mt I (d.mono a8) g.bd Z.kP.cl f.mt Y (d.mono a8) f.bd (fP (Cs:=[CS]) Z.rR (ao 0))) (av (az bg ae (dv c_int Z.x4 J1 (da1 (jf o_notN (ao 4) fN))))))))) (ay (aG l7)) bp) (ay (aG (de_or (jf o_isN (ao 4) fN) (lU (jf (nB d.units) (rZ Z.kP.cl k.mt a d k.bd (fP (Cs:=[CS]) Z.rR (ao 0))) (ao 4)))))))))))
def fW:YO Z.zb P w base 10 b_ (bE CR CP CS CW CD n):=
 fY ["_law_text","_law_due","_law_told_here"] λz Y I=>(aq (bF Y (dY (jj Z) I (da1 (ao 0)))) (aq (bF Y (dY (yq Z) I (da1 (ao 0)))) (aq (cw (cT (lE Z.kit Z.bh Z.x4 (ao 1))) (ay (aG (nY (jf (nB I.units) (ao 2) (av (cP (da5 fN (ao 1) l7 l7 l7)))) (lU (dY (nz Z) I (da1 (aL cq (ao 2) ae))))))) bp) (ay (aG (nY (jf (nB I.units) (aC eA Z.cH z_ (da1 (ao 2))) ae) (lU (dY (Ds Z) I (da2 (aL cq (ao 2) ae) (ao 1))))))))))
def yu:YO Z.Ba P w base 1 b_ (jP):=
 fY ["_law_rows","_law_number_here","_law_at","_law_way","_law_row","_law_spot","_law_sign"] λz I Y=>(aq (bF I (az cW (az cG (ao 1) ae) (aC eA Z.cH z_ (da1 (ao 0))))) (aq (bF I (az cW (ao 1) ae)) (aq (cw (aE (nB Y.units) (ao 3) ae) (ay (aG (av (az bg (av (az bg (av (iO xf (ao 0) cx (bG (ao 2)))) (av (iO xf (ao 0) (bG (ao 2)) (bG (av (az bg (ao 2) ae))))))) (av (iO xf (ao 0) (bG (ao 2)) cx)))))) bp) (aq (cw (PW.pt (pB (aE (nB Y.units) (ao 3) ae) (kY (aE Ep (aC eA Z.cH z_ (da1 (ao 0))) ae)))) (ay (aG (av (az bg (av (iO xf (ao 0) cx (bG (ao 2)))) (av (iO xf (ao 0) (bG (av (az bg (ao 2) ae))) cx)))))) bp) (aq (cw (aE (nB Y.units) (ao 3) ae) (ay (aG (av (az bg (av (az bg (av (iO xf (ao 0) cx (bG (ao 2)))) (av (de_rev (av (iO xf (ao 0) (bG (ao 2)) (bG (av (az bg (ao 2) ae))))))))) (av (iO xf (ao 0) (bG (av (az bg (ao 2) ae))) cx)))))) bp) (aq (bF I (aL cq (ao 0) (ao 2))) (aq (bF I (az cW (az cG (ao 1) ae) (av (az bg (aC sA Z.cH z_ (da1 (ao 4))) ae)))) (aq (bF I (aL oo aF (az cW (az cG (ao 1) ae) ae))) (aq (cw (aE o_lt (ao 3) ae) (ay (bF I (av (az bg (av (az bg (iO CK (ao 4) cx (bG (ao 5))) (ao 6))) (iO CK (ao 4) (bG (ao 5)) cx))))) (ay (cw (aE o_lt (ao 3) ae) (ay (bF I (av (az bg (iO CK (ao 4) cx (bG (ao 5))) (iO CK (ao 4) (bG (av (az bg (ao 5) ae))) cx))))) (ay (bF I (av (az bg (av (az bg (iO CK (ao 4) cx (bG (ao 5))) (ao 6))) (iO CK (ao 4) (bG (av (az bg (ao 5) ae))) cx)))))))) (ay (aG (av (az bg (av (az bg (av (iO xf (ao 0) cx (bG (ao 2)))) (av (cP (da1 (ao 4)))))) (av (iO xf (ao 0) (bG (av (az bg (ao 2) ae))) cx)))))))))))))))
def rn:YO Z.tP P w base 1 b_ (jl):=
 fY ["_law_cell","_law_signs","_law_some","_law_row","_law_rest","_law_k"] λz I Y=>(by refine aq (O':=[]) ?_ ?_;exact(bF I aF);exact(by refine aq (O':=[]) ?_ ?_;refine w9 (i:=2) (own:=b_) ?_ ?_;exact I;refine av ?_;refine cP ?_;refine aX ?_ ?_;exact aF;refine aX ?_ ?_;exact aF;refine aX ?_ ?_;exact aF;refine aX ?_ ?_;exact aF;refine aX ?_ ?_;exact aF;refine aX ?_ ?_;exact aF;refine aX ?_ ?_;exact aF;refine aX ?_ ?_;exact aF;refine aX ?_ ?_;exact aF;refine aX ?_ ?_;exact aF;refine aX ?_ ?_;exact aF;refine aX ?_ ?_;exact aF;refine aX ?_ ?_;exact aF;refine aX ?_ ?_;exact aF;exact eG;exact(by refine aq (O':=[]) ?_ ?_;refine w9 (i:=2) (own:=b_) ?_ ?_;exact I;refine av ?_;refine az ?_ ?_ ?_;exact bg;exact(ao 2);refine av ?_;refine cP ?_;refine aX ?_ ?_;exact aF;refine aX ?_ ?_;exact aF;refine aX ?_ ?_;exact aF;refine aX ?_ ?_;exact aF;refine aX ?_ ?_;refine az ?_ ?_ ?_;exact o_mulS;exact aF;exact ae;refine aX ?_ ?_;refine az ?_ ?_ ?_;exact o_mulS;exact aF;exact ae;exact eG;exact(aq (bF I aF) (aq (bF I (az cG (ao 0) ae)) (aq (i8 (pt:=.nm 5) (gw Z.eS (da1 (av (az bg (az nA (az cW (az cG (ao 0) ae) ae) ae) ae)))) (pQ I) (aq (cw (aE (nB Y.units) (az cW (ao 0) ae) ae) (aq (bF I (av (az bg (ao 3) (aL oo (ao 1) (az cW (ao 4) ae))))) (ay (bF I (az cG (ao 4) ae)))) (aq (bF I (av (az bg (av (az bg (ao 3) (aL cq (ao 2) (az cW (ao 4) ae)))) aF))) (ay (bF I (az cG (ao 4) ae))))) (ay (cw (aE (nB Y.units) (ao 4) ae) (ay (aG (ao 3))) bp)))) (ay (aG (ao 3)))))))))
def As:YM Z.m_M_S_shown P w mg base 1 b_ (ig CR CP CS CW CD n):=
 fM ["self"] λz I Y=>(ay (aG (fP (Cs:=[CS]) Z.fld_text (ao 0))))
def jN:YO Z.zc P w base 11 b_ (cS CR CP CS CW CD n):=
 fY ["_law_text","_law_data_here","_law_again_here"] λz c Y=>let ⟨_,_,a⟩:=nv Z;let ⟨_,_,b,I⟩:=As Z;(aq (bF c (dY (jj Z) Y (da1 (ao 0)))) (aq (cw (cT (lE Z.kit Z.bh Z.x4 (ao 1))) (ay (aG l7)) bp) (aq (bF c (rZ Z.kS.cl b.mt I (Y.mono a8) b.bd (de_callN a.o (Y.mono a8) a.d.mg a.d.fn.kp a.d.bd (da1 (ao 0))))) (ay (aG (nY (jf (nB Y.units) (dY (jj Z) Y (da1 (ao 2))) (ao 1)) (lU (dY (fW Z) Y (da1 (ao 2))))))))))
def ok_law:YO (law_d Z.d_law) P w base 12 b_ (m_law CR CP CS CW CD n):=
 fY ["_law_script","_law_good","_law_k","_law_rows","_law_turn","_law_text","_law_free"] λz Y I=>(aq (bF Y (dY (vJ Z) I (da1 (dY (yt Z) I (da1 (ao 0)))))) (aq (i8 (pt:=.nm 2) (gw Z.eS (da1 (aC (c_max rfl) Z.z_max boot_max (da2 ae (aC (c_min rfl) Z.z_min boot_min (da2 ae (aC eA Z.cH z_ (da1 (ao 0))))))))) (pQ Y) (aq (bF Y (av (dv c_list Z.x3 IX (da1 (ao 1))))) (aq (i8 (pt:=.nm 4) (gw Z.eS (da1 (av (az bg ae (az cW (az cG (dY (bS Z) I (da2 (ao 0) (av (az bg ae (ao 2))))) ae) ae))))) (pQ Y) (ay (bF Y (dY (yu Z) I (da2 (ao 3) (dY (bS Z) I (da2 (ao 0) (av (az bg (av (az bg ae (az nA ae (ao 2)))) (ao 4)))))))))) (aq (bF Y (oQ kA Io IC aF (ao 3))) (ay (cw (PW.pt (eh (gC (cT (dY (fW Z) I (da1 (ao 5))))) (du (gC (cT (dY (jN Z) I (da1 (ao 5)))))))) (ay (aG l7)) bp)))))) (aq (bF Y (oQ kA Io IC aF (av (cy ["_law_cell"] [c_] (eF (av (iO xf (ao 0) cx (bG ae)))) (λ_ _ _ _ _=>cO dkK) (aH rfl) (λ_ _ _ _ _=>bX) (λ_ _ _ _ _=>(dY (rn Z) I (da1 (ao 0)))))))) (aq (cw (PW.pt (eh (gC (cT (dY (fW Z) I (da1 (ao 6))))) (eh (gC (cT (dY (jN Z) I (da1 (ao 6))))) (du (gC (cT (dY (jN Z) I (da1 (av (az bg aF (ao 6))))))))))) (ay (aG l7)) bp) (ay (aG (nY (dY (fW Z) I (da1 (av (az bg aF (ao 6))))) (lU (dY (fW Z) I (da1 (oQ kA Io IC aF (ao 1))))))))))))
end
noncomputable abbrev uQ:=Int×Int
variable{cs:List uQ}
noncomputable def stD(p:uQ):A3:=.tup [.int p.1,.int p.2]
@[simp]def getI_c0(a:A3)(l:bv):gV (a::l) 0=.ok a:=by simp[gV,atI,ixN,f_]
@[simp] theorem getI_c2(a b c:A3)(l:bv):gV (a::b::c::l) 2=.ok c:=by unfold gV atI ixN;rw[f_ ad,f_ (by simp<;>lia)];rfl
section
variable(CR CP CS CW CD:e_)
noncomputable def qT(r:cc):A3:=.lst (r.map .int)
def b6(rows:List cc):A3:=.lst (rows.map qT)
def Hi(k:Nat)(r:cc):Prop:=r.length=k/\∀x∈r,0<=x/\x<=1000000
def eQ(k:Nat)(rows:List cc):Prop:=rows.length=k/\∀r∈rows,Hi k r
def D7{lo:Int}{i:Nat}{d:A3}(h:(i6 lo m)[i]?=a_ d):i<m/\d=.int (lo+i):=by unfold i6 at h;rw[HJ]at h;obtain⟨a,h1,h2⟩:=M8.mp h;have hi:=(s_.mp h1).1;rw[OG]at hi;rw[N9 hi]at h1;cases h1;exact⟨hi,h2.symm⟩
theorem D8{i:Nat}{d:A3}(h:(i6 0 m)[i]?=a_ d):i<m/\d=.int i:=by obtain⟨h1,h2⟩:=D7 h;simp_all
end
section
variable(CR CP CS CW CD:e_)
def yF(n:Nat)(x:Int)(I:0<=x)(h1:x<=1000000):g9 [.int x]=.ok (.bl d_):=by simp[g9,qq,lG,I,h1]
theorem vW(n:Nat)(k:Nat)(r:cc)(b:k<=6)(h:Hi k r):fH [qT r,.int k]=.ok (.bl d_):=by
 have a:r.length<=16777216:=by have:=h.1;lia
 have I:k<=16777216:=ad
 have e:bx (.nm 0) gZ (fL (g9) (aa (ah 0) aB)) [c_] (r.map .int)=.ok ((r.map λ_=>d_).map A3.bl):=by
  have:=o8 (p:=.nm 0) (fe:=fL (g9) (aa (ah 0) aB)) (ρ0:=[c_]) (λ_=>.bl d_) (r.map .int) (λd hd=>by obtain⟨x,Y,rfl⟩:=HL.mp hd;exact⟨[a_ (.int x)],am,by simp[yF n x (h.2 x Y).1 (h.2 x Y).2]⟩)
  rw[this,G_,G_];rfl
 simp[fH,pq,qT,e,a,I,h.1,-G_]
theorem so(n:Nat)(rows:List cc)(a:rows.length<=1000):dU [b6 rows]=.ok (b6 rows):=by
 have I:rows.length<=16777216:=ad
 have e:bx (.nm 0) gZ (fL AD (aa (ah 0) aB)) [c_] (rows.map qT)=.ok (rows.map qT):=by
  have:=o8 (p:=.nm 0) (fe:=fL AD (aa (ah 0) aB)) (ρ0:=[c_]) id (rows.map qT) (λd hd=>by obtain⟨x,Y,rfl⟩:=HL.mp hd;simp[qT])
  rw[this,NR]
 simp[dU,nL,b6,e,I]
theorem oR(n:Nat)(k:Nat)(rows:List cc)(h1:1<=k)(a:k<=6)(h:eQ k rows):aN [b6 rows]=.ok (b6 rows):=by
 have I:rows.length<=16777216:=by have:=h.1;lia
 have e:bx (.nm 0) gZ (fL (fH) (aa (ah 0) (aa (ah 1) aB))) [c_,a_ (.int rows.length)] (rows.map qT)=.ok ((rows.map λ_=>d_).map A3.bl):=by
  have:=o8 (p:=.nm 0) (fe:=fL (fH) (aa (ah 0) (aa (ah 1) aB))) (ρ0:=[c_,a_ (.int rows.length)]) (λ_=>.bl d_) (rows.map qT) (λd hd=>by obtain⟨x,Y,rfl⟩:=HL.mp hd;exact⟨[a_ (qT x),a_ (.int rows.length)],am,by simp[h.1,vW n k x a (h.2 x Y)]⟩)
  rw[this,G_,G_];rfl
 have a1:(1:Int)<=rows.length:=by have:=h.1;lia
 have b:(rows.length:Int)<=6:=by have:=h.1;lia
 have e3:=so n rows ad;simp only[b6]at e3;simp[aN,lT,kh,kg,b6,e,e3,I,a1,b,-G_]
def oZ(rows:List cc):A3->A3
 |.non=>.ins CR [("gaps",b6 rows)]|o=>.ins CP [("gaps",b6 rows),("beside",o)]
def gaps_at(rows:List cc)(o:A3)(Y:o=.non\/∃I,o=b6 I):bO [CR,CP] "gaps" (oZ CR CP rows o)=.ok (b6 rows):=by
 have h1:((("gaps":m_)==("gaps":m_))=d_):=by decide +kernel
 rcases Y with rfl|⟨I,rfl⟩
 .show(if ([CR,CP].contains CR)=d_ then(match IE ("gaps":m_) [(("gaps":m_),b6 rows)]with|some d=>Hr d|none=>stk)else stk)=_;simp
 .show(if ([CR,CP].contains CP)=d_ then(match IE ("gaps":m_) [(("gaps":m_),b6 rows),(("beside":m_),b6 I)]with|some d=>Hr d|none=>stk)else stk)=_;simp
end
structure Fli where
 kind:Int
 first:Int
 last:Int
 due:Int
 price:Int
noncomputable def flD(f:Fli):A3:=.tup [.int f.kind,.int f.first,.int f.last,.int f.due,.int f.price]structure GoodFl (k:Nat) (f:Fli):Prop where
 k0:0<=f.kind
 k1:f.kind<k
 f0:0<=f.first
 f1:f.first<=f.last
 l1:f.last<=1000000000
 d0:0<=f.due
 d1:f.due<=1000000000
 p0:0<=f.price
 p1:f.price<=1000000000
theorem dX{α:Type}{p:Pat}{fe:ai->M A3}{ρ0:ai}(g f:α->A3):∀(L:List α),(∀x∈L,∃ρ,jZ p (g x) ρ0=.ok ρ/\fe ρ=.ok (f x))->bx p gZ fe ρ0 (L.map g)=.ok (L.map f)
 |[],_=>rfl|d::ds,h=>by obtain⟨ρ,e1,e2⟩:=h d am;rw[F_,bx,e1];simp only[aj,gZ,e2,dX g f ds λx I=>h x (by simp[I])];simp
def gD(a b c:m_):a++b++c=a++(b++c):=by
 show(⟨(a.cps++b.cps)++c.cps⟩:m_)=⟨a.cps++(b.cps++c.cps)⟩
 simp
def vh(a:m_):a++(Jw:m_)=a:=by rfl
def pZ(a:m_):(Jw:m_)++a=a:=by show(⟨#[]++a.cps⟩:m_)=a;simp
def uf(a b:m_):(a++b).length=a.length+b.length:=strLen_append a b
noncomputable def cat:b8->m_
 |[]=>Jw|x::xs=>x++cat xs
theorem C9:∀xs:b8,Iy "" xs=cat xs
 |[]=>rfl|[x]=>by rfl|x::y::xs=>by rw[cat,<- C9 (y::xs)];rfl
def lenLe(xs:b8)(B:Nat)(h:∀x∈xs,x.length<=B):(xs.map (·.length)).sum<=xs.length*B:=StrLaws.sumLen_le xs h
def str_len(h:i.natAbs<10^10):(d7 i).length<=11:=by unfold d7;rw[PySem.ofString_length];exact int_text_length_le10 (k:=10) a8 h
def ox(h:i.natAbs<10^10):i.natAbs.log2<1920:=by
 by_cases I:i.natAbs=0
 .rw[I];decide
 .exact(Nat.log2_lt I).mpr (Hm h (HB (show 10^10<=2^34 by decide) (Nat.pow_le_pow_right a8 a8)))
noncomputable def SP:m_:=" "
noncomputable def NLs:m_:="\n"
noncomputable def iI(k:m_):m_:="kind "++k
def i7(w k o:m_)(g:Int):m_:=w++SP++k++SP++o++SP++d7 g
def eI(p:uQ):m_:="closed "++d7 p.1++SP++d7 p.2
noncomputable def kAt(ks:b8)(i:Int):m_:=ks.getD i.toNat ""
def cL(ks:b8)(p:m_×Fli):m_:="flight"++SP++p.1++SP++kAt ks p.2.kind++SP++d7 p.2.first++SP++d7 p.2.last++SP++d7 p.2.due++SP++d7 p.2.price
def br(w:m_)(I:Int)(k:m_):b8->cc->b8
 |o::ks,g::r=>(if I<=g then [i7 w k o g]else [])++br w I k ks r
 |_,_=>[]
def bM(w:m_)(I:Int)(ks:b8):b8->List cc->b8
 |k::l,r::rows=>br w I k ks r++bM w I ks l rows|_,_=>[]
def sD(ks:b8):Option (List cc)->b8
 |some r2=>bM "beside" 0 ks ks r2|none=>[]
def rowsOf(ks:b8)(rows:List cc)(o:Option (List cc))(ns:List (m_×Fli))(cs:List uQ):b8:=
 ks.map iI++bM "gap" 1 ks ks rows++sD ks o++cs.map eI++ns.map (cL ks)
def textOf(rs:b8):m_:=cat (rs.map (·++NLs))
def rJ(ρ:ai)(I:m_):pM [] ρ I=.ok I:=rfl
theorem bW(f:ai->M A3)(fs:List (ai->M A3))(ρ:ai)(I z:m_)(h:f ρ=.ok (.str z))(a:I.length+z.length<=16777216):pM (f::fs) ρ I=pM fs ρ (I++z):=by
 have Y:(I++z).length<=h_:=by rw[uf,Hu];exact a
 show(f ρ).bind _=_;simp_all
theorem fmt_s(h:z.length<=16777216):oO (.str z)=.ok (.str z):=by simp_all
def fmt_i(h:i.natAbs<10^10):oO (.int i)=.ok (.str (d7 i)):=by rw[e_fmtI,f_ (ox h)]
theorem FW(ks:b8)(Y:∀k∈ks,k.length<=100):bx (.nm 0) gZ (fJ [(fC (.str "kind ")),(f1 oO (ah 0))]) [c_] (ks.map .str)=.ok ((ks.map iI).map .str):=by
 rw[G_];refine dX _ _ ks λk I=>⟨[a_ (.str k)],rfl,?_⟩
 have h:=Y k I;have e5:(n_ "kind ").length=5:=by decide +kernel
 unfold fJ;rw[bW _ _ _ _ (n_ "kind ") rfl (by rw[e5];show 0+5<=_;decide),pZ,bW _ _ _ _ k (by show(oO (.str k))=_;exact fmt_s ad) (by rw[e5];lia),rJ];rfl
theorem Cg{k o:m_}{g:Int}(ρ:ai)(hw:w.length<=100)(f:k.length<=100)(e:o.length<=100)(Y:g.natAbs<10^10)(e0:ah 0 ρ=.ok (.str w))(e5:ah 5 ρ=.ok (.str k))(c:ah 7 ρ=.ok (.str o))(b:ah 8 ρ=.ok (.int g)):
  fJ [(f1 oO (ah 0)),(fC (.str " ")),(f1 oO (ah 5)),(fC (.str " ")),(f1 oO (ah 7)),(fC (.str " ")),(f1 oO (ah 8))] ρ=.ok (.str (i7 w k o g))/\(i7 w k o g).length<=400:=by
 have I:(n_ " ").length=1:=by decide +kernel
 have es:=str_len Y;have f0:f1 oO (ah 0) ρ=.ok (.str w):=by unfold f1;rw[e0];exact fmt_s ad
 have f5:f1 oO (ah 5) ρ=.ok (.str k):=by unfold f1;rw[e5];exact fmt_s ad
 have a:f1 oO (ah 7) ρ=.ok (.str o):=by unfold f1;rw[c];exact fmt_s ad
 have f8:f1 oO (ah 8) ρ=.ok (.str (d7 g)):=by unfold f1;rw[b];exact fmt_i Y
 have d:Jw.length=0:=rfl;refine⟨?_,by unfold i7 SP;simp only[uf,I];lia⟩
 unfold fJ;rw[bW _ _ _ _ w f0 ad,pZ,bW _ _ _ _ (n_ " ") rfl ad,bW _ _ _ _ k f5 (by simp only[uf,I];lia),bW _ _ _ _ (n_ " ") rfl (by simp only[uf,I];lia),bW _ _ _ _ o a (by simp only[uf,I];lia),bW _ _ _ _ (n_ " ") rfl (by simp only[uf,I];lia),bW _ _ _ _ (d7 g) f8 (by simp only[uf,I];lia),rJ];rfl
section
variable(CR CP CS CW CD:e_)
theorem AG(n:Nat){w k:m_}(hw:w.length<=100)(m:k.length<=100)(I:Int)(a1 b a:Option A3):∀(os:b8) (r:cc) (Y:b8) (e d:Option A3),(∀o∈os,o.length<=100)->(∀g∈r,g.natAbs<10^10)->Y.length+os.length<=10000->∃h f,
  oN (.tp [7,8]) (dB) (oj (os.map .str) (r.map .int)) [a_ (.str w),a1,b,a_ (.int I),a_ (.lst (Y.map .str)),a_ (.str k),a,e,d]=.ok (.nx [a_ (.str w),a1,b,a_ (.int I),a_ (.lst ((Y++br w I k os r).map .str)),a_ (.str k),a,h,f])
 |[],r,Y,e,d,_,_,_=>⟨e,d,by simp[oj,oN,br]⟩|o::os,[],Y,e,d,_,_,_=>⟨e,d,by simp[oj,oN,br]⟩|o::os,g::r,Y,e,d,l,j,s=>by
  obtain⟨e1,e2⟩:=Cg (w:=w) (k:=k) (o:=o) (g:=g) [a_ (.str w),a1,b,a_ (.int I),a_ (.lst (Y.map .str)),a_ (.str k),a,a_ (.str o),a_ (.int g)] hw m (l o am) (j g am) rfl rfl rfl rfl;have i:Y.length<16777216:=by simp at s;lia
  have u:=Cg (w:=w) (k:=k) (o:=o) (g:=g) [a_ (.str w),a1,b,a_ (.int I),c_,a_ (.str k),a,a_ (.str o),a_ (.int g)] hw m (l o am) (j g am) rfl rfl rfl rfl;by_cases p:I<=g
  .have t:dB [a_ (.str w),a1,b,a_ (.int I),a_ (.lst (Y.map .str)),a_ (.str k),a,a_ (.str o),a_ (.int g)]=.ok (.nx [a_ (.str w),a1,b,a_ (.int I),a_ (.lst ((Y++[i7 w k o g]).map .str)),a_ (.str k),a,a_ (.str o),a_ (.int g)]):=by
    simp[dB,jq,p,u.1,e1,i]
   obtain⟨h,f,q⟩:=AG n hw m I a1 b a os r (Y++[i7 w k o g]) (a_ (.str o)) (a_ (.int g)) (λx c=>l x (by simp[c])) (λx c=>j x (by simp[c])) (by simp at s ⊢;lia);refine⟨h,f,?_⟩
   rw[br,f_ p,<- Kc,<- q];simp[oj,oN,t]
  .have t:dB [a_ (.str w),a1,b,a_ (.int I),a_ (.lst (Y.map .str)),a_ (.str k),a,a_ (.str o),a_ (.int g)]=.ok (.nx [a_ (.str w),a1,b,a_ (.int I),a_ (.lst (Y.map .str)),a_ (.str k),a,a_ (.str o),a_ (.int g)]):=by
    simp[dB,jq,p]
   obtain⟨h,f,q⟩:=AG n hw m I a1 b a os r Y (a_ (.str o)) (a_ (.int g)) (λx c=>l x (by simp[c])) (λx c=>j x (by simp[c])) (by simp at s ⊢;lia);refine⟨h,f,?_⟩
   rw[br,k_ p,Mv,<- q];simp[oj,oN,t]
theorem jU(w:m_)(I:Int)(k:m_):∀(os:b8) (r:cc),(br w I k os r).length<=os.length
 |[],_=>by simp[br]|_::_,[]=>by simp[br]|o::os,g::r=>by rw[br,Hy,Hl];have:=jU w I k os r;split<;>simp<;>lia
theorem Cf(n:Nat){w:m_}(hw:w.length<=100)(ks:b8)(h:∀k∈ks,k.length<=100)(B:ks.length<=6)(I:Int)(f:Option A3):∀(l:b8) (rows:List cc) (Y:b8) (d c b a:Option A3),(∀k∈l,k.length<=100)->(∀r∈rows,∀g∈r,g.natAbs<10^10)->Y.length+6*l.length<=9000->∃t s j i,
  oN (.tp [5,6]) (gQ) (oj (l.map .str) (rows.map qT)) [a_ (.str w),a_ (.lst (ks.map .str)),f,a_ (.int I),a_ (.lst (Y.map .str)),d,c,b,a]=.ok (.nx [a_ (.str w),a_ (.lst (ks.map .str)),f,a_ (.int I),a_ (.lst ((Y++bM w I ks l rows).map .str)),t,s,j,i])
 |[],rows,Y,d,c,b,a,_,_,_=>⟨d,c,b,a,by simp[oj,oN,bM]⟩|k::l,[],Y,d,c,b,a,_,_,_=>⟨d,c,b,a,by simp[oj,oN,bM]⟩|k::l,r::rows,Y,d,c,b,a,q,o,C=>by
  obtain⟨j,i,e⟩:=AG n hw (q k am) I (a_ (.lst (ks.map .str))) f (a_ (qT r)) ks r Y b a h (o r am) ad;have p:=jU w I k ks r;have D:gQ [a_ (.str w),a_ (.lst (ks.map .str)),f,a_ (.int I),a_ (.lst (Y.map .str)),a_ (.str k),a_ (qT r),b,a]=.ok (.nx [a_ (.str w),a_ (.lst (ks.map .str)),f,a_ (.int I),a_ (.lst ((Y++br w I k ks r).map .str)),a_ (.str k),a_ (qT r),j,i]):=by unfold gQ;rw[<- e];simp[qT,nG]
  obtain⟨z,y,v,u,A⟩:=Cf n hw ks h B I f l rows (Y++br w I k ks r) (a_ (.str k)) (a_ (qT r)) j i (λx m=>q x (by simp[m])) (λx m=>o x (by simp[m])) (by simp at C ⊢;lia);refine⟨z,y,v,u,?_⟩
  rw[bM,<- Kc,<- A];simp[oj,oN,D]
theorem mY(n:Nat)(hw:w.length<=100)(ks:b8)(Y:∀k∈ks,k.length<=100)(b:ks.length<=6)(I:Int)(rows:List cc)(a:∀r∈rows,∀g∈r,g.natAbs<10^10):
  gS [.str w,.lst (ks.map .str),b6 rows,.int I]=.ok (.lst ((bM w I ks ks rows).map .str)):=by
 obtain⟨h,f,d,c,e⟩:=Cf n hw ks Y b I (a_ (b6 rows)) ks rows [] c_ c_ c_ c_ Y a (by simp;lia);simp only[JG,Mv]at e;simp[gS,pj,b6,nG]at e ⊢;simp[e]
end
theorem sget(I:0<=i)(h1:i<ks.length):gV (ks.map .str) i=.ok (.str (kAt ks i))/\kAt ks i∈ks:=by simp_all[kAt,gV,atI,ixN,f_]
structure BFl(k:Nat)(f:Fli):Prop where
 k0:0<=f.kind
 k1:f.kind<k
 a:f.first.natAbs<10^10
 b:f.last.natAbs<10^10
 c:f.due.natAbs<10^10
 d:f.price.natAbs<10^10
theorem nQ{f:Fli}(c:nm.length<=100)(Y:∀k∈ks,k.length<=100)(I:BFl ks.length f):(cL ks (nm,f)).length<=400:=by
 have a:(n_ " ").length=1:=by decide +kernel
 have b:(n_ "flight").length=6:=by decide +kernel
 have h1:=str_len I.a;have h2:=str_len I.b;have g:=str_len I.c;have e:=str_len I.d;have d:=Y _ (sget I.k0 I.k1).2;unfold cL SP;simp only[uf,a,b];lia
section
variable(CR CP CS CW CD:e_)
theorem qO(n:Nat){f:Fli}(j:ks.length<=6)(i:nm.length<=100)(a:∀k∈ks,k.length<=100)(I:BFl ks.length f):dA [.lst (ks.map .str),.str nm,flD f]=.ok (.str (cL ks (nm,f))):=by
 have p:(n_ " ").length=1:=by decide +kernel
 have r:(n_ "flight").length=6:=by decide +kernel
 have h1:=str_len I.a;have h2:=str_len I.b;have o:=str_len I.c;have m:=str_len I.d;obtain⟨e0,Y⟩:=sget I.k0 I.k1;have l:=a _ Y;have e:=ox I.a;have d:=ox I.b;have c:=ox I.c;have b:=ox I.d;have q:Iy (n_ " ") [n_ "flight",nm,kAt ks f.kind,d7 f.first,d7 f.last,d7 f.due,d7 f.price]=cL ks (nm,f):=by unfold cL SP;simp only[Iy,gD]
 have h:6+(nm.length+((kAt ks f.kind).length+((d7 f.first).length+((d7 f.last).length+((d7 f.due).length+((d7 f.price).length+0))))))+7*1<=16777216:=ad
 have g:bR (.tup [.int f.kind,.int f.first,.int f.last,.int f.due,.int f.price]) (a_ 1) c_=.ok (.tup [.int f.first,.int f.last,.int f.due,.int f.price]):=rfl;have s:bx (.nm 0) gZ (fL ES (aa (ah 0) aB)) [c_] [.int f.first,.int f.last,.int f.due,.int f.price]=.ok [.str (d7 f.first),.str (d7 f.last),.str (d7 f.due),.str (d7 f.price)]:=by simp[bx,e,d,c,b]
 simp_all[cR,Hu,dA,lS,flD,f_]
end
theorem Bc(cs:List uQ)(h:∀p∈cs,p.1.natAbs<10^10/\p.2.natAbs<10^10):bx (.tp [0,1]) gZ (fJ [(fC (.str "closed ")),(f1 oO (ah 0)),(fC (.str " ")),(f1 oO (ah 1))]) [c_,c_] (cs.map stD)=.ok ((cs.map eI).map .str):=by
 rw[G_];refine dX _ _ cs λp I=>⟨[a_ (.int p.1),a_ (.int p.2)],rfl,?_⟩
 obtain⟨h1,h2⟩:=h p I;have e1:(n_ "closed ").length=7:=by decide +kernel
 have e2:(n_ " ").length=1:=by decide +kernel
 have b:=str_len h1;have a:=str_len h2;have Y:Jw.length=0:=rfl;unfold fJ;rw[bW _ _ _ _ (n_ "closed ") rfl ad,pZ,bW _ _ _ _ (d7 p.1) (fmt_i h1) ad,bW _ _ _ _ (n_ " ") rfl (by simp only[uf];lia),bW _ _ _ _ (d7 p.2) (fmt_i h2) (by simp only[uf];lia),rJ];rfl
theorem o9{p:uQ}(h:p.1.natAbs<10^10/\p.2.natAbs<10^10):(eI p).length<=400:=by
 have e1:(n_ "closed ").length=7:=by decide +kernel
 have e2:(n_ " ").length=1:=by decide +kernel
 have Y:=str_len h.1;have I:=str_len h.2;unfold eI SP;simp only[uf];lia
theorem rF{k:m_}(h:k.length<=100):(iI k).length<=400:=by
 have e1:(n_ "kind ").length=5:=by decide +kernel
 unfold iI;simp only[uf];lia
theorem uB{k o:m_}{g:Int}(hw:w.length<=100)(b:k.length<=100)(a:o.length<=100)(I:g.natAbs<10^10):(i7 w k o g).length<=400:=by
 have Y:(n_ " ").length=1:=by decide +kernel
 have es:=str_len I;unfold i7 SP;simp only[uf,Y];lia
theorem nJ{w:m_}{I:Int}{k:m_}(hw:w.length<=100)(c:k.length<=100):∀(os:b8) (r:cc),(∀o∈os,o.length<=100)->(∀g∈r,g.natAbs<10^10)->∀x∈br w I k os r,x.length<=400
 |[],_,_,_,x,h=>by simp_all[br]|_::_,[],_,_,x,h=>by simp_all[br]|o::os,g::r,b,a,x,h=>by
  rw[br,HR]at h;rcases h with h|h
  .split at h
   .rw[Ik]at h;rw[h];exact uB hw c (b o am) (a g am)
   grind
  .exact nJ hw c os r (λy Y=>b y (by simp[Y])) (λy Y=>a y (by simp[Y])) x h
theorem mq{w:m_}{I:Int}{ks:b8}(hw:w.length<=100)(Y:∀k∈ks,k.length<=100):∀(l:b8) (rows:List cc),(∀k∈l,k.length<=100)->(∀r∈rows,∀g∈r,g.natAbs<10^10)->∀x∈bM w I ks l rows,x.length<=400
 |[],_,_,_,x,h=>by simp_all[bM]|_::_,[],_,_,x,h=>by simp_all[bM]|k::l,r::rows,c,b,x,h=>by
  rw[bM,HR]at h;rcases h with h|h
  .exact nJ hw (c k am) ks r Y (b r am) x h
  .exact mq hw Y l rows (λy a=>c y (by simp[a])) (λy a=>b y (by simp[a])) x h
theorem mv(w:m_)(I:Int)(ks:b8):∀(l:b8) (rows:List cc),(bM w I ks l rows).length<=l.length*ks.length
 |[],_=>by simp[bM]|_::_,[]=>by simp[bM]|k::l,r::rows=>by rw[bM,Hy,Hl,Nat.succ_mul];have h1:=jU w I k ks r;have h2:=mv w I ks l rows;lia
structure Sht where
 ks:b8
 rows:List cc
 o:Option (List cc)
 nf:List (m_×Fli)
 cs:List uQ
structure Sht.Good(w:Sht):Prop where
 k1:1<=w.ks.length
 k6:w.ks.length<=6
 kl:∀k∈w.ks,k.length<=100
 rows:eQ w.ks.length w.rows
 o:∀r2,w.o=a_ r2->eQ w.ks.length r2
 nm:w.nf.length<=40
 nl:∀p∈w.nf,p.1.length<=100/\BFl w.ks.length p.2
 cm:w.cs.length<=20
 cl:∀p∈w.cs,p.1.natAbs<10^10/\p.2.natAbs<10^10
noncomputable def Sht.kD(w:Sht):A3:=.lst (w.ks.map .str)
def Sht.bD(w:Sht):A3:=match w.o with
 |some r2=>b6 r2|none=>.non
noncomputable def Sht.nD(w:Sht):A3:=.lst ((w.nf.map (·.1)).map .str)
noncomputable def Sht.fD(w:Sht):A3:=.lst ((w.nf.map (·.2)).map flD)
def Sht.cD(w:Sht):A3:=.lst (w.cs.map stD)
def Sht.D(w:Sht):A3:=.tup [w.kD,b6 w.rows,w.bD,w.nD,w.fD,w.cD]
def Sht.rs(w:Sht):b8:=rowsOf w.ks w.rows w.o w.nf w.cs
def Sht.tx(w:Sht):m_:=textOf w.rs
theorem eQ.nat{k:Nat}(h:eQ k rows):∀r∈rows,∀g∈r,g.natAbs<10^10:=λr I g Y=>by have:=(h.2 r I).2 g Y;lia
def lgap:(n_ "gap").length<=100:=by decide +kernel
def lbes:(n_ "beside").length<=100:=by decide +kernel
def Sht.Good.zW{w:Sht}(h:w.Good):∀x∈w.rs,x.length<=400:=λx I=>by
 unfold Sht.rs rowsOf at I;simp only[HR]at I;rcases I with(((I|I)|I)|I)|I
 .obtain⟨k,b,rfl⟩:=HL.mp I;exact rF (h.kl k b)
 .exact mq lgap h.kl w.ks w.rows h.kl h.rows.nat x I
 .cases a:w.o with
  |none=>rw[a]at I;cases(show x∈([]:b8)from I)|some r2=>rw[a]at I;exact mq lbes h.kl w.ks r2 h.kl (h.o r2 a).nat x I
 .obtain⟨p,Y,rfl⟩:=HL.mp I;exact o9 (h.cl p Y)
 .obtain⟨p,Y,rfl⟩:=HL.mp I;exact nQ (h.nl p Y).1 h.kl (h.nl p Y).2
theorem Sht.Good.Fe{w:Sht}(h:w.Good):w.rs.length<=200:=by
 unfold Sht.rs rowsOf;simp only[Hy,A_];have h1:=mv "gap" 1 w.ks w.ks w.rows;have h2:(sD w.ks w.o).length<=w.ks.length*w.ks.length:=by
  cases w.o with
  |none=>simp[sD]|some r2=>exact mv _ _ _ _ _
 have I:=h.k6;have b:=Pl I I;have a:=h.nm;have Y:=h.cm;lia
theorem iz:∀xs:b8,gR (xs.map .str)=.ok xs
 |[]=>rfl|x::xs=>by rw[F_,e_strs1,iz xs];rfl
def nl_len:NLs.length=1:=by rfl
theorem nl_comp(rs:b8)(h:∀r∈rs,r.length<=400):bx (.nm 0) gZ (f2 cR (ah 0) (fC (.str "\n"))) [c_] (rs.map .str)=.ok ((rs.map (·++NLs)).map .str):=by
 rw[G_];refine dX _ _ rs λr I=>⟨[a_ (.str r)],rfl,?_⟩
 have h1:=h r I;have h2:r.length+(n_ "\n").length<=h_:=by have:(n_ "\n").length=1:=nl_len;rw[Hu];lia
 show cR (.str r) (.str "\n")=_;unfold cR;simp only;rw[f_ h2];rfl
theorem zip_nf:∀I:List (m_×Fli),oj ((I.map (·.1)).map .str) ((I.map (·.2)).map flD)=I.map λp=>A3.tup [.str p.1,flD p.2]
 |[]=>rfl|p::I=>by simp only[F_,oj,zip_nf I]
section
variable(CR CP CS CW CD:e_)
def fl_comp(n:Nat)(b:ks.length<=6)(Y:∀k∈ks,k.length<=100)(I:List (m_×Fli))(h:∀p∈I,p.1.length<=100/\BFl ks.length p.2):
  bx (.tp [0,1]) gZ (fL (dA) (aa (ah 2) (aa (ah 0) (aa (ah 1) aB)))) [c_,c_,a_ (.lst (ks.map .str))] (I.map λp=>A3.tup [.str p.1,flD p.2])=.ok ((I.map (cL ks)).map .str):=by
 rw[G_];refine dX _ _ I λp a=>⟨[a_ (.str p.1),a_ (flD p.2),a_ (.lst (ks.map .str))],rfl,?_⟩
 obtain⟨h1,h2⟩:=h p a;have e:=qO n b h1 Y h2;show(dA [.lst (ks.map .str),.str p.1,flD p.2])=_;rw[e];rfl
def bes_at(rows r2:List cc):bO [CP] "beside" (oZ CR CP rows (b6 r2))=.ok (b6 r2):=by
 have h1:((("beside":m_)==("gaps":m_))=b_):=by decide +kernel
 have h2:((("beside":m_)==("beside":m_))=d_):=by decide +kernel
 show(if ([CP].contains CP)=d_ then(match IE ("beside":m_) [(("gaps":m_),b6 rows),(("beside":m_),b6 r2)]with|some d=>Hr d|none=>stk)else stk)=_;rw[f_ am,w_,h1,w_,h2]
def Sht.ru(w:Sht):A3:=oZ CR CP w.rows w.bD
def Sht.bD_or(w:Sht):w.bD=.non\/∃r2,w.bD=b6 r2:=by
 unfold Sht.bD;cases w.o with
 |none=>exact .inl rfl|some r2=>exact .inr ⟨r2,rfl⟩
theorem AH(n:Nat){w:Sht}(h:w.Good):b7 CR CP CS CW CD n [w.ru CR CP]=.ok (b6 w.rows):=by have e1:=gaps_at CR CP w.rows w.bD w.bD_or;have e2:=so n w.rows (by have:=h.rows.1;have:=h.k6;lia);simp[b7,kb,Sht.ru,e1,e2]
theorem Bg(n:Nat){w:Sht}(h:w.Good)(I:w.o=a_ r2):bK CR CP CS CW CD n [w.ru CR CP]=.ok (b6 r2):=by
 have e2:=so n r2 (by have:=(h.o r2 I).1;have:=h.k6;lia);have Y:w.bD=b6 r2:=by unfold Sht.bD;rw[I]
 have e1:=bes_at CR CP w.rows r2;simp[bK,j7,Sht.ru,Y,e1,e2]
end
section
variable(CR CP CS CW CD:e_)
theorem Fd(I:CR≠CP)(w:Sht)(m:m_)(h1:(m==("gaps":m_))=b_)(h2:(m==("beside":m_))=b_)(g g2:bv->M A3)(fo:ai->M A3)(ρ:ai)(e:fo ρ=.ok (w.ru CR CP)):
  jx CR CP m g g2 fo aB ρ=if w.o.isSome=d_ then g2 [w.ru CR CP]else g [w.ru CR CP]:=by
 unfold jx;rw[e];unfold Sht.ru Sht.bD;have Y:(CP==CR)=b_:=by simp;exact λz=>I z.symm
 cases w.o with
 |none=>
  show(if isC CR m (.ins CR [("gaps",b6 w.rows)])=d_ then _ else _)=_;have:isC CR m (.ins CR [("gaps",b6 w.rows)])=d_:=by show((CR==CR)&&(IE m [(("gaps":m_),b6 w.rows)]).isNone)=d_;rw[w_,h1];simp
  rw[f_ this];rfl
 |some r2=>
  show(if isC CR m (.ins CP [("gaps",b6 w.rows),("beside",b6 r2)])=d_ then _ else if isC CP m (.ins CP [("gaps",b6 w.rows),("beside",b6 r2)])=d_ then _ else _)=_;have b:isC CR m (.ins CP [("gaps",b6 w.rows),("beside",b6 r2)])=b_:=by show((CP==CR)&&_)=b_;rw[Y];rfl
  have a:isC CP m (.ins CP [("gaps",b6 w.rows),("beside",b6 r2)])=d_:=by show((CP==CP)&&(IE m [(("gaps":m_),b6 w.rows),(("beside":m_),b6 r2)]).isNone)=d_;rw[w_,h1,w_,h2];simp
  simp_all
def ru_gap(I:CR≠CP)(n:Nat){w:Sht}(h:w.Good)(fo:ai->M A3)(ρ:ai)(e:fo ρ=.ok (w.ru CR CP)):jx CR CP "gap_rows" (b7 CR CP CS CW CD n) (b7 CR CP CS CW CD n) fo aB ρ=.ok (b6 w.rows):=by rw[Fd CR CP I w "gap_rows" (by rfl) (by rfl) _ _ fo ρ e,AH CR CP CS CW CD n h];simp
def Fc(I:CR≠CP)(n:Nat){w:Sht}(fo:ai->M A3)(ρ:ai)(e:fo ρ=.ok (w.ru CR CP)):jx CR CP "many_strips" (cZ) (dI) fo aB ρ=.ok (.int (if w.o.isSome=d_ then 2 else 1)):=by rw[Fd CR CP I w "many_strips" (by rfl) (by rfl) _ _ fo ρ e];split<;>simp[dI,j6,cZ,iL]
def ru_bes(n:Nat){w:Sht}(h:w.Good)(I:w.o=a_ r2)(fo:ai->M A3)(ρ:ai)(e:fo ρ=.ok (w.ru CR CP)):jz CP "beside_rows" (bK CR CP CS CW CD n) fo aB ρ=.ok (b6 r2):=by
 have b:=Bg CR CP CS CW CD n h I;unfold jz;rw[e];have a:w.ru CR CP=.ins CP [("gaps",b6 w.rows),("beside",b6 r2)]:=by unfold Sht.ru Sht.bD;rw[I];rfl
 have Y:isC CP "beside_rows" (w.ru CR CP)=d_:=by rw[a];show((CP==CP)&&(IE ("beside_rows":m_) [(("gaps":m_),b6 w.rows),(("beside":m_),b6 r2)]).isNone)=d_;rw[w_,show(("beside_rows":m_)==("gaps":m_))=b_ by rfl,w_,show(("beside_rows":m_)==("beside":m_))=b_ by rfl];simp
 show(if isC CP "beside_rows" (w.ru CR CP)=d_ then _ else _)=_;rw[f_ Y];exact b
def ru_isi(I:CR≠CP)(w:Sht):isiC [(CR,b_),(CP,d_)] (w.ru CR CP)=.ok (.bl w.o.isSome):=by
 unfold Sht.ru Sht.bD;have Y:(CP==CR)=b_:=by simp;exact λz=>I z.symm
 cases w.o with
 |none=>show(match IE CR [(CR,b_),(CP,d_)]with|some b=>Hr (A3.bl b)|none=>stk)=_;simp
 |some r2=>show(match IE CP [(CR,b_),(CP,d_)]with|some b=>Hr (A3.bl b)|none=>stk)=_;rw[w_,Y,w_,show(CP==CP)=d_ by simp];rfl
theorem text_ok(a:CR≠CP)(n:Nat){w:Sht}(h:w.Good):eC CR CP CS CW CD n [w.kD,w.ru CR CP,w.nD,w.fD,w.cD]=.ok (.str w.tx):=by
 have e1:=FW w.ks h.kl;have e2:=ru_gap CR CP CS CW CD a n h (ah 1) [a_ w.kD,a_ (w.ru CR CP),a_ w.nD,a_ w.fD,a_ w.cD,c_] rfl;have e3:=mY n lgap w.ks h.kl h.k6 1 w.rows h.rows.nat;have e4:=ru_isi CR CP a w;have e5:=Bc w.cs h.cl;have E:=fl_comp n h.k6 h.kl w.nf h.nl;have D:=nl_comp w.rs h.zW;have s:=h.Fe;have p:w.ks.length<=16777216:=by have:=h.k6;lia
 have o:w.cs.length<=16777216:=by have:=h.cm;lia
 have m:w.nf.length<=16777216:=by have:=h.nm;lia
 have e:w.rs.length<=16777216:=ad
 obtain⟨B,Y⟩:∃B,sD w.ks w.o=B:=⟨_,rfl⟩
 have i:w.ks.length+(bM "gap" 1 w.ks w.ks w.rows).length+B.length+w.cs.length+w.nf.length<=200:=by have:=h.Fe;unfold Sht.rs rowsOf at this;simp only[Hy,A_,Y]at this;exact this
 have C:∀I:b8,I.length<=200->jY CR CP CS CW CD n [a_ w.kD,a_ (w.ru CR CP),a_ w.nD,a_ w.fD,a_ w.cD,a_ (.lst (I.map .str))]=.ok (.nx [a_ w.kD,a_ (w.ru CR CP),a_ w.nD,a_ w.fD,a_ w.cD,a_ (.lst ((I++B).map .str))]):=λI j=>by
  cases d:w.o with
  |none=>rw[d]at e4 Y;have Y:B=[]:=Y.symm;simp[jY,e4,Y]|some r2=>
   have l:=ru_bes CR CP CS CW CD n h d (ah 1) [a_ w.kD,a_ (w.ru CR CP),a_ w.nD,a_ w.fD,a_ w.cD,c_] rfl;have c:=mY n lbes w.ks h.kl h.k6 0 r2 (h.o r2 d).nat;rw[d]at e4 Y;have Y:bM "beside" 0 w.ks w.ks r2=B:=Y;rw[Y]at c;have f:I.length+B.length<=16777216:=ad
   simp[jY,e4,l,Sht.kD,c,f]at l ⊢
 have k:w.ks.map iI++bM "gap" 1 w.ks w.ks w.rows++B++w.cs.map eI++w.nf.map (cL w.ks)=w.rs:=by rw[<- Y];rfl
 have b1:w.ks.length+(bM "gap" 1 w.ks w.ks w.rows).length<=16777216:=ad
 have b2:w.ks.length+((bM "gap" 1 w.ks w.ks w.rows).length+B.length)+w.cs.length<=16777216:=ad
 have b3:w.ks.length+((bM "gap" 1 w.ks w.ks w.rows).length+(B.length+w.cs.length))+w.nf.length<=16777216:=ad
 have b:=C (w.ks.map iI++bM "gap" 1 w.ks w.ks w.rows) (by simp;lia);have t:((w.rs.map (·++NLs)).map (·.length)).sum<=16777216:=by
  have:=lenLe (w.rs.map (·++NLs)) 401 (λx r=>by obtain⟨y,q,rfl⟩:=HL.mp r;have:=h.zW y q;rw[uf,nl_len];lia)
  rw[A_]at this;lia
 have u:(n_ "").length=0:=by decide +kernel
 have es:=iz (w.rs.map (·++NLs));have A:=C9 (w.rs.map (·++NLs));have z:=zip_nf w.nf;have v:K6 A3.str (K6 iI w.ks)++(K6 A3.str (bM "gap" 1 w.ks w.ks w.rows)++(K6 A3.str B++(K6 A3.str (K6 eI w.cs)++K6 A3.str (K6 (cL w.ks) w.nf))))=w.rs.map .str:=by rw[<- k];simp only[IG,Kc]
 rw[<- k]at e;simp only[Sht.kD,Sht.nD,Sht.fD,Sht.cD,IG,Kc]at e2 b ⊢;simp only[Hy,A_,P0]at e;simp[eC,yI,e1,p,e2,e3,b1,b,e5,o,b2,z,E,m,b3,nG,e,-G_];rw[v,D];have g:((w.rs.map (·++NLs)).map (·.length)).sum+(w.rs.map (·++NLs)).length*(n_ "").length<=16777216:=by rw[u,Nat.mul_zero];exact t
 simp only[aj,e_joinD,es,Hu,f_ g,A];rfl
end
def joinG(k o:m_)(g:Int)(w:m_):Iy (n_ " ") [w,k,o,d7 g]=i7 w k o g:=by simp[i7,SP,Iy,gD]
theorem ie{α:Type}(f:α->A3)(n:Nat)(h:∀x,C' (f x) n=d_):∀L:List α,lJ (L.map f) n=d_
 |[]=>rfl|x::L=>by simp[lJ,h x,ie f n h L]
def kj{d:A3}(h:C' d 40=d_):neM d d=.ok (.bl b_):=by unfold neM;rw[h];simp[qz h]
def vi{d:A3}(h:C' d 40=d_):eqM d d=.ok (.bl d_):=by unfold eqM;rw[h];simp[qz h]
def okE_tz(x:cc)(n:Nat):C' (Bq x) (n+1)=d_:=by unfold Bq;simp only[C'];exact ie _ _ (λ_=>by rfl) x
def FD(xs:List cc)(n:Nat):C' (.lst (xs.map Bq)) (n+2)=d_:=by simp only[C'];exact ie _ _ (λx=>okE_tz x n) xs
def vL(rows:List cc)(n:Nat):C' (b6 rows) (n+2)=d_:=by unfold b6;simp only[C'];refine ie _ _ (λr=>?_) rows;unfold qT;simp only[C'];exact ie _ _ (λ_=>by rfl) r
def qi(xs:b8)(n:Nat):C' (.lst (xs.map .str)) (n+1)=d_:=by simp only[C'];exact ie _ _ (λ_=>by rfl) xs
noncomputable def flZ(f:Fli):cc:=[f.kind,f.first,f.last,f.due,f.price]
noncomputable def stZ(p:uQ):cc:=[p.1,p.2]
def Gi(l:List Fli):l.map flD=(l.map flZ).map Bq:=by rw[G_];rfl
def EU(l:List uQ):l.map stD=(l.map stZ).map Bq:=by rw[G_];rfl
section
variable(CR CP CS CW CD:e_)
def CL(n:Nat)(x:cc):bx (.nm 0) gZ (fL (dM) (aa (ah 0) aB)) [c_] (x.map .int)=.ok ((x.map λ_=>d_).map A3.bl):=by
 rw[G_];refine dX _ _ x λi _=>⟨[a_ (.int i)],rfl,?_⟩
 rfl
theorem qH(n:Nat)(L:Nat)(f:L<=100)(I a1:Option A3):∀(xs:List cc) (Y:Option A3),(∀x∈xs,x.length=L)->∃a,oN (.nm 3) (gB) (xs.map Bq) [I,a1,a_ (.int L),Y]=.ok (.nx [I,a1,a_ (.int L),a])
 |[],Y,_=>⟨Y,rfl⟩|x::xs,Y,h=>by
  have e:=h x am;have k:x.length<=16777216:=ad
  have b:L<=16777216:=ad
  have g:=CL n x;have l:neM (.int (L:Int)) (.int (L:Int))=.ok (.bl b_):=kj rfl;have j:(x.map λ_=>d_).all id=d_:=by simp
  have i:gB [I,a1,a_ (.int L),a_ (Bq x)]=.ok (.nx [I,a1,a_ (.int L),a_ (Bq x)]):=by simp[gB,lg,la,Bq,e,b,g,j,-G_]
  obtain⟨a,c⟩:=qH n L f I a1 xs (a_ (Bq x)) λy d=>h y (by simp[d]);refine⟨a,?_⟩
  rw[<- c];simp[oN,i]
def xr(n:Nat)(L:Nat)(I:L<=100)(xs:List cc)(h:∀x∈xs,x.length=L):cY [.lst (xs.map Bq),.lst (xs.map Bq),.int L]=.ok (.bl d_):=by have Y:=kj (FD xs 38);obtain⟨a,e⟩:=qH n L I (a_ (.lst (xs.map Bq))) (a_ (.lst (xs.map Bq))) xs c_ h;simp[cY,nM,lh,Y,e]
def Sht.obj(w:Sht):A3:=.ins CS [("kinds",w.kD),("rules",w.ru CR CP),("names",w.nD),("flights",w.fD),("closed",w.cD),("text",.str w.tx)]
theorem obj_at(w:Sht):bO [CS] "kinds" (w.obj CR CP CS)=.ok w.kD/\bO [CS] "rules" (w.obj CR CP CS)=.ok (w.ru CR CP)/\bO [CS] "names" (w.obj CR CP CS)=.ok w.nD/\bO [CS] "flights" (w.obj CR CP CS)=.ok w.fD/\bO [CS] "closed" (w.obj CR CP CS)=.ok w.cD/\bO [CS] "text" (w.obj CR CP CS)=.ok (.str w.tx):=by
 have m:∀a b:m_,a≠b->(a==b)=b_:=λa b h=>by simp[h]
 have key:∀(y:m_) (d:A3),IE y [(("kinds":m_),w.kD),(("rules":m_),w.ru CR CP),(("names":m_),w.nD),(("flights":m_),w.fD),(("closed":m_),w.cD),(("text":m_),.str w.tx)]=a_ d->bO [CS] y (w.obj CR CP CS)=.ok d:=λy d h=>by show(if ([CS].contains CS)=d_ then(match IE y [(("kinds":m_),w.kD),(("rules":m_),w.ru CR CP),(("names":m_),w.nD),(("flights":m_),w.fD),(("closed":m_),w.cD),(("text":m_),A3.str w.tx)]with|some d=>Hr d|none=>stk)else stk)=_;simp_all
 have e1:(("rules":m_)==("kinds":m_))=b_:=by decide +kernel
 have e2:(("names":m_)==("kinds":m_))=b_:=by decide +kernel
 have e3:(("names":m_)==("rules":m_))=b_:=by decide +kernel
 have e4:(("flights":m_)==("kinds":m_))=b_:=by decide +kernel
 have e5:(("flights":m_)==("rules":m_))=b_:=by decide +kernel
 have l:(("flights":m_)==("names":m_))=b_:=by decide +kernel
 have k:(("closed":m_)==("kinds":m_))=b_:=by decide +kernel
 have j:(("closed":m_)==("rules":m_))=b_:=by decide +kernel
 have i:(("closed":m_)==("names":m_))=b_:=by decide +kernel
 have g:(("closed":m_)==("flights":m_))=b_:=by decide +kernel
 have f:(("text":m_)==("kinds":m_))=b_:=by decide +kernel
 have e:(("text":m_)==("rules":m_))=b_:=by decide +kernel
 have c:(("text":m_)==("names":m_))=b_:=by decide +kernel
 have Y:(("text":m_)==("flights":m_))=b_:=by decide +kernel
 have I:(("text":m_)==("closed":m_))=b_:=by decide +kernel
 refine⟨key _ _ ?_,key _ _ ?_,key _ _ ?_,key _ _ ?_,key _ _ ?_,key _ _ ?_⟩<;>simp only[w_,L9,e1,e2,e3,e4,e5,l,k,j,i,g,f,e,c,Y,I]
def obj_isi(w:Sht):isiC [(CS,d_)] (w.obj CR CP CS)=.ok (.bl d_):=by show(match IE CS [(CS,d_)]with|some b=>Hr (A3.bl b)|none=>stk)=_;simp
def is_ok(a:CR≠CP)(n:Nat){w:Sht}(h:w.Good):kC CR CP CS CW CD n [w.obj CR CP CS,w.D]=.ok (.bl d_):=by
 obtain⟨a1,r,o,m,l,t⟩:=obj_at CR CP CS w;have k:=obj_isi CR CP CS w;have i:neM w.kD w.kD=.ok (.bl b_):=kj (qi _ 39);have n2:neM w.nD w.nD=.ok (.bl b_):=kj (qi _ 39);have c:neM (b6 w.rows) (b6 w.rows)=.ok (.bl b_):=kj (vL _ 38);have t1:cY [w.fD,w.fD,.int 5]=.ok (.bl d_):=by unfold Sht.fD;rw[Gi];exact xr n 5 a8 _ λx d=>by obtain⟨f,_,rfl⟩:=HL.mp d;rfl
 have t2:cY [w.cD,w.cD,.int 2]=.ok (.bl d_):=by unfold Sht.cD;rw[EU];exact xr n 2 a8 _ λx d=>by obtain⟨f,_,rfl⟩:=HL.mp d;rfl
 generalize j:([a_ (w.obj CR CP CS),a_ w.D,a_ w.kD,a_ (b6 w.rows),a_ w.bD,a_ w.nD,a_ w.fD,a_ w.cD]:ai)=E;have g:f1 (bO [CS] "rules") (ah 0) E=.ok (w.ru CR CP):=by rw[<- j];exact r
 have I:=ru_gap CR CP CS CW CD a n h (f1 (bO [CS] "rules") (ah 0)) E g;have g2:=Fc CR CP a n (w:=w) (f1 (bO [CS] "rules") (ah 0)) E g;subst j;cases Y:w.o with
 |none=>
  have b:w.bD=.non:=by unfold Sht.bD;rw[Y]
  rw[b]at I g2;rw[Y]at g2;simp only[Sht.D,b]at I g2 ⊢;simp[kC,rO,mG,mE,mD,mC,k,a1,o,i,n2,m,l,t1,t2,I,c,g2,b2z]
 |some r2=>
  have b:w.bD=b6 r2:=by unfold Sht.bD;rw[Y]
  have e:=ru_bes CR CP CS CW CD n h Y (f1 (bO [CS] "rules") (ah 0)) _ g;have q:=vi (vL r2 38);have s:vN (b6 r2) .non=.ok (.bl d_):=rfl;have p:isND (b6 r2) .non=.ok (.bl b_):=rfl;rw[b]at I g2 e;rw[Y]at g2;simp only[Sht.D,b,b6]at I g2 e c q ⊢;simp[kC,rO,mG,mE,mD,mC,k,a1,o,i,n2,m,l,t1,t2,I,c,g2,e,q,b2z]
end
theorem take63{ns:cc}(h:ns.length<=63):bR (.lst (ns.map .int)) c_ (a_ 63)=.ok (.lst (ns.map .int)):=by
 show Hr (A3.lst (wZ (ns.map A3.int) c_ (a_ 63)))=_
 simp_all[wZ,cX,MP,Nj]
section
variable(CR CP CS CW CD:e_)
def BV(y:Int):0<=(y*1442695040888963407+4321)%2305843009213693921/\(y*1442695040888963407+4321)%2305843009213693921<2305843009213693921:=⟨Kx _ a8,Ka _ a8⟩
theorem FG(n:Nat)(ns:cc)(Y:ns.length<=63)(k:Int)(l:0<=k)(h1:k<1000000):∃x,ba [.lst (ns.map .int),.int k]=.ok (.int x)/\0<=x/\x<2305843009213693921:=by
 have d: -18446744073709551616<k:=ad
 have c:k<18446744073709551616:=ad
 have f:=take63 Y;by_cases j:0<ns.length
 .have h:0<=k%(ns.length:Int):=Kx _ ad;have g:k%(ns.length:Int)<(ns.length:Int):=Ka _ ad;have i:(0:Int)<ns.length:=ad
  have I:ns≠[]:=λe=>by simp_all
  refine⟨_,?_,BV ((ns[(k%(ns.length:Int)).toNat]'(by omega)%1000000000000000000000000+k*k*7919+ns.length)*48271%2305843009213693951)⟩
  simp_all[ba,jV,iQ,getI_int,e_mod]
 .have I:ns=[]:=by cases ns with|nil=>rfl|cons a b=>simp_all
  subst I;refine⟨_,?_,BV ((13*k+5+k*k*7919+0)*48271%2305843009213693951)⟩
  simp only[JG]at f;simp[ba,jV,iQ,f,d,c]
end
section
variable(CR CP CS CW CD:e_)
def mem_range{k:Nat}{d:A3}(h:d∈i6 0 k):∃j:Nat,j<k/\d=.int j:=by obtain⟨i,hi⟩:=List.mem_iff_getElem?.mp h;obtain⟨h1,h2⟩:=D8 hi;exact⟨_,h1,h2⟩
end
section
variable(CR CP CS CW CD:e_)
def new1(n:Nat){k:Nat}(h1:1<=k)(Y:k<=6)(I:eQ k rows):newR CR (aN) [b6 rows]=.ok (oZ CR CP rows .non):=by have e:=oR n k rows h1 Y I;simp[newR,e,oZ]
def new2(n:Nat){k:Nat}(h1:1<=k)(a:k<=6)(Y:eQ k rows)(I:eQ k r2):newP CP (aN) [b6 rows,b6 r2]=.ok (oZ CR CP rows (b6 r2)):=by
 have e1:=oR n k rows h1 a Y;have e2:=oR n k r2 h1 a I;have b:twoL (b6 rows) (b6 r2)=d_:=by simp[twoL,b6,Y.1,I.1]
 simp only[newP,e1,e2,aj,b,O6];rfl
end
noncomputable def jn(c:Nat):List ce->ce
 |[]=>[]|[x]=>x|x::y::r=>x++c::jn c (y::r)
theorem jn_uniq(c:Nat):∀(ps I:List ce),ps≠[]->I≠[]->(∀p∈ps,c∉p)->(∀q∈I,c∉q)->jn c ps=jn c I->ps=I:=by
 have key:∀(x y a b:ce),c∉x->c∉y->x++c::a=y++c::b->x=y/\a=b:=by
  intro x
  induction x with
  |nil=>
   intro y a b _ i h;cases y with
   |nil=>exact⟨rfl,by simpa using h⟩|cons z y=>simp_all
  |cons z x e=>
   intro y a b j i h;cases y with
   |nil=>exact Ho (by simp at h;simp[h.1]) j|cons l y=>simp only[OT,K1]at h;obtain⟨h1,h2⟩:=e y a b (λm=>j (by simp[m])) (λm=>i (by simp[m])) h.2;exact⟨by rw[h.1,h1],h2⟩
 have d:∀{x a:ce},c∈x++c::a:=by intro x a;simp
 intro ps
 induction ps with
 |nil=>intro I h;exact Ho rfl h|cons x ps e=>
  intro I _ k f Y h;cases ps with
  |nil=>
   match I,k with
   |[y],_=>exact Jg (λz=>[z]) h|y::g::I,_=>exact Ho (by rw[show x=_ from h];exact d) (f x am)
  |cons n ps=>
   match I,k with
   |[y],_=>exact Ho (by rw[show y=_ from h.symm];exact d) (Y y am)|y::g::I,_=>obtain⟨h1,h2⟩:=key x y _ _ (f x am) (Y y am) h;rw[h1,e (g::I) am am (λp m=>f p (by simp[m])) (λq m=>Y q (by simp[m])) h2]
def join_one(I a:m_):Iy I [a]=a:=rfl
def jT(I a b:m_)(r:b8):Iy I (a::b::r)=a++I++Iy I (b::r):=rfl
theorem vV(c:Nat):∀xs:b8,(Iy ⟨#[c]⟩ xs).cps.toList=jn c (xs.map λx=>x.cps.toList)
 |[]=>rfl|[x]=>rfl|x::y::r=>by rw[jT];show((x.cps++#[c])++(Iy ⟨#[c]⟩ (y::r)).cps).toList=_;rw[Ly,Ly,vV c (y::r)];simp[jn]
theorem zH{a b:m_}(h:a.cps.toList=b.cps.toList):a=b:=by obtain⟨⟨a⟩⟩:=a;simp_all
def free(c:Nat)(x:m_):Prop:=c∉x.cps.toList
def uZ(c:Nat)(ps:b8)(i:ps≠[])(h:∀p∈ps,free c p):Jl (Iy ⟨#[c]⟩ ps) ⟨#[c]⟩=ps:=by
 have h1:=StrLaws.join_split (Iy ⟨#[c]⟩ ps) ⟨#[c]⟩;have h2:=StrLaws.split_free (Iy ⟨#[c]⟩ ps) c;have e:=split_pos (Iy ⟨#[c]⟩ ps) ⟨#[c]⟩;generalize Jl (Iy ⟨#[c]⟩ ps) ⟨#[c]⟩=f at h1 h2 e;have k:jn c (f.map λx=>x.cps.toList)=jn c (ps.map λx=>x.cps.toList):=by rw[<- vV,<- vV,h1]
 have j:=jn_uniq c _ _ (by intro z;rw[LB]at z;rw[z]at e;simp at e) (by simpa using i) (λp d=>by
  obtain⟨x,Y,rfl⟩:=HL.mp d;exact h2 x Y) (λp d=>by
  obtain⟨x,Y,rfl⟩:=HL.mp d;exact h x Y) k
 have I:∀(l m:b8),(l.map λx=>x.cps.toList)=(m.map λx=>x.cps.toList)->l=m:=by
  intro l
  induction l with
  |nil=>simp|cons a l g=>intro m h;cases m with
   |nil=>simp at h|cons b m=>simp only[F_,K1]at h;rw[zH h.1,g m h.2]
 exact I _ _ j
theorem xx:∀(rs:b8) (z:m_),cat (rs.map (·++NLs))++z=Iy NLs (rs++[z])
 |[],z=>by show Jw++z=z;exact pZ z|[r],z=>by rfl|r::r2::rs,z=>by have I:=xx (r2::rs) z;show(r++NLs++cat ((r2::rs).map (·++NLs)))++z=Iy NLs (r::r2::(rs++[z]));rw[jT,gD,I];rfl
def NLs_is:NLs=⟨#[10]⟩:=by rfl
def SP_is:SP=⟨#[32]⟩:=by rfl
def CU(rs:b8)(z:m_)(h:∀r∈rs,free 10 r)(I:free 10 z):Jl (textOf rs++z) NLs=rs++[z]:=by unfold textOf;rw[xx,NLs_is];exact uZ 10 (rs++[z]) am λp Y=>(HR.mp Y).elim (h p) λm=>by rw[Ik.mp m];exact I
def lowD(c:Nat):Prop:=(97<=c/\c<=122)\/(48<=c/\c<=57)
structure Wd(x:m_):Prop where
 ne:x.cps.toList≠[]
 sg:∀c∈x.cps.toList,lowD c
theorem Wd.free{x:m_}(h:Wd x){c:Nat}(I:¬lowD c):Tactic.free c x:=λm=>I (h.sg c m)
def Cm{a b:m_}(Y:Tactic.free c a)(I:Tactic.free c b):Tactic.free c (a++b):=by intro m;have:c∈(a.cps++b.cps).toList:=m;rw[Ly,HR]at this;exact this.elim Y I
theorem yN{c d:Nat}(I:c≠d):∀ps:b8,(∀p∈ps,Tactic.free c p)->Tactic.free c (Iy ⟨#[d]⟩ ps)
 |[],_=>by intro m;exact Ho (show c∈([]:ce)from m) am|[x],h=>h x am|x::y::r,h=>by rw[jT];exact Cm (Cm (h x am) λm=>I bb) (yN I (y::r) λp m=>h p (by simp[m]))
def nF(m:Nat):(d7 (m:Int)).cps.toList=(KC 10 m).map Char.toNat:=PySem.W.KIN.signs_num m
def rK(a:0<=i):∀c∈(d7 i).cps.toList,48<=c/\c<=57:=by obtain⟨m,rfl⟩:=K_ a;intro c Y;rw[nF]at Y;obtain⟨ch,I,e⟩:=HL.mp Y;have r:=PyProof.Rows.digit_range (Nat.isDigit_of_mem_toDigits a8 a8 I);rw[<- e];exact r
def itoa_ne(I:0<=i):(d7 i).cps.toList≠[]:=by obtain⟨m,rfl⟩:=K_ I;simp[nF]
def kE(I:0<=i):Wd (d7 i):=⟨itoa_ne I,λc Y=>.inr (rK I c Y)⟩
theorem dig_head:∀m:Nat,0<m->∃c r,KC 10 m=c::r/\c≠'0':=by
 intro m
 induction m using Nat.strongRecOn with
 |_ m I=>
  intro Y;by_cases h:m<10
  .refine⟨_,[],Nat.toDigits_of_lt_base h,?_⟩
   have:∀d:Nat,d<10->0<d->Nat.digitChar d≠'0':=by decide
   exact this m h Y
  .have t:KC 10 (m/10)++KC 10 (m%10)=KC 10 (10*(m/10)+m%10):=Nat.toDigits_append_toDigits a8 ad (Nat.mod_lt m a8);rw[Nat.div_add_mod]at t;obtain⟨c,r,e,a⟩:=I (m/10) ad ad;exact⟨c,r++KC 10 (m%10),by rw[<- t,e];rfl,a⟩
theorem G3(a:0<=i):∃c r,(d7 i).cps.toList=c::r/\(c=48->i=0):=by
 obtain⟨m,rfl⟩:=K_ a;by_cases I:m=0
 .subst I;exact⟨48,[],by rw[nF];decide,λ_=>rfl⟩
 .obtain⟨c,r,e,Y⟩:=dig_head m ad;refine⟨c.toNat,r.map Char.toNat,by rw[nF,e];rfl,λz=>Ho ?_ Y⟩
  exact Char.toNat_inj.mp bb
def G2:d7 0=("0":m_):=by rfl
def FIG_list:(n_ "0123456789").cps.toList=Qj 48 10:=by rfl
def LET_list:(n_ "abcdefghijklmnopqrstuvwxyz").cps.toList=Qj 97 26:=by rfl
theorem kQ(c:Nat):c∈(n_ "0123456789").cps.toList↔48<=c/\c<=57:=by rw[FIG_list,OF];lia
theorem jm(c:Nat):c∈(n_ "abcdefghijklmnopqrstuvwxyz").cps.toList↔97<=c/\c<=122:=by rw[LET_list,OF];lia
theorem ix0{r:ce}(e:z.cps.toList=c::r)(I:z.length<=100):uz (.str z) (.int 0)=.ok (.str ⟨#[c]⟩):=by show(if z.length<=h_ then _ else _)=_;rw[f_ (by rw[Hu];lia),e];simp[atI,ixN]
theorem FC(c:Nat)(s:m_)(d:Nat)(I:s=⟨#[d]⟩):eqM (.str ⟨#[c]⟩) (.str s)=.ok (.bl (q_ (c=d))):=by
 subst I;by_cases h:c=d
 .subst h;simp[eqM,C',eqD]
 simp_all[eqM,C',eqD]
def all_true:∀l:bv,(∀d∈l,d=.bl d_)->allD [.lst l]=.ok (.bl d_):=by
 intro l h;have:l=(l.map λ_=>d_).map A3.bl:=by
  rw[G_]
  conv=>lhs;rw[<- NR l]
  exact ID λd hd=>h d hd
 rw[this];simp[-G_]
section
variable(CR CP CS CW CD:e_)
theorem yy(n:Nat)(Y:0<=i)(h1:i<10^10):bj [.str (d7 i)]=.ok (.int i):=by
 have p:(d7 i).length<=10:=PySem.W.KT.len_num Y h1;have I:(d7 i).length<=16777216:=ad
 have a:(d7 i).length<=640:=ad
 have g:Jn (d7 i)=a_ i:=PySem.W.KIN.num_reads Y h1;obtain⟨c,r,e,j⟩:=G3 Y;have o:=ix0 e ad;have hsz:(d7 i).cps.size<=16777216:=I;have k:bx (.nm 0) gZ (f2 G8 (ah 0) (fC (.str "0123456789"))) [c_] ((d7 i).cps.toList.map λc=>.str ⟨#[c]⟩)=.ok ((d7 i).cps.toList.map λ_=>A3.bl d_):=
  dX _ _ _ λc h=>⟨[a_ (.str ⟨#[c]⟩)],am,by simp[(kQ c).mpr (rK Y c h)]⟩
 have al:=all_true ((d7 i).cps.toList.map λ_=>A3.bl d_) am;have b:¬(10:Int)<((d7 i).length:Int):=ad
 have f:(n_ "0")=⟨#[48]⟩:=by decide +kernel
 have e1:=FC c (n_ "0") 48 f;have t2:rV (fB (f2 eqM (f2 uz (ah 0) (bm 0)) (fC (.str "0")))) (fB (f2 neM (ah 0) (fC (.str "0")))) [a_ (.str (d7 i))]=.ok b_:=by
  by_cases d:c=48
  .have hi:=j d;subst hi;rfl
  .simp_all
 have m:dh [a_ (.str (d7 i))]=.ok (.nx [a_ (.str (d7 i))]):=by simp[dh,I,gtD,b,k,hsz,al]
 have l:ck [a_ (.str (d7 i))]=.ok (.nx [a_ (.str (d7 i))]):=by unfold ck;rw[e_if,t2];simp
 simp[bj,gJ,m,l,a,g]
structure Nm(x:m_):Prop where
 wd:Wd x
 l8:x.length<=8
 hd:∃c r,x.cps.toList=c::r/\97<=c/\c<=122
theorem DM(n:Nat)(h:Nm x):eD [.str x]=.ok (.bl d_):=by
 have I:x.length<=16777216:=by have:=h.l8;lia
 have Y:¬(8:Int)<(x.length:Int):=by have:=h.l8;lia
 obtain⟨c,r,e,d⟩:=h.hd;have a:=ix0 e ad;have hsz:x.cps.size<=16777216:=I;have f:bx (.nm 0) gZ (AS (f2 G8 (ah 0) (fC (.str "abcdefghijklmnopqrstuvwxyz"))) (f2 G8 (ah 0) (fC (.str "0123456789")))) [c_] (x.cps.toList.map λc=>.str ⟨#[c]⟩)=.ok (x.cps.toList.map λ_=>A3.bl d_):=
  dX _ _ _ λc b=>⟨[a_ (.str ⟨#[c]⟩)],am,by
   rcases h.wd.sg c b with z|z
   .simp[AS,(jm c).mpr z]
   .have:c∉(n_ "abcdefghijklmnopqrstuvwxyz").cps.toList:=λm=>by have:=(jm c).mp m;lia
    simp[AS,this,(kQ c).mpr z]⟩
 have al:=all_true (x.cps.toList.map λ_=>A3.bl d_) am;have g:eY [a_ (.str x)]=.ok (.nx [a_ (.str x)]):=by simp[eY,I,gtD,Y,a,(jm c).mpr d]
 simp[eD,kL,g,f,hsz,al]
end
def memS(k:m_)(ks:b8):((ks.map A3.str).any λd=>eqD d (.str k))=q_ (k∈ks):=by rw[Kt];simp[Mj,HL,Hx,eqD]
def inS(k:m_)(ks:b8):inM (.str k) (.lst (ks.map .str))=.ok (.bl (q_ (k∈ks))):=by have h2:lJ (ks.map A3.str) 40=d_:=ie _ _ (λ_=>rfl) ks;show(if (C' (.str k) 40&&lJ (ks.map A3.str) 40)=d_ then Hr (A3.bl ((ks.map A3.str).any λd=>eqD d (.str k)))else stk)=_;rw[f_ (by rw[h2];rfl),memS]
def rq(k:m_)(ks:b8):iE (.str k) (.lst (ks.map .str))=.ok (.bl (!decide (k∈ks))):=by have h2:lJ (ks.map A3.str) 40=d_:=ie _ _ (λ_=>rfl) ks;show(if (C' (.str k) 40&&lJ (ks.map A3.str) 40)=d_ then Hr (A3.bl (!((ks.map A3.str).any λd=>eqD d (.str k))))else stk)=_;rw[f_ (by rw[h2];rfl),memS]
theorem idx_at(Y:ks.Nodup){i:Nat}(hi:i<ks.length):Ca ks ks[i]=a_ i:=by
 refine Kb.mpr ⟨hi,am,λj a=>?_⟩;have I:ks[j]≠ks[i]:=λz=>by have:=(OH (show j<ks.length by lia) Y (j:=i)).mp (by rw[HA ad,HA hi,z]);lia
 simpa using I
def vP(a b:Int)(h:a=b):neM (.int a) (.int b)=.ok (.bl b_):=by subst h;exact kj rfl
section
variable(CR CP CS CW CD:e_)
def St1(p:uQ):Prop:=0<=p.1/\p.1<p.2/\p.2<=1000000000
structure Fl1(k:Nat)(f:Fli):Prop where
 k0:0<=f.kind
 k1:f.kind<k
 a:0<=f.first
 b:f.first<=f.last
 c:f.last<=1000000000
 d:0<=f.due/\f.due<=1000000000
 e:0<=f.price/\f.price<=1000000000
end
structure DSt where
 ks:b8
 G:List (cc×A3)
 B:List (cc×A3)
 nf:List (m_×Fli)
 cs:List uQ
def DSt.D(s:DSt):bv:=[.lst (s.ks.map .str),.dic s.G,.dic s.B,.lst ((s.nf.map (·.1)).map .str),.lst ((s.nf.map (·.2)).map flD),.lst (s.cs.map stD)]
def m8(l:b8)(n:Nat):lJ (l.map A3.str) n=d_:=ie _ _ (λ_=>rfl) l
def get0:gV ((w::r).map A3.str) 0=.ok (.str w):=by simp
def t1_ok(hw:HP w "#"=b_):(fOr (fB (f2 eqM (ah 1) (fL bQ aB))) (ke (fSM oy (f2 ixD (ah 1) (bm 0)) (fC (.str "#"))))) [c_,a_ (.lst ((w::r).map .str))]=.ok b_:=by
 have I:gV ((w::r).map A3.str) 0=.ok (.str w):=get0;have e:eqM (.lst ((w::r).map A3.str)) (.lst [])=.ok (.bl b_):=by have h1:C' (.lst ((w::r).map A3.str)) 40=d_:=m8 (w::r) 39;show(if (C' (.lst ((w::r).map A3.str)) 40&&C' (.lst []) 40)=d_ then _ else _)=_;rw[f_ (by rw[h1];rfl)];rfl
 simp[e,I,hw,-F_]
def t6_ok(x:m_):(f2 eqM (f2 ixD (ah 1) (bm 0)) (fC (.str x))) [c_,a_ (.lst ((w::r).map .str))]=.ok (.bl (q_ (w=x))):=by
 have I:gV ((w::r).map A3.str) 0=.ok (.str w):=get0;have e:eqM (.str w) (.str x)=.ok (.bl (q_ (w=x))):=by
  by_cases h:w=x
  .rfl
  .rfl
 simp[I,e,-F_]
def tw_ok(x:m_):(fB (f2 eqM (f2 ixD (ah 1) (bm 0)) (fC (.str x)))) [c_,a_ (.lst ((w::r).map .str))]=.ok (q_ (w=x)):=by show((f2 eqM (f2 ixD (ah 1) (bm 0)) (fC (.str x))) [c_,a_ (.lst ((w::r).map .str))]).bind asB=_;rw[t6_ok];rfl
noncomputable def wK:m_:="kind"
noncomputable def wG:m_:="gap"
noncomputable def wB:m_:="beside"
noncomputable def wC:m_:="closed"
noncomputable def wF:m_:="flight"
def w_ne:HP wK "#"=b_/\HP wG "#"=b_/\HP wB "#"=b_/\HP wC "#"=b_/\HP wF "#"=b_:=by decide +kernel
def sN:wG≠wK/\wB≠wK/\wB≠wG/\wC≠wK/\wC≠wG/\wC≠wB/\wF≠wK/\wF≠wG/\wF≠wB/\wF≠wC:=by decide +kernel
section
variable(CR CP CS CW CD:e_)
def row_way(n:Nat)(s:DSt)(w:m_)(r:b8)(hw:HP w "#"=b_):bJ s.D ((w::r).map .str) =
  if w=wK then(bB [.lst (s.ks.map .str),.lst ((w::r).map .str)]).bind (tY 0 s.D)else
  if w=wG then(bw [.lst (s.ks.map .str),.lst ((w::r).map .str)]).bind (Eo 1 s.D)else
  if w=wB then(bw [.lst (s.ks.map .str),.lst ((w::r).map .str)]).bind (Eo 2 s.D)else
  if w=wC then(aW [.lst (s.cs.map stD),.lst ((w::r).map .str)]).bind (tY 5 s.D)else
  if w=wF then mT (aY) s.D ((w::r).map .str)else .ok (b_,s.D):=by
 unfold bJ oq;show((fOr _ _ _).bind _)=_;rw[t1_ok hw,aj,k_ a8,tw_ok,aj,tw_ok,aj,tw_ok,aj,tw_ok,aj,t6_ok,aj];simp only[Hx];show(if w=wK then _ else if w=wG then _ else if w=wB then _ else if w=wC then _ else _)=_;by_cases h1:w=wK
 .rw[f_ h1,f_ h1]
 rw[k_ h1,k_ h1];by_cases h2:w=wG
 .rw[f_ h2,f_ h2]
 rw[k_ h2,k_ h2];by_cases a:w=wB
 .rw[f_ a,f_ a]
 rw[k_ a,k_ a];by_cases Y:w=wC
 .rw[f_ Y,f_ Y]
 rw[k_ Y,k_ Y];by_cases I:w=wF
 .rw[f_ I,show q_ (w=n_ "flight")=d_ from x_ I]
 .rw[k_ I,show q_ (w=n_ "flight")=b_ from p9 I]
def row_none(n:Nat)(s:DSt):bJ s.D []=.ok (d_,s.D):=by rfl
end
def Tb(k:Nat)(G:List (cc×A3))(t:Nat->Nat->Int):Prop:=∀a c,a<k->c<k->(Es G [(a:Int),(c:Int)]).getD (.int 0)=.int (t a c)
section
variable(CR CP CS CW CD:e_)
theorem Nm.l100(h:Nm x):x.length<=100:=by have:=h.l8;lia
noncomputable def xW(r:cc)(c:Nat):Int:=r.getD c 0
end
theorem Fl1.bfl{k:Nat}{f:Fli}(h:Fl1 k f):BFl k f:=by obtain⟨k0,k1,a,b,c,d,e⟩:=h;constructor<;>lia
noncomputable def tabL(k:Nat)(t:Nat->Nat->Int):List cc:=(Iw k).map λi=>(Iw k).map λj=>t i j
def rangeD(k:Nat):i6 0 k=(Iw k).map λi:Nat=>A3.int (i:Int):=by simp[i6]
theorem xy{k:Nat}(h:eQ k rows):tabL k (λa c=>xW (rows.getD a []) c)=rows:=by refine OR (by simp[tabL,h.1]) λi h1 h2=>?_;have I:=h.2 rows[i] (JV h2);refine OR (by simp[tabL,I.1]) λj b Y=>?_;simp_all[tabL,xW]
section
variable(CR CP CS CW CD:e_)
theorem ph(n:Nat){k:Nat}(d:k<=6){G:List (cc×A3)}{t:Nat->Nat->Int}(h:Tb k G t):iH [.dic G,.int k]=.ok (b6 (tabL k t)):=by
 have k1:(-4611686018427387904:Int)<=(k:Int):=ad
 have k2:(k:Int)<4611686018427387904:=ad
 have k3:((k:Int)).toNat=k:=ad
 have I:k<=16777216:=ad
 have Y:∀i,i<k->kB [.dic G,.int (i:Nat),.int k]=.ok (qT ((Iw k).map λj=>t i j)):=λi hi=>by
  have a:bx (.nm 0) gZ (yO (ah 1) (fL iU (aa (ah 2) (aa (ah 0) aB))) (bm 0)) [c_,a_ (.dic G),a_ (.int (i:Nat))] ((Iw k).map λj:Nat=>A3.int (j:Int))=.ok ((Iw k).map λj=>A3.int (t i j)):=
   dX _ _ _ λj c=>⟨[a_ (.int (j:Int)),a_ (.dic G),a_ (.int (i:Nat))],am,by have:=h i j hi (List.mem_range.mp c);have b:keyD (.tup [.int (i:Nat),.int (j:Nat)])=.ok [(i:Int),(j:Int)]:=rfl;simp[yO,isDic,Ge,b,this]⟩
  simp[kB,yJ,k1,k2,k3,rangeD,I,a];simp[qT]
 have a:bx (.nm 0) gZ (fL (kB) (aa (ah 1) (aa (ah 0) (aa (ah 2) aB)))) [c_,a_ (.dic G),a_ (.int k)] ((Iw k).map λj:Nat=>A3.int (j:Int))=.ok ((Iw k).map λi=>qT ((Iw k).map λj=>t i j)):=
  dX _ _ _ λi hi=>⟨[a_ (.int (i:Int)),a_ (.dic G),a_ (.int k)],am,by simp[Y i (List.mem_range.mp hi)]⟩
 simp[iH,rN,k1,k2,k3,rangeD,I,a];simp[b6,tabL]
end
structure Sht.SG(w:Sht):Prop where
 k1:1<=w.ks.length
 k6:w.ks.length<=6
 kn:∀k∈w.ks,Nm k
 kd:w.ks.Nodup
 rows:eQ w.ks.length w.rows
 o:∀r2,w.o=a_ r2->eQ w.ks.length r2
 nm:w.nf.length<=40
 nn:∀p∈w.nf,Nm p.1/\Fl1 w.ks.length p.2
 nd:(w.nf.map (·.1)).Nodup
 cm:w.cs.length<=20
 cl:∀p∈w.cs,St1 p
theorem Sht.SG.good{w:Sht}(h:w.SG):w.Good:=⟨h.k1,h.k6,λk Y=>(h.kn k Y).l100,h.rows,h.o,h.nm,λp I=>⟨(h.nn p I).1.l100,(h.nn p I).2.bfl⟩,h.cm,λp I=>by obtain⟨a,b,c⟩:=h.cl p I;lia⟩
abbrev tR(rows:List cc):Nat->Nat->Int:=λa c=>xW (rows.getD a []) c
structure Desc(s:DSt)(w:Sht):Prop where
 ks:s.ks=w.ks
 nf:s.nf=w.nf
 cs:s.cs=w.cs
 g:Tb w.ks.length s.G (tR w.rows)
 b0:w.o=c_->s.B=[]
 b1:∀r2,w.o=a_ r2->s.B≠[]/\Tb w.ks.length s.B (tR r2)
section
variable{CR:e_}
theorem dr_at(s:DSt):bO [CD] "kinds" (drD CD s.D)=.ok (.lst (s.ks.map .str))/\bO [CD] "gaps" (drD CD s.D)=.ok (.dic s.G)/\bO [CD] "beside" (drD CD s.D)=.ok (.dic s.B)/\bO [CD] "names" (drD CD s.D)=.ok (.lst ((s.nf.map (·.1)).map .str))/\bO [CD] "flights" (drD CD s.D)=.ok (.lst ((s.nf.map (·.2)).map flD))/\bO [CD] "closed" (drD CD s.D)=.ok (.lst (s.cs.map stD)):=by
 have key:∀(y:m_) (d:A3),((["kinds","gaps","beside","names","flights","closed"]:b8).zip s.D).lookup y=a_ d->bO [CD] y (drD CD s.D)=.ok d:=λy d h=>by show(if ([CD].contains CD)=d_ then(match ((["kinds","gaps","beside","names","flights","closed"]:b8).zip s.D).lookup y with|some d=>Hr d|none=>stk)else stk)=_;simp_all
 exact⟨key _ _ (by rfl),key _ _ (by rfl),key _ _ (by rfl),key _ _ (by rfl),key _ _ (by rfl),key _ _ (by rfl)⟩
def DZ(n:Nat){s:DSt}{w:Sht}(h:w.SG)(d:Desc s w):cJ CR CP CS CW CD n [drD CD s.D]=.ok (w.ru CR CP):=by
 obtain⟨a1,e,c,_,_,_⟩:=dr_at (CD:=CD) s;have t1:=ph n h.k6 d.g;rw[xy h.rows]at t1;have g:s.ks.length=w.ks.length:=by rw[d.ks]
 rw[d.ks]at a1;cases I:w.o with
 |none=>
  have a:=d.b0 I;have e1:=new1 CR CP n h.k1 h.k6 h.rows;have b:w.ru CR CP=oZ CR CP w.rows .non:=by unfold Sht.ru Sht.bD;rw[I]
  rw[b];rw[a]at c;simp[cJ,iK,gL,a1,e,c,t1,e1]
 |some r2=>
  obtain⟨a,tb⟩:=d.b1 r2 I;have t2:=ph n h.k6 tb;rw[xy (h.o r2 I)]at t2;have e1:=new2 CR CP n h.k1 h.k6 h.rows (h.o r2 I);have b:w.ru CR CP=oZ CR CP w.rows (b6 r2):=by unfold Sht.ru Sht.bD;rw[I]
  rw[b];have Y:s.B.isEmpty=b_:=by cases f:s.B with
   |nil=>exact Ho f a|cons _ _=>rfl
  simp[cJ,iK,gL,a1,e,c,t1,t2,e1,Y]
end
noncomputable def DH(c:Nat):Bool:=q_ (97<=c/\c<=122)||q_ (48<=c/\c<=57)
noncomputable def AW(c:Nat):Bool:=q_ (48<=c/\c<=57)
theorem ix0'{r:ce}(e:z.cps.toList=c::r)(I:z.length<=16777216):uz (.str z) (.int 0)=.ok (.str ⟨#[c]⟩):=by show(if z.length<=h_ then _ else _)=_;simp_all[f_,Hu,atI,ixN]
def ma(x:m_)(c:Nat):Bool:=q_ (x.length<=8)&&q_ (97<=c/\c<=122)&&x.cps.toList.all DH
section
variable(CR CP CS CW CD:e_)
theorem AF(n:Nat){r:ce}(e:x.cps.toList=c::r)(o:x.length<=1000000):eD [.str x]=.ok (.bl (ma x c)):=by
 have I:x.length<=16777216:=ad
 have hsz:x.cps.size<=16777216:=I;have g:=ix0' e I;by_cases f:(8:Int)<(x.length:Int)
 .have:ma x c=b_:=by unfold ma;rw[p9 ad];rfl
  rw[this];simp[eD,kL,eY,I,gtD,f]
 .by_cases d:97<=c/\c<=122
  .have k:eY [a_ (.str x)]=.ok (.nx [a_ (.str x)]):=by
    simp[eY,I,gtD,f,g,(jm c).mpr d]
   have j:bx (.nm 0) gZ (AS (f2 G8 (ah 0) (fC (.str "abcdefghijklmnopqrstuvwxyz"))) (f2 G8 (ah 0) (fC (.str "0123456789")))) [c_] (x.cps.toList.map λc=>.str ⟨#[c]⟩)=.ok ((x.cps.toList.map DH).map A3.bl):=by
    rw[G_];refine dX _ _ _ λc l=>⟨[a_ (.str ⟨#[c]⟩)],am,?_⟩
    by_cases a:97<=c/\c<=122
    .simp[AS,(jm c).mpr a,DH,a]
    .have b:c∉(n_ "abcdefghijklmnopqrstuvwxyz").cps.toList:=λm=>a ((jm c).mp m);by_cases Y:48<=c/\c<=57
     .simp[AS,b,(kQ c).mpr Y,DH,Y]
     .have n2:c∉(n_ "0123456789").cps.toList:=λm=>Y ((kQ c).mp m);have i:DH c=b_:=by unfold DH;rw[p9 a,p9 Y];rfl
      simp[AS,b,n2,i]
   have h:ma x c=(x.cps.toList.map DH).all id:=by unfold ma;rw[x_ (show x.length<=8 by lia),x_ d,KA];rfl
   rw[h];simp[eD,kL,k,j,hsz,-G_,-KA]
  .have b:c∉(n_ "abcdefghijklmnopqrstuvwxyz").cps.toList:=λm=>d ((jm c).mp m);have:ma x c=b_:=by unfold ma;rw[p9 d,Jr];rfl
   rw[this];simp[eD,kL,eY,I,gtD,f,g,b]
end
def sM(x:m_)(c:Nat):Bool:=q_ (x.length<=10)&&x.cps.toList.all AW&& !(q_ (c=48)&& !decide (x="0"))
section
variable(CR CP CS CW CD:e_)
theorem Dt(n:Nat){r:ce}(e:x.cps.toList=c::r)(p:x.length<=1000000):bj [.str x]=.ok (if sM x c=d_ then .int (((IV x.cps.toList:Nat):Int))else .non):=by
 have I:x.length<=16777216:=ad
 have hsz:x.cps.size<=16777216:=I;have i:=ix0' e I;have f:bx (.nm 0) gZ (f2 G8 (ah 0) (fC (.str "0123456789"))) [c_] (x.cps.toList.map λc=>.str ⟨#[c]⟩)=.ok ((x.cps.toList.map AW).map A3.bl):=by
  rw[G_];refine dX _ _ _ λc o=>⟨[a_ (.str ⟨#[c]⟩)],am,?_⟩
  by_cases z:48<=c/\c<=57
  .simp[(kQ c).mpr z,AW,z]
  .have n2:c∉(n_ "0123456789").cps.toList:=λm=>z ((kQ c).mp m);have h:AW c=b_:=by unfold AW;rw[p9 z]
   simp[n2,h]
 by_cases a:(10:Int)<(x.length:Int)
 .have:sM x c=b_:=by unfold sM;rw[p9 ad];rfl
  rw[this];simp[bj,gJ,dh,I,gtD,a]
 .have Y:((x.cps.toList.map AW).all id)=x.cps.toList.all AW:=by rw[KA];rfl
  cases d:x.cps.toList.all AW with
  |false=>
   have:sM x c=b_:=by unfold sM;rw[d,Jr];rfl
   rw[this];rw[d]at Y;simp[bj,gJ,dh,I,gtD,a,f,hsz,Y,-G_,-KA]
  |true=>
   rw[d]at Y;have l:dh [a_ (.str x)]=.ok (.nx [a_ (.str x)]):=by simp[dh,I,gtD,a,f,hsz,Y,-G_,-KA]
   have g:(n_ "0")=⟨#[48]⟩:=by decide +kernel
   have e1:=FC c (n_ "0") 48 g;have e2:neM (.str x) (.str "0")=.ok (.bl (!decide (x="0"))):=by
    by_cases hw:x=(n_ "0")
    .rfl
    .rfl
   have hd:Jn x=a_ ((IV x.cps.toList:Nat):Int):=Nt (λc b=>by have:=IJ.mp d c b;unfold AW at this;exact Jk this) bb ad;have j:x.length<=640:=ad
   by_cases b:c=48/\¬x=(n_ "0")
   .have:sM x c=b_:=by unfold sM;rw[x_ b.1,p9 b.2];simp
    rw[this];have e3:eqM (.str ⟨#[c]⟩) (.str "0")=.ok (.bl d_):=by rw[e1];simp[b.1]
    have e4:neM (.str x) (.str "0")=.ok (.bl d_):=by rw[e2];simp[b.2]
    have k:ck [a_ (.str x)]=.ok (.rt .non):=by simp[ck,i,e3,e4]
    simp[bj,gJ,l,k]
   .have:sM x c=d_:=by
     unfold sM;rw[x_ (show x.length<=10 by lia),d];by_cases h1:c=48
     .lia
     .simp[h1]
    simp_all[ck,bj,gJ]
end
theorem wu{α:Type}{p:Pat}{ft:ai->M Bool}{fe:ai->M A3}{ρ0:ai}(g f:α->A3)(P:α->Bool):∀(L:List α),(∀x∈L,∃ρ,jZ p (g x) ρ0=.ok ρ/\ft ρ=.ok (P x)/\fe ρ=.ok (f x))->bx p ft fe ρ0 (L.map g)=.ok ((L.filter P).map f)
 |[],_=>rfl|x::L,h=>by
  obtain⟨ρ,e1,e2,e3⟩:=h x am;have I:=wu g f P L λy Y=>h y (by simp[Y]);rw[F_,bx,e1,aj,e2,aj];cases a:P x with
  |true=>rw[f_ rfl,e3,aj,I,List.filter_cons_of_pos a];rfl|false=>simp_all
noncomputable def pcs(c:Nat):ce->List ce
 |[]=>[[]]|x::r=>if x=c then []::pcs c r else match pcs c r with
  |p::ps=>(x::p)::ps|[]=>[[x]]
theorem pcs_ok(c:Nat):∀l:ce,pcs c l≠[]/\jn c (pcs c l)=l/\(∀p∈pcs c l,c∉p/\p.length<=l.length)/\(pcs c l).length<=l.length+1
 |[]=>⟨by simp[pcs],rfl,by simp[pcs],by simp[pcs]⟩|x::r=>by
  obtain⟨h1,h2,f,Y⟩:=pcs_ok c r;unfold pcs;cases e:pcs c r with
  |nil=>exact Ho e h1|cons p ps=>
   rw[e]at h2 f Y;by_cases d:x=c
   .rw[f_ d];refine⟨am,?_,λq I=>?_,by simpa using Y⟩
    .show []++c::jn c (p::ps)=_;simp_all
    .rcases t_.mp I with rfl|I
     .simp
     .obtain⟨a,b⟩:=f q I;exact⟨a,by simp;lia⟩
   .rw[k_ d];refine⟨am,?_,λq I=>?_,by simp at Y ⊢;lia⟩
    .rw[<- h2];cases ps with
     |nil=>rfl|cons y ys=>rfl
    grind
def qN(c:Nat)(x:m_):∃ps:b8,ps≠[]/\(∀p∈ps,p.length<=x.length)/\ps.length<=x.length+1/\Jl x ⟨#[c]⟩=ps:=by
 obtain⟨h1,h2,a,d⟩:=pcs_ok c x.cps.toList;have b:x=Iy ⟨#[c]⟩ ((pcs c x.cps.toList).map λl=>(⟨l.toArray⟩:m_)):=by
  refine zH ?_;rw[vV,G_];have:(pcs c x.cps.toList).map ((λx:m_=>x.cps.toList)∘λl=>(⟨l.toArray⟩:m_))=pcs c x.cps.toList:=by
   conv=>rhs;rw[<- NR (pcs c x.cps.toList)]
   exact ID λl _=>by simp
  rw[this,h2]
 refine⟨(pcs c x.cps.toList).map λl=>(⟨l.toArray⟩:m_),by simpa using h1,λp I=>?_,by rw[A_];exact d,?_⟩
 .obtain⟨l,Y,rfl⟩:=HL.mp I;have:=(a l Y).2;show l.toArray.size<=x.cps.size;simpa using this
 .conv=>lhs;rw[b]
  refine uZ c _ (by simpa using h1) λp I=>?_;obtain⟨l,Y,rfl⟩:=HL.mp I;show c∉l.toArray.toList;simpa using (a l Y).1
noncomputable def cE(x:m_):b8:=Jl x "\n"
noncomputable def iw(r:m_):b8:=(Jl r " ").filter λw=> !decide (w="")
def nl_is:(n_ "\n")=(⟨#[10]⟩:m_):=by rfl
def sp_is:(n_ " ")=(⟨#[32]⟩:m_):=by rfl
def BF(x:m_):cE x≠[]/\(∀p∈cE x,p.length<=x.length)/\(cE x).length<=x.length+1:=by
 obtain⟨ps,h1,h2,Y,I⟩:=qN 10 x;have:cE x=ps:=by unfold cE;rw[nl_is];exact I
 rw[this];exact⟨h1,h2,Y⟩
def WOk(w:m_):Prop:=w.cps.toList≠[]/\w.length<=1000000
theorem xj{r:m_}(Y:r.length<=1000000):∀w∈iw r,WOk w:=by
 obtain⟨ps,h1,h2,a,I⟩:=qN 32 r;intro w hw;unfold iw at hw;rw[sp_is,I,Iz]at hw;refine⟨λe=>?_,?_⟩
 .have:w=n_ "":=zH (by rw[e];rfl);lia
 .have:=h2 w hw.1;lia
theorem xk{r:m_}(Y:r.length<=1000000):(Jl r (n_ " ")).length<=16777216:=by obtain⟨ps,h1,h2,a,I⟩:=qN 32 r;rw[sp_is,I];lia
section
variable(CR CP CS CW CD:e_)
def Bl{r:m_}:bx (.nm 0) (fB (f2 neM (ah 0) (fC (.str "")))) (ah 0) [c_] ((Jl r " ").map .str)=.ok ((iw r).map .str):=by
 refine wu A3.str A3.str (λw=> !decide (w="")) _ λw _=>⟨[a_ (.str w)],am,?_,am⟩
 rfl
theorem Ey(n:Nat){r:m_}(b:r.length<=1000000):gG [.str r]=.ok (.lst ((iw r).map .str)):=by
 have a:(n_ " ").length=1:=by decide +kernel
 have Y:r.length+2<=16777216:=ad
 have I:=xk b;have c:=Bl (r:=r);simp[gG,uC,a,Y,I,c,iJ]
theorem DD(n:Nat){r:m_}(b:r.length<=1000000):j0 [.str r]=.ok (.lst ((iw r).map .str)):=by
 have a:(n_ " ").length=1:=by decide +kernel
 have Y:r.length+2<=16777216:=ad
 have I:=xk b;have c:=Bl (r:=r);simp[j0,px,a,Y,I,c,iJ]
end
def jv(x:m_):Bool:=match x.cps.toList with
 |[]=>b_|c::_=>ma x c
def dD(x:m_):Option Int:=match x.cps.toList with
 |[]=>c_|c::_=>if sM x c=d_ then a_ ((IV x.cps.toList:Nat):Int)else c_
noncomputable def mK:Option Int->A3
 |none=>.non|some i=>.int i
def mO(x:m_)(m:Int):Int:=match dD x with
 |none=> -1|some k=>if m<k then -1 else k
section
variable(CR CP CS CW CD:e_)
def vQ(n:Nat)(h:WOk x):eD [.str x]=.ok (.bl (jv x)):=by
 obtain⟨h1,h2⟩:=h;unfold jv;cases e:x.cps.toList with
 |nil=>exact Ho e h1|cons c r=>exact AF n e h2
def ky(n:Nat)(h:WOk x):bj [.str x]=.ok (mK (dD x)):=by
 obtain⟨h1,h2⟩:=h;have e2:∀c r,x.cps.toList=c::r->dD x=if sM x c=d_ then a_ ((IV x.cps.toList:Nat):Int)else c_:=λc r e=>by unfold dD;rw[e]
 cases e:x.cps.toList with
 |nil=>exact Ho e h1|cons c r=>rw[Dt n e h2,e2 c r e];cases sM x c<;>rfl
def ld_mem(c:Nat):c∈(n_ "abcdefghijklmnopqrstuvwxyz0123456789").cps.toList↔DH c=d_:=by
 have:(n_ "abcdefghijklmnopqrstuvwxyz0123456789").cps.toList=(n_ "abcdefghijklmnopqrstuvwxyz").cps.toList++(n_ "0123456789").cps.toList:=by decide +kernel
 rw[this,HR,jm,kQ];unfold DH;simp
def eq_chars(l:ce):eqM (.lst (l.map λc=>A3.str ⟨#[c]⟩)) (.lst [])=.ok (.bl l.isEmpty):=by
 have e:l.map (λc=>A3.str ⟨#[c]⟩)=(l.map λc=>(⟨#[c]⟩:m_)).map A3.str:=by rw[G_];rfl
 rw[e];have h1:C' (.lst ((l.map λc=>(⟨#[c]⟩:m_)).map A3.str)) 40=d_:=m8 _ 39;show(if (C' (.lst ((l.map λc=>(⟨#[c]⟩:m_)).map A3.str)) 40&&C' (.lst []) 40)=d_ then _ else _)=_;rw[f_ (by rw[h1];rfl)];cases l<;>rfl
def ne_chars(l:ce):neM (.lst (l.map λc=>A3.str ⟨#[c]⟩)) (.lst [])=.ok (.bl (!l.isEmpty)):=by
 have e:l.map (λc=>A3.str ⟨#[c]⟩)=(l.map λc=>(⟨#[c]⟩:m_)).map A3.str:=by rw[G_];rfl
 rw[e];have h1:C' (.lst ((l.map λc=>(⟨#[c]⟩:m_)).map A3.str)) 40=d_:=m8 _ 39;show(if (C' (.lst ((l.map λc=>(⟨#[c]⟩:m_)).map A3.str)) 40&&C' (.lst []) 40)=d_ then _ else _)=_;rw[f_ (by rw[h1];rfl)];cases l<;>rfl
theorem Cp(P:Nat->Bool)(l:ce):(l.filter λc=> !P c).isEmpty=l.all P:=by
 induction l with
 |nil=>rfl|cons c l I=>grind
theorem Du(P:Nat->Bool)(s:m_)(h:∀c,c∈s.cps.toList↔P c=d_)(c:Nat):kz (.str ⟨#[c]⟩) (.str s)=.ok (.bl (!P c)):=by simp_all
def Gj(P:Nat->Bool)(s:m_)(h:∀c,c∈s.cps.toList↔P c=d_)(x:m_):bx (.nm 0) (fB (f2 kz (ah 0) (fC (.str s)))) (ah 0) [c_] (x.cps.toList.map λc=>.str ⟨#[c]⟩)=.ok ((x.cps.toList.filter λc=> !P c).map λc=>.str ⟨#[c]⟩):=by
 refine wu (λc:Nat=>A3.str ⟨#[c]⟩) (λc:Nat=>A3.str ⟨#[c]⟩) (λc=> !P c) _ λc _=>⟨[a_ (.str ⟨#[c]⟩)],am,?_,am⟩
 have e:=Du P s h c;simp[e]
theorem yB(n:Nat)(h:WOk x):cu [.str x]=.ok (.bl (jv x)):=by
 obtain⟨h1,h2⟩:=h;have I:x.length<=16777216:=ad
 have hsz:x.cps.size<=16777216:=I;unfold jv;cases e:x.cps.toList with
 |nil=>exact Ho e h1|cons c r=>
  dsimp only;have d:=ix0' e I;have j:=Gj DH _ ld_mem x;have f:=eq_chars (x.cps.toList.filter λc=> !DH c);rw[Cp]at f;have a:¬((x.length:Int)<1):=by have:x.length=x.cps.toList.length:=rfl;rw[this,e];simp;lia
  by_cases b:(8:Int)<(x.length:Int)
  .have:ma x c=b_:=by unfold ma;rw[p9 ad];rfl
   rw[this];simp[cu,gO,dz,I,gtD,ltD,b,a]
  .by_cases Y:97<=c/\c<=122
   .have k:dz [a_ (.str x)]=.ok (.nx [a_ (.str x)]):=by
     simp[dz,I,gtD,ltD,b,a,d,(jm c).mpr Y]
    have g:ma x c=x.cps.toList.all DH:=by unfold ma;rw[x_ (show x.length<=8 by lia),x_ Y];rfl
    rw[g];simp[cu,gO,k,j,hsz,f,-G_]
   .have i:c∉(n_ "abcdefghijklmnopqrstuvwxyz").cps.toList:=λm=>Y ((jm c).mp m);have:ma x c=b_:=by unfold ma;rw[p9 Y,Jr];rfl
    rw[this];simp[cu,gO,dz,I,gtD,ltD,b,a,d,i]
def dg_mem(c:Nat):c∈(n_ "0123456789").cps.toList↔AW c=d_:=by rw[kQ];unfold AW;simp
theorem jQ(n:Nat)(h:WOk x)(m:Int):bz [.str x,.int m]=.ok (.int (mO x m)):=by
 obtain⟨h1,h2⟩:=h;have I:x.length<=16777216:=ad
 have hsz:x.cps.size<=16777216:=I;cases e:x.cps.toList with
 |nil=>exact Ho e h1|cons c r=>
  have l:=ix0' e I;have hw:mO x m=if sM x c=d_ then(if m<((IV x.cps.toList:Nat):Int)then -1 else((IV x.cps.toList:Nat):Int))else -1:=by unfold mO dD;rw[e];dsimp only;cases sM x c<;>rfl
  have p:=Gj AW _ dg_mem x;have f:=ne_chars (x.cps.toList.filter λc=> !AW c);rw[Cp]at f;have j:¬((x.length:Int)<1):=by have:x.length=x.cps.toList.length:=rfl;rw[this,e];simp;lia
  by_cases b:(10:Int)<(x.length:Int)
  .have:sM x c=b_:=by unfold sM;rw[p9 ad];rfl
   rw[hw,this];simp[bz,fK,eN,I,gtD,ltD,b,j]
  .cases d:x.cps.toList.all AW with
   |false=>
    have:sM x c=b_:=by unfold sM;rw[d,Jr];rfl
    rw[hw,this];rw[d]at f;simp[bz,fK,eN,I,gtD,ltD,b,j,p,hsz,f,-G_]
   |true=>
    rw[d]at f;have k:eN [a_ (.str x),a_ (.int m)]=.ok (.nx [a_ (.str x),a_ (.int m)]):=by simp[eN,I,gtD,ltD,b,j,p,hsz,f,-G_]
    have q:(n_ "0")=⟨#[48]⟩:=by decide +kernel
    have e1:=FC c (n_ "0") 48 q;have e2:neM (.str x) (.str "0")=.ok (.bl (!decide (x="0"))):=by
     by_cases hw:x=(n_ "0")
     .rfl
     .rfl
    have hd:Jn x=a_ ((IV x.cps.toList:Nat):Int):=Nt (λc a=>by have:=IJ.mp d c a;unfold AW at this;exact Jk this) (by rw[e];simp) ad;have Y:x.length<=640:=ad
    have o:(sM x c=d_)↔¬(c=48/\¬x=(n_ "0")):=by unfold sM;rw[x_ (show x.length<=10 by lia),d];by_cases h1:c=48<;>by_cases h2:x=n_ "0"<;>simp[h1,h2]
    by_cases a:c=48/\¬x=(n_ "0")
    .have:sM x c=b_:=by
      cases s:sM x c with
      |false=>rfl|true=>exact Ho a (o.mp s)
     rw[hw,this];have e3:eqM (.str ⟨#[c]⟩) (.str "0")=.ok (.bl d_):=by rw[e1];simp[a.1]
     have e4:neM (.str x) (.str "0")=.ok (.bl d_):=by rw[e2];simp[a.2]
     have g:cA [a_ (.str x),a_ (.int m)]=.ok (.rt (.int (-1))):=by simp[cA,l,e3,e4]
     simp[bz,fK,k,g]
    .rw[hw,o.mpr a];have ft:(rV (fB (f2 eqM (f2 uz (ah 0) (bm 0)) (fC (.str "0")))) (fB (f2 neM (ah 0) (fC (.str "0"))))) [a_ (.str x),a_ (.int m)]=.ok b_:=by
      by_cases h1:c=48
      .have h2:x=(n_ "0"):=Ih λz=>a ⟨h1,z⟩;have e3:eqM (.str ⟨#[c]⟩) (.str "0")=.ok (.bl d_):=by rw[e1];simp[h1]
       have e4:neM (.str x) (.str "0")=.ok (.bl b_):=by rw[e2];simp[h2]
       simp[l,e3,e4]
      .simp_all
     by_cases i:m<((IV x.cps.toList:Nat):Int)
     .have g:cA [a_ (.str x),a_ (.int m)]=.ok (.rt (.int (-1))):=by
       unfold cA;rw[e_if,e_or,ft];simp[Y,hd,gtD,i]
      rw[f_ rfl,f_ i];simp[bz,fK,k,g]
     .have g:cA [a_ (.str x),a_ (.int m)]=.ok (.nx [a_ (.str x),a_ (.int m)]):=by
       unfold cA;rw[e_if,e_or,ft];simp[Y,hd,gtD,i]
      rw[f_ rfl,k_ i];simp[bz,fK,k,g,Y,hd]
end
def run_rt{nN:Nat}{g:ai->M A9}{ds:bv}{x:A3}(I:ds.length=n)(h:g (ds.map a_++Ie (nN-ds.length) c_)=.ok (.rt x)):bH nN n g ds=.ok x:=by rw[e_run,f_ I,h];rfl
def neI(a b:Int):neM (.int a) (.int b)=.ok (.bl (!decide (a=b))):=by rfl
def eqI(a b:Int):eqM (.int a) (.int b)=.ok (.bl (q_ (a=b))):=by rfl
def eqS(a b:m_):eqM (.str a) (.str b)=.ok (.bl (q_ (a=b))):=by rfl
def neS(a b:m_):neM (.str a) (.str b)=.ok (.bl (!decide (a=b))):=by rfl
theorem jO(h:dD x=a_ i):0<=i:=by
 unfold dD at h;split at h
 .cases h
 .split at h
  .cases h;lia
  .cases h
theorem BY(h:jv x=d_):Nm x:=by
 unfold jv at h;split at h
 .lia
 .rename_i c r e;unfold ma at h;simp only[o_,Hx]at h;obtain⟨⟨h1,h2⟩,I⟩:=h;refine⟨⟨bb,λd hd=>?_⟩,h1,c,r,e,h2.1,h2.2⟩
  have:=IJ.mp I d hd;unfold DH at this;simpa[lowD] using this
noncomputable def kI(ks:b8)(x:m_):Nat:=(Ca ks x).getD 0
theorem vU(h:x∈ks):Ca ks x=a_ (kI ks x)/\kI ks x<ks.length/\ks[kI ks x]?=a_ x:=by
 have I:(Ca ks x).isSome=d_:=by unfold Ca;rw[List.findIdx?_isSome];exact Mj.mpr ⟨x,h,am⟩
 cases e:Ca ks x with
 |none=>simp_all|some i=>
  have Y:kI ks x=i:=by unfold kI;rw[e];rfl
  unfold Ca at e;obtain⟨hi,h1,_⟩:=Kb.mp e;simp_all
section
variable(CR CP CS CW CD:e_)
theorem uV(n:Nat){W:bv}(h:W.length≠2):bB [.lst (ks.map .str),.lst W]=.ok .non:=by have e:=neI W.length 2;rw[p9 ad]at e;simp[bB,gH,dZ,e]
theorem uW(n:Nat)(h:WOk x):bB [.lst (ks.map .str),.lst [.str w,.str x]]=.ok (if (q_ (ks.length<6)&&jv x&& !decide (x∈ks))=d_ then .str x else .non):=by
 have e1:=vQ n h;have e2:=rq x ks;have e3:=vP 2 2 rfl;have Y:gV [.str w,.str x] 1=.ok (.str x):=rfl;by_cases b:ks.length<6
 .have e4:¬(6:Int)<=(ks.length:Int):=ad
  rw[x_ b];cases a:jv x with
  |false=>rw[a]at e1;simp[bB,gH,dZ,e1,e3,e4,Y]|true=>
   rw[a]at e1;by_cases I:x∈ks
   .rw[x_ I]at e2;simp[bB,gH,dZ,e1,e2,e3,e4,Y,I]
   .rw[p9 I]at e2;simp[bB,gH,dZ,e1,e2,e3,e4,Y,I]
 .have e4:(6:Int)<=(ks.length:Int):=ad
  rw[p9 b];simp[bB,gH,dZ,e3,e4]
theorem xt(n:Nat){W:bv}(h:W.length≠4):bw [.lst (ks.map .str),.lst W]=.ok .non:=by have e:=neI W.length 4;rw[p9 ad]at e;simp[bw,gI,dP,e]
def DN(n:Nat):g9 [.non]=.ok (.bl b_):=by rfl
theorem DO(n:Nat)(h:1000000<i):g9 [.int i]=.ok (.bl b_):=by
 have h2:¬i<=1000000:=ad
 have I:0<=i:=ad
 simp[g9,qq,lG,jA,h2,I]
theorem xu(n:Nat)(h:WOk v):bw [.lst (ks.map .str),.lst [.str w,.str x,.str y,.str v]]=.ok (if x∈ks/\y∈ks then(match dD v with
  |some i=>if i<=1000000 then .tup [.int (kI ks x),.int (kI ks y),.int i]else .non
  |none=>.non)else .non):=by
 have e1:=ky n h;have e3:=vP 4 4 rfl;have m1:=rq x ks;have I:=rq y ks;have c:gV [.str w,.str x,.str y,.str v] 1=.ok (.str x):=rfl;have g2:gV [.str w,.str x,.str y,.str v] 2=.ok (.str y):=rfl;have b:gV [.str w,.str x,.str y,.str v] 3=.ok (.str v):=rfl;by_cases a:x∈ks
 .by_cases Y:y∈ks
  .rw[x_ a]at m1;rw[x_ Y]at I;rw[f_ ⟨a,Y⟩];cases hv:dD v with
   |none=>rw[hv]at e1;have e2:=DN n;simp[bw,gI,dP,e1,e2,e3,m1,I,c,g2,b,mK]|some i=>
    rw[hv]at e1;have f:=jO hv;dsimp only;by_cases hi:i<=1000000
    .have e2:=yF n i f hi;have e:=(vU a).1;have d:=(vU Y).1;simp[bw,gI,dP,e1,e2,e3,m1,I,e,d,c,g2,b,iz,isL,mK,hi]
    .have e2:=DO n (i:=i) ad;simp[bw,gI,dP,e1,e2,e3,m1,I,c,g2,b,mK,hi]
  .rw[x_ a]at m1;rw[p9 Y]at I;rw[k_ (λz=>Y z.2)];simp[bw,gI,dP,e3,m1,I,c,g2,b]
 simp_all[p9,k_,bw,gI,dP]
theorem pC(n:Nat){W:bv}(h:W.length≠3):aW [.lst (cs.map stD),.lst W]=.ok .non:=by have e:=neI W.length 3;rw[p9 ad]at e;simp[aW,cv,bN,e]
noncomputable def stB(p:uQ):Bool:=q_ (0<=p.1)&&(q_ (p.1<p.2)&&q_ (p.2<=1000000000))
def Bx{p:uQ}:stB p=d_↔St1 p:=by simp[stB,St1]
def tm(n:Nat)(p:uQ):gU [stD p]=.ok (.bl (stB p)):=by have a:gV [.int p.1,.int p.2] 0=.ok (.int p.1):=rfl;have Y:gV [.int p.1,.int p.2] 1=.ok (.int p.2):=rfl;unfold stB;by_cases I:0<=p.1<;>by_cases h1:p.1<p.2<;>by_cases h2:p.2<=1000000000<;>simp[gU,pk,kU,stD,a,Y,I,h1,h2]
theorem vX(n:Nat)(h:∀p∈cs,St1 p)(g:cs.length<=20)(p:uQ):iG [.lst ((cs++[p]).map stD)]=.ok (.bl (q_ (cs.length<20)&&stB p)):=by
 have Y:bx (.nm 0) gZ (fL (gU) (aa (ah 0) aB)) [c_] ((cs++[p]).map stD)=.ok (((cs++[p]).map stB).map A3.bl):=by rw[G_];exact dX _ _ _ λp f=>⟨[a_ (stD p)],am,by simp[tm n p]⟩
 have al:((cs++[p]).map stB).all id=stB p:=by
  rw[IG,List.all_append,List.map_singleton,Pp,List.all_nil,Pu];have:(cs.map stB).all id=d_:=IJ.mpr λb d=>by obtain⟨q,a,rfl⟩:=HL.mp d;exact Bx.mpr (h q a)
  rw[this];rfl
 have h2:cs.length+1<=16777216:=ad
 by_cases h1:cs.length<20
 .have I:(cs.length:Int)+1<=20:=ad
  rw[x_ h1];generalize e:(cs++[p]).map stB=L at Y al;have c:L.length=cs.length+1:=by rw[<- e];simp
  simp[iG,mx,I,h2,Y,iJ,al,hZ,-IG]
 .have I:¬(cs.length:Int)+1<=20:=ad
  rw[p9 h1];simp[iG,mx,I,hZ]
theorem pD(n:Nat)(g:WOk x)(f:WOk y)(h:∀p∈cs,St1 p)(k:cs.length<=20):aW [.lst (cs.map stD),.lst [.str w,.str x,.str y]]=.ok (match dD x,dD y with
  |some i,a_ j=>if (q_ (cs.length<20)&&stB (i,j))=d_ then stD (i,j)else .non
  |_,_=>.non):=by
 have e1:=ky n g;have e2:=ky n f;have e3:=vP 3 3 rfl;have Y:gV [.str w,.str x,.str y] 1=.ok (.str x):=rfl;have g2:gV [.str w,.str x,.str y] 2=.ok (.str y):=rfl;cases ex:dD x with
 |none=>
  rw[ex]at e1;have I:∀d:A3,(d=.non\/∃i,d=.int i)->iE .non (.tup [.non,d])=.ok (.bl b_):=λd hd=>by rcases hd with rfl|⟨i,rfl⟩<;>rfl
  cases a:dD y with
  |none=>rw[a]at e2;simp[aW,cv,bN,e1,e2,e3,Y,g2,mK,I .non (.inl rfl)]|some j=>rw[a]at e2;simp[aW,cv,bN,e1,e2,e3,Y,g2,mK,I (.int j) (.inr ⟨j,rfl⟩)]
 |some i=>
  rw[ex]at e1;cases a:dD y with
  |none=>rw[a]at e2;have I:iE .non (.tup [.int i,.non])=.ok (.bl b_):=rfl;simp[aW,cv,bN,e1,e2,e3,Y,g2,mK,I]|some j=>
   rw[a]at e2;have I:iE .non (.tup [.int i,.int j])=.ok (.bl d_):=rfl;have b:=vX n h k (i,j);have e:cR (.lst (cs.map stD)) (.lst [.tup [.int i,.int j]])=.ok (.lst ((cs++[(i,j)]).map stD)):=by
    have:cs.length+1<=16777216:=ad
    simp[cR,stD,this]
   dsimp only;cases c:(q_ (cs.length<20)&&stB (i,j))with
   |true=>rw[c]at b;simp[aW,cv,bN,e1,e2,e3,Y,g2,mK,I,e,b,-IG];rfl|false=>rw[c]at b;simp[aW,cv,bN,e1,e2,e3,Y,g2,mK,I,e,b,-IG]
end
noncomputable def rgB(x:Int):Bool:=q_ (0<=x)&&q_ (x<=1000000000)
def flB(f:Fli):Bool:=q_ (f.first<=f.last)&&(rgB f.first&&(rgB f.last&&(rgB f.due&&rgB f.price)))
def in_non(p q r s:Option Int):inM .non (.lst [mK p,mK q,mK r,mK s])=.ok (.bl (p.isNone||(q.isNone||(r.isNone||s.isNone)))):=by cases p<;>cases q<;>cases r<;>cases s<;>rfl
def flB_ok{k:Nat}{f:Fli}(h:flB f=d_)(e:0<=f.kind)(h1:f.kind<k):Fl1 k f:=by unfold flB rgB at h;simp only[o_,Hx]at h;obtain⟨h2,⟨d,i⟩,⟨g,c⟩,⟨b,a⟩,Y,I⟩:=h;exact⟨e,h1,d,h2,c,⟨b,a⟩,⟨Y,I⟩⟩
def FH(a b c d:m_):Option (Int×Int×Int×Int):=match dD a,dD b,dD c,dD d with
 |some a,a_ b,a_ c,a_ d=>a_ (a,b,c,d)|_,_,_,_=>c_
section
variable(CR CP CS CW CD:e_)
def j4(n:Nat)(x:Int):g8 [.int x]=.ok (.bl (rgB x)):=by unfold rgB;by_cases h1:0<=x<;>by_cases h2:x<=1000000000<;>simp[g8,nK,jA,h1,h2]
def Fi(n:Nat)(f:Fli):bC [flD f]=.ok (.bl (flB f)):=by
 have Y:gV [.int f.kind,.int f.first,.int f.last,.int f.due,.int f.price] 1=.ok (.int f.first):=rfl;have g2:gV [.int f.kind,.int f.first,.int f.last,.int f.due,.int f.price] 2=.ok (.int f.last):=rfl;have es:bR (.tup [.int f.kind,.int f.first,.int f.last,.int f.due,.int f.price]) (a_ 1) c_=.ok (.tup [.int f.first,.int f.last,.int f.due,.int f.price]):=by simp[bR,wZ,cX]
 have d:=j4 n f.first;have r2:=j4 n f.last;have c:=j4 n f.due;have b:=j4 n f.price;have a:bx (.nm 0) gZ (fL (g8) (aa (ah 0) aB)) [c_] [.int f.first,.int f.last,.int f.due,.int f.price]=.ok ([rgB f.first,rgB f.last,rgB f.due,rgB f.price].map A3.bl):=by simp[bx,d,r2,c,b]
 unfold flB;generalize e:[rgB f.first,rgB f.last,rgB f.due,rgB f.price]=L at a;have al:L.all id=(rgB f.first&&(rgB f.last&&(rgB f.due&&rgB f.price))):=by rw[<- e];simp
 by_cases I:f.first<=f.last
 .rw[x_ I];simp[bC,eV,flD,Y,g2,es,a,al,I,hZ,iJ]
 .rw[p9 I];simp[bC,eV,flD,Y,g2,I,hZ]
theorem qI(n:Nat){W:bv}(h:W.length≠7):aY [.lst (ks.map .str),.lst (ns.map .str),.lst W]=.ok .non:=by have e:=neI W.length 7;rw[p9 ad]at e;simp[aY,de,cQ,e]
theorem qJ(n:Nat){k a b c d:m_}(h1:WOk nm)(R:WOk a)(Q:WOk b)(P:WOk c)(hd:WOk d):
  aY [.lst (ks.map .str),.lst (ns.map .str),.lst [.str w,.str nm,.str k,.str a,.str b,.str c,.str d]]=.ok (if (q_ (ns.length<40)&&(q_ (k∈ks)&&(jv nm&& !decide (nm∈ns))))=d_ then(match FH a b c d with
   |some (a,b,c,d)=>if flB ⟨kI ks k,a,b,c,d⟩=d_ then flD ⟨kI ks k,a,b,c,d⟩else .non
   |none=>.non)else .non):=by
 have e3:=vP 7 7 rfl;have m1:=rq k ks;have o:=inS nm ns;have e5:=vQ n h1;have O:=ky n R;have n2:=ky n Q;have N:=ky n P;have L:=ky n hd;generalize r:([.str w,.str nm,.str k,.str a,.str b,.str c,.str d]:bv)=W;have y:W.length=7:=by rw[<- r];rfl
 have A:gV W 1=.ok (.str nm):=by rw[<- r];rfl
 have g2:gV W 2=.ok (.str k):=by rw[<- r];rfl
 have s:∀x,de [a_ (.lst (ks.map .str)),a_ (.lst (ns.map .str)),a_ (.lst W),c_,c_]=.ok (.rt x)->aY [.lst (ks.map .str),.lst (ns.map .str),.lst W]=.ok x:=λx h=>run_rt rfl h;have i:cQ [a_ (.lst (ks.map .str)),a_ (.lst (ns.map .str)),a_ (.lst W),c_,c_]=.ok (if ns.length<40/\k∈ks then .nx [a_ (.lst (ks.map .str)),a_ (.lst (ns.map .str)),a_ (.lst W),c_,c_]else .rt .non):=by
  by_cases E:ns.length<40
  .have e4:¬(40:Int)<=(ns.length:Int):=ad
   by_cases q:k∈ks
   .rw[x_ q]at m1;simp[cQ,y,e3,e4,g2,m1,E,q]
   .rw[p9 q]at m1;simp[cQ,y,e3,e4,g2,m1,q]
  .have e4:(40:Int)<=(ns.length:Int):=ad
   simp[cQ,y,e3,e4,E]
 have j:dQ [a_ (.lst (ks.map .str)),a_ (.lst (ns.map .str)),a_ (.lst W),c_,c_]=.ok (if jv nm=d_/\nm∉ns then .nx [a_ (.lst (ks.map .str)),a_ (.lst (ns.map .str)),a_ (.lst W),c_,c_]else .rt .non):=by
  cases D:jv nm with
  |false=>rw[D]at e5;simp[dQ,A,e5]|true=>
   rw[D]at e5;by_cases p:nm∈ns
   .rw[x_ p]at o;simp[dQ,A,e5,o,p]
   .rw[p9 p]at o;simp[dQ,A,e5,o,p]
 by_cases m:ns.length<40/\k∈ks
 rotate_left
 .rw[k_ m]at i;rw[k_ (λz=>m (by simp at z;exact⟨z.1,z.2.1⟩))];exact s _ (by unfold de;rw[nU,i,aj])
 rw[f_ m]at i;by_cases v:jv nm=d_/\nm∉ns
 rotate_left
 .rw[k_ v]at j;rw[k_ (λz=>v (by simp at z;exact z.2.2))];exact s _ (by unfold de;rw[nU,i,aj];dsimp only;rw[nU,j,aj])
 rw[f_ v]at j;rw[f_ bb];have es:bR (.lst W) (a_ 3) c_=.ok (.lst [.str a,.str b,.str c,.str d]):=by rw[<- r];simp[bR,wZ,cX]
 have T:bx (.nm 0) gZ (fL (bj) (aa (ah 0) aB)) [c_] [.str a,.str b,.str c,.str d]=.ok [mK (dD a),mK (dD b),mK (dD c),mK (dD d)]:=by simp[bx,O,n2,N,L]
 have l:aV [] 3 (dm (fIt (fSl bR (ah 2) (dC (bm 3)) gF)) [c_] (.nm 0) gZ (fL (bj) (aa (ah 0) aB))) [a_ (.lst (ks.map .str)),a_ (.lst (ns.map .str)),a_ (.lst W),c_,c_]=.ok (.nx [a_ (.lst (ks.map .str)),a_ (.lst (ns.map .str)),a_ (.lst W),a_ (.lst [mK (dD a),mK (dD b),mK (dD c),mK (dD d)]),c_]):=by simp[es,T,iJ]
 have C:=in_non (dD a) (dD b) (dD c) (dD d);have G:=(vU m.2).1;have g:iP [a_ (.lst (ks.map .str)),a_ (.lst (ns.map .str)),a_ (.lst W),a_ (.lst [mK (dD a),mK (dD b),mK (dD c),mK (dD d)]),c_]=.ok (if ((dD a).isNone||((dD b).isNone||((dD c).isNone||(dD d).isNone)))=d_ then .rt .non else .nx [a_ (.lst (ks.map .str)),a_ (.lst (ns.map .str)),a_ (.lst W),a_ (.lst [mK (dD a),mK (dD b),mK (dD c),mK (dD d)]),c_]):=by generalize ((dD a).isNone||((dD b).isNone||((dD c).isNone||(dD d).isNone)))=t at C;cases t<;>simp[iP,C]
 have f:((dD a).isNone||((dD b).isNone||((dD c).isNone||(dD d).isNone)))=d_->aY [.lst (ks.map .str),.lst (ns.map .str),.lst W]=.ok .non:=λh=>by rw[f_ h]at g;exact s _ (by unfold de;rw[nU,i,aj];dsimp only;rw[nU,j,aj];dsimp only;rw[nU,l,aj];dsimp only;rw[nU,g,aj])
 unfold FH;cases u:dD a with
 |none=>exact f (by rw[u];rfl)|some e=>
 cases B:dD b with
 |none=>exact f (by rw[u,B];rfl)|some Y=>
 cases F:dD c with
 |none=>exact f (by rw[u,B,F];rfl)|some I=>
 cases S:dD d with
 |none=>exact f bb|some d'=>
 rw[u,B,F,S]at l g;rw[k_ (show ¬((a_ e).isNone||((a_ Y).isNone||((a_ I).isNone||(a_ d').isNone)))=d_ from λz=>(nomatch (show b_=d_ from z)))]at g;dsimp only[mK]at l g;have K:=Fi n ⟨kI ks k,e,Y,I,d'⟩;have ix:(hV (ah 0) (f2 ixD (ah 2) (bm 2))) [a_ (.lst (ks.map .str)),a_ (.lst (ns.map .str)),a_ (.lst W),a_ (.lst [.int e,.int Y,.int I,.int d']),c_]=.ok (.int (kI ks k)):=by simp[g2,G,iz,isL]
 have H:aV [] 4 (fL iU (aa (hV (ah 0) (f2 ixD (ah 2) (bm 2))) (aa (f2 ixD (ah 3) (bm 0)) (aa (f2 ixD (ah 3) (bm 1)) (aa (f2 ixD (ah 3) (bm 2)) (aa (f2 ixD (ah 3) (bm 3)) aB)))))) [a_ (.lst (ks.map .str)),a_ (.lst (ns.map .str)),a_ (.lst W),a_ (.lst [.int e,.int Y,.int I,.int d']),c_]=.ok (.nx [a_ (.lst (ks.map .str)),a_ (.lst (ns.map .str)),a_ (.lst W),a_ (.lst [.int e,.int Y,.int I,.int d']),a_ (flD ⟨kI ks k,e,Y,I,d'⟩)]):=by show((((hV (ah 0) (f2 ixD (ah 2) (bm 2))) [a_ (.lst (ks.map .str)),a_ (.lst (ns.map .str)),a_ (.lst W),a_ (.lst [.int e,.int Y,.int I,.int d']),c_]).bind λx=>Hr [x,.int e,.int Y,.int I,.int d']).bind iU).bind _=_;rw[ix,aj,aj];unfold iU;rw[f_ (by show 5<=h_;rw[Hu];decide)];rfl
 dsimp only;refine s _ ?_;unfold de;rw[nU,i,aj];dsimp only;rw[nU,j,aj];dsimp only;rw[nU,l,aj];dsimp only;rw[nU,g,aj];dsimp only;rw[nU,H,aj];dsimp only;show((((bC [flD ⟨kI ks k,e,Y,I,d'⟩]).bind truD).bind λt=>if t=d_ then Hr (flD ⟨kI ks k,e,Y,I,d'⟩)else Hr A3.non).bind _)=_;rw[K];cases flB ⟨kI ks k,e,Y,I,d'⟩<;>rfl
end
structure WS where
 ks:b8
 g:PKs
 b:PKs
 nf:List (m_×Fli)
 cs:List uQ
variable{s s':WS}
noncomputable def enc(ks:b8)(g:PKs):List (cc×A3):=g.map λp=>([((kI ks p.1.1:Nat):Int),((kI ks p.1.2:Nat):Int)],A3.int p.2)
noncomputable def WS.d(s:WS):DSt:=⟨s.ks,enc s.ks s.g,enc s.ks s.b,s.nf,s.cs⟩
def WS.j(s:WS):Jst:=⟨s.ks.map .str,(s.nf.map (·.1)).map .str,(s.nf.map (·.2)).map flD,s.cs.map stD,s.g,s.b⟩
def CH(ks:b8)(g:PKs):Prop:=∀p∈g,p.1.1∈ks/\p.1.2∈ks/\0<=p.2/\p.2<=1000000
def Gp(ks:b8)(g:PKs):(enc ks g).length=g.length:=A_ ..
def kI_app(h:y∈ks):kI (ks++[x]) y=kI ks y:=by have e:=(vU h).1;unfold kI Ca at *;rw[List.findIdx?_append,e];rfl
theorem kI_inj(Y:x∈ks)(I:y∈ks)(e:kI ks x=kI ks y):x=y:=by have h1:=(vU Y).2.2;have h2:=(vU I).2.2;simp_all
def Gr{g:PKs}(h:CH ks g)(x:m_):enc (ks++[x]) g=enc ks g:=
 ID λp I=>by rw[kI_app (h p I).1,kI_app (h p I).2.1]
def CH.app{g:PKs}(h:CH ks g)(x:m_):CH (ks++[x]) g:=λp I=>by obtain⟨a,b,c⟩:=h p I;exact⟨by simp[a],by simp[b],c⟩
theorem Gq{a b:m_}(Y:x∈ks)(I:y∈ks)(d:a∈ks)(c:b∈ks):([((kI ks a:Nat):Int),((kI ks b:Nat):Int)]=[((kI ks x:Nat):Int),((kI ks y:Nat):Int)])↔(a,b)=(x,y):=by
 constructor
 .intro h;simp only[K1,and_true]at h;rw[kI_inj d Y ad,kI_inj c I ad]
 simp_all
theorem AU{ks:b8}{x y:m_}(b:x∈ks)(a:y∈ks):∀{g:PKs},CH ks g->Es (enc ks g) [((kI ks x:Nat):Int),((kI ks y:Nat):Int)]=(jE g (x,y)).map A3.int
 |[],_=>rfl|p::g,h=>by
  obtain⟨h1,h2,_⟩:=h p am;have Y:=AU b a (g:=g) λq d=>h q (by simp[d]);have c:=Gq b a h1 h2;unfold enc Es jE at Y ⊢;by_cases e:p.1=(x,y)
  .have I:=c.mpr e;simp only[F_,Ic,I,e,decide_true,K9]
  .have I:¬[((kI ks p.1.1:Nat):Int),((kI ks p.1.2:Nat):Int)]=[((kI ks x:Nat):Int),((kI ks y:Nat):Int)]:=λz=>e (c.mp z);simp only[F_,Ic,I,e,NU];exact Y
def Gn(a:x∈ks)(Y:y∈ks){g:PKs}(h:CH ks g)(v:Int):Di (enc ks g) [((kI ks x:Nat):Int),((kI ks y:Nat):Int)] (.int v)=enc ks (mJ g (x,y) v):=by
 unfold Di mJ;rw[AU a Y h,KQ];by_cases I:(jE g (x,y)).isSome=d_
 .rw[f_ I,f_ I];unfold enc;rw[G_,G_];refine ID λp c=>?_;obtain⟨h1,h2,_⟩:=h p c;have b:=Gq a Y h1 h2;simp only[Nf];by_cases e:p.1=(x,y)
  .rw[f_ (b.mpr e),f_ e]
  .rw[k_ (λz=>e (b.mp z)),k_ e]
 .rw[k_ I,k_ I];unfold enc;rw[IG];rfl
def CH.put{g:PKs}(h:CH ks g)(f:x∈ks)(d:y∈ks){v:Int}(Y:0<=v)(h1:v<=1000000):CH ks (mJ g (x,y) v):=λp I=>by
 unfold mJ at I;split at I
 .obtain⟨q,i,rfl⟩:=HL.mp I;obtain⟨a,b,c⟩:=h q i;split
  .rename_i e;exact⟨a,b,Y,h1⟩
  .exact⟨a,b,c⟩
 .rcases HR.mp I with I|I
  .exact h p I
  .rw[Ik.mp I];exact⟨f,d,Y,h1⟩
def BL(g:PKs)(k:m_×m_)(v:Int):(mJ g k v).length<=g.length+1/\mJ g k v≠[]:=by
 unfold mJ;split
 .rename_i h;refine⟨am,λe=>?_⟩
  rw[LB]at e;subst e;cases h
 .simp
structure WI(s:WS):Prop where
 kd:s.ks.Nodup
 k6:s.ks.length<=6
 kn:∀k∈s.ks,Nm k
 gi:CH s.ks s.g
 bi:CH s.ks s.b
 nm:s.nf.length<=40
 nn:∀p∈s.nf,Nm p.1/\Fl1 s.ks.length p.2
 nd:(s.nf.map (·.1)).Nodup
 cm:s.cs.length<=20
 cl:∀p∈s.cs,St1 p
noncomputable def jB:Bool->Nat
 |true=>2|false=>1
def putB:Bool->WS->Int->m_->m_->WS
 |true,s,i,x,y=>{s with b:=mJ s.b (x,y) i}
 |false,s,i,x,y=>{s with g:=mJ s.g (x,y) i}
def Et(s:WS)(f:Int->m_->m_->WS):b8->Option WS
 |[x,y,v]=>if x∈s.ks/\y∈s.ks then(match dD v with
  |some i=>if i<=1000000 then a_ (f i x y)else c_
  |none=>c_)else c_
 |_=>c_
def vT(s:WS):b8->Option WS
 |[x]=>if (q_ (s.ks.length<6)&&jv x&& !decide (x∈s.ks))=d_ then a_ {s with ks:=s.ks++[x]}else c_
 |_=>c_
def i0(s:WS):b8->Option WS
 |[x,y]=>match dD x,dD y with
  |some i,a_ j=>if (q_ (s.cs.length<20)&&stB (i,j))=d_ then a_ {s with cs:=s.cs++[(i,j)]}else c_
  |_,_=>c_
 |_=>c_
def jW(s:WS):b8->Option WS
 |[nm,k,a,b,c,d]=>if (q_ ((s.nf.map (·.1)).length<40)&&(q_ (k∈s.ks)&&(jv nm&& !decide (nm∈s.nf.map (·.1)))))=d_ then(match FH a b c d with
  |some (a,b,c,d)=>if flB ⟨kI s.ks k,a,b,c,d⟩=d_ then a_ {s with nf:=s.nf++[(nm,⟨kI s.ks k,a,b,c,d⟩)]}else c_
  |none=>c_)else c_
 |_=>c_
def jF(s:WS)(w:m_)(r:b8):Option WS:=
 if w=wK then vT s r else
 if w=wG then Et s (putB b_ s) r else
 if w=wB then Et s (putB d_ s) r else
 if w=wC then i0 s r else
 if w=wF then jW s r else c_
def oS(x:M (Bool×bv))(o:Option WS):Prop:=match o with
 |some s'=>x=.ok (d_,s'.d.D)|none=>∃ds,x=.ok (b_,ds)
section
variable(CR CP CS CW CD:e_)
def lD{j:Nat}{ds:bv}:∃es,(Hr A3.non:M A3).bind (tY j ds)=.ok (b_,es):=⟨ds,rfl⟩
def nS{j:Nat}{ds:bv}:∃es,(Hr A3.non:M A3).bind (Eo j ds)=.ok (b_,es):=⟨ds,rfl⟩
theorem ED(n:Nat)(s:WS)(I:WI s)(w:m_)(r:b8)(a:∀x∈r,WOk x):oS ((bB [.lst (s.ks.map .str),.lst ((w::r).map .str)]).bind (tY 0 s.d.D)) (vT s r):=by
 have Y:r.length≠1->∃ds,(bB [.lst (s.ks.map .str),.lst ((w::r).map .str)]).bind (tY 0 s.d.D)=.ok (b_,ds):=λh=>by rw[uV n (by simp;lia)];exact lD
 unfold vT;split
 .rename_i x;have e:=uW n (ks:=s.ks) (w:=w) (a x am);show oS ((bB [.lst (s.ks.map .str),.lst [.str w,.str x]]).bind _) _;rw[e];split
  .have b:s.ks.length<16777216:=by have:=I.k6;lia
   rw[aj];simp[oS,tY,DSt.D,WS.d,ik,b,Gr I.gi,Gr I.bi]
  .exact lD
 .rename_i h;exact Y λz=>by
   match r,z with
   |[x],_=>exact h x rfl
theorem Bs(n:Nat)(s:WS)(I:WI s)(b:Bool)(g:s.g.length<10000000/\s.b.length<10000000)(w:m_)(r:b8)(f:∀x∈r,WOk x):oS ((bw [.lst (s.ks.map .str),.lst ((w::r).map .str)]).bind (Eo (jB b) s.d.D)) (Et s (putB b s) r):=by
 have a:r.length≠3->∃ds,(bw [.lst (s.ks.map .str),.lst ((w::r).map .str)]).bind (Eo (jB b) s.d.D)=.ok (b_,ds):=λh=>by rw[xt n (by simp;lia)];exact nS
 unfold Et;split
 .rename_i x y v;have e:=xu n (ks:=s.ks) (w:=w) (x:=x) (y:=y) (f v am);show oS ((bw [.lst (s.ks.map .str),.lst [.str w,.str x,.str y,.str v]]).bind _) _;rw[e];split
  .rename_i Y;cases hv:dD v with
   |none=>exact nS|some i=>
    dsimp only;split
    .have d:(enc s.ks s.g).length<16777216:=by rw[Gp];lia
     have c:(enc s.ks s.b).length<16777216:=by rw[Gp];lia
     rw[aj];cases b with
     |true=>simp[oS,Eo,jB,putB,DSt.D,WS.d,c,Gn Y.1 Y.2 I.bi]|false=>simp[oS,Eo,jB,putB,DSt.D,WS.d,d,Gn Y.1 Y.2 I.gi]
    .exact nS
  .exact nS
 .rename_i h;exact a λz=>by
   match r,z with
   |[x,y,v],_=>exact h x y v rfl
theorem zF(n:Nat)(s:WS)(I:WI s)(w:m_)(r:b8)(a:∀x∈r,WOk x):oS ((aW [.lst (s.cs.map stD),.lst ((w::r).map .str)]).bind (tY 5 s.d.D)) (i0 s r):=by
 have Y:r.length≠2->∃ds,(aW [.lst (s.cs.map stD),.lst ((w::r).map .str)]).bind (tY 5 s.d.D)=.ok (b_,ds):=λh=>by rw[pC n (by simp;lia)];exact lD
 unfold i0;split
 .rename_i x y;have e:=pD n (cs:=s.cs) (w:=w) (a x am) (a y am) I.cl I.cm;show oS ((aW [.lst (s.cs.map stD),.lst [.str w,.str x,.str y]]).bind _) _;rw[e];cases ex:dD x with
  |none=>exact lD|some i=>
  cases c:dD y with
  |none=>exact lD|some j=>
  dsimp only;split
  .have b:s.cs.length<16777216:=by have:=I.cm;lia
   rw[aj];simp[oS,tY,DSt.D,WS.d,ik,uG,stD,b]
  .exact lD
 .rename_i h;exact Y λz=>by
   match r,z with
   |[x,y],_=>exact h x y rfl
theorem zE(n:Nat)(s:WS)(I:WI s)(w:m_)(r:b8)(f:∀x∈r,WOk x):oS (mT (aY) s.d.D ((w::r).map .str)) (jW s r):=by
 have Y:aY [.lst (s.ks.map .str),.lst ((s.nf.map (·.1)).map .str),.lst ((w::r).map .str)]=.ok .non->∃ds,mT (aY) s.d.D ((w::r).map .str)=.ok (b_,ds):=λh=>by
  refine⟨s.d.D,?_⟩
  show(aY [.lst (s.ks.map .str),.lst ((s.nf.map (·.1)).map .str),.lst ((w::r).map .str)]).bind _=_;rw[h];rfl
 unfold jW;split
 .rename_i nm k a b c d;have e:=qJ n (ks:=s.ks) (ns:=s.nf.map (·.1)) (w:=w) (nm:=nm) (k:=k) (f nm am) (f a am) (f b am) (f c am) (f d am);split
  .rename_i i;rw[f_ i]at e;cases q:FH a b c d with
   |none=>rw[q]at e;exact Y e|some p=>
    obtain⟨m,l,j,d'⟩:=p;rw[q]at e;dsimp only at e ⊢;split
    .rename_i g;rw[f_ g]at e;have o:s.nf.length<16777216:=by have:=I.nm;lia
     show mT (aY) s.d.D ([w,nm,k,a,b,c,d].map .str)=_;show(aY [.lst (s.ks.map .str),.lst ((s.nf.map (·.1)).map .str),.lst [.str w,.str nm,.str k,.str a,.str b,.str c,.str d]]).bind _=_;rw[e,aj];have a1:tY 4 s.d.D (flD ⟨kI s.ks k,m,l,j,d'⟩)=.ok (d_,[.lst (s.ks.map .str),.dic (enc s.ks s.g),.dic (enc s.ks s.b),.lst ((s.nf.map (·.1)).map .str),.lst ((s.nf.map (·.2)).map flD++[flD ⟨kI s.ks k,m,l,j,d'⟩]),.lst (s.cs.map stD)]):=by simp[tY,DSt.D,WS.d,ik,uG,flD,o]
     show(tY 4 s.d.D (flD ⟨kI s.ks k,m,l,j,d'⟩)).bind _=_;rw[a1,aj];simp only[O6];rw[show ixD (.lst ([w,nm,k,a,b,c,d].map A3.str)) (.int 1)=.ok (.str nm)from rfl,aj];simp[tY,DSt.D,WS.d,ik,o]
    .rename_i g;rw[k_ g]at e;exact Y e
  .rename_i i;rw[k_ i]at e;exact Y e
 .rename_i h;refine Y (qI n λz=>?_);have z:r.length=6:=by simpa using z
  match r,z,h with
  |[nm,k,a,b,c,d],_,h=>exact h nm k a b c d rfl
def take_any(n:Nat)(s:WS)(I:WI s)(d:s.g.length<10000000/\s.b.length<10000000)(w:m_)(r:b8)(hw:HP w "#"=b_)(Y:∀x∈r,WOk x):oS (bJ s.d.D ((w::r).map .str)) (jF s w r):=by
 rw[row_way n s.d w r hw];unfold jF;by_cases h1:w=wK
 .rw[f_ h1,f_ h1];exact ED n s I w r Y
 rw[k_ h1,k_ h1];by_cases h2:w=wG
 .rw[f_ h2,f_ h2];exact Bs n s I b_ d w r Y
 rw[k_ h2,k_ h2];by_cases c:w=wB
 .rw[f_ c,f_ c];exact Bs n s I d_ d w r Y
 rw[k_ c,k_ c];by_cases b:w=wC
 .rw[f_ b,f_ b];exact zF n s I w r Y
 rw[k_ b,k_ b];by_cases a:w=wF
 .rw[f_ a,f_ a];exact zE n s I w r Y
 rw[k_ a,k_ a];exact⟨_,rfl⟩
end
def FX(h:r.length≠1):vT s r=c_:=by
 unfold vT;split
 .exact Ho rfl h
 .rfl
def Ci{f:Int->m_->m_->WS}(h:r.length≠3):Et s f r=c_:=by
 unfold Et;split
 .exact Ho rfl h
 .rfl
def Bd(h:r.length≠2):i0 s r=c_:=by
 unfold i0;split
 .exact Ho rfl h
 .rfl
def AO(h:r.length≠6):jW s r=c_:=by
 unfold jW;split
 .exact Ho rfl h
 .rfl
theorem Fl1.up{k:Nat}{f:Fli}(h:Fl1 k f):Fl1 (k+1) f:=⟨h.k0,by have:=h.k1;lia,h.a,h.b,h.c,h.d,h.e⟩
def Cj(I:WI s)(b:Bool)(h:Et s (putB b s) r=a_ s'):WI s'/\s'.g.length<=s.g.length+1/\s'.b.length<=s.b.length+1:=by
 unfold Et at h;split at h
 .split at h
  .rename_i Y;split at h
   .rename_i i hv;split at h
    .rename_i hi;cases h;have a:=jO hv;cases b with
     |true=>exact⟨⟨I.kd,I.k6,I.kn,I.gi,I.bi.put Y.1 Y.2 a hi,I.nm,I.nn,I.nd,I.cm,I.cl⟩,Iq _,(BL _ _ _).1⟩|false=>exact⟨⟨I.kd,I.k6,I.kn,I.gi.put Y.1 Y.2 a hi,I.bi,I.nm,I.nn,I.nd,I.cm,I.cl⟩,(BL _ _ _).1,Iq _⟩
    .cases h
   .cases h
  .cases h
 .cases h
theorem xn(I:WI s)(h:jF s w r=a_ s'):WI s'/\s'.g.length<=s.g.length+1/\s'.b.length<=s.b.length+1:=by
 unfold jF at h;split at h
 .unfold vT at h;split at h
  .rename_i x;split at h
   .rename_i e;cases h;simp only[o_,Hx,K0,L8]at e;obtain⟨⟨h1,h2⟩,m⟩:=e;refine⟨⟨?_,by simp;lia,λk f=>?_,I.gi.app x,I.bi.app x,I.nm,λp Y=>⟨(I.nn p Y).1,?_⟩,I.nd,I.cm,I.cl⟩,Iq _,Iq _⟩
    .rw[L7];exact⟨I.kd,am,λa l b g=>by rw[Ik.mp g];exact λz=>m (z▸l)⟩
    .rcases HR.mp f with f|f
     .exact I.kn k f
     .rw[Ik.mp f];exact BY h2
    .have:=(I.nn p Y).2.up;simpa using this
   .cases h
  .cases h
 split at h
 .exact Cj I b_ h
 split at h
 .exact Cj I d_ h
 split at h
 .unfold i0 at h;split at h
  .split at h
   .rename_i i j _ _;split at h
    .rename_i e;cases h;simp only[o_,Hx]at e;refine⟨⟨I.kd,I.k6,I.kn,I.gi,I.bi,I.nm,I.nn,I.nd,by simp;lia,λp Y=>?_⟩,Iq _,Iq _⟩
     rcases HR.mp Y with Y|Y
     .exact I.cl p Y
     .rw[Ik.mp Y];exact Bx.mp e.2
    .cases h
   .cases h
  .cases h
 split at h
 .unfold jW at h;split at h
  .rename_i nm k a b c d;split at h
   .rename_i e;simp only[o_,Hx,K0,L8]at e;obtain⟨h1,h2,m,o⟩:=e;split at h
    .split at h
     .rename_i n;cases h;refine⟨⟨I.kd,I.k6,I.kn,I.gi,I.bi,by simp at h1 ⊢;lia,λp Y=>?_,?_,I.cm,I.cl⟩,Iq _,Iq _⟩
      .rcases HR.mp Y with Y|Y
       .exact I.nn p Y
       .rw[Ik.mp Y];exact⟨BY m,flB_ok n am (by have:=(vU h2).2.1;simp;lia)⟩
      .rw[IG,L7];exact⟨I.nd,am,λa l b g=>by
        have g:b=nm:=by simpa using g
        rw[g];exact λz=>o (z▸l)⟩
     .cases h
    .cases h
   .cases h
  .cases h
 .cases h
def vF(s:WS):Option WS->Bool×Jst
 |some s'=>(d_,s'.j)|none=>(b_,s.j)
theorem jG{m:Int}(I:0<=m):mO x m<0↔¬∃i,dD x=a_ i/\i<=m:=by
 unfold mO;cases h:dD x with
 |none=>simp|some k=>have:=jO h;lia
theorem fQ{m:Int}(h:dD x=a_ i)(hi:i<=m):mO x m=i:=by simp_all[mO,k_]
section
variable(CR CP CS CW CD:e_)
theorem ix0_t(I:ah 1 ρ=.ok (.lst ((w::r).map .str))):(f2 ixD (ah 1) (bm 0)) ρ=.ok (.str w):=by simp_all
theorem len_t(I:ah 1 ρ=.ok (.lst ((w::r).map .str))):(fL iT (aa (ah 1) aB)) ρ=.ok (.int ((r.length+1:Nat):Int)):=by simp_all
theorem and_t(I:ah 1 ρ=.ok (.lst ((w::r).map .str)))(x:m_)(m:Nat)(k:Int)(Y:k=((m+1:Nat):Int)):(rV (fB (f2 eqM (f2 ixD (ah 1) (bm 0)) (fC (.str x)))) (fB (f2 eqM (fL iT (aa (ah 1) aB)) (fC (.int k))))) ρ=.ok (q_ (w=x/\r.length=m)):=by
 show(((((f2 ixD (ah 1) (bm 0)) ρ).bind λa=>eqM a (.str x)).bind asB).bind λb=>if b=d_ then((((fL iT (aa (ah 1) aB)) ρ).bind λa=>eqM a (.int k)).bind asB)else .ok b_)=_;rw[ix0_t I,aj,eqS,aj,len_t I,aj,eqI,aj];show(if q_ (w=x)=d_ then Hr (q_ (((r.length+1:Nat):Int)=k))else Hr b_)=_;by_cases h:w=x<;>by_cases h2:r.length=m
 .simp_all
 .rw[f_ (x_ h),p9 ad,p9 (λz=>h2 z.2)]
 .simp_all
 simp_all
theorem and_g(I:ah 1 ρ=.ok (.lst ((w::r).map .str))):(rV (fB (f2 inM (f2 ixD (ah 1) (bm 0)) (fL bQ (aa (fC (.str "gap")) (aa (fC (.str "beside")) aB))))) (fB (f2 eqM (fL iT (aa (ah 1) aB)) (bm 4)))) ρ=.ok (q_ ((w=wG\/w=wB)/\r.length=3)):=by
 have c:(fL bQ (aa (fC (.str "gap")) (aa (fC (.str "beside")) aB))) ρ=.ok (.lst ([wG,wB].map .str)):=by show bQ [.str "gap",.str "beside"]=_;unfold bQ;rw[f_ am];rfl
 show(((((f2 ixD (ah 1) (bm 0)) ρ).bind λa=>((fL bQ (aa (fC (.str "gap")) (aa (fC (.str "beside")) aB))) ρ).bind λb=>inM a b).bind asB).bind λb=>if b=d_ then((((fL iT (aa (ah 1) aB)) ρ).bind λa=>eqM a (.int 4)).bind asB)else .ok b_)=_;rw[ix0_t I,aj,c,aj,inS,aj,len_t I,aj,eqI,aj];show(if q_ (w∈[wG,wB])=d_ then Hr (q_ (((r.length+1:Nat):Int)=4))else Hr b_)=_;have Y:w∈[wG,wB]↔(w=wG\/w=wB):=by simp
 by_cases h:w=wG\/w=wB<;>by_cases h2:r.length=3
 .simp_all
 .rw[f_ (x_ (Y.mpr h)),p9 ad,p9 (λz=>h2 z.2)]
 .rw[k_ (λz=>h (Y.mp (Jk z))),p9 (λz=>h z.1)]
 .rw[k_ (λz=>h (Y.mp (Jk z))),p9 (λz=>h z.1)]
theorem or_f(I:ah 1 ρ=.ok (.lst ((w::r).map .str))):(fOr (fB (f2 neM (f2 ixD (ah 1) (bm 0)) (fC (.str "flight")))) (fB (f2 neM (fL iT (aa (ah 1) aB)) (bm 7)))) ρ=.ok (!decide (w=wF/\r.length=6)):=by
 show(((((f2 ixD (ah 1) (bm 0)) ρ).bind λa=>neM a (.str wF)).bind asB).bind λb=>if b=d_ then .ok d_ else((((fL iT (aa (ah 1) aB)) ρ).bind λa=>neM a (.int 7)).bind asB))=_;rw[ix0_t I,aj,neS,aj,len_t I,aj,neI,aj];show(if (!decide (w=wF))=d_ then Hr d_ else Hr (!decide (((r.length+1:Nat):Int)=7)))=_;by_cases h:w=wF<;>by_cases h2:r.length=6
 .simp_all
 .rw[x_ h,k_ a8,p9 (show ¬((r.length+1:Nat):Int)=7 by lia),p9 (λz=>h2 z.2)]
 .simp_all
 simp_all
end
def min4(a b c d:Int):minD [.lst [.int a,.int b,.int c,.int d]]=.ok (.int (lR (lR (lR a b) c) d)):=rfl
theorem mn2(a b:Int):lR a b<0↔a<0\/b<0:=by unfold lR;split<;>lia
theorem min4_neg(a b c d:Int):lR (lR (lR a b) c) d<0↔(a<0\/b<0\/c<0\/d<0):=by simp only[mn2,or_assoc]
theorem yw{x:Bool×Jst}(h:n<16777216):okJ n x=.ok x:=by simp_all[okJ,f_,Hu]
section
variable(CR CP CS CW CD:e_)
theorem one_kind(n:Nat)(s:WS)(I:WI s)(g:WOk x):
  ((fq (eJ s.j ([w,x].map .str) [c_,c_,c_,c_])).bind λb=>if b=d_ then Hr (b_,s.j)else(kW (eW ([w,x].map .str) [c_,c_,c_,c_])).bind λd=>okJ s.j.dk.length (d_,{s.j with dk:=s.j.dk++[d]}))=.ok (vF s (vT s [x])):=by
 have e1:=yB n g;have e2:=inS x s.ks;have c:gV [.str w,.str x] 1=.ok (.str x):=rfl;have h:s.ks.length<16777216:=by have:=I.k6;lia
 unfold vT;cases a:jv x with
 |false=>rw[a]at e1;simp[fq,eJ,WS.j,c,e1,vF,a]|true=>
  rw[a]at e1;by_cases Y:x∈s.ks
  .rw[x_ Y]at e2;simp[fq,eJ,WS.j,c,e1,e2,vF,Y]
  .rw[p9 Y]at e2;by_cases f:s.ks.length<6
   .have e:¬(5:Int)<(s.ks.length:Int):=ad
    simp[fq,kW,eJ,eW,WS.j,c,e1,e2,vF,Y,f,gtD,e,a,yw h]
   .have e:(5:Int)<(s.ks.length:Int):=ad
    simp[fq,eJ,WS.j,c,e1,e2,vF,Y,f,gtD,e]
theorem FA(n:Nat)(s:WS)(b:Bool)(D:s.g.length<10000000/\s.b.length<10000000)(hw:w=(match b with|true=>wB|false=>wG))(hv:WOk v):
  ((jc (eW ([w,x,y,v].map .str) [c_,c_,c_,c_])).bind λd=>(cf (eJ s.j ([w,x,y,v].map .str) [a_ d,c_,c_,c_])).bind λb=>if b=d_ then Hr (b_,s.j)else
   (jb (eW ([w,x,y,v].map .str) [a_ d,c_,c_,c_])).bind λp=>(ja (eW ([w,x,y,v].map .str) [a_ d,c_,c_,c_])).bind λq=>(j9 (eW ([w,x,y,v].map .str) [a_ d,c_,c_,c_])).bind λu=>putJ s.j d p q u)=.ok (vF s (Et s (putB b s) [x,y,v])):=by
 have e1:=jQ n hv 1000000;have m1:=rq x s.ks;have a:=rq y s.ks;have t:gV [.str w,.str x,.str y,.str v] 0=.ok (.str w):=rfl;have e:gV [.str w,.str x,.str y,.str v] 1=.ok (.str x):=rfl;have g2:gV [.str w,.str x,.str y,.str v] 2=.ok (.str y):=rfl;have r:gV [.str w,.str x,.str y,.str v] 3=.ok (.str v):=rfl;have a1:jc (eW ([w,x,y,v].map .str) [c_,c_,c_,c_])=.ok (.int (mO v 1000000)):=by simp[jc,eW,r,e1]
 rw[a1,aj];unfold Et;dsimp only;by_cases I:x∈s.ks/\y∈s.ks
 .rw[x_ I.1]at m1;rw[x_ I.2]at a;rw[f_ I];have Y:=jG (x:=v) (m:=1000000) a8;by_cases f:mO v 1000000<0
  .have o:=Y.mp f;have t4:cf (eJ s.j ([w,x,y,v].map .str) [a_ (.int (mO v 1000000)),c_,c_,c_])=.ok d_:=by
    simp[cf,eJ,WS.j,e,g2,m1,a,ltD,f]
   rw[t4,aj,f_ rfl];cases j:dD v with
   |none=>rfl|some i=>dsimp only;rw[k_ λz=>o ⟨i,j,z⟩];rfl
  .have t4:cf (eJ s.j ([w,x,y,v].map .str) [a_ (.int (mO v 1000000)),c_,c_,c_])=.ok b_:=by
    simp[cf,eJ,WS.j,e,g2,m1,a,ltD,f]
   rw[t4,aj,k_ a8];have k:∃i,dD v=a_ i/\i<=1000000:=Ih λz=>f (Y.mpr z);obtain⟨i,hi,c⟩:=k;have A:=fQ hi c;rw[hi];dsimp only;rw[f_ c,A];have C:jb (eW ([w,x,y,v].map .str) [a_ (.int i),c_,c_,c_])=.ok (.str w):=by simp[jb,eW,t]
   have B:ja (eW ([w,x,y,v].map .str) [a_ (.int i),c_,c_,c_])=.ok (.str x):=by simp[ja,eW,e]
   have a9:j9 (eW ([w,x,y,v].map .str) [a_ (.int i),c_,c_,c_])=.ok (.str y):=by simp[j9,eW,g2]
   rw[C,aj,B,aj,a9,aj];cases b with
   |false=>show(if w=wG then okJ s.g.length (d_,{s.j with g:=mJ s.g (x,y) i})else _)=_;rw[f_ hw,yw ad];rfl
   |true=>show(if w=wG then _ else if w=wB then okJ s.b.length (d_,{s.j with b:=mJ s.b (x,y) i})else _)=_;have hw:w=wB:=hw;rw[k_ (λz=>sN.2.2.1 (hw.symm.trans z)),f_ hw,yw ad];rfl
 .rw[k_ I];have t4:cf (eJ s.j ([w,x,y,v].map .str) [a_ (.int (mO v 1000000)),c_,c_,c_])=.ok d_:=by
   by_cases h:x∈s.ks
   .have l:y∉s.ks:=λz=>I ⟨h,z⟩;rw[x_ h]at m1;rw[p9 l]at a;simp[cf,eJ,WS.j,e,g2,m1,a]
   .rw[p9 h]at m1;simp[cf,eJ,WS.j,e,m1]
  rw[t4,aj,f_ rfl];rfl
theorem Dn(n:Nat)(s:WS)(I:WI s)(t:WOk x)(r:WOk y):
  ((ir (eW ([w,x,y].map .str) [c_,c_,c_,c_])).bind λY=>(iq (eW ([w,x,y].map .str) [c_,a_ Y,c_,c_])).bind λp=>(cU (eJ s.j ([w,x,y].map .str) [c_,a_ Y,a_ p,c_])).bind λb=>if b=d_ then Hr (b_,s.j)else
   (ip (eW ([w,x,y].map .str) [c_,a_ Y,a_ p,c_])).bind λd=>okJ s.j.dc.length (d_,{s.j with dc:=s.j.dc++[d]}))=.ok (vF s (i0 s [x,y])):=by
 have e1:=jQ n t 1000000000;have e2:=jQ n r 1000000000;have u:gV [.str w,.str x,.str y] 1=.ok (.str x):=rfl;have g2:gV [.str w,.str x,.str y] 2=.ok (.str y):=rfl;have a1:ir (eW ([w,x,y].map .str) [c_,c_,c_,c_])=.ok (.int (mO x 1000000000)):=by simp[ir,eW,u,e1]
 have B:∀Y,iq (eW ([w,x,y].map .str) [c_,a_ Y,c_,c_])=.ok (.int (mO y 1000000000)):=λY=>by simp[iq,eW,g2,e2]
 rw[a1,aj,B,aj];have D:s.cs.length<16777216:=by have:=I.cm;lia
 have q:=jG (x:=x) (m:=1000000000) a8;have C:=jG (x:=y) (m:=1000000000) a8;have t6:cU (eJ s.j ([w,x,y].map .str) [c_,a_ (.int (mO x 1000000000)),a_ (.int (mO y 1000000000)),c_])=.ok (q_ (mO x 1000000000<0\/mO y 1000000000<=mO x 1000000000\/19<s.cs.length)):=by
  by_cases h1:mO x 1000000000<0
  .simp[cU,eJ,WS.j,ltD,h1]
  .by_cases h2:mO y 1000000000<=mO x 1000000000
   .simp[cU,eJ,WS.j,ltD,leD,h1,h2]
   .by_cases o:19<s.cs.length
    .have h:(19:Int)<(s.cs.length:Int):=ad
     simp[cU,eJ,WS.j,ltD,leD,gtD,h1,h2,o,h]
    .have h:¬(19:Int)<(s.cs.length:Int):=ad
     simp[cU,eJ,WS.j,ltD,leD,gtD,h1,h2,o,h]
 rw[t6,aj];by_cases c:mO x 1000000000<0\/mO y 1000000000<=mO x 1000000000\/19<s.cs.length
 .rw[x_ c,f_ rfl];have:i0 s [x,y]=c_:=by
   unfold i0;dsimp only;cases ex:dD x with
   |none=>rfl|some i=>
   cases v:dD y with
   |none=>rfl|some j=>
   dsimp only;refine k_ λg=>?_;simp only[o_,Hx]at g;obtain⟨G,F,E,A⟩:=(⟨g.1,Bx.mp g.2⟩:s.cs.length<20/\0<=i/\i<j/\j<=1000000000)
   rw[fQ ex ad,fQ v A]at c;lia
  rw[this];rfl
 .rw[p9 c,k_ a8];simp only[Np]at c;obtain⟨b1,b2,b3⟩:=c;obtain⟨i,hi,f⟩:∃i,dD x=a_ i/\i<=1000000000:=Ih λz=>b1 (q.mpr z);have e:=fQ hi f;obtain⟨j,l,a⟩:∃j,dD y=a_ j/\j<=1000000000:=Ih λz=>by
   lia
  have k:=fQ l a;rw[e,k]at b2 ⊢;rw[e]at b1;have:i0 s [x,y]=a_ {s with cs:=s.cs++[(i,j)]}:=by unfold i0;dsimp only;rw[hi,l];dsimp only;refine f_ ?_;rw[o_,Hx];exact⟨ad,Bx.mpr ⟨ad,ad,a⟩⟩
  simp_all[ip,eW,stD,aj,yw,A_,vF,WS.j]
def fl_chain{f:M A3}{i g Y:A3->M Bool}{a:M (Bool×Jst)}{X:A3->M (Bool×Jst)}{d:A3}{e c I:Bool}(h:f=.ok d)(k:i d=.ok e)(j:g d=.ok c)(b:Y d=.ok I):
  (f.bind λd=>(i d).bind λz=>if z=d_ then a else(g d).bind λz=>if z=d_ then a else(Y d).bind λz=>if z=d_ then a else X d)=if (e||(c||I))=d_ then a else X d:=by
 rw[h,aj,k,aj,j,aj,b,aj];cases e<;>cases c<;>cases I<;>rfl
theorem Dm(n:Nat)(s:WS)(I:WI s){k a b c d:m_}(h1:WOk nm)(ha:WOk a)(hb:WOk b)(hc:WOk c)(hd:WOk d):
  ((il (eW ([w,nm,k,a,b,c,d].map .str) [c_,c_,c_,c_])).bind λdn=>
   (fS (eJ s.j ([w,nm,k,a,b,c,d].map .str) [c_,c_,c_,a_ dn])).bind λz=>if z=d_ then Hr (b_,s.j)else
   (i9 (eJ s.j ([w,nm,k,a,b,c,d].map .str) [c_,c_,c_,a_ dn])).bind λz=>if z=d_ then Hr (b_,s.j)else
   (dS (eJ s.j ([w,nm,k,a,b,c,d].map .str) [c_,c_,c_,a_ dn])).bind λz=>if z=d_ then Hr (b_,s.j)else
   (gu (eW ([w,nm,k,a,b,c,d].map .str) [c_,c_,c_,a_ dn])).bind λo=>(gr (eJ {s.j with dn:=s.j.dn++[o]} ([w,nm,k,a,b,c,d].map .str) [c_,c_,c_,a_ dn])).bind λf=>if (ik f&&q_ (s.j.dn.length<h_))=d_ then okJ s.j.df.length (d_,{s.j with dn:=s.j.dn++[o],df:=s.j.df++[f]})else stk)=.ok (vF s (jW s [nm,k,a,b,c,d])):=by
 have e5:=yB n h1;have v1:=jQ n ha 1000000000;have v2:=jQ n hb 1000000000;have v3:=jQ n hc 1000000000;have v4:=jQ n hd 1000000000;have n1:=jG (x:=a) (m:=1000000000) a8;have n2:=jG (x:=b) (m:=1000000000) a8;have n3:=jG (x:=c) (m:=1000000000) a8;have n4:=jG (x:=d) (m:=1000000000) a8;have m1:=rq k s.ks;have m2:=inS nm (s.nf.map (·.1));generalize H:mO a 1000000000=e at *;generalize G:mO b 1000000000=Y at *;generalize E:mO c 1000000000=j at *;generalize D:mO d 1000000000=g at *;have K:il (eW ([w,nm,k,a,b,c,d].map .str) [c_,c_,c_,c_])=.ok (.lst [.int e,.int Y,.int j,.int g]):=by
  have es:bR (.lst [.str w,.str nm,.str k,.str a,.str b,.str c,.str d]) (a_ 3) c_=.ok (.lst [.str a,.str b,.str c,.str d]):=by simp[bR,wZ,cX]
  have cm:bx (.nm 0) gZ (fL (bz) (aa (ah 0) (aa (f2 Fs (bm 10) (bm 9)) aB))) [c_] [.str a,.str b,.str c,.str d]=.ok [.int e,.int Y,.int j,.int g]:=by simp[bx,v1,v2,v3,v4]
  simp[il,eW,es,cm,iJ]
 generalize hW:([w,nm,k,a,b,c,d].map A3.str)=W at K ⊢;have g1:gV W 1=.ok (.str nm):=by rw[<- hW];rfl
 have g2:gV W 2=.ok (.str k):=by rw[<- hW];rfl
 have N:gV [.int e,.int Y,.int j,.int g] 0=.ok (.int e):=rfl;have L:gV [.int e,.int Y,.int j,.int g] 1=.ok (.int Y):=rfl;have q2:gV [.int e,.int Y,.int j,.int g] 2=.ok (.int j):=rfl;have q3:gV [.int e,.int Y,.int j,.int g] 3=.ok (.int g):=rfl;have t8:fS (eJ s.j W [c_,c_,c_,a_ (.lst [.int e,.int Y,.int j,.int g])])=.ok (!jv nm||q_ (nm∈s.nf.map (·.1))):=by
  cases hn:jv nm with
  |false=>simp_all[fS,eJ]|true=>rw[hn]at e5;simp[fS,eJ,WS.j,g1,e5,m2,-G_]
 have mn:=min4 e Y j g;have C:=min4_neg e Y j g;have t9:i9 (eJ s.j W [c_,c_,c_,a_ (.lst [.int e,.int Y,.int j,.int g])])=.ok (!decide (k∈s.ks)||q_ (e<0\/Y<0\/j<0\/g<0)):=by
  by_cases u:k∈s.ks
  .rw[x_ u]at m1;rw[x_ u];have:q_ (lR (lR (lR e Y) j) g<0)=q_ (e<0\/Y<0\/j<0\/g<0):=by rw[decide_eq_decide];exact C
   show(((f2 iE (f2 ixD (ah 1) (bm 2)) (ah 2)) _).bind asB).bind (λb=>if b=d_ then .ok d_ else(((fL minD (aa (ah 10) aB)) (eJ s.j W [c_,c_,c_,a_ (.lst [.int e,.int Y,.int j,.int g])])).bind λx=>ltD x (.int 0)).bind asB)=_;have z1:(f2 iE (f2 ixD (ah 1) (bm 2)) (ah 2)) (eJ s.j W [c_,c_,c_,a_ (.lst [.int e,.int Y,.int j,.int g])])=.ok (.bl b_):=by simp[eJ,WS.j,g2,m1]
   rw[z1];show((minD [.lst [.int e,.int Y,.int j,.int g]]).bind λx=>ltD x (.int 0)).bind asB=_;rw[mn,aj];show Hr (q_ (lR (lR (lR e Y) j) g<0))=_;rw[this];rfl
  .rw[p9 u]at m1;rw[p9 u];simp[i9,eJ,WS.j,g2,m1]
 have t10:dS (eJ s.j W [c_,c_,c_,a_ (.lst [.int e,.int Y,.int j,.int g])])=.ok (q_ (Y<e)||q_ (39<s.nf.length)):=by
  by_cases h:Y<e
  .simp[dS,eJ,N,L,gtD,h]
  .by_cases h2:39<s.nf.length
   .have T:(39:Int)<(s.nf.length:Int):=ad
    simp[dS,eJ,WS.j,N,L,gtD,h,h2,T]
   .have T:¬(39:Int)<(s.nf.length:Int):=ad
    simp[dS,eJ,WS.j,N,L,gtD,h,h2,T]
 refine(fl_chain K t8 t9 t10).trans ?_;generalize hX:((gu (eW W [c_,c_,c_,a_ (.lst [.int e,.int Y,.int j,.int g])])).bind λo=>(gr (eJ {s.j with dn:=s.j.dn++[o]} W [c_,c_,c_,a_ (.lst [.int e,.int Y,.int j,.int g])])).bind λf=>if (ik f&&q_ (s.j.dn.length<h_))=d_ then okJ s.j.df.length (d_,{s.j with dn:=s.j.dn++[o],df:=s.j.df++[f]})else stk)=X;unfold jW;dsimp only;cases hn:jv nm with
 |false=>simp[vF]|true=>
 by_cases hm:nm∈s.nf.map (·.1)
 .rw[x_ hm];simp[vF]
 rw[p9 hm];by_cases u:k∈s.ks
 rotate_left
 .rw[p9 u];simp[vF]
 rw[x_ u];by_cases h4:s.nf.length<40
 rotate_left
 .grind[decide_eq_true,vF,decide_eq_false]
 have S:q_ ((s.nf.map (·.1)).length<40)=d_:=x_ bb;rw[S,p9 (show ¬39<s.nf.length by lia)];by_cases l:e<0\/Y<0\/j<0\/g<0
 .rw[x_ l];have P:∀p,FH a b c d=a_ p->flB ⟨kI s.ks k,p.1,p.2.1,p.2.2.1,p.2.2.2⟩=b_:=λp O=>by
   unfold FH at O;split at O
   .rename_i r q t d' B A y v;cases O;cases hf:flB ⟨kI s.ks k,r,q,t,d'⟩with
    |false=>rfl|true=>
     have F:=flB_ok (k:=kI s.ks k+1) hf am (by simp;lia);have f1:=F.a;have f2:=F.b;have f3:=F.c;have f4:=F.d;have f5:=F.e;dsimp only at f1 f2 f3 f4 f5;exfalso;rcases l with h|h|h|h
     .exact n1.mp h ⟨r,B,ad⟩
     .exact n2.mp h ⟨q,A,ad⟩
     .exact n3.mp h ⟨t,y,ad⟩
     .exact n4.mp h ⟨d',v,ad⟩
   simp_all
  cases hq:FH a b c d with
  |none=>simp[vF]|some p=>obtain⟨r,q,t,d'⟩:=p;have:=P _ hq;dsimp only at this;simp[vF,this]
 rw[p9 l];simp only[Np]at l;obtain⟨i1,i2,i3,i4⟩:=l;obtain⟨r,B,ya⟩:∃i,dD a=a_ i/\i<=1000000000:=Ih λz=>i1 (n1.mpr z);obtain⟨q,A,yb⟩:∃i,dD b=a_ i/\i<=1000000000:=Ih λz=>i2 (n2.mpr z);obtain⟨t,y,yc⟩:∃i,dD c=a_ i/\i<=1000000000:=Ih λz=>i3 (n3.mpr z);obtain⟨d',v,yd⟩:∃i,dD d=a_ i/\i<=1000000000:=Ih λz=>i4 (n4.mpr z);rw[fQ B ya]at H;rw[fQ A yb]at G;rw[fQ y yc]at E;rw[fQ v yd]at D;subst H G E D;have R:FH a b c d=a_ (r,q,t,d'):=by unfold FH;rw[B,A,y,v]
 rw[R];dsimp only;have f1:=jO B;have f2:=jO A;have f3:=jO y;have f4:=jO v;by_cases Q:q<r
 .simp_all[flB,p9,x_,vF]
 .have hf:flB ⟨kI s.ks k,r,q,t,d'⟩=d_:=by
   unfold flB rgB;simp only[o_,Hx];lia
  rw[p9 Q];have hl:s.nf.length<16777216:=ad
  have x1:=(vU u).1;have Z:gu (eW W [c_,c_,c_,a_ (.lst [.int r,.int q,.int t,.int d'])])=.ok (.str nm):=by simp[gu,eW,g1]
  have U:gr (eJ {s.j with dn:=s.j.dn++[.str nm]} W [c_,c_,c_,a_ (.lst [.int r,.int q,.int t,.int d'])])=.ok (flD ⟨kI s.ks k,r,q,t,d'⟩):=by simp[gr,eJ,WS.j,g2,N,L,q2,q3,x1,iz,isL,flD]
  rw[Z,aj,U,aj]at hX;have ldn:s.j.dn.length<h_:=by rw[Hu];show((s.nf.map (·.1)).map A3.str).length<_;simpa using hl
  have ldf:s.j.df.length<16777216:=by show((s.nf.map (·.2)).map flD).length<_;simpa using hl
  have ff:ik (flD ⟨kI s.ks k,r,q,t,d'⟩)=d_:=rfl;simp_all[f_,x_,yw,vF,WS.j]
end
def len0{r:List α}(h:r.length=0):r=[]:=J8.mp h
def Er{r:List α}(h:r.length=n+1):∃x t,r=x::t/\t.length=n:=by
 cases r with
 |nil=>cases h|cons x t=>exact⟨x,t,rfl,by simpa using h⟩
section
variable(CR CP CS CW CD:e_)
def one_any(n:Nat)(s:WS)(I:WI s)(q:s.g.length<10000000/\s.b.length<10000000)(w:m_)(r:b8)(Y:∀x∈r,WOk x):gE s.j ((w::r).map .str)=.ok (vF s (jF s w r)):=by
 have e:∀ρ,ah 1 (eJ s.j ((w::r).map .str) ρ)=.ok (.lst ((w::r).map .str)):=λρ=>rfl;unfold gE oneD;dsimp only;have K:oW (eJ s.j ((w::r).map .str) [c_,c_,c_,c_])=.ok (q_ (w=wK/\r.length=1)):=and_t (e _) wK 1 2 rfl;have H:oV (eJ s.j ((w::r).map .str) [c_,c_,c_,c_])=.ok (q_ ((w=wG\/w=wB)/\r.length=3)):=and_g (e _);have G:mV (eJ s.j ((w::r).map .str) [c_,c_,c_,c_])=.ok (q_ (w=wC/\r.length=2)):=and_t (e _) wC 2 3 rfl;have F:mU (eJ s.j ((w::r).map .str) [c_,c_,c_,c_])=.ok (!decide (w=wF/\r.length=6)):=or_f (e _);rw[K,aj];by_cases h1:w=wK/\r.length=1
 .rw[x_ h1,f_ rfl];obtain⟨x,r',rfl,f⟩:=Er h1.2;cases len0 f;have:=one_kind n s I (w:=w) (Y x am);unfold jF;rw[f_ h1.1];exact this
 rw[p9 h1,k_ a8,H,aj];by_cases g:(w=wG\/w=wB)/\r.length=3
 .rw[x_ g,f_ rfl];obtain⟨x,p,rfl,f⟩:=Er g.2;obtain⟨y,r2,rfl,i⟩:=Er f;obtain⟨v,A,rfl,o⟩:=Er i;cases len0 o;have E:w≠wK:=λz=>g.1.elim (λu=>sN.1 (u.symm.trans z)) λu=>sN.2.1 (u.symm.trans z);unfold jF;rw[k_ E];by_cases m:w=wG
  .rw[f_ m];exact FA n s b_ q (x:=x) (y:=y) m (Y v am)
  .have t:w=wB:=g.1.elim (λu=>Ho u m) id;rw[k_ m,f_ t];exact FA n s d_ q (x:=x) (y:=y) t (Y v am)
 rw[p9 g,k_ a8,G,aj];by_cases l:w=wC/\r.length=2
 .rw[x_ l,f_ rfl];obtain⟨x,p,rfl,f⟩:=Er l.2;obtain⟨y,r2,rfl,i⟩:=Er f;cases len0 i;have z:=l.1;unfold jF;rw[k_ (λu=>sN.2.2.2.1 (z.symm.trans u)),k_ (λu=>sN.2.2.2.2.1 (z.symm.trans u)),k_ (λu=>sN.2.2.2.2.2.1 (z.symm.trans u)),f_ z];exact Dn n s I (Y x am) (Y y am)
 rw[p9 l,k_ a8,F,aj];by_cases j:w=wF/\r.length=6
 .rw[x_ j,k_ a8];obtain⟨nm,p,rfl,f⟩:=Er j.2;obtain⟨k,r2,rfl,i⟩:=Er f;obtain⟨a,A,rfl,o⟩:=Er i;obtain⟨b,O,rfl,D⟩:=Er o;obtain⟨c,N,rfl,C⟩:=Er D;obtain⟨d,L,rfl,B⟩:=Er C;cases len0 B;have z:=j.1;unfold jF;rw[k_ (λu=>sN.2.2.2.2.2.2.1 (z.symm.trans u)),k_ (λu=>sN.2.2.2.2.2.2.2.1 (z.symm.trans u)),k_ (λu=>sN.2.2.2.2.2.2.2.2.1 (z.symm.trans u)),k_ (λu=>sN.2.2.2.2.2.2.2.2.2 (z.symm.trans u)),f_ z];exact Dm n s I (Y nm am) (Y a am) (Y b am) (Y c am) (Y d am)
 rw[p9 j,f_ (show(!false)=d_ from rfl)];have:jF s w r=c_:=by
  unfold jF;split
  .rename_i h;exact FX λz=>h1 ⟨h,z⟩
  split
  .rename_i h;exact Ci λz=>g ⟨.inl h,z⟩
  split
  .rename_i h;exact Ci λz=>g ⟨.inr h,z⟩
  split
  .rename_i h;exact Bd λz=>l ⟨h,z⟩
  split
  .rename_i h;exact AO λz=>j ⟨h,z⟩
  .rfl
 rw[this];rfl
end
def ug(s:WS)(x:m_):Option WS:=match iw x with
 |[]=>a_ s|w::r=>if HP w "#"=d_ then a_ s else jF s w r
def qS:Nat->b8->WS->Sum Nat WS
 |_,[],s=>.inr s|k,x::xs,s=>match ug s x with
  |some s'=>qS (k+1) xs s'|none=>.inl k
theorem BG(I:WI s)(h:ug s x=a_ s'):WI s'/\s'.g.length<=s.g.length+1/\s'.b.length<=s.b.length+1:=by
 unfold ug at h;split at h
 .simp_all
 .split at h
  .simp_all
  .exact xn I h
def zJ{r:ce}(e:w.cps.toList=c::r):HP w "#"=q_ (c=35):=by
 have h1:(n_ "#")=⟨#[35]⟩:=by decide +kernel
 rw[h1];obtain⟨⟨l⟩⟩:=w;cases(show l=c::r from e);unfold HP;simp[Builtin.Str.subAt,Str.length];rfl
section
variable(CR CP CS CW CD:e_)
def EE(n:Nat)(s:WS)(hw:HP w "#"=d_):bJ s.d.D ((w::r).map .str)=.ok (d_,s.d.D):=by
 have t:(fOr (fB (f2 eqM (ah 1) (fL bQ aB))) (ke (fSM oy (f2 ixD (ah 1) (bm 0)) (fC (.str "#"))))) [c_,a_ (.lst ((w::r).map .str))]=.ok d_:=by
  have I:gV ((w::r).map A3.str) 0=.ok (.str w):=get0;have e:eqM (.lst ((w::r).map A3.str)) (.lst [])=.ok (.bl b_):=by have h1:C' (.lst ((w::r).map A3.str)) 40=d_:=m8 (w::r) 39;show(if (C' (.lst ((w::r).map A3.str)) 40&&C' (.lst []) 40)=d_ then _ else _)=_;rw[f_ (by rw[h1];rfl)];rfl
  simp[e,I,hw,-F_]
 unfold bJ oq;show((fOr _ _ _).bind _)=_;rw[t];rfl
def row_prog(n:Nat)(s:WS)(I:WI s)(d:s.g.length<10000000/\s.b.length<10000000)(c:x.length<=1000000):oS (bJ s.d.D ((iw x).map .str)) (ug s x):=by
 have Y:=xj c;unfold ug;cases hw:iw x with
 |nil=>rfl|cons w r=>
  rw[hw]at Y;dsimp only;cases a:HP w "#" with
  |true=>rw[f_ rfl];exact EE n s a|false=>rw[k_ a8];exact take_any n s I d w r a λy b=>Y y (by simp[b])
theorem xU(n:Nat):∀(xs:b8) (k:Nat) (s:WS),WI s->(∀x∈xs,x.length<=1000000)->s.g.length+xs.length<10000000->s.b.length+xs.length<10000000 ->
  oz CW "row" (bJ) (gG) k (xs.map .str) s.d.D=(match qS k xs s with
   |.inl m=>.error (.exc CW [("row",.int (m:Nat))])|.inr s'=>.ok s'.d.D)
 |[],k,s,_,_,_,_=>rfl|x::xs,k,s,I,a,h1,h2=>by
  simp only[Hl]at h1 h2;have hw:=Ey n (a x am);have Y:=row_prog n s I ⟨ad,ad⟩ (a x am);show((noX (gG [.str x])).bind _)=_;rw[hw];show((noX (bJ s.d.D ((iw x).map .str))).bind _)=_;unfold qS;cases b:ug s x with
  |none=>rw[b]at Y;obtain⟨ds,e⟩:=Y;rw[e];rfl
  |some s'=>rw[b]at Y;have e:bJ s.d.D ((iw x).map .str)=.ok (d_,s'.d.D):=Y;rw[e];obtain⟨d,f,g2⟩:=BG I b;exact xU n xs (k+1) s' d (λy c=>a y (by simp[c])) ad ad
theorem BE(n:Nat)(Y:b8)(b:∀x∈Y,x.length<=1000000)(C:Y.length<=1000001):∀(m k:Nat) (s:WS),WI s->k+m=Y.length->s.g.length+m<10000000->s.b.length+m<10000000 ->
  pN (gE) (cN) (cM) (bq) (cI) (Y.map .str) m k s.j=.ok (match qS (k+1) (Y.drop k) s with
   |.inl q=>.inl (.int (q:Nat))|.inr s'=>.inr s'.j)
 |0,k,s,_,B,_,_=>by rw[Nl ad];rfl|m+1,k,s,I,B,h1,h2=>by
  have f:k<Y.length:=ad
  rw[JX f];have d:Y[k].length<=1000000:=b _ (JV f);have hw:=DD n d;have g:=xj d;have D:gV (Y.map A3.str) (k:Int)=.ok (.str Y[k]):=by have:=lC (ds:=Y.map A3.str) (k:=k) bb;rw[this];simp
  have fw:cN (eK (Y.map .str) k c_)=.ok (.lst ((iw Y[k]).map .str)):=by simp[cN,eK,D,hw]
  have a:∀s',WI s'->s'.g.length<=s.g.length+1->s'.b.length<=s.b.length+1->_:=λs' l p g2=>BE n Y b C m (k+1) s' l ad ad ad
  unfold pN qS;rw[fw,aj];dsimp only;unfold ug;cases i:iw Y[k]with
  |nil=>
   have t3:bq (eK (Y.map .str) k (a_ (.lst [])))=.ok b_:=by have e:neM (.lst []) (.lst [])=.ok (.bl b_):=rfl;simp[bq,eK,e]
   show((bq (eK (Y.map .str) k (a_ (.lst [])))).bind _)=_;rw[t3,aj,k_ a8];exact a s I (Iq _) (Iq _)
  |cons w r=>
   rw[i]at g;have t3:bq (eK (Y.map .str) k (a_ (.lst ((w::r).map .str))))=.ok d_:=by
    have e:neM (.lst ((w::r).map A3.str)) (.lst [])=.ok (.bl d_):=by have h1:C' (.lst ((w::r).map A3.str)) 40=d_:=m8 (w::r) 39;show(if (C' (.lst ((w::r).map A3.str)) 40&&C' (.lst []) 40)=d_ then _ else _)=_;rw[f_ (by rw[h1];rfl)];rfl
    simp[bq,eK,e,-F_]
   rw[t3,aj,f_ rfl];obtain⟨u,F⟩:=g w am;cases j:w.cps.toList with
   |nil=>exact Ho j u|cons c q=>
   have z:=ix0' j (show w.length<=16777216 by lia);have t:(n_ "#")=⟨#[35]⟩:=by decide +kernel
   have E:gV ((w::r).map A3.str) 0=.ok (.str w):=get0;have e1:neM (.str ⟨#[c]⟩) (.str "#")=.ok (.bl (!decide (c=35))):=by
    rw[t,neS]
    congr 3
    rw[decide_eq_decide];constructor
    .simp
    .intro h;rw[h]
   have t4:cI (eK (Y.map .str) k (a_ (.lst ((w::r).map .str))))=.ok (!decide (c=35)):=by simp[cI,eK,E,z,e1,-F_]
   rw[t4,aj];dsimp only;rw[zJ j];by_cases o:c=35
   .rw[x_ o,k_ a8,f_ rfl];exact a s I (Iq _) (Iq _)
   .rw[p9 o,f_ (show(!false)=d_ from rfl),k_ a8,one_any n s I ⟨ad,ad⟩ w r λy v=>g y (by simp[v]),aj];cases A:jF s w r with
    |some s'=>obtain⟨l,p,g2⟩:=xn I A;exact(f_ rfl).trans (a s' l p g2)
    |none=>rfl
end
noncomputable def w0:WS:=⟨[],[],[],[],[]⟩
def CM:WI w0:=⟨.nil,a8,by simp[w0],λ_ h=>(nomatch h),λ_ h=>(nomatch h),a8,by simp[w0],.nil,a8,by simp[w0]⟩
def tbW(ks:b8)(g:PKs):List cc:=ks.map λx=>ks.map λy=>(jE g (x,y)).getD 0
def WS.sh(s:WS):Sht:=⟨s.ks,tbW s.ks s.g,if s.b.isEmpty=d_ then c_ else a_ (tbW s.ks s.b),s.nf,s.cs⟩
def rM{g:PKs}(h:CH ks g)(k:m_×m_):0<=(jE g k).getD 0/\(jE g k).getD 0<=1000000:=by
 unfold jE;cases e:g.find? λp=>q_ (p.1=k)with
 |none=>simp|some p=>exact(h p (List.mem_of_find?_eq_some e)).2.2
def Br{g:PKs}(h:CH ks g):eQ ks.length (tbW ks g):=by
 refine⟨by simp[tbW],λr I=>?_⟩
 obtain⟨x,_,rfl⟩:=HL.mp I;refine⟨am,λv hv=>?_⟩
 obtain⟨y,_,rfl⟩:=HL.mp hv;exact rM h _
theorem tbW_tb(I:ks.Nodup){g:PKs}(h:CH ks g):Tb ks.length (enc ks g) (tR (tbW ks g)):=λa c b Y=>by
 have f:kI ks ks[a]=a:=by unfold kI;rw[idx_at I b];rfl
 have d:kI ks ks[c]=c:=by unfold kI;rw[idx_at I Y];rfl
 have e:=AU (JV b) (JV Y) h;simp_all[xW,tbW,MO]
def WS.sg(I:WI s)(Y:s.ks≠[]):s.sh.SG where
 k1:=List.length_pos_iff.mpr Y
 k6:=I.k6
 kn:=I.kn
 kd:=I.kd
 rows:=Br I.gi
 o:=λr2 h=>by
  have h:(if s.b.isEmpty=d_ then c_ else a_ (tbW s.ks s.b))=a_ r2:=h;split at h
  .cases h
  .cases h;exact Br I.bi
 nm:=I.nm
 nn:=I.nn
 nd:=I.nd
 cm:=I.cm
 cl:=I.cl
theorem WS.desc(I:WI s):Desc s.d s.sh where
 ks:=rfl
 nf:=rfl
 cs:=rfl
 g:=tbW_tb I.kd I.gi
 b0:=λh=>by
  have h:(if s.b.isEmpty=d_ then c_ else a_ (tbW s.ks s.b))=c_:=h;split at h
  .rename_i Y;have:s.b=[]:=by simpa using Y
   show enc s.ks s.b=[]
   rw[this];rfl
  .cases h
 b1:=λr2 h=>by
  have h:(if s.b.isEmpty=d_ then c_ else a_ (tbW s.ks s.b))=a_ r2:=h;split at h
  .cases h
  .rename_i Y;cases h;refine⟨λe=>Y ?_,tbW_tb I.kd I.bi⟩
   have e:enc s.ks s.b=[]:=e;simp_all[enc,LB]
theorem nh:∀(xs:b8) (k:Nat) (s:WS),WI s->∀s',qS k xs s=.inr s'->WI s'
 |[],_,s,I,s',h=>by cases h;exact I|x::xs,k,s,I,s',h=>by
  unfold qS at h;cases Y:ug s x with
  |none=>simp_all|some a=>rw[Y]at h;exact nh xs (k+1) a (BG I Y).1 s' h
def EF(ks:b8)(g:PKs):tabJ g ks=b6 (tbW ks g):=by simp[tabJ,b6,tbW,G_,rowJ,qT]
section
variable(CR CP CS CW CD:e_)
def Gu(x:m_):A3:=match qS 1 (cE x) w0 with
 |.inl q=>.int (q:Nat)|.inr s=>if s.ks=[]then .int 0 else s.sh.D
theorem oG(n:Nat)(j:x.length<=1000000):dW [.str x]=.ok (Gu x):=by
 obtain⟨h1,h2,k⟩:=BF x;have f:(n_ "\n").length=1:=by decide +kernel
 have c:x.length+2<=16777216:=ad
 have f0:gv (eT x)=.ok (.lst ((cE x).map .str)):=by simp[gv,eT,f,c,cE]
 have Y:=BE n (cE x) (λy g=>by have:=h2 y g;lia) ad (cE x).length 0 w0 CM ad (by show 0+_<_;lia) (by show 0+_<_;lia);rw[MP]at Y;have a:ux (gE) (gv) (cN) (cM) (iM) (bq) (cI) (fU) x=.ok (Gu x):=by
  unfold ux;rw[f0,aj];dsimp only;rw[f_ (by rw[Hu,A_];lia),A_];have Y:pN (gE) (cN) (cM) (bq) (cI) ((cE x).map .str) (cE x).length 0 s0J=_:=Y;rw[Y,aj];unfold Gu;cases h:qS 1 (cE x) w0 with
  |inl q=>rfl|inr s=>
   dsimp only;have I:=nh _ _ _ CM s h;have e4:fU (eM s.j c_)=.ok (q_ (s.ks=[])):=by
    have e:eqM (.lst (s.ks.map A3.str)) (.lst [])=.ok (.bl (q_ (s.ks=[]))):=by have h1:C' (.lst (s.ks.map A3.str)) 40=d_:=m8 s.ks 39;show(if (C' (.lst (s.ks.map A3.str)) 40&&C' (.lst []) 40)=d_ then _ else _)=_;rw[f_ (by rw[h1];rfl)];cases s.ks<;>rfl
    simp[fU,eM,WS.j,e]
   rw[e4,aj];by_cases b:s.ks=[]
   .simp_all
   .rw[p9 b,k_ a8,k_ b];rw[show gR s.j.dk=.ok s.ks from iz s.ks,aj,f_ (by rw[Hu];have:=I.k6;lia)];have i:AB s.j s.ks=[b6 (tbW s.ks s.g),s.sh.bD]:=by
     unfold AB;rw[EF,EF];show [b6 (tbW s.ks s.g),if s.b.isEmpty=d_ then A3.non else b6 (tbW s.ks s.b)]=_;unfold Sht.bD WS.sh;cases s.b.isEmpty<;>rfl
    rw[i];rfl
 show(((ux _ _ _ _ _ _ _ _ x).bind λd=>Hr (A9.rt d)).bind _)=_;rw[a];rfl
theorem BJ(a:CR≠CP)(n:Nat)(v:x.length<=1000000):cj CR CP CS CW CD n [.str x]=(match qS 1 (cE x) w0 with
  |.inl q=>.error (.exc CW [("row",.int (q:Nat))])|.inr s=>if s.ks=[]then .error (.exc CW [("row",.int 0)])else .ok (s.sh.obj CR CP CS)):=by
 obtain⟨h1,h2,w⟩:=BF x;have l:(n_ "\n").length=1:=by decide +kernel
 have k:x.length+2<=16777216:=ad
 have o:(fSM oX (ah 0) (fC (.str "\n"))) [a_ (.str x),c_,c_,c_]=.ok (.lst ((cE x).map .str)):=by simp[l,k,cE]
 have g:=xU CW n (cE x) 1 w0 CM (λy m=>by have:=h2 y m;lia) (by show 0+_<_;lia) (by show 0+_<_;lia);have b:j5 CR CP CS CW CD n [a_ (.str x),c_,c_,c_]=(match qS 1 (cE x) w0 with
  |.inl q=>.error (.exc CW [("row",.int (q:Nat))])|.inr s=>if s.ks=[]then .error (.exc CW [("row",.int 0)])else .ok (.rt (s.sh.obj CR CP CS))):=by
  unfold j5 qR;refine(f_ (show(q_ (1<4)&&q_ (2<4)&&q_ (3<4))=d_ from rfl)).trans ?_;show(noX ((fSM oX (ah 0) (fC (.str "\n"))) [a_ (.str x),c_,c_,c_])).bind _=_;rw[o];show(oz CW "row" _ _ 1 ((cE x).map .str) ds0).bind _=_;have g:oz CW "row" (bJ) (gG) 1 ((cE x).map .str) ds0=_:=g;rw[g];cases i:qS 1 (cE x) w0 with
  |inl q=>rfl|inr s=>
   have I:=nh _ _ _ CM s i;dsimp only;rw[aj];obtain⟨a1,A,z,f,d,c⟩:=dr_at (CD:=CD) s.d;have a1:bO [CD] "kinds" (drD CD s.d.D)=.ok (.lst (s.ks.map .str)):=a1;have e:eqM (.lst (s.ks.map A3.str)) (.lst [])=.ok (.bl (q_ (s.ks=[]))):=by have h1:C' (.lst (s.ks.map A3.str)) 40=d_:=m8 s.ks 39;show(if (C' (.lst (s.ks.map A3.str)) 40&&C' (.lst []) 40)=d_ then _ else _)=_;rw[f_ (by rw[h1];rfl)];cases s.ks<;>rfl
   by_cases Y:s.ks=[]
   .simp_all[x_,f_,cz,nU]
   .rw[p9 Y]at e;rw[k_ Y];have u:cz CR CP CS CW CD n [a_ (.str x),a_ (drD CD s.d.D),c_,c_]=.ok (.nx [a_ (.str x),a_ (drD CD s.d.D),c_,c_]):=by
     simp[cz,a1,e]
    have h:=WS.sg I Y;have r:=DZ (CR:=CR) (CP:=CP) (CS:=CS) (CW:=CW) (CD:=CD) n h (WS.desc I);have p:=text_ok CR CP CS CW CD a n h.good;have t:newS CS (eC CR CP CS CW CD n) [.lst (s.ks.map .str),s.sh.ru CR CP,.lst ((s.nf.map (·.1)).map .str),.lst ((s.nf.map (·.2)).map flD),.lst (s.cs.map stD)]=.ok (s.sh.obj CR CP CS):=by show(eC CR CP CS CW CD n [s.sh.kD,s.sh.ru CR CP,s.sh.nD,s.sh.fD,s.sh.cD]).bind _=_;rw[p];rfl
    have f:bO [CD] "names" (drD CD s.d.D)=.ok (.lst ((s.nf.map (·.1)).map .str)):=f;have d:bO [CD] "flights" (drD CD s.d.D)=.ok (.lst ((s.nf.map (·.2)).map flD)):=d;have c:bO [CD] "closed" (drD CD s.d.D)=.ok (.lst (s.cs.map stD)):=c;rw[nU];show((cz CR CP CS CW CD n [a_ (.str x),a_ (drD CD s.d.D),c_,c_]).bind _)=_;rw[u,aj];have j:(bZ (fL (newS CS (eC CR CP CS CW CD n)) (aa (f1 (bO [CD] "kinds") (ah 1)) (aa (fL (cJ CR CP CS CW CD n) (aa (ah 1) aB)) (aa (f1 (bO [CD] "names") (ah 1)) (aa (f1 (bO [CD] "flights") (ah 1)) (aa (f1 (bO [CD] "closed") (ah 1)) aB))))))) [a_ (.str x),a_ (drD CD s.d.D),c_,c_]=.ok (.rt (s.sh.obj CR CP CS)):=by simp[a1,f,d,c,r,t,-G_]
    show noX (bZ _ [a_ (.str x),a_ (drD CD s.d.D),c_,c_])=_;rw[j];rfl
 unfold cj;rw[e_run];rw[f_ (show [A3.str x].length=1 from rfl)];show((j5 CR CP CS CW CD n [a_ (.str x),c_,c_,c_]).bind _)=_;rw[b];cases i:qS 1 (cE x) w0 with
 |inl q=>rfl|inr s=>
  dsimp only;by_cases Y:s.ks=[]
  .rw[f_ Y,f_ Y];rfl
  simp_all
end
section
variable(CR CP CS CW CD:e_)
theorem told_any(b:CR≠CP)(n:Nat)(g:x.length<=1000000):eU CR CP CS CW CD n [.str x]=.ok (match qS 1 (cE x) w0 with
  |.inl q=>.lst [.non,.int (q:Nat),.bl d_,.bl d_,.bl b_]|.inr s=>if s.ks=[]then .lst [.non,.int 0,.bl d_,.bl d_,.bl b_]else .lst [s.sh.obj CR CP CS]):=by
 have I:=BJ CR CP CS CW CD b n g;have Y:∀q:Int,cj CR CP CS CW CD n [.str x]=.error (.exc CW [("row",.int q)])->eU CR CP CS CW CD n [.str x]=.ok (.lst [.non,.int q,.bl d_,.bl d_,.bl b_]):=λq h=>by
  have c:gA CR CP CS CW CD n [a_ (.str x),a_ (.lst []),c_]=.ok (.nx [a_ (.str x),a_ (.lst [.non,.int q,.bl d_,.bl d_,.bl b_]),c_]):=by
   unfold gA;rw[uH (f:=("row",.int q)) (fs:=[]) (by show(((cj CR CP CS CW CD n [.str x]).bind λa=>Hr [a]).bind bQ).bind _=_;rw[h];rfl)]
   rw[e_xToldN];rfl
  simp[eU,my,c]
 cases d:qS 1 (cE x) w0 with
 |inl q=>rw[d]at I;exact Y _ I|inr s=>
  rw[d]at I;dsimp only at I ⊢;by_cases e:s.ks=[]
  .rw[f_ e]at I ⊢;exact Y _ I
  .rw[k_ e]at I ⊢;have c:gA CR CP CS CW CD n [a_ (.str x),a_ (.lst []),c_]=.ok (.nx [a_ (.str x),a_ (.lst [s.sh.obj CR CP CS]),c_]):=by
    unfold gA;exact yR bb
   simp[eU,my,c]
def p8(b:CR≠CP)(n:Nat)(h:x.length<=1000000):bE CR CP CS CW CD n [.str x]=.ok (.bl d_):=by
 have Y:=oG n h;have a:=told_any CR CP CS CW CD b n h;unfold Gu at Y;have c:∀q:Int,dW [.str x]=.ok (.int q)->eU CR CP CS CW CD n [.str x]=.ok (.lst [.non,.int q,.bl d_,.bl d_,.bl b_])->bE CR CP CS CW CD n [.str x]=.ok (.bl d_):=λq h1 h2=>by
  have e:eqM (.lst [.non,.int q,.bl d_,.bl d_,.bl b_]) (.lst [.non,.int q,.bl d_,.bl d_,.bl b_])=.ok (.bl d_):=vi rfl;have k:gV [.non,.int q,.bl d_,.bl d_,.bl b_] 1=.ok (.int q):=rfl;have w1:dM [.int q]=.ok (.bl d_):=by simp[dM,kM,hZ]
  have g:eO [a_ (.str x),a_ (.int q),a_ (.lst [.non,.int q,.bl d_,.bl d_,.bl b_])]=.ok (.rt (.bl d_)):=by simp[eO,e,k,w1,hZ]
  simp[bE,kN,h1,h2,g]
 cases d:qS 1 (cE x) w0 with
 |inl q=>rw[d]at Y a;exact c _ Y a|inr s=>
  rw[d]at Y a;dsimp only at Y a;by_cases f:s.ks=[]
  .rw[f_ f]at Y a;exact c _ Y a
  .rw[k_ f]at Y a;have I:=nh _ _ _ CM s d;have i:=WS.sg I f;have m:=is_ok CR CP CS CW CD b n i.good;have j:gm s.sh.D=.ok (.bl b_):=rfl;have e1:eqM (.int 1) (.int 1)=.ok (.bl d_):=vi rfl;have l:gV [s.sh.obj CR CP CS] 0=.ok (s.sh.obj CR CP CS):=rfl;have g:eO [a_ (.str x),a_ s.sh.D,a_ (.lst [s.sh.obj CR CP CS])]=.ok (.nx [a_ (.str x),a_ s.sh.D,a_ (.lst [s.sh.obj CR CP CS])]):=by
    simp[eO,j]
   simp[bE,kN,Y,a,g,e1,l,m,hZ]
end
theorem ixS_at(a:0<=i)(h:z.cps.toList[i.toNat]?=a_ c)(I:z.length<=100):uz (.str z) (.int i)=.ok (.str ⟨#[c]⟩):=by
 have Y:z.length<=h_:=HB I a8;have d:=(s_.mp h).1;have b:atI z.cps.toList i=a_ c:=by unfold atI ixN;rw[f_ (show 0<=i from a),f_ ad];exact h
 show(if z.length<=h_ then(match atI z.cps.toList i with
  |some c=>Hr (A3.str ⟨#[c]⟩)|none=>stk)else stk)=_
 rw[f_ Y,b]
theorem C8(I:m_):∀xs:b8,(Iy I xs).length<=(xs.map (·.length)).sum+xs.length*I.length
 |[]=>HX _|[a]=>by simp[join_one]|a::b::r=>by have Y:=C8 I (b::r);rw[jT,uf,uf];simp only[F_,Pm,Hl,Nat.add_mul]at Y ⊢;lia
noncomputable abbrev Pr:=A3->Prop
variable{P Q R:Pr}{Ps:List Pr}
def S'(b:Nat):Pr:=λd=>∃z:m_,d=.str z/\z.length<=b
def X'(a:Nat):Pr:=λd=>∃z:m_,d=.str z/\z.length=a
def I'(a b:Int):Pr:=λd=>∃x,d=.int x/\a<=x/\x<=b
def L'(a b:Nat)(P:Pr):Pr:=λd=>∃xs,d=.lst xs/\a<=xs.length/\xs.length<=b/\∀x∈xs,P x
def A2:List Pr->bv->Prop
 |[],[]=>True|P::Ps,d::ds=>P d/\A2 Ps ds|_,_=>False
def T'(Ps:List Pr):Pr:=λd=>∃xs,d=.tup xs/\A2 Ps xs
abbrev Gm:=List (Option Pr)
variable{Γ Γ' Γ1 Γ2:Gm}{Γb:Nat->Gm}
def E'(Γ:Gm)(ρ:ai):Prop:=ρ.length=Γ.length/\∀(i:Nat) (P:Pr),Γ[i]?=a_ (a_ P)->∃d,ρ[i]?=a_ (a_ d)/\P d
noncomputable def erG:ce->Gm->Gm
 |[],Γ=>Γ|i::is,Γ=>erG is (Γ.set i c_)
def Te(Γ:Gm)(f:ai->M A3)(P:Pr):Prop:=∀ρ,E' Γ ρ->∃d,f ρ=.ok d/\P d
def Tl(Γ:Gm)(f:ai->M bv)(a b:Nat)(P:Pr):Prop:=∀ρ,E' Γ ρ->∃ds,f ρ=.ok ds/\a<=ds.length/\ds.length<=b/\∀x∈ds,P x
def Ta(Γ:Gm)(f:ai->M bv)(Ps:List Pr):Prop:=∀ρ,E' Γ ρ->∃ds,f ρ=.ok ds/\A2 Ps ds
def Tq(Γ:Gm)(f:ai->M Bool):Prop:=∀ρ,E' Γ ρ->∃b,f ρ=.ok b
def J(Γ:Gm)(s:ai->M A9)(Γ':Gm)(R:Pr):Prop:=∀ρ,E' Γ ρ->(∃ρ',s ρ=.ok (.nx ρ')/\E' Γ' ρ')\/∃d,s ρ=.ok (.rt d)/\R d
def Tr(Γ:Gm)(s:ai->M A9)(R:Pr):Prop:=∀ρ,E' Γ ρ->∃d,s ρ=.ok (.rt d)/\R d
theorem E'.set{Γ:Gm}{ρ:ai}(h:E' Γ ρ){d:A3}{P:Pr}(p:P d)(i:Nat):E' (Γ.set i (a_ P)) (ρ.set i (a_ d)):=by
 refine⟨by rw[Hs,Hs,h.1],λj Q e=>?_⟩
 by_cases c:i=j
 .subst c;by_cases I:i<Γ.length
  .rw[sy I]at e;rw[sy (h.1▸I)];simp_all
  simp_all
 .rw[p_ c]at e ⊢;exact h.2 j Q e
theorem E'.hid(h:E' Γ ρ)(i:Nat)(o:Option A3):E' (Γ.set i c_) (ρ.set i o):=by
 refine⟨by rw[Hs,Hs,h.1],λj Q e=>?_⟩
 by_cases c:i=j
 .subst c;by_cases I:i<Γ.length
  .rw[sy I]at e;cases e
  .rw[JR (by rw[Hs];lia)]at e;cases e
 .rw[p_ c]at e ⊢;exact h.2 j Q e
theorem E'.er{Γ:Gm}{ρ:ai}(h:E' Γ ρ):∀O,E' (erG O Γ) (erase O ρ)
 |[]=>h|i::O=>(h.hid i c_).er O
def tw(h:Te Γ f P)(q:∀d,P d->Q d):Te Γ f Q:=λρ r=>let ⟨d,e,p⟩:=h ρ r;⟨d,e,q d p⟩
def tv{i:Nat}(h:Γ[i]?=a_ (a_ P)):Te Γ (ah i) P:=λρ r=>by obtain⟨d,e,p⟩:=r.2 i P h;exact⟨d,by unfold ah;rw[e],p⟩
def tcX:Te Γ (fC (.str z)) (X' z.length):=λ_ _=>⟨_,rfl,z,rfl,rfl⟩
def tcS:Te Γ (fC (.str z)) (S' z.length):=λ_ _=>⟨_,rfl,z,rfl,r_ _⟩
def tcI:Te Γ (fC (.int i)) (I' i i):=λ_ _=>⟨_,rfl,i,rfl,Mw _,Mw _⟩
theorem t2(h:Te Γ f P)(k:Te Γ g Q)(q:∀d e,P d->Q e->∃r,o d e=.ok r/\R r):Te Γ (f2 o f g) R:=λρ r=>by obtain⟨d,e,p⟩:=h ρ r;obtain⟨d',Y,I⟩:=k ρ r;simp_all[f2,aj]
theorem taS(h:Te Γ f (S' a))(k:Te Γ g (S' b))(l:a+b<=16777216):Te Γ (f2 cR f g) (S' (a+b)):=t2 h k λ_ _ ⟨x,e,p⟩ ⟨y,I,Y⟩=>by
 subst e;subst I;refine⟨.str (x++y),?_,_,rfl,by rw[uf];lia⟩
 show(if x.length+y.length<=h_ then _ else _)=_;rw[f_ (by rw[Hu];lia)]
theorem taX(h:Te Γ f (X' a))(k:Te Γ g (X' b))(l:a+b<=16777216):Te Γ (f2 cR f g) (X' (a+b)):=t2 h k λ_ _ ⟨x,e,p⟩ ⟨y,I,Y⟩=>by
 subst e;subst I;refine⟨.str (x++y),?_,_,rfl,by rw[uf];lia⟩
 show(if x.length+y.length<=h_ then _ else _)=_;simp_all
theorem taI{a b c d:Int}(h:Te Γ f (I' a b))(k:Te Γ g (I' c d)):Te Γ (f2 cR f g) (I' (a+c) (b+d)):=t2 h k λ_ _ ⟨x,e,p⟩ ⟨y,I,Y⟩=>by subst e;subst I;exact⟨_,rfl,_,rfl,ad,ad⟩
theorem taL{d:Nat}(h:Te Γ f (L' a b P))(k:Te Γ g (L' c d P))(l:b+d<=16777216):Te Γ (f2 cR f g) (L' (a+c) (b+d) P):=t2 h k λ_ _ ⟨x,e,p,p1,p2⟩ ⟨y,i,q,j,I⟩=>by
 subst e;subst i;refine⟨.lst (x++y),?_,_,rfl,by simp;lia,by simp;lia,λz Y=>(HR.mp Y).elim (p2 z) (I z)⟩
 show(if x.length+y.length<=h_ then _ else _)=_;rw[f_ (by rw[Hu];lia)]
theorem tmu{a b c d:Int}(h:Te Γ f (I' a b))(k:Te Γ g (I' c d))(j:0<=a)(i:0<=c)(l:b<2^64\/d<2^64):Te Γ (f2 yz f g) (I' 0 (b*d)):=t2 h k λ_ _ ⟨x,e,p⟩ ⟨y,Y,I⟩=>by
 subst e;subst Y;refine⟨.int (x*y),?_,_,rfl,Int.mul_nonneg ad ad,M0 p.2 I.2 ad ad⟩
 show(if (fV x||fV y)=d_ then _ else _)=_;refine f_ ?_;unfold fV;grind
theorem tmo{a b c d:Int}(h:Te Γ f (I' a b))(k:Te Γ g (I' c d))(i:0<c):Te Γ (f2 iZ f g) (I' 0 (d-1)):=t2 h k λ_ _ ⟨x,e,p⟩ ⟨y,I,Y⟩=>by subst e;subst I;have a1:=Kx x (b:=y) ad;have j:=Ka x (b:=y) ad;exact⟨_,e_mod ad,_,rfl,a1,ad⟩
theorem tdi{a b k:Int}(h:Te Γ f (I' a b))(I:0<k/\k<2^64):Te Γ (f2 eX f (fC (.int k))) (I' (a/k) (b/k)):=t2 h tcI λ_ _ ⟨x,e,p⟩ ⟨y,Y,c⟩=>by
 subst e;subst Y;have:y=k:=ad
 subst this;refine⟨.int (x/y),?_,_,rfl,O5 I.1 p.1,O5 I.1 p.2⟩
 show(if (q_ (0<y)&&q_ (y<18446744073709551616))=d_ then _ else _)=_;simp_all
theorem tln(h:Te Γ f (L' a b P)):Te Γ (fL iT (aa f aB)) (I' a b):=λρ r=>by obtain⟨d,e,xs,I,p,q,_⟩:=h ρ r;subst I;exact⟨.int xs.length,by unfold fL aa;rw[e];rfl,_,rfl,ad,ad⟩
theorem tix{c d:Int}(h:Te Γ f (L' a b P))(k:Te Γ g (I' c d))(j:0<=c)(hd:d<a):Te Γ (f2 ixD f g) P:=t2 h k λ_ _ ⟨xs,e,p,_,q⟩ ⟨y,Y,i⟩=>by
 subst e;subst Y;have I:y.toNat<xs.length:=ad
 refine⟨xs[y.toNat],?_,q _ (JV I)⟩
 show gV xs y=_;have:=lC (ds:=xs) (k:=y.toNat) I
 grind
theorem A2.at:∀{Ps:List Pr} {ds:bv},A2 Ps ds->∀{i:Nat} {P:Pr},Ps[i]?=a_ P->∃d,ds[i]?=a_ d/\P d
 |[],[],_,_,_,h=>nomatch h
 |_::_,d::_,h,0,_,e=>by cases e;exact⟨d,rfl,h.1⟩|_::_,_::_,h,i+1,_,e=>A2.at (Ps:=_) h.2 (i:=i) e
theorem A2.len:∀{Ps:List Pr} {ds:bv},A2 Ps ds->ds.length=Ps.length
 |[],[],_=>rfl|_::_,_::_,h=>Jg (·+1) (A2.len h.2)
theorem tiT(h:Te Γ f (T' Ps))(hi:0<=i/\Ps[i.toNat]?=a_ P):Te Γ (f2 ixD f (fC (.int i))) P:=t2 h tcI λ_ _ ⟨xs,e,p⟩ ⟨y,Y,c⟩=>by
 subst e;subst Y;obtain rfl:y=i:=ad
 obtain⟨d,a,b⟩:=p.at hi.2;obtain⟨I,a⟩:=s_.mp a;refine⟨d,?_,b⟩
 show gV xs y=_;have:=lC (ds:=xs) (k:=y.toNat) I;grind
theorem tiS{c d:Int}(h:Te Γ f (X' a))(k:Te Γ g (I' c d))(i:0<=c)(hd:d<a)(j:a<=100):Te Γ (f2 uz f g) (S' 1):=t2 h k λ_ _ ⟨z,e,p⟩ ⟨y,Y,b⟩=>by
 subst e;subst Y;have I:y.toNat<z.cps.toList.length:=by have:z.cps.toList.length=a:=p;lia
 exact⟨_,ixS_at ad (HA I) ad,_,rfl,r_ 1⟩
theorem tst{a b:Int}(h:Te Γ f (I' a b))(g:0<=a)(c:b<10^10):Te Γ (fL ES (aa f aB)) (S' 11):=λρ r=>by
 obtain⟨d,e,x,Y,p,q⟩:=h ρ r;subst Y;have I:x.natAbs<10^10:=ad
 refine⟨.str (d7 x),?_,_,rfl,str_len I⟩
 unfold fL aa;rw[e];show ES [.int x]=_;rw[e_strD,f_ (ox I)]
theorem strsL{b c:Nat}:∀{xs:bv},(∀x∈xs,S' c x)->xs.length<=b->∃rs:b8,xs=rs.map .str/\(∀r∈rs,r.length<=c)/\rs.length<=b
 |[],_,_=>⟨[],rfl,λ_ h=>(nomatch h),HX _⟩
 |x::xs,h,l=>by
  obtain⟨z,rfl,Y⟩:=h x am;obtain⟨rs,e,k,_⟩:=strsL (b:=xs.length) (xs:=xs) (λy a=>h y (by simp[a])) (r_ _);refine⟨z::rs,by rw[e];rfl,λr I=>?_,bb⟩
  rcases t_.mp I with rfl|I
  .exact Y
  .exact k r I
theorem sum_le{c:Nat}:∀{rs:b8},(∀r∈rs,r.length<=c)->(rs.map (·.length)).sum<=rs.length*c
 |[],_=>HX _|r::rs,h=>by have:=sum_le (rs:=rs) λx I=>h x (by simp[I]);have:=h r am;simp only[F_,Pm,Hl,Nat.add_mul];lia
theorem tjo{k:Nat}{I:m_}(h:Te Γ f (L' a b (S' c)))(Y:I.length=k)(l:b*(c+k)<=16777216):Te Γ (fSM nE (fC (.str I)) f) (S' (b*(c+k))):=λρ r=>by
 obtain⟨d,e,xs,i,p,q,w⟩:=h ρ r;subst i;obtain⟨rs,rfl,w,v⟩:=strsL w q;have m:=sum_le w;have j:rs.length*c+rs.length*k<=b*(c+k):=by rw[<- Nat.mul_add];exact N7 _ v
 have g:=C8 I rs;rw[Y]at g;refine⟨.str (Iy I rs),?_,_,rfl,ad⟩
 unfold fSM fC;show(f ρ).bind (nE (.str I))=_;rw[e];show(gR (rs.map .str)).bind _=_;rw[iz];show(if _ then _ else _)=_;rw[f_ (by rw[Hu,Y];lia)]
def an:Ta Γ aB []:=λ_ _=>⟨[],rfl,Ml⟩
def ac{g:ai->M bv}(h:Te Γ f P)(k:Ta Γ g Ps):Ta Γ (aa f g) (P::Ps):=λρ r=>by obtain⟨d,e,p⟩:=h ρ r;obtain⟨ds,Y,I⟩:=k ρ r;exact⟨d::ds,by unfold aa;rw[e,aj,Y];rfl,p,I⟩
def Tm(Γ:Gm)(f:ai->M bv)(n:Nat)(P:Pr):Prop:=∀ρ,E' Γ ρ->∃ds,f ρ=.ok ds/\ds.length=n/\∀x∈ds,P x
def mn:Tm Γ aB 0 P:=λ_ _=>⟨[],rfl,rfl,λ_ h=>(nomatch h)⟩
def mc{g:ai->M bv}(h:Te Γ f P)(k:Tm Γ g n P):Tm Γ (aa f g) (n+1) P:=λρ r=>by
 obtain⟨d,e,p⟩:=h ρ r;obtain⟨ds,a,l,Y⟩:=k ρ r;refine⟨d::ds,by unfold aa;rw[e,aj,a];rfl,Jg (·+1) l,λx I=>?_⟩
 rcases t_.mp I with rfl|I
 .exact p
 .exact Y x I
def mS{g:ai->M bv}(h:Te Γ f (S' a))(l:a<=b)(k:Tm Γ g n (S' b)):Tm Γ (aa f g) (n+1) (S' b):=mc (tw h λ_ ⟨z,e,p⟩=>⟨z,e,HB p l⟩) k
theorem tli{g:ai->M bv}(k:Tm Γ g n P)(l:n<=16777216):Te Γ (fL bQ g) (L' n n P):=λρ r=>by
 obtain⟨ds,Y,h,I⟩:=k ρ r;refine⟨.lst ds,?_,ds,rfl,ad,ad,I⟩
 simp_all
theorem tup{Γ:Gm}{g:ai->M bv}{Ps:List Pr}(k:Ta Γ g Ps)(l:Ps.length.ble 99=d_):Te Γ (fL iU g) (T' Ps):=λρ r=>by
 obtain⟨ds,I,h⟩:=k ρ r;refine⟨.tup ds,?_,ds,rfl,h⟩
 unfold fL;rw[I];exact f_ (by have:=NO l;rw[Hu,h.len];lia)
def Fn(m:bv->M A3)(Ps:List Pr)(R:Pr):Prop:=∀ds,A2 Ps ds->∃d,m ds=.ok d/\R d
def tca{g:ai->M bv}{m:bv->M A3}(h:Fn m Ps R)(k:Ta Γ g Ps):Te Γ (fL m g) R:=λρ r=>by obtain⟨ds,e,p⟩:=k ρ r;obtain⟨d,a,b⟩:=h ds p;exact⟨d,by unfold fL;rw[e,aj,a],b⟩
theorem A2.env:∀{Ps:List Pr} {ds:bv} (k:Nat),A2 Ps ds->E' (Ps.map a_++Ie k c_) (ds.map a_++Ie k c_):=λ{Ps ds} k h=>by
 refine⟨by simp[h.len],λi P e=>?_⟩
 by_cases c:i<Ps.length
 .rw[IA bb,HJ]at e;rw[IA (by simpa[h.len] using c),HJ];cases q:Ps[i]? with
  |none=>rw[q]at e;cases e|some Q=>rw[q]at e;cases e;obtain⟨d,a,b⟩:=h.at q;exact⟨d,by rw[a];rfl,b⟩
 simp_all[Jf,J9]
def fn{g:ai->M A9}{N:Nat}(h:Tr (Ps.map a_++Ie (N-n) c_) g R)(e:n=Ps.length):Fn (bH N n g) Ps R:=λds a=>by
 have l:ds.length=n:=by rw[a.len,e]
 obtain⟨d,q,r⟩:=h _ (a.env (N-n));refine⟨d,?_,r⟩
 unfold bH;rw[f_ l,l,q];rfl
def it(h:Te Γ f (L' a b P)):Tl Γ (fIt f) a b P:=λρ r=>by obtain⟨d,e,xs,I,p,q,w⟩:=h ρ r;subst I;exact⟨xs,by unfold fIt;rw[e];rfl,p,q,w⟩
theorem ra(h:Te Γ f (I' a b))(l:b<2^62):Tl Γ (pP qU (aa f aB)) a b (I' 0 (b-1)):=λρ r=>by
 obtain⟨d,e,x,c,p,q⟩:=h ρ r;subst c;refine⟨i6 0 x.toNat,?_,by unfold i6;simp;lia,by simp_all[i6],λy I=>?_⟩
 .unfold pP aa;rw[e];show(if jI x=d_ then _ else _)=_;refine f_ ?_;unfold jI;simp only[o_,Hx];lia
 .obtain⟨k,Y,rfl⟩:=HL.mp I;have:=List.mem_range.mp Y;exact⟨_,rfl,ad,ad⟩
theorem zi{d:Nat}(h:Te Γ f (L' a b P))(k:Te Γ g (L' c d Q)):Tl Γ (AR f g) 0 b (T' [P,Q]):=λρ r=>by
 obtain⟨_,e,xs,rfl,p,q,w⟩:=h ρ r;obtain⟨_,o,ys,rfl,t,s,j⟩:=k ρ r;have z:∀(xs ys:bv),(∀x∈xs,P x)->(∀y∈ys,Q y)->(oj xs ys).length<=xs.length/\∀x∈oj xs ys,T' [P,Q] x:=by
  intro xs
  induction xs with
  |nil=>exact λys _ _=>⟨r_ _,λ_ h=>(nomatch h)⟩
  |cons x xs n=>
   intro ys i Y;cases ys with
   |nil=>exact⟨HX _,λ_ h=>(nomatch h)⟩
   |cons y ys=>
    obtain⟨l,m⟩:=n ys (λu I=>i u (by simp[I])) (λu I=>Y u (by simp[I]));refine⟨Nat.succ_le_succ l,λu I=>?_⟩
    rcases t_.mp I with rfl|I
    .exact⟨[x,y],rfl,i x am,Y y am,Ml⟩
    .exact m u I
 obtain⟨l,m⟩:=z xs ys w j;exact⟨oj xs ys,by unfold AR;rw[e,aj,o];rfl,HX _,ad,m⟩
noncomputable def inG(ix:List (Option Nat))(Γ:Gm):Gm:=ix.map λo=>o.bind λj=>(Γ[j]?).join
theorem E'.inG{Γ:Gm}{ρ:ai}(h:E' Γ ρ)(ix:List (Option Nat)):E' (Tactic.inG ix Γ) (ki ix ρ):=by
 unfold Tactic.inG ki;refine⟨am,λi P e=>?_⟩
 rw[HJ]at e ⊢;cases q:ix[i]? with
 |none=>simp_all|some o=>
  rw[q]at e;cases o with
  |none=>cases e|some j=>
   have e:(Γ[j]?).join=a_ P:=Hz e;cases w:Γ[j]? with
   |none=>rw[w]at e;cases e|some o=>rw[w]at e;have e:o=a_ P:=e;subst e;obtain⟨d,a,b⟩:=h.2 j P w;simp_all
theorem tcm{fi:ai->M bv}{fe:ai->M A3}{ix:List (Option Nat)}{k:Nat}(h:Tl Γ fi a b P)(g:Te ((inG ix Γ).set k (a_ P)) fe Q)(l:b<=16777216):Te Γ (dm fi ix (.nm k) gZ fe) (L' a b Q):=λρ r=>by
 obtain⟨ds,e,p,q,w⟩:=h ρ r;have f:=r.inG ix;have z:∀ds:bv,(∀x∈ds,P x)->∃es,bx (.nm k) gZ fe (ki ix ρ) ds=.ok es/\es.length=ds.length/\∀x∈es,Q x:=by
  intro ds
  induction ds with
  |nil=>exact λ_=>⟨[],rfl,rfl,λ_ h=>(nomatch h)⟩
  |cons d ds i=>
   intro Y;obtain⟨es,a,b,c⟩:=i λu I=>Y u (by simp[I]);obtain⟨y,e1,e2⟩:=g _ (f.set (Y d am) k);refine⟨y::es,?_,Jg (·+1) b,λu I=>?_⟩
   .show(fe _).bind _=_;simp_all
   .rcases t_.mp I with rfl|I
    .exact e2
    .exact c u I
 obtain⟨es,a,b,c⟩:=z ds w;refine⟨.lst es,?_,es,rfl,ad,ad,c⟩
 unfold dm;rw[e];show(if _ then _ else _)=_;rw[f_ (by rw[Hu];lia),a];rfl
theorem sr2{a b:Int}(h:Te Γ g (L' 2 2 (I' a b))):Te Γ (fL srt2 (aa g aB)) (L' 2 2 (I' a b)):=λρ r=>by
 obtain⟨_,e,xs,rfl,p,q,w⟩:=h ρ r;obtain⟨x,y,rfl⟩:∃x y,xs=[x,y]:=by
  match xs,p,q with
  |[x,y],_,_=>exact⟨x,y,rfl⟩
 obtain⟨i,rfl,hi⟩:=w x am;obtain⟨j,rfl,I⟩:=w y am;refine⟨.lst (if j<i then [.int j,.int i]else [.int i,.int j]),by unfold fL aa;rw[e];rfl,_,rfl,by split<;>simp,by split<;>simp,?_⟩
 grind
theorem tsl(h:Te Γ f (L' a b P))(Y:∀ρ,E' Γ ρ->∃o,lo ρ=.ok o)(hh:∀ρ,E' Γ ρ->∃o,hi ρ=.ok o):Te Γ (fSl bR f lo hi) (L' 0 b P):=λρ r=>by
 obtain⟨_,e,xs,rfl,p,q,w⟩:=h ρ r;obtain⟨x,e1⟩:=Y ρ r;obtain⟨y,e2⟩:=hh ρ r;refine⟨.lst (wZ xs x y),by unfold fSl;rw[e,aj,e1,aj,e2];rfl,_,rfl,HX _,?_,λu I=>w u ?_⟩
 .unfold wZ;rw[IS,Kl];lia
 .unfold wZ at I;exact NQ (NP I)
def pn:∀ρ,E' Γ ρ->∃o,gF ρ=.ok o:=λ_ _=>⟨_,rfl⟩
def ps{a b:Int}(h:Te Γ f (I' a b)):∀ρ,E' Γ ρ->∃o,dC f ρ=.ok o:=λρ r=>by obtain⟨_,e,x,rfl,_⟩:=h ρ r;exact⟨a_ x,by unfold dC;rw[e];rfl⟩
def se{i:Nat}(h:Te (erG O Γ) f P):J Γ (aV O i f) (Γ.set i (a_ P)) R:=λρ r=>by obtain⟨d,e,p⟩:=h _ (r.er O);exact .inl ⟨ρ.set i (a_ d),by unfold aV;rw[e];rfl,r.set p i⟩
theorem lstAt_of{i:Nat}{xs:bv}(e:ρ[i]?=a_ (a_ (.lst xs))):jR ρ i=.ok xs:=by simp_all[jR]
theorem ap{i:Nat}(g:Γ[i]?=a_ (a_ (L' a b P)))(h:Te (erG O Γ) f P)(l:b<16777216):J Γ (ji O i f) (Γ.set i (a_ (L' (a+1) (b+1) P))) R:=λρ r=>by
 obtain⟨_,e,xs,rfl,p,q,w⟩:=r.2 i _ g;obtain⟨d,e2,p2⟩:=h _ (r.er O);refine .inl ⟨ρ.set i (a_ (.lst (xs++[d]))),?_,r.set ⟨_,rfl,by simp;lia,by simp;lia,λu I=>?_⟩ i⟩
 .unfold ji;rw[lstAt_of e,aj,e2,aj,f_ (by rw[Hu];lia)];rfl
 .rcases HR.mp I with I|I
  .exact w u I
  .rw[Ik.mp I];exact p2
def nx:J Γ cg Γ R:=λρ r=>.inl ⟨ρ,rfl,r⟩
def rt(h:Te Γ f P)(q:∀d,P d->R d):J Γ (bZ f) Γ' R:=λρ r=>by obtain⟨d,e,p⟩:=h ρ r;exact .inr ⟨d,by unfold bZ;rw[e];rfl,q d p⟩
def rT(h:Te Γ f P)(q:∀d,P d->R d):Tr Γ (bZ f) R:=λρ r=>by obtain⟨d,e,p⟩:=h ρ r;exact⟨d,by unfold bZ;rw[e];rfl,q d p⟩
def sQ{a b:ai->M A9}(h:J Γ a Γ1 R)(k:J Γ1 b Γ2 R):J Γ (bo a b) Γ2 R:=λρ r=>by
 unfold bo;rcases h ρ r with⟨ρ',e,r'⟩|⟨d,e,q⟩
 .rw[e];exact k ρ' r'
 .rw[e];exact .inr ⟨d,rfl,q⟩
def sT{a b:ai->M A9}(h:J Γ a Γ1 R)(k:Tr Γ1 b R):Tr Γ (bo a b) R:=λρ r=>by
 unfold bo;rcases h ρ r with⟨ρ',e,r'⟩|⟨d,e,q⟩
 .rw[e];exact k ρ' r'
 .rw[e];exact⟨d,rfl,q⟩
def fi{c:ai->M Bool}{a b:ai->M A9}(I:Tq Γ c)(h:J Γ a Γ' R)(k:J Γ b Γ' R):J Γ (sIf c a b) Γ' R:=λρ r=>by
 obtain⟨x,e⟩:=I ρ r;unfold sIf;rw[e];show(∃ρ',(if x=d_ then a ρ else b ρ)=_/\_)\/∃d,(if x=d_ then a ρ else b ρ)=_/\_;split
 .exact h ρ r
 .exact k ρ r
def Su(Γ Γ':Gm):Prop:=∀ρ,E' Γ ρ->E' Γ' ρ
def wk{s:ai->M A9}(h:J Γ s Γ1 R)(k:Su Γ1 Γ2):J Γ s Γ2 R:=λρ r=>(h ρ r).imp (λ⟨ρ',e,q⟩=>⟨ρ',e,k ρ' q⟩) id
def u0:Su [] []:=λ_ h=>h
def E'.tl{o:Option Pr}{x:Option A3}(h:E' (o::Γ) (x::ρ)):E' Γ ρ:=⟨Iv h.1,λi P e=>h.2 (i+1) P e⟩
def u1{o:Option Pr}(h:Su Γ Γ'):Su (o::Γ) (c_::Γ'):=λρ r=>by
 cases ρ with
 |nil=>cases r.1|cons x ρ=>
  have k:=h ρ r.tl;refine⟨Jg (·+1) k.1,λi P e=>?_⟩
  cases i with
  |zero=>cases e|succ i=>exact k.2 i P e
def u2(q:∀d,P d->Q d)(h:Su Γ Γ'):Su (a_ P::Γ) (a_ Q::Γ'):=λρ r=>by
 cases ρ with
 |nil=>cases r.1|cons x ρ=>
  have k:=h ρ r.tl;refine⟨Jg (·+1) k.1,λi I e=>?_⟩
  cases i with
  |zero=>cases e;obtain⟨d,a,b⟩:=r.2 0 P rfl;exact⟨d,a,q d b⟩
  |succ i=>exact k.2 i I e
def Bn(p:Pat)(P:Pr)(Γ Γ':Gm):Prop:=∀ρ d,E' Γ ρ->P d->∃ρ',jZ p d ρ=.ok ρ'/\E' Γ' ρ'
def bn{i:Nat}:Bn (.nm i) P Γ (Γ.set i (a_ P)):=λ_ _ r p=>⟨_,rfl,r.set p i⟩
noncomputable def stG:ce->List Pr->Gm->Gm
 |i::is,P::Ps,Γ=>stG is Ps (Γ.set i (a_ P))|_,_,Γ=>Γ
theorem stE:∀{is:ce} {Ps:List Pr} {ds:bv} {Γ:Gm} {ρ:ai},E' Γ ρ->A2 Ps ds->E' (stG is Ps Γ) (jt is ds ρ)
 |[],_,_,_,_,r,_=>by simp_all[stG,jt]|_::_,[],[],_,_,r,_=>r|i::is,_::_,_::_,_,_,r,a=>stE (is:=is) (r.set a.1 i) a.2
def bt{is:ce}(h: ~~~(Ps.length=is.length)):Bn (.tp is) (T' Ps) Γ (stG is Ps Γ):=λρ _ r ⟨xs,e,a⟩=>by subst e;exact⟨_,f_ (by rw[a.len,h]),stE r a⟩
def un(h:Te (erG O Γ) f P)(b:Bn p P Γ Γ'):J Γ (sX O p f) Γ' R:=λρ r=>by obtain⟨d,e,q⟩:=h _ (r.er O);obtain⟨ρ',I,r'⟩:=b ρ d r q;exact .inl ⟨ρ',by unfold sX;rw[e,aj,I];rfl,r'⟩
theorem fr{I:Nat->Gm}{Γb:Nat->Gm}{p:Pat}{b:Nat}{P R:Pr}{s:ai->M A9}(c:∀k,Bn p P (I k) (Γb k))(g:∀k,k<b->J (Γb k) s (I (k+1)) R):∀(ds:bv),(∀x∈ds,P x)->∀k ρ,k+ds.length<=b->E' (I k) ρ->(∃ρ',oN p s ds ρ=.ok (.nx ρ')/\E' (I (k+ds.length)) ρ')\/∃d,oN p s ds ρ=.ok (.rt d)/\R d
 |[],_,k,ρ,_,r=>.inl ⟨ρ,rfl,r⟩|d::ds,h,k,ρ,l,r=>by
  simp only[Hl]at l;obtain⟨a,e1,e⟩:=c k ρ d r (h d am);rw[oN,e1,aj];rcases g k ad a e with⟨Y,e2,r2⟩|⟨x,e2,q⟩
  .rw[e2,aj];rw[Hl,show k+(ds.length+1)=k+1+ds.length by lia];exact fr c g ds (λx f=>h x (by simp[f])) (k+1) Y ad r2
  .rw[e2,aj];exact .inr ⟨x,rfl,q⟩
theorem fo(I:Nat->Gm){fi:ai->M bv}{s:ai->M A9}(h:Tl (erG O Γ) fi a b P)(f:Su Γ (I 0))(d:∀k,Bn p P (I k) (Γb k))(g:∀k,k<b->J (Γb k) s (I (k+1)) R)(w:∀m,a<=m->m<=b->Su (I m) Γ'):J Γ (oY O fi p s) Γ' R:=λρ r=>by
 obtain⟨ds,e,c,Y,q⟩:=h _ (r.er O);unfold oY;rw[e];rcases fr d g ds q 0 ρ ad (f ρ r)with⟨ρ',e,r'⟩|k
 .rw[Qh]at r';exact .inl ⟨ρ',e,w _ c Y ρ' r'⟩
 .exact .inr k
theorem fT(I:Nat->Gm){fi:ai->M bv}{s t:ai->M A9}(h:Tl (erG O Γ) fi a b P)(i:Su Γ (I 0))(f:∀k,Bn p P (I k) (Γb k))(g:∀k,k<b->J (Γb k) s (I (k+1)) R)(w:∀m,a<=m->m<=b->Tr (I m) t R):Tr Γ (bo (oY O fi p s) t) R:=λρ r=>by
 obtain⟨ds,e,c,Y,q⟩:=h _ (r.er O);unfold bo oY;rw[e];rcases fr f g ds q 0 ρ ad (i ρ r)with⟨ρ',e,r'⟩|⟨d,e,k⟩
 .rw[Qh]at r';rw[aj,e];exact w _ c Y ρ' r'
 .rw[aj,e];exact⟨d,rfl,k⟩
def O'(P:Pr):Pr:=λd=>d=.non\/P d
def fO{i:Nat}{a b:ai->M A9}(h:Γ[i]?=a_ (a_ (O' P)))(k:J (Γ.set i (a_ P)) a Γ' R)(l:J Γ b Γ' R):J Γ (sIf (fB (f2 vN (ah i) (fC .non))) a b) Γ' R:=λρ r=>by
 obtain⟨d,e,q⟩:=r.2 i _ h;have g:ah i ρ=.ok d:=by unfold ah;rw[e]
 have f:∃x,fB (f2 vN (ah i) (fC .non)) ρ=.ok x/\(x=d_->P d):=by
  unfold fB f2;rw[g];show ∃x,(vN d .non).bind asB=.ok x/\_;cases d with
  |non=>exact⟨b_,rfl,λh=>(nomatch h)⟩
  |_=>exact⟨d_,rfl,λ_=>q.elim (λh=>(nomatch h)) id⟩
 obtain⟨x,m,Y⟩:=f;unfold sIf;rw[m];show(∃ρ',(if x=d_ then a ρ else b ρ)=_/\_)\/∃d,(if x=d_ then a ρ else b ρ)=_/\_;split
 .rename_i c;refine k ρ ⟨by rw[Hs,r.1],λj Q w=>?_⟩;by_cases I:i=j
  .subst I;rw[sy (by have:=(s_.mp h).1;exact this)]at w;cases w;exact⟨d,e,Y c⟩
  .rw[p_ I]at w;exact r.2 j Q w
 .exact l ρ r
def qg{a b c d:Int}(h:Te Γ f (I' a b))(k:Te Γ g (I' c d))(q:autoParam (∀x y:Int,∃b,o (.int x) (.int y)=.ok (.bl b)) Jq12):Tq Γ (fB (f2 o f g)):=λρ r=>by obtain⟨_,e,x,rfl,_⟩:=h ρ r;obtain⟨_,I,y,rfl,_⟩:=k ρ r;obtain⟨z,q⟩:=q x y;exact⟨z,by unfold fB f2;rw[e,aj,I,aj,q];rfl⟩
theorem it5(h:Te Γ f (T' [Q,P,P,P,P])):Tl Γ (fIt (fSl bR f (dC (bm 1)) gF)) 4 4 P:=λρ r=>by
 obtain⟨_,e,xs,rfl,w⟩:=h ρ r;obtain⟨x,xs,rfl⟩:∃x y,xs=x::y:=by
  cases xs with
  |nil=>cases w|cons x y=>exact⟨x,y,rfl⟩
 have l:=w.len;refine⟨xs,?_,bb,bb,λu Y=>?_⟩
 .unfold fIt fSl;rw[e];show(bR (.tup (x::xs)) (a_ 1) c_).bind iJ=_;simp at l;simp[bR,wZ,cX,l,iJ];exact Nj ad
 .obtain⟨i,hi,rfl⟩:=LC Y;have k:=w.2.len;have I:i<4:=by rw[k]at hi;exact hi
  obtain⟨d,a,b⟩:=w.2.at (i:=i) (P:=P) (by match i,I with|0,_=>rfl|1,_=>rfl|2,_=>rfl|3,_=>rfl)
  rw[HA hi]at a;cases a;exact b
theorem aI{g:ai->M bv}{a b c d:Int}(h:Te Γ f (I' a b))(l:c<=a)(u:b<=d)(k:Ta Γ g Ps):Ta Γ (aa f g) (I' c d::Ps):=ac (tw h λ_ ⟨x,e,p⟩=>⟨x,e,ad,ad⟩) k
theorem mI{g:ai->M bv}{a b c d:Int}(h:Te Γ f (I' a b))(l:c<=a)(u:b<=d)(k:Tm Γ g n (I' c d)):Tm Γ (aa f g) (n+1) (I' c d):=mc (tw h λ_ ⟨x,e,p⟩=>⟨x,e,ad,ad⟩) k
def apS{i d:Nat}(g:Γ[i]?=a_ (a_ (L' a b (S' d))))(h:Te (erG O Γ) f (S' c))(u:c<=d)(l:b<16777216):J Γ (ji O i f) (Γ.set i (a_ (L' (a+1) (b+1) (S' d)))) R:=ap g (tw h λ_ ⟨z,e,p⟩=>⟨z,e,HB p u⟩) l
def wS(h:a<=b):∀d,S' a d->S' b d:=λ_ ⟨z,e,p⟩=>⟨z,e,HB p h⟩
theorem wI{a b c d:Int}(h:c<=a)(k:b<=d):∀x,I' a b x->I' c d x:=λ_ ⟨z,e,p⟩=>⟨z,e,ad,ad⟩
theorem wL{d:Nat}(h:c<=a)(k:b<=d):∀x,L' a b P x->L' c d P x:=λ_ ⟨z,e,p,q,r⟩=>⟨z,e,ad,ad,r⟩
def wO:∀x,P x->O' P x:=λ_=>.inr
def r0(h:Te Γ f (L' a b P))(l:b<2^62):Tl Γ (pP qU (aa (fL iT (aa f aB)) aB)) a b (I' 0 (b-1)):=ra (tln h) l
theorem r1{c d:Int}(h:Te Γ f (I' c d))(u:a<=c)(v:d<=b)(l:b<2^62):Tl Γ (pP qU (aa f aB)) a b (I' 0 (b-1)):=ra (tw h λ_ ⟨x,e,p⟩=>⟨x,e,ad,ad⟩) l
def m0:Tm Γ aB 0 (S' 0):=mn
def mM{g:ai->M bv}(h:Te Γ f (S' a))(k:Tm Γ g n (S' b)):Tm Γ (aa f g) (n+1) (S' (max a b)):=mS h (Nat.le_max_left _ _) λρ r=>let ⟨ds,e,l,p⟩:=k ρ r;⟨ds,e,l,λx I=>wS (Nat.le_max_right _ _) x (p x I)⟩
theorem nl(h:m<=6):7+((m:Int)-1)*m+((m:Int)-1)<=999999:=by have:=M0 (show(m:Int)-1<=6 by lia) (show(m:Int)<=6 by lia) ad ad;lia
open Lean Parser.Tactic in
def tyS:Syntax:=Unhygienic.run do
 let q:=λ(x:Name)=>`(tacticSeq|apply $(mkIdent x))
 let a<- #[`tcI,`tcS,`tcX].mapM q
 let b<- #[`taS,`taX,`taI,`tmu,`tmo,`tdi,`tln].mapM q
 let c<- #[`tix,`tiS,`tst].mapM q
 let d<- #[`sr2,`tli,`tup,`an,`aI,`ac,`m0,`mn,`mM,`mS,`mI].mapM q
 let e<- #[`r1,`it5,`it,`zi,`tcm,`u0,`u1].mapM q
 let f:= #[<- `(tacticSeq|(refine tv ?_;rfl)),<- `(tacticSeq|(apply tiT;(refine tv ?_;rfl);exact⟨by decide,rfl⟩)),<- `(tacticSeq|apply tjo (k:=1)),<- `(tacticSeq|refine' tca (by assumption) ?_)]
 let r:=λ(x:TSyntax `term)=>`(tacticSeq|refine u2 $x ?_)
 let k:= #[<- r (<- `(wL ?_ ?_)),<- r (<- `(wI ?_ ?_)),<- r (<- `(wS ?_)),<- r (mkIdent `wO),<- r (<- `(λ_ h=>h)),<- `(tacticSeq|lia),<- `(tacticSeq|exact nl (by assumption)),<- `(tacticSeq|rfl),<- `(tacticSeq|decide +kernel)]
 let z:=a++f.extract 0 1++b++f.extract 1 2++c++f.extract 2 3++d++f.extract 3 4++e++k
 `(tacticSeq|repeat' (first $[|$z]*))
theorem ty{p:Prop}(h:autoParam p tyS):p:=h
section
variable(CR CP CS CW CD:e_)
def Sc:Pr:=λd=>∃ns:cc,d=.lst (ns.map .int)/\ns.length<=63
abbrev Big:=I' 0 2305843009213693950
theorem fnum(n:Nat):Fn (ba) [Sc,I' 0 999999] Big:=λds a=>by
 match ds,a with
 |[_,_],⟨⟨ns,rfl,l⟩,⟨k,rfl,I,h1⟩,_⟩=>obtain⟨x,e,b⟩:=FG n ns l k I ad;exact⟨_,e,x,rfl,b.1,ad⟩
theorem fcell(n:Nat):Fn (bU) [Sc,I' 0 1000] (I' 0 1000000000000000000000000):=λds a=>by
 match ds,a with
 |[_,_],⟨⟨ns,rfl,l⟩,⟨j,rfl,I,h1⟩,_⟩=>
  obtain⟨k,rfl⟩:∃k:Nat,j=k:=⟨j.toNat,ad⟩
  by_cases h:k<ns.length
  .have e:=lC (ds:=ns.map A3.int) (k:=k) bb;have a1:=Kx ns[k] (b:=1000000000000000000000000) a8;have Y:=Ka ns[k] (b:=1000000000000000000000000) a8;exact⟨.int (ns[k]%1000000000000000000000000),by simp[bU,jo,i5,h,e],_,rfl,a1,ad⟩
  .exact⟨.int 0,by simp[bU,jo,i5,h],_,rfl,a8,a8⟩
theorem fname(n:Nat):Fn (mh) [Big,I' 0 25] (S' 8):=by
 refine fn (N:=5) (n:=2) ?_ rfl;refine sT (se tcX) ?_;refine sT (se (P:=S' _) ty) ?_;refine fT (λk=>[a_ Big,c_,a_ (X' 26),a_ (S' (2+k)),c_]) (a:=0) (b:=5) ty ty (λ_=>bn) ?_ ?_
 .intro k I;exact wk (sQ (se (P:=I' _ _) ty) (sQ (se (P:=I' _ _) ty) (se (P:=S' _) ty))) ty
 .exact λm _ _=>rT (tv rfl) (wS ad)
theorem fflnm(n:Nat):Fn (gj) [Big,I' 0 39] (S' 9):=by
 refine fn (N:=4) (n:=2) ?_ rfl;refine sT (se (P:=S' _) ty) ?_;refine fT (λk=>[a_ Big,c_,a_ (S' (2+k)),c_]) (a:=0) (b:=6) ty ty (λ_=>bn) ?_ ?_
 .intro k I;exact wk (sQ (se (P:=I' _ _) ty) (sQ (se (P:=I' _ _) ty) (se (P:=S' _) ty))) ty
 .exact λm _ _=>rT (tv rfl) (wS ad)
def fgap(n:Nat):Fn (lu) [Big] (I' 0 1000000):=fn (N:=1) (n:=1) (rT (P:=I' 0 1000000) ty (λ_ h=>h)) rfl
def ftime(n:Nat):Fn (dN) [Big] (I' 0 1000000000):=fn (N:=1) (n:=1) (rT (P:=I' 0 1000000000) ty (λ_ h=>h)) rfl
end
section
variable(CR CP CS CW CD:e_)
abbrev Ti:=I' 0 1000000000
abbrev Gt(m:Nat):=L' m m (L' m m (I' 0 1000000))
abbrev Fg(m:Nat):=T' [I' 0 (m-1),Ti,Ti,Ti,Ti]
abbrev Da(m f c:Nat):=T' [L' m m (S' 8),Gt m,O' (Gt m),L' f f (S' 9),L' f f (Fg m),L' c c (T' [Ti,Ti])]
def DaE:Pr:=λd=>∃m f c,1<=m/\m<=6/\f<=40/\c<=3/\Da m f c d
theorem fdata(n:Nat):Fn (mi) [Sc] DaE:=by
 have l:=fnum n;have q:=fcell n;have r:=fname n;have p:=fflnm n;have o:=fgap n;have j:=ftime n;refine fn (N:=12) (n:=1) ?_ rfl;refine sT (se (P:=L' 0 0 (S' 8)) ty) ?_;refine fT (λk=>[a_ Sc,a_ (L' k k (S' 8)),c_,c_,c_,c_,c_,c_,c_,c_,c_,c_]) (a:=1) (b:=6) ty ty (λ_=>bn) ?_ ?_
 .exact λk I=>wk (ap rfl ty ad) ty
 intro m m1 e;refine sT (se (P:=L' 0 0 (L' m m (I' 0 1000000))) ty) ?_;refine sT (se (P:=L' 0 0 (L' m m (I' 0 1000000))) ty) ?_;refine fT (λk=>[a_ Sc,a_ (L' m m (S' 8)),c_,a_ (L' k k (L' m m (I' 0 1000000))),a_ (L' k k (L' m m (I' 0 1000000))),c_,c_,c_,c_,c_,c_,c_]) (a:=m) (b:=m) ty ty (λ_=>bn) ?_ ?_
 .exact λk I=>wk (sQ (se (P:=L' m m Big) ty) (sQ (ap rfl ty ad) (ap rfl ty ad))) ty
 intro g h1 h2;obtain rfl:m=g:=ad
 refine sT (Γ1:=[a_ Sc,a_ (L' m m (S' 8)),c_,a_ (Gt m),a_ (O' (Gt m)),c_,c_,c_,c_,c_,c_,c_]) (fi (qg ty ty) (wk (se (P:=O' (Gt m)) λ_ _=>⟨_,rfl,.inl rfl⟩) ty) (wk nx ty)) ?_;refine sT (se (P:=L' 0 0 (S' 9)) ty) ?_;refine sT (se (P:=L' 0 0 (Fg m)) ty) ?_;refine sT (se (P:=I' _ _) ty) ?_;refine sT (Γ1:=[a_ Sc,a_ (L' m m (S' 8)),c_,a_ (Gt m),a_ (O' (Gt m)),c_,a_ (L' 0 0 (S' 9)),a_ (L' 0 0 (Fg m)),a_ (I' 0 40),c_,c_,c_]) (fi (qg ty ty) (wk (se (P:=I' _ _) ty) ty) (wk nx ty)) ?_;refine fT (λk=>[a_ Sc,a_ (L' m m (S' 8)),c_,a_ (Gt m),a_ (O' (Gt m)),c_,a_ (L' k k (S' 9)),a_ (L' k k (Fg m)),c_,c_,c_,c_]) (a:=0) (b:=40) ty ty (λ_=>bn) ?_ ?_
 .exact λk I=>wk (sQ (se (P:=Big) ty) (sQ (se (P:=L' 2 2 Ti) ty) (sQ (ap rfl ty ad) (ap rfl ty ad)))) ty
 intro f _ Y;refine sT (se (P:=L' 0 0 (T' [Ti,Ti])) ty) ?_;refine fT (λk=>[a_ Sc,a_ (L' m m (S' 8)),c_,a_ (Gt m),a_ (O' (Gt m)),c_,a_ (L' f f (S' 9)),a_ (L' f f (Fg m)),c_,c_,c_,a_ (L' k k (T' [Ti,Ti]))]) (a:=0) (b:=3) ty ty (λ_=>bn) ?_ ?_
 .exact λk I=>wk (sQ (se (P:=L' 2 2 Ti) ty) (ap rfl ty ad)) ty
 intro c _ i;exact rT (P:=Da m f c) ty λd h=>⟨m,f,c,m1,e,Y,i,h⟩
end
section
variable(CR CP CS CW CD:e_)
abbrev Rw:=S' 100
theorem fshown(n:Nat){f:Nat}(m1:1<=m)(Y:m<=6)(g:f<=40)(h:c<=3):Fn (j3) [Da m f c] (L' 1 140 Rw):=by
 refine fn (N:=15) (n:=1) ?_ rfl;refine sT (un (tv rfl) bt) ?_;refine sT (se (P:=L' m m Rw) (tcm (Q:=Rw) ty (tw (P:=S' _) ty (wS dkK)) ad)) ?_;refine fT (λk=>[c_,a_ (L' m m (S' 8)),a_ (Gt m),a_ (O' (Gt m)),a_ (L' f f (S' 9)),a_ (L' f f (Fg m)),a_ (L' c c (T' [Ti,Ti])),a_ (L' m (m+12*k) Rw),c_,c_,c_,c_,c_,c_,c_]) (a:=m) (b:=m) ty ty (λ_=>bn) ?_ ?_
 .intro k I;refine fo (λj=>[c_,a_ (L' m m (S' 8)),a_ (Gt m),a_ (O' (Gt m)),a_ (L' f f (S' 9)),a_ (L' f f (Fg m)),a_ (L' c c (T' [Ti,Ti])),a_ (L' m (m+12*k+2*j) Rw),a_ (I' 0 (m-1)),c_,c_,c_,c_,c_,c_]) (a:=m) (b:=m) ty ty (λ_=>bn) ?_ ?_
  .intro j e;refine sQ (Γ1:=[c_,a_ (L' m m (S' 8)),a_ (Gt m),a_ (O' (Gt m)),a_ (L' f f (S' 9)),a_ (L' f f (Fg m)),a_ (L' c c (T' [Ti,Ti])),a_ (L' m (m+12*k+2*j+1) Rw),a_ (I' 0 (m-1)),a_ (I' 0 (m-1)),c_,c_,c_,c_,c_]) (fi (qg ty ty) (wk (apS rfl ty dkK ad) ty) (wk nx ty)) ?_;exact fO rfl (wk (apS rfl ty dkK ad) ty) (wk nx ty)
  .exact λj h1 h2=>ty
 intro d h1 h2;refine fT (λk=>[c_,a_ (L' m m (S' 8)),c_,c_,a_ (L' f f (S' 9)),a_ (L' f f (Fg m)),c_,a_ (L' m (84+k) Rw),c_,c_,c_,c_,c_,c_,c_]) (a:=c) (b:=c) ty ty (λ_=>bt) ?_ ?_
 .exact λk I=>wk (apS rfl ty dkK ad) ty
 intro p _ l;refine fT (λk=>[c_,a_ (L' m m (S' 8)),c_,c_,c_,c_,c_,a_ (L' m (90+k) Rw),c_,c_,c_,c_,c_,c_,c_]) (a:=0) (b:=f) ty ty (λ_=>bt) ?_ ?_
 .exact λk I=>wk (sQ (se (P:=L' 4 4 (S' 11)) ty) (apS rfl ty dkK ad)) ty
 intro o _ i;exact rT (tv rfl) (wL ad ad)
end
def aS{g:ai->M bv}(h:Te Γ f (S' a))(l:a<=b)(k:Ta Γ g Ps):Ta Γ (aa f g) (S' b::Ps):=ac (tw h (wS l)) k
def tls(h:Te Γ f (L' a b P)):Te Γ (fL AD (aa f aB)) (L' a b P):=λρ r=>by obtain⟨_,e,xs,rfl,w⟩:=h ρ r;exact⟨.lst xs,by unfold fL aa;rw[e];rfl,xs,rfl,w⟩
def fF{c:ai->M Bool}{a b:ai->M A9}(I:∀ρ,E' Γ ρ->c ρ=.ok b_)(k:J Γ b Γ' R):J Γ (sIf c a b) Γ' R:=λρ r=>by unfold sIf;rw[I ρ r];exact k ρ r
def Tt:Pr:=λd=>d=.bl d_
section
variable(CR CP CS CW CD:e_)
def fright(I:CR≠CP)(n:Nat):Fn (bE CR CP CS CW CD n) [S' 1000000] Tt:=λds a=>by
 match ds,a with
 |[_],⟨⟨z,rfl,l⟩,_⟩=>exact⟨_,p8 CR CP CS CW CD I n l,rfl⟩
end
def N':Pr:=λd=>∃x,d=.int x
theorem tmN{c d:Int}(h:Te Γ f N')(k:Te Γ g (I' c d))(a:0<c):Te Γ (f2 iZ f g) (I' 0 (d-1)):=t2 h k λ_ _ ⟨x,e⟩ ⟨y,I,Y⟩=>by subst e;subst I;have a1:=Kx x (b:=y) ad;have i:=Ka x (b:=y) ad;exact⟨_,e_mod ad,_,rfl,a1,ad⟩
theorem tdN{k:Int}(h:Te Γ f N')(a:0<k/\k<2^64):Te Γ (f2 eX f (fC (.int k))) N':=t2 h tcI λ_ _ ⟨x,e⟩ ⟨y,I,Y⟩=>by
 subst e;subst I;have:y=k:=ad
 subst this;refine⟨.int (x/y),?_,_,rfl⟩
 show(if (q_ (0<y)&&q_ (y<18446744073709551616))=d_ then _ else _)=_;simp_all
def qgN{c d:Int}(h:Te Γ f N')(k:Te Γ g (I' c d))(q:autoParam (∀x y:Int,∃b,o (.int x) (.int y)=.ok (.bl b)) Jq12):Tq Γ (fB (f2 o f g)):=λρ r=>by obtain⟨_,e,x,rfl⟩:=h ρ r;obtain⟨_,I,y,rfl,_⟩:=k ρ r;obtain⟨z,q⟩:=q x y;exact⟨z,by unfold fB f2;rw[e,aj,I,aj,q];rfl⟩
def tx8{k:Int}(h:k=8\/k=9):Te Γ (f2 Av (fC (.str "x")) (fC (.int k))) (S' 9):=λ_ _=>by
 rcases h with rfl|rfl
 .exact⟨.str (MK "x" 8),by rfl,_,rfl,by decide +kernel⟩
 .exact⟨.str (MK "x" 9),by rfl,_,rfl,by decide +kernel⟩
section
variable(CR CP CS CW CD:e_)
theorem fany(n:Nat):Fn (jl) [N'] (S' 600):=by
 refine fn (N:=6) (n:=1) ?_ rfl;refine sT (se tcX) ?_;refine sT (se (P:=L' 14 14 (S' 10)) ty) ?_;refine sT (se (P:=L' 20 20 (S' 10)) (taL (tv rfl) (tli (mS tcS dkK (mS tcS dkK (mS tcS dkK (mS tcS dkK (mS (tx8 (.inl rfl)) a8 (mS (tx8 (.inr rfl)) a8 mn)))))) a8) a8)) ?_;refine sT (se (P:=S' 0) (tw tcS (wS dkK))) ?_;refine sT (se (P:=N') (tdN (tv rfl) a8)) ?_;refine fT (λk=>[a_ N',a_ (X' 40),a_ (L' 20 20 (S' 10)),a_ (S' (11*k)),a_ N',c_]) (a:=0) (b:=48) (r1 (taI (tmu (tmN (tdN (tv rfl) a8) tcI a8) tcI a8 a8 a8) tcI) a8 a8 a8) ty (λ_=>bn) ?_ ?_
 .intro k I;refine sQ (Γ1:=[a_ N',a_ (X' 40),a_ (L' 20 20 (S' 10)),a_ (S' (11*(k+1))),a_ N',c_]) (fi (qg (tmN (tv rfl) tcI a8) tcI) ?_ ?_) (fi (qgN (tv rfl) tcI) (rt (tv rfl) (wS ad)) nx)
  .exact wk (sQ (se (P:=S' _) (taS (tv rfl) (tiS (tv rfl) (tmN (tv rfl) tcI a8) a8 a8 a8) ad)) (se (P:=N') (tdN (tv rfl) a8))) ty
  .exact wk (sQ (se (P:=S' _) (taS (taS (tv rfl) (tix (tv rfl) (tmN (tv rfl) tcI a8) a8 a8) ad) (tw tcS (wS (b:=1) dkK)) ad)) (se (P:=N') (tdN (tv rfl) a8))) ty
 .exact λm _ _=>rT (tv rfl) (wS ad)
end
theorem clp(n:Nat)(i:Int):0<=max 0 (min i (n:Int))/\max 0 (min i (n:Int))<=n:=by lia
theorem rgl{x y:Int}{n:Nat}(h:0<=x)(k:y<=n):(sliceRange x y 1).length<=n:=by unfold sliceRange;simp only[A_,OG];rw[f_ (by decide)];split<;>lia
theorem sl_le(z:m_)(a b:Option Int):(LA z a b).length<=z.length:=by
 have hi:(LJ a b 1 z.length).length<=z.length:=by
  refine rgl (x:=_) (y:=_) ?_ ?_
  .cases a
   .exact Int.le_refl 0
   .exact(clp _ _).1
  .cases b
   .exact Int.le_refl _
   .exact(clp _ _).2
 show(LA z a b).cps.size<=z.cps.size;unfold LA;split
 .simp
 .simp only[HI];exact HB (List.length_filterMap_le _ _) hi
def Po(Γ:Gm)(f:ai->M (Option Int))(o:Option Int):Prop:=∀ρ,E' Γ ρ->f ρ=.ok o
def pX:Po Γ gF c_:=λ_ _=>rfl
theorem pS{a b:Int}(h:Te Γ f (I' a b))(e:a=b):Po Γ (dC f) (a_ a):=λρ r=>by
 obtain⟨_,q,x,rfl,p⟩:=h ρ r;obtain rfl:x=a:=ad
 unfold dC;rw[q];rfl
theorem tsx{l:Nat}{a b:Option Int}(h:Te Γ f (L' m m P))(Y:Po Γ lo a)(hh:Po Γ hi b)(e:cX m m b-cX m 0 a=l)(u:cX m m b<=m):Te Γ (fSl bR f lo hi) (L' l l P):=λρ r=>by
 obtain⟨_,q,xs,rfl,p,c,w⟩:=h ρ r;obtain rfl:xs.length=m:=ad
 refine⟨.lst (wZ xs a b),by unfold fSl;rw[q,aj,Y ρ r,aj,hh ρ r];rfl,_,rfl,?_,?_,λu I=>w u ?_⟩
 .grind[wZ,IS,Kl]
 .grind[wZ,IS,Kl]
 .unfold wZ at I;exact NQ (NP I)
def cX0(m:Nat)(p:Nat):cX m 0 (a_ (p:Int))=OE p m:=by rfl
def cXm(m:Nat)(p:Nat):cX m m (a_ (p:Int))=OE p m:=by rfl
theorem trv(h:Te Γ f (L' a b P)):Te Γ (f1 revD f) (L' a b P):=λρ r=>by obtain⟨_,e,xs,rfl,p,q,w⟩:=h ρ r;exact⟨.lst xs.reverse,by unfold f1;rw[e];rfl,_,rfl,bb,bb,λx I=>w x (List.mem_reverse.mp I)⟩
theorem tlS(h:Te Γ f (S' c))(l:c<=16777216):Te Γ (fL pI (aa f aB)) (I' 0 c):=λρ r=>by
 obtain⟨_,e,z,rfl,p⟩:=h ρ r;refine⟨.int z.length,?_,_,rfl,ad,ad⟩
 unfold fL aa;rw[e];show pI [.str z]=_;unfold pI;simp;lia
theorem tsS(h:Te Γ f (S' c))(I:∀ρ,E' Γ ρ->∃o,lo ρ=.ok o)(hh:∀ρ,E' Γ ρ->∃o,hi ρ=.ok o)(l:c<=16777216):Te Γ (fSl jJ f lo hi) (S' c):=λρ r=>by
 obtain⟨_,e,z,rfl,p⟩:=h ρ r;obtain⟨a,e1⟩:=I ρ r;obtain⟨b,e2⟩:=hh ρ r;refine⟨.str (LA z a b),?_,_,rfl,?_⟩
 .unfold fSl;rw[e,aj,e1,aj,e2,aj];exact f_ (by rw[Hu];lia)
 .exact HB (sl_le z a b) p
theorem opI{i:Nat}{a b:Int}{s:ai->M A9}(h:Γ[i]?=a_ (a_ (I' a b)))(c:0<=a)(k:∀p:Nat,(p:Int)<=b->Tr (Γ.set i (a_ (I' p p))) s R):Tr Γ s R:=λρ r=>by
 obtain⟨d,e,x,Y,p,q⟩:=r.2 i _ h;refine k x.toNat ad ρ ⟨by rw[Hs,r.1],λj Q z=>?_⟩;by_cases I:i=j
 .subst I;rw[sy (s_.mp h).1]at z;cases z;exact⟨d,e,x,Y,ad,ad⟩
 .rw[p_ I]at z;exact r.2 j Q z
def qA{c d:ai->M Bool}(h:Tq Γ c)(k:Tq Γ d):Tq Γ (rV c d):=λρ r=>by
 obtain⟨x,e⟩:=h ρ r;obtain⟨y,I⟩:=k ρ r;unfold rV;rw[e,aj];cases x
 .exact⟨b_,rfl⟩
 .exact⟨y,I⟩
theorem qAf{c d:ai->M Bool}(h:Tq Γ c)(k:∀ρ,E' Γ ρ->d ρ=.ok b_):∀ρ,E' Γ ρ->rV c d ρ=.ok b_:=λρ r=>by obtain⟨x,e⟩:=h ρ r;simp_all[rV,aj]
theorem qg0{a b k:Int}(h:Te Γ f (I' a b))(l:b<=k):∀ρ,E' Γ ρ->fB (f2 gtD f (fC (.int k))) ρ=.ok b_:=λρ r=>by obtain⟨_,e,x,rfl,p⟩:=h ρ r;unfold fB f2;rw[e];show Hr (q_ (k<x))=_;rw[p9 ad]
theorem wLP{d:Nat}(h:c<=a)(k:b<=d)(q:∀x,P x->Q x):∀x,L' a b P x->L' c d Q x:=λ_ ⟨z,e,p,Y,r⟩=>⟨z,e,ad,ad,λx I=>q x (r x I)⟩
section
variable(CR CP CS CW CD:e_)
theorem fbent(n:Nat)(m1:1<=m)(q:m<=1000)(r:c<=100000):Fn (jP) [L' m m (S' c),Big] (L' 1 (m+1) (S' (2*c+1))):=by
 have W:=wS (a:=c) (b:=2*c+1) ad;refine fn (N:=7) (n:=2) ?_ rfl;refine sT (se (P:=I' _ _) (tmo (tdi (tv rfl) a8) (tln (tv rfl)) ad)) ?_;refine opI (i:=2) rfl ad λp j=>?_;have d:∀{Γ:Gm} {f:ai->M A3} {k:Nat},Te Γ f (I' p p)->Te Γ (f2 cR f (fC (.int k))) (I' ((p+k:Nat):Int) ((p+k:Nat):Int)):=λh=>tw (taI h tcI) (wI ad ad);have e:=cX0 m;have I:=cXm m;refine sT (se (P:=I' _ _) ty) ?_;refine sT (fi (qg (tv rfl) tcI) (rt (taL (taL (tsx (l:=p) (tv rfl) pX (pS (tv rfl) rfl) (by rw[I];show OE p m-0=p;lia) a') (tsx (l:=1) (tv rfl) (pS (tv rfl) rfl) (pS (d (k:=1) (tv rfl)) rfl) (by rw[I,e];lia) (by rw[I];lia)) ad) (tsx (l:=m-p) (tv rfl) (pS (tv rfl) rfl) pX (by rw[e];show m-OE p m=_;lia) (r_ _)) ad) (wLP ad ad W)) nx) ?_;refine sT (Γ1:=[a_ (L' m m (S' c)),a_ Big,a_ (I' p p),a_ (I' 0 7),c_,c_,c_]) ?_ ?_
 .by_cases g:m=1
  .exact wk (fF (qAf (qg (tv rfl) tcI) (qg0 (tln (tv rfl)) ad)) nx) ty
  .exact fi (qA (qg (tv rfl) tcI) (qg (tln (tv rfl)) tcI)) (rt (taL (tsx (l:=p) (tv rfl) pX (pS (tv rfl) rfl) (by rw[I];show OE p m-0=p;lia) a') (tsx (l:=m-p-1) (tv rfl) (pS (d (k:=1) (tv rfl)) rfl) pX (by rw[e];show m-OE (p+1) m=_;lia) (r_ _)) ad) (wLP ad ad W)) (wk nx ty)
 refine sT (fi (qg (tv rfl) tcI) (rt (taL (taL (tsx (l:=p) (tv rfl) pX (pS (tv rfl) rfl) (by rw[I];show OE p m-0=p;lia) a') (trv (tsx (l:=OE (p+2) m-p) (tv rfl) (pS (tv rfl) rfl) (pS (d (k:=2) (tv rfl)) rfl) a' (by rw[I];lia))) ad) (tsx (l:=m-OE (p+2) m) (tv rfl) (pS (d (k:=2) (tv rfl)) rfl) pX (by rfl) (r_ _)) ad) (wLP ad ad W)) nx) ?_;refine sT (se (P:=S' c) (tix (tv rfl) (tv rfl) ad ad)) ?_;refine sT (se (P:=I' _ _) (tmo (tdi (tv rfl) a8) (taI (tlS (tv rfl) ad) tcI) a8)) ?_;refine sT (se (P:=S' 1) ty) ?_;have Y:∀{Γ:Gm} {lo hi:ai->M (Option Int)},Γ[4]?=a_ (a_ (S' c))->(∀ρ,E' Γ ρ->∃o,lo ρ=.ok o)->(∀ρ,E' Γ ρ->∃o,hi ρ=.ok o)->Te Γ (fSl jJ (ah 4) lo hi) (S' c):=λh a b=>tsS (tv h) a b ad;refine sT (Γ1:=[a_ (L' m m (S' c)),c_,a_ (I' p p),c_,a_ (S' (2*c+1)),c_,c_]) (fi (qg (tv rfl) tcI) (wk (se (P:=S' _) (taS (taS (Y rfl pn (ps (tv rfl))) (tv rfl) ad) (Y rfl (ps (tv rfl)) pn) ad)) ty) (fi (qg (tv rfl) tcI) (wk (se (P:=S' _) (taS (Y rfl pn (ps (tv rfl))) (Y rfl (ps (taI (tv rfl) tcI)) pn) ad)) ty) (wk (se (P:=S' _) (taS (taS (Y rfl pn (ps (tv rfl))) (tv rfl) ad) (Y rfl (ps (taI (tv rfl) tcI)) pn) ad)) ty))) ?_;exact rT (P:=L' m m (S' (2*c+1))) (tw (taL (taL (tw (tsx (l:=p) (tv rfl) pX (pS (tv rfl) rfl) (by rw[I];show OE p m-0=p;lia) a') (wLP (r_ _) (r_ _) W)) (tli (mc (tv rfl) mn) a8) ad) (tw (tsx (l:=m-p-1) (tv rfl) (pS (d (k:=1) (tv rfl)) rfl) pX (by rw[e];show m-OE (p+1) m=_;lia) (r_ _)) (wLP (r_ _) (r_ _) W)) ad) (wL ad ad)) (wL ad ad)
end
def ntr(h:Te Γ f Tt):∀ρ,E' Γ ρ->oP (ke f) ρ=.ok b_:=λρ r=>by obtain⟨_,e,rfl⟩:=h ρ r;unfold oP ke;rw[e];rfl
def tan(h:Te Γ f Tt)(k:Te Γ g Tt):Te Γ (hZ f g) Tt:=λρ r=>by obtain⟨_,e,rfl⟩:=h ρ r;obtain⟨_,I,rfl⟩:=k ρ r;exact⟨_,by unfold hZ;rw[e];exact I,rfl⟩
structure RowT(x:m_)(ws:b8):Prop where
 e:x=Iy SP ws
 ne:ws≠[]
 wd:∀w∈ws,Wd w
 l1:x.length<=10000
 l2:ws.length<=100
theorem RowT.free{x:m_}{ws:b8}(h:RowT x ws):Tactic.free 10 x:=by rw[h.e,SP_is];exact yN a8 ws λp I=>(h.wd p I).free (by simp[lowD])
def wd_w:Wd wK/\Wd wG/\Wd wB/\Wd wC/\Wd wF:=by
 have:∀x:m_,x.cps.toList≠[]->(x.cps.toList.all λc=>q_ (97<=c/\c<=122))=d_->Wd x:=λx h1 h2=>⟨h1,λc I=>.inl (Jk (IJ.mp h2 c I))⟩
 exact⟨this _ dkK (by rfl),this _ dkK (by rfl),this _ dkK (by rfl),this _ dkK (by rfl),this _ dkK (by rfl)⟩
theorem yD{k:m_}(h:Nm k):RowT (iI k) [wK,k]:=by
 refine⟨?_,am,λw hw=>?_,?_,am⟩
 .rfl
 .simp only[t_,Ig,Kd]at hw;rcases hw with rfl|rfl
  .exact wd_w.1
  .exact h.wd
 .have:=rF h.l100;lia
theorem qp{a b:m_}{g:Int}(hw:Wd w)(d:w.length<=100)(c:Nm a)(Y:Nm b)(e:0<=g)(h1:g<=1000000):RowT (i7 w a b g) [w,a,b,d7 g]:=by
 refine⟨?_,am,λx I=>?_,?_,am⟩
 .exact(joinG a b g w).symm
 .simp only[t_,Ig,Kd]at I;rcases I with rfl|rfl|rfl|rfl
  .exact hw
  .exact c.wd
  .exact Y.wd
  .exact kE e
 .have:=uB d c.l100 Y.l100 (g:=g) ad;lia
theorem su{p:uQ}(h:St1 p):RowT (eI p) [wC,d7 p.1,d7 p.2]:=by
 obtain⟨I,h1,h2⟩:=h;refine⟨?_,am,λw hw=>?_,?_,am⟩
 .unfold eI;rw[show(n_ "closed ")=wC++SP by rfl,gD,gD];simp[jT,join_one,gD]
 .simp only[t_,Ig,Kd]at hw;rcases hw with rfl|rfl|rfl
  .exact wd_w.2.2.2.1
  .exact kE I
  .exact kE ad
 .have:=o9 (p:=p) ⟨ad,ad⟩;lia
theorem rQ(i:∀k∈ks,Nm k){f:Fli}(g:Nm nm)(h:Fl1 ks.length f):RowT (cL ks (nm,f)) [wF,nm,kAt ks f.kind,d7 f.first,d7 f.last,d7 f.due,d7 f.price]:=by
 have j:=h.bfl;obtain⟨k0,k1,a,b,c,d,e⟩:=h;have I:kAt ks f.kind∈ks:=(sget k0 k1).2;refine⟨?_,am,λw hw=>?_,?_,am⟩
 .unfold cL;simp only[jT,join_one,gD];rfl
 .simp only[t_,Ig,Kd]at hw;rcases hw with rfl|rfl|rfl|rfl|rfl|rfl|rfl
  .exact wd_w.2.2.2.2
  .exact g.wd
  .exact(i _ I).wd
  .exact kE a
  .exact kE ad
  .exact kE d.1
  .exact kE e.1
 .have:=nQ g.l100 (λk Y=>(i k Y).l100) j;lia
theorem iC(I:0<=i)(h1:i<10^10):dD (d7 i)=a_ i:=by
 have a:=yy 0 I h1;have b:=ky 0 (x:=d7 i) ⟨(kE I).ne,by have:=str_len (i:=i) ad;lia⟩;rw[a]at b;cases e:dD (d7 i)with
 |none=>rw[e]at b;cases b|some j=>rw[e]at b;cases b;rfl
theorem BX(h:Nm x):jv x=d_:=by have a:=DM 0 h;have b:=vQ 0 (x:=x) ⟨h.wd.ne,by have:=h.l8;lia⟩;simp_all
def RowT.words{ws:b8}(h:RowT x ws):iw x=ws:=by unfold iw;rw[sp_is,h.e,SP_is,uZ 32 ws h.ne λp I=>(h.wd p I).free (by simp[lowD])];refine N_.mpr λw hw=>?_;have:=(h.wd w hw).ne;simp only[K0,L8];rintro rfl;exact this (by rfl)
def Rn(s:WS)(xs:b8)(s':WS):Prop:=(∀k,qS k xs s=.inr s')/\∀x∈xs,Tactic.free 10 x
theorem runW_k:∀{xs:b8} {s s':WS} {k:Nat},qS k xs s=.inr s'->∀m,qS m xs s=.inr s'
 |[],_,_,_,h=>λ_=>h|x::xs,s,s',k,h=>λm=>by
  unfold qS at h ⊢;cases e:ug s x with
  |none=>simp_all|some I=>rw[e]at h;exact runW_k (xs:=xs) h (m+1)
def Rn.nil(s:WS):Rn s [] s:=⟨λ_=>rfl,λ_ h=>(nomatch h)⟩
def Rn.cons{a Y:WS}{xs:b8}(h:ug s x=a_ a)(f:Tactic.free 10 x)(k:Rn a xs Y):Rn s (x::xs) Y:=⟨λn=>by
 unfold qS;rw[h];exact k.1 (n+1),λy I=>by
 rcases t_.mp I with rfl|I
 .exact f
 .exact k.2 y I⟩
theorem Rn.app:∀{xs ys:b8} {s I Y:WS},Rn s xs I->Rn I ys Y->Rn s (xs++ys) Y
 |[],_,s,I,_,h,k=>by cases(h.1 0);exact k|x::xs,ys,s,I,Y,h,k=>by
  have h':=h.1 0;unfold qS at h';cases e:ug s x with
  |none=>simp_all|some s'=>rw[e]at h';exact Rn.cons e (h.2 x am) (Rn.app (xs:=xs) ⟨runW_k h',λy a=>h.2 y (by simp[a])⟩ k)
theorem xV(h:RowT x (w::r))(hw:HP w "#"=b_):ug s x=jF s w r:=by unfold ug;rw[h.words];simp_all
theorem BH:∀(ks:b8) (s:WS),(s.ks++ks).length<=6->(s.ks++ks).Nodup->(∀k∈ks,Nm k)->Rn s (ks.map iI) {s with ks:=s.ks++ks}
 |[],s,_,_,_=>by rw[IH];exact Rn.nil s|k::ks,s,b,a,I=>by
  have e:ug s (iI k)=a_ {s with ks:=s.ks++[k]}:=by
   rw[xV (yD (I k am)) w_ne.1];unfold jF;rw[f_ rfl];unfold vT;have c:=BX (I k am);have n2:k∉s.ks:=λm=>by have:=(L7.mp a).2.2 k m k am;exact this rfl
   simp only[Hy,Hl]at b;exact f_ ad
  refine Rn.cons e (yD (I k am)).free ?_;have:=BH ks {s with ks:=s.ks++[k]} bb bb (λx Y=>I x (by simp[Y]));simp_all
def jw(p:(m_×m_)×Int)(g:PKs)(k:m_×m_):jE (p::g) k=if p.1=k then a_ p.2 else jE g k:=by
 unfold jE;rw[Ic];by_cases e:p.1=k
 .rw[f_ e,x_ e];rfl
 .rw[k_ e,p9 e]
theorem Ce(k I:m_×m_)(v:Int):∀g:PKs,jE g k=c_->jE (g++[(k,v)]) I=if k=I then a_ v else jE g I
 |[],_=>by rw[Mv,jw]|p::g,h=>by
  rw[jw]at h;have e:p.1≠k:=λe=>by simp_all
  rw[k_ e]at h;rw[OT,jw,jw,Ce k I v g h];by_cases a:p.1=I
  .rw[f_ a,k_ (λb=>e (a.trans b.symm)),f_ a]
  .rw[k_ a,k_ a]
theorem Cd(k I:m_×m_)(v:Int):∀g:PKs,jE (g.map λp=>if p.1=k then(p.1,v)else p) I=if k=I then(jE g I).map λ_=>v else jE g I
 |[]=>by show c_=_;split<;>rfl
 |p::g=>by rw[F_,jw,jw,Cd k I v g];grind
theorem Cc(g:PKs)(k I:m_×m_)(v:Int):jE (mJ g k v) I=if k=I then a_ v else jE g I:=by
 unfold mJ;cases e:jE g k with
 |none=>rw[k_ am];exact Ce k I v g e|some i=>rw[f_ (show(a_ i).isSome=d_ from rfl),Cd];grind
noncomputable def En:Bool->WS->PKs
 |true,s=>s.b|false,s=>s.g
noncomputable def setB:Bool->WS->PKs->WS
 |true,s,t=>{s with b:=t}
 |false,s,t=>{s with g:=t}
def wD:Bool->m_
 |true=>wB|false=>wG
def EV(b:Bool)(s:WS):setB b s (En b s)=s:=by cases b<;>rfl
theorem rowG(b:Bool)(d:x∈s.ks)(c:y∈s.ks)(a:Nm x)(Y:Nm y)(I:0<=i)(h1:i<=1000000):ug s (i7 (wD b) x y i)=a_ (setB b s (mJ (En b s) (x,y) i)):=by
 have e:=iC I ad;cases b
 .show ug s (i7 wG x y i)=_;rw[xV (qp wd_w.2.1 lgap a Y I h1) w_ne.2.1];unfold jF;rw[k_ dkK,f_ rfl];unfold Et;simp only[];rw[f_ ⟨d,c⟩,e];exact f_ h1
 .show ug s (i7 wB x y i)=_;rw[xV (qp wd_w.2.2.1 lbes a Y I h1) w_ne.2.2.1];unfold jF;rw[k_ dkK,k_ dkK,f_ rfl];unfold Et;simp only[];rw[f_ ⟨d,c⟩,e];exact f_ h1
def freeG(b:Bool)(Y:Nm x)(I:Nm y)(a:0<=i)(h1:i<=1000000):Tactic.free 10 (i7 (wD b) x y i):=by
 cases b
 .exact(qp wd_w.2.1 lgap Y I a h1).free
 .exact(qp wd_w.2.2.1 lbes Y I a h1).free
theorem rn_of(b:Bool)(I:Int)(F:m_->m_->Int)(ks:b8)(d:∀k∈ks,Nm k)(f:∀x y,0<=F x y/\F x y<=1000000){x:m_}(i:x∈ks):∀(ys:b8) (s:WS),s.ks=ks->(∀y∈ys,y∈ks)->∃T,Rn s (br (wD b) I x ys (ys.map (F x))) (setB b s T)/\(∀p,jE T p=jE (En b s) p\/jE T p=a_ (F p.1 p.2))/\∀y∈ys,jE T (x,y)=a_ (F x y)\/F x y<I
 |[],s,_,_=>⟨En b s,by rw[EV];exact Rn.nil s,λ_=>.inl rfl,λ_ h=>(nomatch h)⟩
 |y::ys,s,es,g=>by
  show ∃T,Rn s ((if I<=F x y then [i7 (wD b) x y (F x y)]else [])++br (wD b) I x ys (ys.map (F x))) _/\_;by_cases l:I<=F x y
  .rw[f_ l];have e:=rowG b (s:=s) (es▸i) (es▸g y am) (d x i) (d y (g y am)) (f x y).1 (f x y).2;obtain⟨T,r,t1,t2⟩:=rn_of b I F ks d f i ys (setB b s (mJ (En b s) (x,y) (F x y))) (by cases b<;>exact es) (λz Y=>g z (by simp[Y]));have m:En b (setB b s (mJ (En b s) (x,y) (F x y)))=mJ (En b s) (x,y) (F x y):=by cases b<;>rfl
   have j:setB b (setB b s (mJ (En b s) (x,y) (F x y))) T=setB b s T:=by cases b<;>rfl
   rw[j]at r;refine⟨T,Rn.cons e (freeG b (d x i) (d y (g y am)) (f x y).1 (f x y).2) r,λp=>?_,λz Y=>?_⟩
   .rcases t1 p with a|a
    .rw[m,Cc]at a;by_cases c:(x,y)=p
     .rw[f_ c]at a;subst c;exact .inr a
     .rw[k_ c]at a;exact .inl a
    .exact .inr a
   .rcases t_.mp Y with rfl|Y
    .rcases t1 (x,z)with a|a
     .simp_all[Cc,f_]
     .exact .inl a
    .exact t2 z Y
  .rw[k_ l];obtain⟨T,r,t1,t2⟩:=rn_of b I F ks d f i ys s es (λz Y=>g z (by simp[Y]));refine⟨T,r,t1,λz Y=>?_⟩
   rcases t_.mp Y with rfl|Y
   .exact .inr ad
   .exact t2 z Y
theorem zX(b:Bool)(I:Int)(F:m_->m_->Int)(ks:b8)(i:∀k∈ks,Nm k)(j:∀x y,0<=F x y/\F x y<=1000000):∀(l:b8) (s:WS),s.ks=ks->(∀x∈l,x∈ks)->∃T,Rn s (bM (wD b) I ks l (l.map λx=>ks.map (F x))) (setB b s T)/\(∀p,jE T p=jE (En b s) p\/jE T p=a_ (F p.1 p.2))/\∀x∈l,∀y∈ks,jE T (x,y)=a_ (F x y)\/F x y<I
 |[],s,_,_=>⟨En b s,by rw[EV];exact Rn.nil s,λ_=>.inl rfl,λ_ h=>(nomatch h)⟩
 |x::l,s,es,g=>by
  obtain⟨d,m,a1,o⟩:=rn_of b I F ks i j (g x am) ks s es (λ_ h=>h);obtain⟨T,r,t1,t2⟩:=zX b I F ks i j l (setB b s d) (by cases b<;>exact es) (λz Y=>g z (by simp[Y]));have n:En b (setB b s d)=d:=by cases b<;>rfl
  have e:setB b (setB b s d) T=setB b s T:=by cases b<;>rfl
  rw[e]at r;rw[n]at t1;refine⟨T,Rn.app m r,λp=>?_,λz Y y f=>?_⟩
  .rcases t1 p with a|a
   .rw[a];exact a1 p
   .exact .inr a
  .rcases t_.mp Y with rfl|Y
   .rcases o y f with c|c
    .rcases t1 (z,y)with a|a
     .exact .inl (a.trans c)
     .exact .inl a
    .exact .inr c
   .exact t2 z Y y f
theorem xX:∀(cs:List uQ) (s:WS),(s.cs++cs).length<=20->(∀p∈cs,St1 p)->Rn s (cs.map eI) {s with cs:=s.cs++cs}
 |[],s,_,_=>by rw[IH];exact Rn.nil s|p::cs,s,b,I=>by
  have e:ug s (eI p)=a_ {s with cs:=s.cs++[p]}:=by have h:=I p am;rw[xV (su h) w_ne.2.2.2.1];obtain⟨a,c,d⟩:=h;unfold jF;rw[k_ dkK,k_ dkK,k_ dkK,f_ rfl];unfold i0;simp only[];rw[iC a ad,iC ad ad];simp only[Hy,Hl]at b;exact f_ (by grind[stB])
  refine Rn.cons e (su (I p am)).free ?_;have:=xX cs {s with cs:=s.cs++[p]} bb (λx Y=>I x (by simp[Y]));simp_all
theorem kI_kAt(c:ks.Nodup)(d:0<=i)(h1:i<ks.length):kAt ks i∈ks/\((kI ks (kAt ks i):Nat):Int)=i:=by
 have Y:i.toNat<ks.length:=ad
 have e:kAt ks i=ks[i.toNat]:=by unfold kAt;rw[MO,HA Y];rfl
 have I:kAt ks i∈ks:=e▸JV Y;obtain⟨_,a,b⟩:=vU I;refine⟨I,?_⟩
 rw[HA a]at b;have b:ks[kI ks (kAt ks i)]=ks[i.toNat]:=(Hz b).trans e;have:=(OP c).mp b;lia
theorem uh(ks:b8)(h:ks.Nodup)(Y:∀k∈ks,Nm k):∀(nf:List (m_×Fli)) (s:WS),s.ks=ks->(s.nf++nf).length<=40->((s.nf++nf).map (·.1)).Nodup->(∀p∈nf,Nm p.1/\Fl1 ks.length p.2)->Rn s (nf.map (cL ks)) {s with nf:=s.nf++nf}
 |[],s,_,_,_,_=>by rw[IH];exact Rn.nil s|(nm,f)::nf,s,es,n,hd,g=>by
  obtain⟨I,F⟩:=g (nm,f) am;have I:Nm nm:=I;have F:Fl1 ks.length f:=F;have e:ug s (cL ks (nm,f))=a_ {s with nf:=s.nf++[(nm,f)]}:=by
   rw[xV (rQ Y I F) w_ne.2.2.2.2];obtain⟨k0,k1,a,b,c,d,e⟩:=F;obtain⟨m1,j⟩:=kI_kAt h k0 k1;have o:nm∉s.nf.map (·.1):=λm=>by grind
   simp only[Hy,Hl]at n;unfold jF;rw[k_ dkK,k_ dkK,k_ dkK,k_ dkK,f_ rfl];unfold jW;simp only[];rw[f_ (by rw[es,BX I];grind)];have i:FH (d7 f.first) (d7 f.last) (d7 f.due) (d7 f.price)=a_ (f.first,f.last,f.due,f.price):=by unfold FH;rw[iC a ad,iC ad ad,iC d.1 ad,iC e.1 ad]
   rw[i];simp only[];rw[es,j,f_ (by unfold flB rgB;grind)]
  refine Rn.cons e (rQ Y I F).free ?_;have:=uh ks h Y nf {s with nf:=s.nf++[(nm,f)]} es bb bb (λx l=>g x (by simp[l]));simpa using this
theorem rn_sheet(I:WI s):∃s',Rn w0 s.sh.rs s'/\s'.sh=s.sh:=by
 have t1:=BH s.ks w0 (by show([]++s.ks).length<=6;simpa using I.k6) (by show([]++s.ks).Nodup;simpa using I.kd) I.kn;have e1:({w0 with ks:=w0.ks++s.ks}:WS)=⟨s.ks,[],[],[],[]⟩:=rfl;rw[e1]at t1;obtain⟨G,r2,n,m⟩:=zX b_ 1 (λx y=>(jE s.g (x,y)).getD 0) s.ks I.kn (λx y=>rM I.gi (x,y)) s.ks ⟨s.ks,[],[],[],[]⟩ rfl (λ_ h=>h);have e2:setB b_ (⟨s.ks,[],[],[],[]⟩:WS) G=⟨s.ks,G,[],[],[]⟩:=rfl;rw[e2]at r2;have tg:tbW s.ks G=tbW s.ks s.g:=by
  unfold tbW;refine ID λx d=>ID λy b=>?_;have v:=(rM I.gi (x,y)).1;rcases m x d y b with c|c
  .simp_all
  .rcases n (x,y)with a|a
   .rw[a];show(c_:Option Int).getD 0=_;simp only[L0];lia
   simp_all
 obtain⟨B,k,tb⟩:∃B,Rn ⟨s.ks,G,[],[],[]⟩ (sD s.ks s.sh.o) ⟨s.ks,G,B,[],[]⟩/\(if B.isEmpty=d_ then c_ else a_ (tbW s.ks B))=s.sh.o:=by
  by_cases e:s.b.isEmpty=d_
  .have g:s.sh.o=c_:=f_ e;rw[g];exact⟨[],Rn.nil _,rfl⟩
  .have g:s.sh.o=a_ (tbW s.ks s.b):=k_ e;rw[g];obtain⟨B,r,a,c⟩:=zX d_ 0 (λx y=>(jE s.b (x,y)).getD 0) s.ks I.kn (λx y=>rM I.bi (x,y)) s.ks ⟨s.ks,G,[],[],[]⟩ rfl (λ_ h=>h);have Y:∀x∈s.ks,∀y∈s.ks,jE B (x,y)=a_ ((jE s.b (x,y)).getD 0):=λx d y b=>by
    have v:=(rM I.bi (x,y)).1;rcases c x d y b with c|c
    .exact c
    .lia
   refine⟨B,r,?_⟩
   have tt:tbW s.ks B=tbW s.ks s.b:=by unfold tbW;refine ID λx d=>ID λy b=>?_;rw[Y x d y b];rfl
   rw[tt];refine k_ λf=>?_;have f:B=[]:=List.isEmpty_iff.mp f;cases l:s.b with
   |nil=>exact e (by rw[l];rfl)|cons p q=>have:=I.bi p bb;have h:=Y _ this.1 _ this.2.1;rw[f]at h;cases h
 have j:=xX s.cs ⟨s.ks,G,B,[],[]⟩ (by simpa using I.cm) I.cl;have e4:({(⟨s.ks,G,B,[],[]⟩:WS)with cs:=[]++s.cs}:WS)=⟨s.ks,G,B,[],s.cs⟩:=rfl;have i:=uh s.ks I.kd I.kn s.nf ⟨s.ks,G,B,[],s.cs⟩ rfl (by simpa using I.nm) (by simpa using I.nd) I.nn;refine⟨⟨s.ks,G,B,s.nf,s.cs⟩,(((t1.app r2).app k).app j).app i,?_⟩
 unfold WS.sh at tb ⊢;simp only[]at tb ⊢;rw[tg,tb]
theorem tx_len{w:Sht}(h:w.Good):w.tx.length<=1000000:=by
 have z:∀rs:b8,(∀x∈rs,x.length<=400)->(textOf rs).length<=rs.length*401:=by
  intro rs
  induction rs with
  |nil=>exact λ_=>r_ _|cons x rs Y=>
   intro I;have a:=Y λy d=>I y (by simp[d]);have b:=I x am;have e:textOf (x::rs)=x++NLs++textOf rs:=rfl;have c:NLs.length=1:=by decide +kernel
   rw[e,uf,uf,Hl];lia
 have a:=z w.rs h.zW;have b:=h.Fe;have:w.tx.length=(textOf w.rs).length:=rfl;lia
theorem due_tx(I:WI s)(Y:s.ks≠[]):Gu s.sh.tx=s.sh.D:=by
 obtain⟨s',r,e⟩:=rn_sheet I;have a:s'.ks=s.ks:=Jg Sht.ks e;have sp:cE s.sh.tx=s.sh.rs++[("":m_)]:=by
  have:=CU s.sh.rs "" r.2 (λh=>by revert h;decide +kernel);unfold cE;rw[show(n_ "\n")=NLs by rfl];rw[<- this]
  congr 1
 have r2:Rn s' [("":m_)] s':=Rn.cons (by rfl) (λh=>by revert h;decide +kernel) (Rn.nil s');unfold Gu;rw[sp,(r.app r2).1 1];simp_all
theorem okD{w:Sht}:C' w.D 40=d_:=by
 have a:C' w.kD 39=d_:=qi _ 38;have b:C' (b6 w.rows) 39=d_:=vL _ 37;have c:C' w.bD 39=d_:=by
  unfold Sht.bD;split
  .exact vL _ 37
  .rfl
 have d:C' w.nD 39=d_:=qi _ 38;have e:C' w.fD 39=d_:=by unfold Sht.fD;rw[Gi];exact FD _ 37
 have f:C' w.cD 39=d_:=by unfold Sht.cD;rw[EU];exact FD _ 37
 show lJ [w.kD,b6 w.rows,w.bD,w.nD,w.fD,w.cD] 39=d_;simp_all[lJ]
section
variable(CR CP CS CW CD:e_)
def fagain(g:CR≠CP)(n:Nat):Fn (cS CR CP CS CW CD n) [S' 1000000] Tt:=λds a=>by
 match ds,a with
 |[_],⟨⟨x,rfl,k⟩,_⟩=>
  have j:=oG n k;have i:=BJ CR CP CS CW CD g n k;refine⟨.bl d_,?_,rfl⟩
  have c:∀q:Int,Gu x=.int q->cS CR CP CS CW CD n [.str x]=.ok (.bl d_):=λq e=>by rw[e]at j;simp[cS,kO,jr,j,gm]
  cases f:qS 1 (cE x) w0 with
  |inl q=>exact c q (by unfold Gu;rw[f])|inr s=>
   by_cases d:s.ks=[]
   .exact c 0 (by unfold Gu;rw[f];exact f_ d)
   .have l:Gu x=s.sh.D:=by unfold Gu;rw[f];exact k_ d
    rw[f]at i;simp only[]at i;rw[k_ d]at i;rw[l]at j;have I:=nh _ 1 w0 CM s f;have G:s.sh.Good:=(WS.sg I d).good;have e2:=oG n (tx_len G);rw[due_tx I d]at e2;have e3:=p8 CR CP CS CW CD g n (tx_len G);obtain⟨_,_,_,_,_,r⟩:=obj_at CR CP CS s.sh;have e4:ig CR CP CS CW CD n [s.sh.obj CR CP CS]=.ok (.str s.sh.tx):=by simp[ig,nP,r]
    have e5:=vi (okD (w:=s.sh));have p:gm s.sh.D=.ok (.bl b_):=rfl;have o:noX (cj CR CP CS CW CD n [.str x])=.ok (s.sh.obj CR CP CS):=by rw[i];rfl
    have m:isC CS "shown" (s.sh.obj CR CP CS)=d_:=by
     have Y:∀a b:m_,a≠b->(a==b)=b_:=λa b h=>by simp[h]
     show((CS==CS)&&(IE _ [_,_,_,_,_,_]).isNone)=d_;rw[L9,w_,Y _ _ dkK,w_,Y _ _ dkK,w_,Y _ _ dkK,w_,Y _ _ dkK,w_,Y _ _ dkK,w_,Y _ _ dkK];rfl
    simp[cS,kO,jr,j,p,o,m,jz,e4,e2,e5,e3,hZ]
end
noncomputable def cB:Nat->Nat
 |0=>100|k+1=>2*cB k+1
theorem cB_le:∀{k},k<=3->cB k<=807
 |0,_=>by decide|1,_=>by decide|2,_=>by decide|3,_=>by decide|_+4,h=>by lia
theorem fbt(CR CP CS CW CD:e_)(Y:b<=1000)(I:c<=100000):Fn (jP) [L' 1 b (S' c),Big] (L' 1 (b+1) (S' (2*c+1))):=λds a=>by
 match ds,a with
 |[_,e],⟨⟨xs,rfl,h1,h2,w⟩,k,_⟩=>obtain⟨d,e,q⟩:=fbent 0 h1 ad I [.lst xs,e] ⟨⟨xs,rfl,r_ _,r_ _,w⟩,k,Ml⟩;exact⟨d,e,wL (r_ _) ad d q⟩
theorem tmm{a b:Int}(h:Te Γ f (I' a b)):Te Γ (fL maxD (aa (bm 1) (aa (fL minD (aa (bm 8) (aa f aB))) aB))) (I' 1 8):=λρ r=>by
 obtain⟨_,e,x,rfl,p⟩:=h ρ r;refine⟨.int (vR 1 (lR 8 x)),?_,_,rfl,?_,?_⟩
 .unfold fL aa;dsimp only;rw[e];rfl
 .grind[vR,lR]
 .unfold vR lR;(repeat' split)<;>lia
def aO{f g:ai->M Bool}(h:∀ρ,E' Γ ρ->f ρ=.ok b_)(k:∀ρ,E' Γ ρ->g ρ=.ok b_):∀ρ,E' Γ ρ->fOr f g ρ=.ok b_:=λρ r=>by unfold fOr;rw[h ρ r];exact k ρ r
theorem tsc{i:Nat}(h:Γ[i]?=a_ (a_ Sc)):Te Γ (ah i) (L' 0 63 N'):=tw (tv h) λ_ ⟨ns,e,l⟩=>⟨_,e,HX _,bb,λx I=>by obtain⟨i,_,rfl⟩:=HL.mp I;exact⟨i,rfl⟩⟩
section
variable(CR CP CS CW CD:e_)
theorem law_true(I:CR≠CP):∀ns:cc,ns.length<=63->∃n,m_law CR CP CS CW CD n [.lst (ns.map .int)]=.ok (.bl d_):=by
 intro ns g;suffices h:Fn (m_law CR CP CS CW CD 64) [Sc] Tt by obtain⟨_,e,rfl⟩:=h [.lst (ns.map .int)] ⟨⟨ns,rfl,g⟩,Ml⟩;exact⟨64,e⟩
 have v:=fdata 64;have u:Fn (j3) [DaE] (L' 1 140 (S' 100)):=λds a=>by
  match ds,a with
  |[d],⟨⟨m,f,c,h1,h2,s,r,h⟩,_⟩=>exact fshown 64 h1 h2 s r [d] ⟨h,Ml⟩
 have o:=fnum 64;have Y:=fright CR CP CS CW CD I 64;have i:=fagain CR CP CS CW CD I 64;have q:=fany 64;refine fn (N:=7) (n:=1) ?_ rfl;refine sT (se (P:=L' 1 140 (S' 100)) ty) ?_;refine sT (Γ1:=[a_ Sc,a_ (L' 1 140 (S' 100)),c_,c_,c_,c_,c_]) (fo (λ_=>[a_ Sc,a_ (L' 1 140 (S' 100)),c_,c_,c_,c_,c_]) (a:=1) (b:=8) (r1 (tmm (tln (tsc rfl))) a8 a8 a8) ty (λ_=>bn) ?_ (λ_ _ _=>ty)) ?_
 .intro k t;refine sQ (se (P:=L' 1 140 (S' 100)) (tls (tv rfl))) ?_;refine sQ (Γ1:=[a_ Sc,a_ (L' 1 140 (S' 100)),c_,a_ (L' 1 143 (S' 807)),c_,c_,c_]) (fo (λj=>[a_ Sc,a_ (L' 1 140 (S' 100)),a_ (I' 0 7),a_ (L' 1 (140+j) (S' (cB j))),c_,c_,c_]) (a:=1) (b:=3) ty ty (λ_=>bn) ?_ ?_) ?_
  .intro j l;have p:=fbt (b:=140+j) (c:=cB j) CR CP CS CW CD ad (by have:=cB_le (k:=j) ad;lia);exact wk (se (P:=L' 1 (140+j+1) (S' (2*cB j+1))) (tca p (ac (tv rfl) (ac (tca o (ac (tv rfl) ty)) an)))) ty
  .intro j _ l;have:=cB_le l;exact u2 (λ_ h=>h) (u2 (λ_ h=>h) (u1 (u2 (wLP ad ad (wS this)) (u1 (u1 (u1 u0))))))
  refine sQ (se (P:=S' 400000) (tw (tjo (k:=1) (tv rfl) (by rfl) a8) (wS a8))) ?_;exact wk (fF (aO (ntr (tca Y (aS (tv rfl) a8 an))) (ntr (tca i (aS (tv rfl) a8 an)))) nx) ty
 refine sT (se (P:=S' 40000) (tw (tjo (k:=1) (tcm (it (tsl (tsc rfl) pn (ps tcI))) (tca q (ac (tv rfl) an)) a8) (by rfl) a8) (wS a8))) ?_;have K:∀{Γ:Gm},Γ[6]?=a_ (a_ (S' 40000))->Te Γ (f2 cR (fC (.str "kind a\nkind b\n")) (ah 6)) (S' 50000):=λh=>tw (taS tcS (tv h) dkK) (wS dkK);refine sT (fF (aO (ntr (tca Y (aS (tv rfl) a8 an))) (aO (ntr (tca i (aS (tv rfl) a8 an))) (ntr (tca i (aS (K rfl) a8 an))))) nx) ?_;exact rT (P:=Tt) (tan (tca Y (aS (K rfl) a8 an)) (tca Y (aS (tjo (k:=1) (tv rfl) (by rfl) a8) a8 an))) λ_ h=>h
end
def fin_mk{P:HY}{w:IF}{K:Pn}{h:H_}{fa CR:e_}(_:K.In h)(_:h.Ns HG mg)(I:mg "law"=a_ (.ref fa))(Z:Zs K mg CR CP CS CW CD AStripError ANoRow ANoRules ANoTime ANoPlace ANotFree ATooMany ANoPlan):
  ∃fd:Je,(∀(s:v_) (v:j_),LZ s fd ⟨[v],[]⟩ [("_law_script",v)])/\∀base:H_,K.In base->base.Ns HG mg->iS P w K mg base CX0 12 fa fd ["_law_script"] (spLaw K):=by
 obtain⟨f,fd,D,a⟩:=Z.d_law;have e:=I.symm.trans D.mg;cases e;refine⟨fd,a,λbase _ _=>law_ok (ro:=b_) (mlaw:=m_law CR CP CS CW CD) (λn=>?_) (law_true CR CP CS CW CD Z.ne)⟩
 obtain⟨b,fd',Y⟩:=ok_law (n:=n) (P:=P) (w:=w) (base:=base) Z;have e:=D.mg.symm.trans Y.d.mg;cases e;rw[D.fn.uniq Y.d.fn];exact Y.o
def walk{l:LQ}{q:HY}{I:b8}{j:(Ld)->H_->Prop}{b:IF->H_->Prop}{d:DefRec}{K:Params->Pn}(c:l.most=a_ 63)(Y:d.params.defaults=[])(g:∀(w:IF) (h:H_),b w h->(K w.params).In h)(F:∀(w:IF) (mg:Ld) (fa:e_) (h:H_),(K w.params).In h->h.Ns HG mg->mg d.name=a_ (.ref fa) ->
   ∃fd:Je,(∀(s:v_) (u:j_),LZ s fd ⟨[u],[]⟩ [("_law_script",u)])/\∀base:H_,(K w.params).In base->base.Ns HG mg->iS l.prog w (K w.params) mg base CX0 12 fa fd ["_law_script"] (spLaw (K w.params))):
  N4 q I j b l.row.toRowW d [] (λf vs=>Kp f vs):=
 Lake.walk_of (n:=63) (k:=12) (x:="_law_script") (CX:=λ_=>CX0) (sp:=λw=>spLaw (K w.params)) c a8 Y ⟨rfl,a8,a8⟩ g F (λ_ _ a ns e _ i=>⟨a,ns,rfl,i,e,λ_=>rfl⟩) λ_ _ _ _ _ z=>z
end Tactic
end
open PySem PySem.W PyProof.Rows
structure PySem.W.Fast:Prop where (tw1633025148740031488
tw4153921222396824072
tw10932292508341750967
tw3763031452523576739
tw2166900517490499952
tw3001151384466543766
tw13361463758048849134
tw7024645616851298297
tw14108249615256976278
tw2436994385744019870
tw17072621003965385151
tw2146014574206064836
tw18188927319171504105
tw13072788574172248663
tw14200143273448080889
tw7831825977498813406
tw11107141883439124593
tw17671068142075476486
tw10565423334268286948
tw11717232830237134693
tw7835919752026356209
tw4669660724966523744
tw2880966814179008444
tw4738471843615368049
tw1890525821554404768
tw3227406399644269067
tw11672752604576317204
tw8850869144140124498
tw10857389846502837939
tw15181910278617833699
tw935057750947682623
tw4975150830432318618
tw7276891107861384174
tw5679807189616547009
tw723789451310752389
tw2191675803739112934
tw2394601706506596982
tw6647731138217136631
tw18213494945766346753
tw3452600284589104705
tw11599184836082466053
tw6969819304268805528
tw11723596629389552571
tw6009074598930192468
tw17816334386490285523
tw6523665498934490007
tw16078447611055285563
tw13776841656817047315
tw12902476813110172171
tw6991994064694863063
tw2676662162142234186
tw8877980744596889717
tw107930885451085353
tw16858765869098415734
tw1723709094946012443
tw11169354921776423061
tw4449058972913735228
tw5312653232397042725
tw6111487695902791668
tw2449508720271350155
tw14976924165489072203
tw9646754906296010545
tw14071119336517595937
tw6428780023596929211
tw3791369264218258262
tw9824807877898773790
tw1196837264050364802
tw14589697366434792138
tw7065650251792711302
tw8283603685128649382
tw9609236702971241246
tw1372892824899400631
tw11830870498841015917
tw6289526243607984150
tw16047917775410660883
tw17831865153918058175
tw1010403593996724707
tw4143782055997629726
tw17539736102106515837
tw1903190477862557171
tw9794372754257742215
tw6948970952874300829
tw18045125516096127518
tw10720446241122157902
tw14659387097350579046
tw2081682317823300190
tw9442584025545003467
tw7028867347428763256
tw17227156653682304179
tw8859231010333433744
tw3196879111061202755
tw4785334295707734798
tw1975739049397434123
tw2526100231345128699
tw6846744522676635113
tw16052894827120071289
tw5686650636688922127
tw13549934420361870507
tw114744582538742767
tw7318335000746140810
tw17049077109316775764
tw3533219239960253016
tw16344125678324844080
tw5827464473395124931
tw17492716604459141369
tw11843382560902458044
tw16710879240027618091
tw758900697112486186
tw4933647419080354253
tw18149198407481848222
tw17863055061267852407
tw1489198882425085049
tw1407503664033893417
tw9992692956859672495
tw13498593944839895728
tw3551659225734280276
tw10893942400611347125
tw14145221525240277671
tw18049316762480829843
tw4834855190288351793
tw15396554844724959783
tw16297701196761418476
tw14746695525514790829
tw9110357555551234247
tw15624007239865945899
tw5503702460808909218
tw1063781445146728395
tw6207499821262835299
tw5754719504407036311
tw8190412436595133997
tw14046959340559383473
tw1652473427916668182
tw14198644768293873488
tw16215230202159906339
tw8465964189822136525
tw14517527646208544074
tw6512640221341116054
tw2349228797615305944
tw2839418826166110907
tw17446098770351283604
tw16144722157779436109
tw13873905815123609309
tw1045190511909328578
tw1298387466342359752
tw4820999756265920242
tw17253082935581034393
tw5275519966529701813
tw3389770651184232781
tw12879372185478821782
tw13418174370520966214
tw5136126580854973252
tw11356449147876961287
tw4953887471725511336
tw10571972422108771480
tw8588473816478794656
tw8435464221609388037
tw13033676026994948792
tw8465157126570108009
tw11066694201869614329
tw2702246694901007067
tw9478756998089166094
tw13768546308899585602
tw3305775016109733780
tw2707425536281711409
tw16038189252635666402
tw11135233352014636689
tw1207938629636291058
tw12757863821015626488
tw14209986504133304229
tw3481726285816863722
tw298406332959136074
tw8385163544142237607
tw17428675191893222756
tw1825525628450078753
tw16899547025083505429
tw14954970996632761752
tw16608735117552688053
tw9374223708363438284
tw9094389298614799982
tw10178503807046033167
tw16705614579864557748
tw4502960674408980243
tw4103503682074886964
tw16122990547690313199
tw9683772391221781652
tw12878502085533877076
tw12675671678712715513
tw13913852778779328811
tw11205747760076922427
tw8207438089329468724
tw14390128619802312980
tw5055489852867516637
tw18095862502412263476
tw3678264351262287387
tw8321578496344241568
tw7242548038152346652
tw8293483156589605058
tw9245589574366251374
tw13152728963540246426
tw2457901960205187879
tw15128325109619240747
tw14086733177573252426
tw10848713987523812678
tw4412809951159069870
tw407481752231145430
tw8861673143425023751
tw4176495653988500500
tw2370933867023068434
tw9565511838726290958
tw267533725073960861
tw13857976818401440913
tw13503790201985809558
tw10303241766030085727
tw3692836940211439855
tw17791073374864281919
tw8664643155090299167
tw16327189083334046934
tw15726395372872728020
tw10632166024592839476
tw5544666817506810972
tw7387520047496316989
tw10296806058601144455
tw16637414479093203601
tw2260384186101836590
tw15113012205221407189
tw6219562327922072276
tw5166777028979549749
tw5293812409315193623
tw9991309477152068558
tw4407599225838435825
tw8227950635408857064
tw12054084277648165685
tw6312847211022615279
tw12045478030836843414
tw1958019141717806905
tw4037111320982471369
tw17654730864634438852
tw11773839466061230536
tw16580208986970131086
tw3468316209672874300
tw16576001567357033637
tw11809262015593191637
tw3317126665982740160
tw2331098668341703259
tw9221303282912294183
tw4250480971446197440
tw5035744096791460027
tw6976088444991422391
tw7615747835345218914
tw11889278285866647981
tw3250146740864159086
tw1985616849584738551
tw15397028967250262680
tw248633886272951743
tw12039942559765748079
tw12523949513013324704
tw635522767454018731
tw14723083235463031799
tw14428389341721048221
tw15818742415240686134
tw15937442726121064004
tw13523499796007141383
tw15361795750072625329
tw8475428051092866178
tw11777211066812357638
tw11985063334684751426
tw13725486339243910376
tw5618080558978747534
tw9679849041243136216
tw16087156442288323700
tw11244337865455157796
tw11863175981252318734
tw14398477908149972368
tw4827620734121619377
tw8727138080341138502
tw6467828474996071990
tw771661674539952075
tw17043802015815804861
tw6872656206461829448
tw16675536694954860985
tw8487348587310598667
tw10487555380936521718
tw7957513139842789961
tw13857837642003618683
tw13035788114893363128
tw5773503041087648534
tw8740696387489232994
tw16033156193199834309
tw889124238503016283
tw12573471901917402678
tw5914844775967734043
tw13277318804859104312
tw8447419671803560884
tw549505671591270033
tw652607188495221756
tw37566364798551351
tw1347822994257880798
tw14459485135116950225
tw13255901107202434775
tw408638193890999089
tw509517920597810562
tw14201274810639236041
tw10528732380594710597
tw13940874339547728376
tw7401002292008452711
tw13125614320171370385
tw13707534989296974216
tw9582534914275615017
tw5580038441518726372
tw3252580149336551529
tw10181747570681956160
tw8591850355207444579
tw14015195161599122739
tw6728684541459750658
tw4248575895356371096
tw4430334714997384029
tw16987543048999433153
tw17871102349855254541
tw9368606358740486867
tw10942410178046743619
tw4550245538851569208
tw2480190757042194262
tw8442479475566976566
tw9015362429302958637
tw11768347656496159574
tw4265882196736709869
tw5443465724508035915
tw16177643407813304008
tw11512452887971279484
tw14197556625146975692
tw12881802775908751120
tw7953336716861587205
tw1942593254483238867
tw8762274154083182222
tw9443839221805595059
tw2423246688582455983
tw12416727501294298191
tw4709520475736030737
tw5749866015402139522
tw15008659582295202960
tw15815218225234977400
tw7957888915938651435
tw18098151649580730951
tw4348388561262924140
tw4074790925941673380
tw11708047701191691645
tw12006320299392527498
tw12940297811613749384
tw2063300543290353096
tw17223613599228565344
tw4994319922612182898
tw13357377996133023776
tw14435902111197046619
tw13823508123296959603
tw13763756377086036445
tw11443059925378403317
tw11952479770634313337
tw10401947152071131224
tw17160814051313475484
tw503933165184902496
tw424954549315555226
tw11580653828106520989
tw542365247516700843
tw11972479361179583234
tw4059331397742123440
tw3417281141324737132
tw7382318793135688675
tw16563722130532829170
tw10625595521248092892
tw9614632088407604979
tw970300104484809197
tw1914201088873083743
tw12825491269091628966
tw17564390964345830606
tw14848447959872209891:True)
set_option maxRecDepth 100000 in
set_option maxHeartbeats 0 in
theorem PySem.Challenge.cw_wakeorder_k76_whole_bent_sheets_holds : PySem.Challenge.rw_wakeorder_k76_whole_bent_sheets.Holds := by
 w_on;o_law;k_head;(case hw=>w_witness2)
 k_fill
 refine Tactic.walk (l:=PySem.Challenge.rw_wakeorder_k76_whole_bent_sheets) rfl rfl (fun w h Y=>PySem.W.kIn_of Y) ?F
 case F=>
  intro w mg fa h KX G hmg;refine' Tactic.fin_mk KX G hmg ?z
  case z=>
   constructor
   all_goals first|exact Lake.dF KX G|exact PySem.W.mg_none_of KX G (by k_is)|exact ⟨_,mg_of KX G (by k_is)⟩|exact mg_of KX G (by k_is)|exact Lake.mF|exact Lake.kF KX G|exact Lake.tF KX G|exact Lake.iF|exact Lake.xF KX G|exact Lake.xM KX G Lake.mF|exact Lake.lF KX G|exact Lake.rS Lake.mF|k_is|kernel_rfl|decide +kernel|(constructor<;>first|k_is|kernel_rfl|rfl|decide +kernel)|(simp only [List.mem_cons,List.not_mem_nil,or_false,forall_eq_or_imp,forall_eq];repeat' constructor)<;>first|k_is|kernel_rfl
