import PyProof.Rows.All
import PyProof.StrBlockI
import PyProof.StrBlock2
import PyProof.Draws
import PyProof.EnumMake
import PyProof.Rows.StrNews
import KE.KIntText
import PyProof.PureStr
import PyProof.MeetsStr2
import PyProof.Rows.StrItems
import PyProof.StrLawsChain
import PyProof.StrLawsTight
import PyProof.StrLawsIn
import PyProof.StrWalks
import PyProof.FactsAll.str_7
import PyProof.FactsAll.list_1
import PyProof.FitsReplace
import PyProof.FactsAll.str_5
import PyProof.FString
import PyProof.StrLawsJoin
import PyProof.MeetsStr
import KE.KDictSum
import PyProof.Rows.RuleC_int
import PyProof.FactsAll.tuple_1
import KE.KEqDict
import PyProof.Rows.TupTab
import PyProof.AttrMissSeq
import KE.KDictOf
import KE.KPairComp
import PyProof.DictWalks
import PyProof.DictValues
import PyProof.DictItems
import PyProof.Rows.SetFrom
import KE.KRevIter
import PyProof.InstStoreFacts
import PyProof.ExcInit
import PyProof.IsiBase
import PyProof.ExcAttrAll.ValueError
import OpenK.KDescr
import KE.KIsAll
import PyProof.Rows.CatchOwn
import PyProof.RulesTry
import PyProof.RulesAs
import PyProof.RulesDel
import OpenK.KOwn
import PyProof.ExcBaseAll.ValueError
import PyProof.StationsW
import Wide.All
import OpenK.AllK
import Wide.FinOn
import Lean
import PyProof.EqAt
import PyProof.EqKinds
import PyProof.NeKinds
import PyProof.TupleCall
import PySem.Challenge.RW_wakeorder_k75_greatest_sheets
open Option renaming some->a_,none->c_,isSome_iff_exists->HG,isSome_map->IF,map_some->JG,map_eq_some_iff->Lw,isSome_some->Mi,any_eq_true->Mj,getD_none->MP,toList->Nq
open Bool renaming false->b_,true->d_,and_eq_true->o_,false_ne_true->Gu,and_false->HL,eq_iff_iff->Jc,or_eq_true->JP,not_eq_true'->Kv,or_true->LS,false_eq_true->MR,not_true->NK,and_true->NL
open PySem.Str renaming ofString->e_,join->G4,empty->HQ
open PySem renaming sizeLine->f_,starEach->h_,Addr->i_,Value->j_,wpAny_bind->k_,Str->p_,Shared->y_,wpAny_pure->B_,wpAny->D_,boot_len->E_,model->FE,sizeLine_eq->FO,eval->FR,compareOp->FU,backTo->Gh,mainGlobals->Gj,Heap->Gv,wpAny_mono->Gx,wpAny_truthy_bool->GG,Program->GH,keywordEach->GJ,Stmt->GK,Expr->GO,attributeBase->GQ,sysModules->GR,World->GV,mem_of_lookup->GW,swapsWith->G0,cellsFrom->G1,cLine->G5,wpAny_Call_Name_kw->Hg,assignEach->Hi,Keyword->Hk,backToKw->Ho,foldedSetIterable->Ht,FuncData->Hv,bootBuiltins->Hx,binaryOp->HD,Around->HE,codeAny_mono->HK,behindInMarks->HM,wpAny_passesOwn->Il,intText?->Im,NameKind->Iq,strValues->Ir,codeAny_call_builtin->Iw,wpAny_holding->IH,wpAny_execs_nil->II,tupleKind_room_in1->IP,wpAny_field->IQ,wpAny_pyIter_list->IX,wpAny_loadPart_at->IY,codeAny->IZ,Paired->I9,call->Ja,Within->Jd,wpAny_standAt->Jf,sliceBounds->Jj,assign->Jp,holding->Jv,wpAny_dictEntries->JI,Obj->JJ,ExcAttrBase->JK,tupleKind->JQ,wpAny_call->JV,typeIs_str->JW,call_meets->JX,ExcBaseFacts->JZ,letOwnedTupleGo->J1,atKey->J5,wpAny_setField->Kh,excClassObj->Ki,bindArgs->Kj,setFlight->Kp,lastMarks->Kq,getItem->Kr,BindsTo->Kt,swapsWithSole->Ky,swappedStores->Kz,Model->KA,rawInt->KJ,wpAny_newObj_type->KU,valueAt->KW,standAt->KY,intKind->KZ,concat_meets->K0,callerA->K1,Scope->K4,plainObj_wpAny_Assign_Attribute->K6,wpAny_execs_cons->K_,wpAny_call_entry->La,noFill_tuple_add->Lb,getMethod->Lc,checkBuiltinCall->Le,IsPart->Li,Env->Ll,subscripted->Lo,pushCells_keeps->Lz,wpAny_richCompare_same_room->LM,wpAny_loadPart->LV,reduceHash->LW,newFunctionEnv->LX,intText_digits->LY,callWith->LZ,wpAny_comprehension_free->Mr,seq_tuple_add->Ms,noteFrame->ME,meetsH_dict_get_default->MF,bindL->MG,bindC->MH,PassesOwn->MM,DictEntry->MO,wpAny_Assign_Subscript->MT,seqIndex_neg->MU,isTrue->MV,getAttr->MW,call_meetsIn->MX,Result->M1,wpAny_notOrdered_dict->M8,wpAny_isTrue_Compare1->M9,unbindBehindTheSuite->Nj,seqIndex_of->Nk,evalEach->Nl,Pos->Np,wpAny_isSubtype_exc->Nr,Tok->Nv,wpAny_setItem_heap->Ny,wpAny_Name->Nz,wpAny_List_spliced->NA,typeLookup->NB,isInstance->NC,builtinsNs->ND,wpAny_pyIter_enum->NM,wpAny_assign_Name->NO,wpAny_Call_method->NP,wpAny_Assign_Name->NQ,unaryOp->NR,storedH->NS,spliced->NT,slot_list_getitem->NU,setItem->NV,setAttr->NW,leaving->NX,hashInt->NY,Sem->N2,OwnTail->N3,wpAny_pyIter_zip->N_,wpAny_pyHash_str->Oa,wpAny_lookBehind->Ob,wpAny_isInstance->Oc,wpAny_eqBool_str->Od,wpAny_Dict_empty->Oe,seqIndex?->Of,pastItsLine_dict->Og,getAttrBy->Oh
open List renaming getElem?_set_ne->n_,length_map->t_,getElem?_set_self->u_,getElem?_eq_some_iff->w_,mem_cons->x_,lookup_cons->z_,size_toArray->A_,length_set->Cb,map_cons->C_,length_append->FG,mem_cons_of_mem->FH,map_map->FL,length_cons->FV,map_append->FY,mem_singleton->F_,getElem?_eq_getElem->Ge,mem_append->Gn,mem_cons_self->Gp,lookup->Gq,mem_of_getElem?->Gr,exists_cons_of_length_eq_add_one->Gw,mem_append_right->Gy,mem_map->Gz,not_mem_nil->GB,length_take->GC,getElem?_map->GD,getElem?_append_left->GF,mem_filter->GL,find?_cons->GN,range->GU,replicate->GY,drop_eq_getElem_cons->G8,length_replicate->G_,getElem_mem->Hb,all_eq_true->Hd,append_assoc->Hl,map_congr_left->Hs,append_nil->HF,map_nil->HI,mem_filterMap->HY,length_singleton->Ii,getElem?_eq_none->Ij,getElem?_append_right->Iu,nodup_cons->Iz,length_eq_zero_iff->IC,getElem?_cons_succ->ID,findIdx?_eq_some_iff_getElem->IG,drop_zero->IJ,all_map->Ji,set_cons_succ->Jo,map->JC,getElem?_replicate->JD,nodup_nil->JT,mem_append_left->JU,map_eq_nil_iff->J7,filterMap_cons->J8,all_cons->Kb,set_cons_zero->Kg,take_add_one->Ku,drop_length->KG,cons_append->KH,any_eq_true->KI,of_mem_zip->KP,nil_append->KQ,length_nil->KR,dropLast_concat_getLast->KS,map_take->Lx,any_cons->Ly,getElem?_set_self'->LG,filter_cons_of_pos->LH,filter_cons_of_neg->LI,range_succ_eq_map->LQ,drop_eq_nil_of_le->LR,getElem?_toArray->Mc,length_eraseIdx->Ml,length->Mm,getElem_toArray->Mn,getElem_of_mem->MA,getElem?_range->MB,contains_cons->MQ,nodup_append->M4,mem_range'_1->M5,length_range->M6,getElem?_inj->M7,take_length->Nc,length_drop->Nd,filter_cons->Nf,ext_getElem->Ng,forIn_nil->Nw,range'->Ox,map_id->Oy
open Decidable renaming decide->q_,byContradiction->Gi
open PySem.Heap renaming get?_push_of_some->r_,lt_size->A1,get?_push_size->FK,get?_update_other->Gd,size_push->G2,get?_update_self->Ih,size_update->IW,SameBut->Jh
open Nat renaming le_refl->v_,lt_of_lt_of_le->FP,ne_of_lt->Ga,le_trans->Gb,le_succ->Gk,lt_irrefl->GP,zero_le->G7,lt_succ_self->HS,zero_add->Jk,le_of_lt->Jl,le_add_right->JH,ne_of_gt->JN,lt_trans->JO,not_lt->Lm,lt_trichotomy->Na,lt_succ_of_lt->Nb,add_assoc->N9,le_of_eq->Ow
open PySem.Value renaming ref->FF,str->Ha,type->Io,none->Ip,builtin->IU,int->Jg,bool->K3,isInt->L8,float->L9,isStrOf->Nu,bytes->N1
open Except renaming ok->FN,error->HB,bind->NJ
open PySem.W renaming findIn->FQ,kitOne->Gs,emptyDict->GI,instObj->Hz,cellsFrom_some->HN,InstAt->HV,kia_one->HX,mroIn->HZ,keepIn->H_,hasDictIn->Ie,looks_findIn->IA,lookIn->Jq,plainGet_of->JR,methodObj->J9,kitx_list->J_,OpenLaw->Kk,specialIn->Ks,fnOf->Kw,callWith_K->KL,plainGet->K2,handedIn->Lf,codeIn->Lg,clsIn->Lh,methodCall_KW->Lp,looks_clsIn->LA,any_some->LB,callWith_K0->LN,typeIn->L0,kitx_tuple->L4,isNs_of_in->L7,kitx_none->Md,kitx_dict->Me,kitx_bool->Mf,kitx_str->Mu,kitx_int->Mv,WalkO->Mw,readsIn->MI,plainOver->MJ,findCls->MK,notCls->MY,makesIn->MZ,keq_eq->M0,nsIn->Nn,findObj_own->Nt,Frag->NF,takesIn->NZ,set_plain->N0
open Option.some renaming inj->FW,injEq->Lv
open PySem.F renaming plainAttrs_list->FX,slot_list_append->Gf,type_list_append->Gm,slot_str_join->G6,type_str_join->Hu,slot_str_split->HR,slot_dict_get->Ia,attrBase_ValueError->Ib,type_str_split->IB,slot_dict_eq->IT,args_tuple_add_2->Jr,entry_tuple_add->Jw,args_dict_get_3->Jx,slot_tuple_add->JA,entry_dict_get->JB,slot_list_pop->JY,slot_str_startswith->KC,excBase_ValueError->KN,slot_list_index->K7,plainAttrs_dict->K8,args_dict_eq_2->Lk,type_list_pop->Lq,type_dict_get->Lr,sub_dict_dict->Ls,entry_dict_eq->Lu,slot_list_extend->Ma,typeOf_object_class->MN,entry_bexc_ga->N6
open Ne renaming symm->FZ
open PySem.Builtin.Str renaming occurrences->Gg,strSliceIndices->Kf,partsBetween->Kx,strKind->K9
open False renaming elim->GA
open True renaming intro->GS
open Nat.succ renaming inj->GX
open Pure renaming pure->GZ
open PySem.Txt renaming startswith->G3,split->HP,slice->J6
open PySem.NameKind renaming cell->G9
open PySem.NumText renaming digitsVal->He
open PyProof.Rows renaming boot_list->Hf,boot_str->Hq,slot_tuple_getitem->HU,envOfC->Ik,boot_int->Iy,callWith_type1->IS,pendingOf->Je,boot_isinstance->Js,AllBare->JM,boot_all->Kn,IntsAre->LP,SortSt->Mb,subscriptTail->Mz,subscriptTail_builtinR->M3,chain_link->NH,Subscript_->NI,IsTup->N8
open Except.ok renaming inj->Hm
open Array renaming length_toList->Hr,getElem?_eq_some_iff->Jm,append_assoc->Kc,toList->Ko,getElem?_eq_none->LL,toList_append->Mo,find?_toList->MD
open PySem.Builtin.Tuple renaming tupleHashOf->Hw,tupleItemsOf->Oo,tupleExact->Oq
open Int renaming emod_lt_of_pos->Hy,emod_nonneg->HJ,le_refl->MC,toNat_natCast->Nh,le_trans->OA
open LawfulBEq renaming eq_of_beq->HA
open PySem.Calls renaming spliced_cons->HW,spliced_nil->Ju,callWith_builtin->JF,evalArgs_plain->JS,Name_function_global->K5
open PySem.Builtin.Slice renaming slicePlaces->Ic,sliceAdjust->I_,sliceApplied->Ka,slicePartIndex->Ot,sliceFields->Ou
open PySem.Builtin.Dict renaming dictSlotArgs->Ig,samePairs->KD,showsAll->KO
open Sum renaming inr->IM,inl->J0
open PySem.Obj renaming isFreed_of_fields->IV,mapFields->Kd,mapSeq->Kl,data_mapFields->Km
open PySem.Builtin.List renaming listTooLong->Jb
open PySem.AutoSeq1 renaming wpAny_loadPart'->Jn
open PySem.Paired renaming length->Jt,snoc->LO
open List.cons renaming injEq->Jy
open ForInStep renaming yield->Jz
open PySem.SeqAt renaming EqAt->JE,ne_of_list_tuple->LC,RcNeAt->LF,RcAt->My
open PySem.EntryCells renaming newEntry->JL
open PySem.Code renaming quiet_builtin->Ke
open Function renaming comp_apply->LJ
open PySem.Heap.Ns1 renaming of_empty->L_
open PySem.StrLaws renaming found_one->Mg
open PySem.PassesOwn renaming never->Mh
open PySem.Within renaming cons->Mt
open PySem.W.Looks renaming here->Mx
open PySem.SetTable renaming grown->ML
open PySem.Builtin.ObjectAttr renaming storeInOwnDict->M_
open PySem.Challenge renaming pw_wakeorder_k75_greatest_sheets->NG
open PySem.Meets renaming of_wp->N4
open PySem.Heap.IsSliceOf renaming new->N5
open PySem.CmpOp renaming NotIn->N7
open PySem.EqMixed renaming ne_str_int->Oi,ne_str_bool->Oj,ne_int_str->Ol,ne_bool_str->Om
open PySem.Builtin.Range renaming rangeSize->Ov
open List.Pairwise renaming nil->Oz
abbrev g_:=@if_pos
abbrev l_:=@if_neg
abbrev m_:=@decide_eq_false
abbrev s_:=@decide_eq_true
noncomputable abbrev FJ:=@absurd
abbrev FT:=@decide_eq_true_eq
abbrev Hj:=@beq_eq_false_iff_ne
abbrev HC:=@beq_iff_eq
abbrev Iv:=@congrArg
abbrev IE:=@of_decide_eq_true
abbrev IL:=@or_false
abbrev Ln:=@if_true
abbrev LU:=@not_or
abbrev Mp:=@decide_false
abbrev MS:=@beq_self_eq_true
abbrev Ni:=@DecidableEq
abbrev Nx:=@if_false
set_option Elab.async false
set_option linter.all false
set_option maxRecDepth 100000
set_option maxHeartbeats 4000000
open PySem.W (plainGet isFn plainOver takerIn makesIn typeIn keepIn specialIn takesIn kitOne kia_one callWith_K fnOf codeIn nsIn mg_of kitAny)
abbrev Pn:=NF
abbrev Vp:=List (i_×JJ)
abbrev Mq:=j_->y_->Prop
abbrev Ld:=p_->Option j_
set_option compiler.extract_closed false
noncomputable section
theorem Jq0(_:True:=by rfl):True:=trivial
local macro_rules|`(~~~$t)=>`(autoParam $t Jq0._auto_1)
theorem Jq1(_:True:=by decide):True:=trivial
local macro_rules|`($t⁻¹)=>`(autoParam $t Jq1._auto_1)
theorem Jq2_(_:True:=by k_is):True:=trivial
def Jq2:Lean.Syntax:=Jq2_._auto_1
theorem Jq3_(_:True:=by first|exact .inl rfl|exact .inr rfl|assumption):True:=trivial
def Jq3:Lean.Syntax:=Jq3_._auto_1
theorem Jq4_(_:True:=by first|exact Or.inl rfl|exact Or.inr (Or.inl rfl)|exact Or.inr (Or.inr rfl)):True:=trivial
def Jq4:Lean.Syntax:=Jq4_._auto_1
theorem Jq5_(_:True:=by intro _;rfl):True:=trivial
def Jq5:Lean.Syntax:=Jq5_._auto_1
theorem Jq6_(_:True:=by first|exact Or.inl rfl|exact Or.inr rfl):True:=trivial
def Jq6:Lean.Syntax:=Jq6_._auto_1
theorem Jq7_(_:True:=by with_unfolding_all rfl):True:=trivial
def Jq7:Lean.Syntax:=Jq7_._auto_1
theorem Jq8_(_:True:=by first|k_is|kernel_rfl):True:=trivial
def Jq8:Lean.Syntax:=Jq8_._auto_1
theorem Jq9_(_:True:=by exact⟨rfl,rfl,rfl,by decide +kernel,rfl,by decide +kernel,by decide +kernel⟩):True:=trivial
def Jq9:Lean.Syntax:=Jq9_._auto_1
theorem Jq10_(_:True:=by first|exact AI _|with_unfolding_all rfl):True:=trivial
def Jq10:Lean.Syntax:=Jq10_._auto_1
theorem Jq11_(_:True:=by exact PassesOwn.never):True:=trivial
def Jq11:Lean.Syntax:=Jq11_._auto_1
theorem Jq12_(_:True:=by intro _ _ _ _ _ _ us hl;repeat' first|(simp at hl;done)|rfl|(cases us<;>try rename_i us)):True:=trivial
def Jq12:Lean.Syntax:=Jq12_._auto_1
set_option bootstrap.genMatcherCode false
set_option genSizeOf false
set_option genInjectivity false
namespace Lake
open PySem PySem.Spec PyProof.Rows
variable{κ:Type}{a b dx C:i_}{u:j_}{P prog:GH}{w:GV}{h h':Gv}{x name m qual:p_}{e c tg:GO}{B':Vp}{s s':y_}{g':Array GenState}{ch fp:List i_}{N ps:List p_}{i n:Nat}{A:HE}{E:Mq}{Q:Unit->y_->Prop}{pos pos' p:Np}{op op':CmpOp}{K:Pn}{es:List GO}{g:Int->Int->Int}{body:List GK}{f:j_->j_->N2 j_}{us:List j_}{mA mg:Ld}{pl:N2 Bool}{kw:List (p_×j_)}{outer:List Ll}{fd:Hv}{scope:K4}
noncomputable abbrev Key:=Sum Int p_
noncomputable def BY:Key->j_->Bool
 |.inl k,v=>L8 k v|.inr x,v=>Nu x v
noncomputable def keyH(w:GV):Key->Int
 |.inl k=>NY k|.inr x=>hashStr w x
theorem cJ:∀{k:Key} {v:j_},BY k v=d_->(∃i t,k=J0 i/\v=Jg i t)\/(∃x t,k=IM x/\v=Ha x t)
 |.inl i,v,h=>by obtain⟨t,e⟩:=Value.isInt_shape (k:=i) (v:=v) h;exact .inl ⟨i,t,rfl,e⟩
 |.inr x,v,h=>by obtain⟨t,e⟩:=Value.isStrOf_shape (x:=x) (v:=v) h;exact .inr ⟨x,t,rfl,e⟩
theorem El(i:Int)(t:Nv):BY (.inl i) (.int i t)=d_:=by simp[BY,L8]
theorem Ek(x:p_)(t:Nv):BY (.inr x) (.str x t)=d_:=by simp[BY,Nu]
theorem key_ll(a b:Int):q_ ((J0 a:Key)=J0 b)=(a==b):=by
 by_cases e:a=b
 ·subst e;simp
 ·have h:¬(J0 a:Key)=J0 b:=λq=>e (Sum.inl.inj q);rw[m_ h];exact(Hj.mpr e).symm
theorem key_rr(a b:p_):q_ ((IM a:Key)=IM b)=q_ (a=b):=by
 by_cases e:a=b
 ·subst e;simp
 ·have h:¬(IM a:Key)=IM b:=λq=>e (Sum.inr.inj q);rw[m_ h,m_ e]
theorem key_lr(a:Int)(b:p_):q_ ((J0 a:Key)=IM b)=b_:=m_ (λq=>nomatch q)
theorem key_rl(a:p_)(b:Int):q_ ((IM a:Key)=J0 b)=b_:=m_ (λq=>nomatch q)
def cV(prog:GH)(w:GV):PySem.KeyKind prog w Key where
 is:=BY
 hash:=keyH w
 inj:=λv a b Y I=>by
  rcases cJ Y with⟨i,t,rfl,rfl⟩|⟨x,t,rfl,rfl⟩
  ·rcases cJ I with⟨j,u,rfl,e⟩|⟨y,u,rfl,e⟩
   ·injection e with e1 _;rw[e1]
   ·exact nomatch e
  ·rcases cJ I with⟨j,u,rfl,e⟩|⟨y,u,rfl,e⟩
   ·exact nomatch e
   ·injection e with e1 _;rw[e1]
 byValue:=λk v h=>by rcases cJ h with⟨i,t,rfl,rfl⟩|⟨x,t,rfl,rfl⟩<;>rfl
 pyHash:=λhv h=>by
  rcases cJ hv with⟨i,t,rfl,rfl⟩|⟨x,t,rfl,rfl⟩
  ·exact wpAny_pyHash_int h
  ·exact Oa h
 eqBool:=λJ hv h=>by
  rcases cJ J with⟨i,t,rfl,rfl⟩|⟨x,t,rfl,rfl⟩
  ·rcases cJ hv with⟨j,u,rfl,rfl⟩|⟨y,u,rfl,rfl⟩
   ·rw[key_ll]at h;exact wpAny_eqBool_int h
   ·rw[key_lr]at h;exact SeqAt.EqAt.int_str i t y u _ _ _ _ h
  ·rcases cJ hv with⟨j,u,rfl,rfl⟩|⟨y,u,rfl,rfl⟩
   ·rw[key_rl]at h;exact SeqAt.EqAt.str_int x t j u _ _ _ _ h
   ·rw[key_rr]at h;exact Od h
 «strs»:=λk x t v h=>by
  rcases cJ h with⟨i,u,rfl,e⟩|⟨y,u,rfl,e⟩
  ·exact nomatch e
  ·injection e with e1 _
   subst e1;cases v<;>rfl
theorem zu(prog:GH)(w:GV)(i:Int)(t:Nv):(cV prog w).is (.inl i) (.int i t)=d_:=El i t
theorem zt(prog:GH)(w:GV)(x:p_)(t:Nv):(cV prog w).is (.inr x) (.str x t)=d_:=Ek x t
set_option genInjectivity true in
set_option bootstrap.genMatcherCode true in
inductive V where
 |non|bl (b:Bool)|int (i:Int)|str (x:p_)|byt (b:Array UInt8)|flt (b:UInt64)|ref (a:i_)|ty (n:String)
 deriving DecidableEq
variable{v y:V}{vs:List V}
def Hh:V->j_->Prop
 |.non,u=>u=Ip|.bl b,u=>u=K3 b|.int i,u=>∃t,u=Jg i t
 |.str x,u=>∃t,u=Ha x t
 |.byt b,u=>∃t,u=N1 b t
 |.flt b,u=>∃t,u=L9 b t
 |.ref a,u=>u=FF a|.ty n,u=>u=Io n
abbrev Hn:List V->List j_->Prop:=I9 Hh
theorem Hn.length{xs:List V}{us:List j_}(r:Hn xs us):xs.length=us.length:=Jt r
theorem Hn.get:∀{xs:List V} {us:List j_} {i:Nat} {x:V},Hn xs us->xs[i]?=a_ x->∃u,us[i]?=a_ u/\Hh x u
 |_,_,_,_,.nil,e=>by simp at e|_,_,0,_,.cons r _,e=>by simp at e;subst e;exact⟨_,rfl,r⟩|_,_,i+1,x,.cons _ t,e=>by obtain⟨u,h1,h2⟩:=Hn.get (i:=i) (x:=x) t (by simpa using e);exact⟨u,by simpa using h1,h2⟩
theorem Hn.set{x:V}{u:j_}(r:Hh x u):∀{xs:List V} {us:List j_} (i:Nat),Hn xs us->Hn (xs.set i x) (us.set i u)
 |_,_,_,.nil=>.nil|_,_,0,.cons _ t=>.cons r t|_,_,i+1,.cons q t=>.cons q (Hn.set r i t)
theorem Hn.append:∀{xs ys:List V} {us ws:List j_},Hn xs us->Hn ys ws->Hn (xs++ys) (us++ws)
 |_,_,_,_,.nil,s=>s|_,_,_,_,.cons r t,s=>.cons r (Hn.append t s)
theorem Hn.take:∀{xs:List V} {us:List j_} (n:Nat),Hn xs us->Hn (xs.take n) (us.take n)
 |_,_,0,_=>.nil|_,_,_+1,.nil=>.nil|_,_,n+1,.cons r t=>.cons r (Hn.take n t)
theorem Hn.drop:∀{xs:List V} {us:List j_} (n:Nat),Hn xs us->Hn (xs.drop n) (us.drop n)
 |_,_,0,r=>r|_,_,_+1,.nil=>.nil|_,_,n+1,.cons _ t=>Hn.drop n t
def qe:Option V->Option j_->Prop
 |some v,a_ u=>Hh v u|none,c_=>True|_,_=>False
def KV:List (κ×V)->List (κ×j_)->Prop:=I9 λ(p:κ×V) (q:κ×j_)=>p.1=q.1/\Hh p.2 q.2
noncomputable def kV:Key->V
 |.inl i=>.int i|.inr x=>.str x
inductive HO where
  |lst (xs:List V)
  |tup (xs:List V)
  |dK (D':List (Key×V))|dT (D':List (List Key×V))
  |set (S:Int->Bool) (n:Nat)
  |ins (C dx:i_) (fs:List (p_×V))
  |own (x:i_)
  |xd (fs:List (p_×V))
  |met (f x:i_)
  |rng (lo hi:Int)
  |frz (o:JJ) (u:HO)
  |tbl (ps:Array j_)
  |ext (φ:Gv->Prop)
variable{o:HO}
noncomputable abbrev Hp:=i_->Option HO
variable{H H':Hp}
noncomputable def upd(H:Hp)(a:i_)(o:HO):Hp:=λb=>if b=a then a_ o else H b
theorem ao:upd H a o a=a_ o:=by unfold upd;rw[g_ rfl]
theorem aq(h:b≠a):upd H a o b=H b:=by unfold upd;rw[l_ h]
theorem ne_of{u:HO}(h:H a=a_ o)(h':H b=a_ u)(d:o≠u):a≠b:=by intro e;subst e;rw[h]at h';exact d (FW h')
theorem aN(h:H a=a_ o)(h':H b=c_):a≠b:=by intro e;subst e;rw[h]at h';cases h'
section
variable(P:GH)(w:GV)
def cQ(H:Hp)(h:Gv)(a:i_):HO->Prop
 |.lst xs=>xs.length<=f_/\∃(F9:List j_) (n:Nat),Hn xs F9/\h.get? a=a_ {cls:=.type "list",data:=.seq F9.toArray n}
 |.tup xs=>xs.length<=f_/\∃F9:List j_,Hn xs F9/\N8 h a F9.toArray
 |.dK D'=>D'.length<=f_/\(a==GR)=b_/\∃vs,KV D' vs/\h.DictOf (cV P w) a vs
 |.dT D'=>D'.length<=f_/\(a==GR)=b_/\∃xs:List (List Key×i_×j_),
   I9 (λ(p:List Key×V) (q:List Key×i_×j_)=>p.1=q.1/\H q.2.1=a_ (.tup (p.1.map kV))/\Hh p.2 q.2.2) D' xs /\
   ∃o es ep,h.get? a=a_ o/\o.ExactDict/\o.data=.dict es ep/\es.toList=xs.map (entryOfKey (JQ (cV P w)))/\(xs.map (·.1)).Nodup
 |.set S n=>h.SetOf (KZ P w) a S n|.ins C dx fs=>H dx=a_ (.own a)/\fs.length<=1000/\dx≠a/\h.get? a=a_ (Hz C dx) /\
   ∃mA,h.Ns1 dx mA/\(∀f,qe (fs.lookup f) (mA f))/\Jd mA (fs.map (·.1))
 |.own _=>∃o,h.get? a=a_ o
 |.xd fs=>∃mA,h.Ns1 a mA/\∀f,qe (fs.lookup f) (mA f)
 |.rng lo hi=>∃t u v,h.get? a=a_ {cls:=.type "range",data:=.fields #[.int lo t,.int hi u,.int 1 v]}
 |.frz o u=>h.get? a=a_ o/\cQ H h a u|.tbl ps=>h.get? a=a_ {cls:=.none,data:=.fields ps}|.met f x=>h.get? a=a_ (J9 (.ref f) (.ref x))|.ext I=>I h/\(∃o,h.get? a=a_ o)/\∀h1 h2:Gv,I h1->(∀o,h1.get? a=a_ o->h2.get? a=a_ o)->I h2
def HOk(H:Hp)(h:Gv):Prop:=∀a o,H a=a_ o->cQ P w H h a o
end
theorem cQ.lt(x:cQ P w H h a o):a<h.objs.size:=by
 cases o with
 |lst xs=>obtain⟨_,_,_,_,e⟩:=x;exact A1 e
 |tup xs=>obtain⟨_,_,_,p⟩:=x;exact p.lt
 |dK D'=>obtain⟨_,_,_,_,o,_,_,e,_⟩:=x;exact A1 e
 |dT D'=>obtain⟨_,_,_,_,o,_,_,e,_⟩:=x;exact A1 e
 |set S n=>obtain⟨o,_,_,_,e,_⟩:=x;exact A1 e
 |ins C dx fs=>obtain⟨_,_,_,e,_⟩:=x;exact A1 e
 |own y=>obtain⟨_,e⟩:=x;exact A1 e
 |xd fs=>obtain⟨_,⟨_,_,_,e,_⟩,_⟩:=x;exact A1 e
 |rng lo hi=>obtain⟨_,_,_,e⟩:=x;exact A1 e
 |frz J u=>obtain⟨e,_⟩:=x;exact A1 e
 |tbl ps=>exact A1 (show h.get? a=a_ _ from x)|met f y=>exact A1 (show h.get? a=a_ _ from x)|ext I=>obtain⟨_,⟨_,e⟩,_⟩:=x;exact A1 e
theorem Paired.mapP{α Y:Type}{F G:α->Y->Prop}:∀{J:List α} {I:List Y},I9 F J I->(∀a b,F a b->G a b)->I9 G J I
 |_,_,.nil,_=>.nil|_,_,.cons r t,f=>.cons (f _ _ r) (Paired.mapP t f)
theorem cQ.yE(x:cQ P w H h a o)(k:∀b u,(b=a\/H b=a_ (.own a))->h.get? b=a_ u->h'.get? b=a_ u)(i:∀b,H b=a_ (.own a)->H' b=a_ (.own a))(g:∀b xs,H b=a_ (.tup xs)->H' b=a_ (.tup xs)):cQ P w H' h' a o:=by
 induction o with
 |lst xs=>obtain⟨z,F9,n,r,e⟩:=x;exact⟨z,F9,n,r,k _ _ (.inl rfl) e⟩
 |tup xs=>obtain⟨z,F9,r,I,e,c⟩:=x;exact⟨z,F9,r,I,k _ _ (.inl rfl) e,c⟩
 |dK D'=>obtain⟨z,y,vs,r,I,es,ep,e,c⟩:=x;exact⟨z,y,vs,r,I,es,ep,k _ _ (.inl rfl) e,c⟩
 |dT D'=>obtain⟨z,y,xs,r,I,es,ep,e,c⟩:=x;exact⟨z,y,xs,Paired.mapP r λp q z=>⟨z.1,g _ _ z.2.1,z.2.2⟩,I,es,ep,k _ _ (.inl rfl) e,c⟩
 |set S n=>obtain⟨I,es,ep,t,e,c⟩:=x;exact⟨I,es,ep,t,k _ _ (.inl rfl) e,c⟩
 |ins C dx fs=>obtain⟨d,z,J,e,mA,⟨od,es,ep,e2,c⟩,r⟩:=x;exact⟨i _ d,z,J,k _ _ (.inl rfl) e,mA,⟨od,es,ep,k _ _ (.inr d) e2,c⟩,r⟩
 |own y=>obtain⟨I,e⟩:=x;exact⟨I,k _ _ (.inl rfl) e⟩
 |xd fs=>obtain⟨mA,⟨od,es,ep,e,c⟩,r⟩:=x;exact⟨mA,⟨od,es,ep,k _ _ (.inl rfl) e,c⟩,r⟩
 |rng lo hi=>obtain⟨t,u,v,e⟩:=x;exact⟨t,u,v,k _ _ (.inl rfl) e⟩
 |frz I u Y=>obtain⟨e,q⟩:=x;exact⟨k _ _ (.inl rfl) e,Y q⟩
 |tbl ps=>have e:h.get? a=a_ {cls:=.none,data:=.fields ps}:=x;show h'.get? a=a_ {cls:=.none,data:=.fields ps};exact k a _ (.inl rfl) e|met f y=>have e:h.get? a=a_ (J9 (.ref f) (.ref y)):=x;show h'.get? a=a_ (J9 (.ref f) (.ref y));exact k a _ (.inl rfl) e|ext j=>obtain⟨p,⟨o,e⟩,st⟩:=x;exact⟨st _ _ p λo q=>k _ _ (.inl rfl) q,⟨o,k _ _ (.inl rfl) e⟩,st⟩
theorem HOk.lt(x:HOk P w H h)(e:H a=a_ o):a<h.objs.size:=(x a o e).lt
theorem HOk.fresh(x:HOk P w H h)(e:h.objs.size<=a):H a=c_:=by
 cases q:H a with
 |none=>rfl|some u=>exact FJ (FP (x.lt q) e) (GP _)
theorem HOk.kept(x:HOk P w H h)(k:∀b u,h.get? b=a_ u->h'.get? b=a_ u):HOk P w H h':=λa o e=>(x a o e).yE (λb u _ q=>k b u q) (λ_ q=>q) λ_ _ q=>q
theorem HOk.laid(x:HOk P w H h)(k:∀b u,h.get? b=a_ u->h'.get? b=a_ u)(d:h.objs.size<=a)(I:cQ P w (upd H a o) h' a o):HOk P w (upd H a o) h':=λb u e=>by
 have J:=x.fresh d;by_cases Y:b=a
 ·subst Y;rw[ao]at e;cases e;exact I
 ·rw[aq Y]at e;exact(x b u e).yE (λc v _ q=>k c v q) (λc q=>by rw[aq (aN q J)];exact q) λc xs q=>by rw[aq (aN q J)];exact q
def Rd(H:Hp)(a:i_)(u:HO):Prop:=H a=a_ u\/∃o,H a=a_ (.frz o u)
theorem Rd.ok{u:HO}(r:Rd H a u)(x:HOk P w H h):cQ P w H h a u:=by
 rcases r with r|⟨o,r⟩
 ·exact x a u r
 ·obtain⟨_,q⟩:=x a _ r;exact q
def Mut:Option HO->Prop
 |some (.lst _)=>True|some (.dK _)=>True|some (.dT _)=>True|some (.set _ _)=>True|some (.ins _ _ _)=>True|some (.ext _)=>True|_=>False
section
variable{x e:i_}{o':HO}
theorem HOk.write(m:HOk P w H h)(a:Mut (H x))(l:e=x\/H e=a_ (.own x))(k:∀b u,b≠e->h.get? b=a_ u->h'.get? b=a_ u)(i:∃u,h'.get? e=a_ u)(g:cQ P w (upd H x o') h' x o'):HOk P w (upd H x o') h':=λb u q=>by
 have J:∀c y,H c=a_ (.own y)->c≠x:=λc y r z=>by subst z;rw[r]at a;exact a
 have Y:∀c xs,H c=a_ (.tup xs)->c≠x:=λc xs r z=>by subst z;rw[r]at a;exact a
 by_cases f:b=x
 ·subst f;rw[ao]at q;cases q;exact g
 ·rw[aq f]at q;by_cases I:b=e
  ·have j:H b=a_ (.own x):=by
    rcases l with z|z
    ·exact FJ (I.trans z) f
    ·rw[I];exact z
   rw[q]at j;cases j;obtain⟨v,hv⟩:=i;exact⟨v,by rw[I];exact hv⟩
  ·refine(m b u q).yE (λc v d r=>k c v ?_ r) (λc r=>by rw[aq (J c b r)];exact r) λc xs r=>by rw[aq (Y c xs r)];exact r
   rcases d with rfl|d
   ·exact I
   ·rintro rfl;rcases l with z|z
    ·exact J c b d z
    ·rw[d]at z;cases z;exact f rfl
end
structure Un(fs ex:List i_)(H H':Hp)(h h':Gv):Prop where
 keep:∀b o,h.get? b=a_ o->H b=c_->b∉fs->b∉ex->h'.get? b=a_ o
 slot:∀b o,h.get? b=a_ o->H b=c_->b∈fs->b∉ex->∃sl,h'.get? b=a_ {o with slots:=sl}
 free:∀b o,h.get? b=a_ o->H b=c_->b∉ex->H' b=c_
 there:∀b o,h.get? b=a_ o->b∉ex->∃o',h'.get? b=a_ o'
 tups:∀b xs,H b=a_ (.tup xs)->H' b=a_ (.tup xs)
 frzs:∀b o u,H b=a_ (.frz o u)->H' b=a_ (.frz o u)
 tbls:∀b ps,H b=a_ (.tbl ps)->∃more,H' b=a_ (.tbl (ps++more))
section
variable{fs ex:List i_}{H1 H2:Hp}{h1 h2:Gv}{x e:i_} 
theorem Un.any(u:Un fs ex H H1 h h1){I:JJ}(q:h.get? b=a_ I)(n:H b=c_)(J:b∉ex):∃a,h1.get? b=a_ {I with slots:=a}:=by
 by_cases Y:b∈fs
 ·exact u.slot b I q n Y J
 ·exact⟨I.slots,u.keep b I q n Y J⟩
theorem Un.trans(a:Un fs ex H H1 h h1)(b:Un fs ex H1 H2 h1 h2):Un fs ex H H2 h h2 where
 keep:=λc I q n Y J=>b.keep c I (a.keep c I q n Y J) (a.free c I q n J) Y J
 slot:=λc I q n Y J=>by obtain⟨f,e1⟩:=a.slot c I q n Y J;obtain⟨d,e2⟩:=b.slot c _ e1 (a.free c I q n J) Y J;exact⟨d,e2⟩
 free:=λc I q n J=>by obtain⟨o',e1⟩:=a.there c I q J;exact b.free c o' e1 (a.free c I q n J) J
 there:=λc I q J=>by obtain⟨o',e1⟩:=a.there c I q J;exact b.there c o' e1 J
 tups:=λc xs q=>b.tups c xs (a.tups c xs q)
 frzs:=λc I xs q=>b.frzs c I xs (a.frzs c I xs q)
 tbls:=λc ps q=>by obtain⟨m1,e1⟩:=a.tbls c ps q;obtain⟨e,e2⟩:=b.tbls c _ e1;exact⟨m1++e,by rw[e2,Kc]⟩
theorem Un.kept(k:∀b u,h.get? b=a_ u->h'.get? b=a_ u):Un fs ex H H h h':=
 ⟨λb I q _ _ _=>k b I q,λb I q _ _ _=>⟨I.slots,k b I q⟩,λ_ _ _ n _=>n,λb I q _=>⟨I,k b I q⟩,λ_ _ q=>q,λ_ _ _ q=>q,λ_ ps q=>⟨#[],by rw[q];simp⟩⟩
theorem Un.refl:Un fs ex H H h h:=Un.kept λ_ _ q=>q
theorem Un.laid(k:∀b u,h.get? b=a_ u->h'.get? b=a_ u)(J:h.objs.size<=a)(I:H a=c_):Un fs ex H (upd H a o) h h' where
 keep:=λb u q _ _ _=>k b u q
 slot:=λb u q _ _ _=>⟨u.slots,k b u q⟩
 free:=λb u q n _=>by rw[aq (Ga (FP (A1 q) J))];exact n
 there:=λb u q _=>⟨u,k b u q⟩
 tups:=λb xs q=>by rw[aq (aN q I)];exact q
 frzs:=λb u xs q=>by rw[aq (aN q I)];exact q
 tbls:=λb ps q=>⟨#[],by rw[aq (aN q I),q];simp⟩
theorem Un.write(J:Mut (H x))(f:e=x\/H e=a_ (.own x))(k:∀b u,b≠e->h.get? b=a_ u->h'.get? b=a_ u)(a:∃u,h'.get? e=a_ u):Un fs ex H (upd H x o) h h':=by
 have c:∀b,H b=c_->b≠x:=λb n z=>by subst z;rw[n]at J;exact J
 have d:∀b,H b=c_->b≠e:=λb n z=>by
  subst z;rcases f with r|r
  ·exact c b n r
  ·rw[n]at r;cases r
 have Y:∀b u,H b=a_ u->¬Mut (a_ u)->b≠x:=λb u q nm z=>by subst z;rw[q]at J;exact nm J
 refine⟨λb u q n _ _=>k b u (d b n) q,λb u q n _ _=>⟨u.slots,k b u (d b n) q⟩,λb u q n _=>by rw[aq (c b n)];exact n,λb u q _=>?_,
  λb xs q=>by rw[aq (Y b _ q λz=>z)];exact q,λb u xs q=>by rw[aq (Y b _ q λz=>z)];exact q,λb ps q=>⟨#[],by rw[aq (Y b _ q λz=>z),q];simp⟩⟩
 by_cases I:b=e
 ·subst I;exact a
 ·exact⟨u,k b u I q⟩
end
noncomputable def trk(h:Gv)(H:Hp):List i_:=(GU h.objs.size).filter λa=>(H a).isSome
def hidT(h:Gv)(H:Hp):Gv:=PySem.W.hideAll h (trk h H)
theorem Et(h:Gv)(H:Hp):(hidT h H).objs.size=h.objs.size:=PySem.W.hideAll_size _ _
theorem hidT_get{o:JJ}(e:h.get? b=a_ o)(n:H b=c_):(hidT h H).get? b=a_ o:=
 PySem.W.hideAll_get _ e λI=>by have q:(H b).isSome=d_:=(GL.mp I).2;rw[n]at q;simp at q
theorem of_hidT{o:JJ}(e:(hidT h H).get? b=a_ o):h.get? b=a_ o/\H b=c_:=by
 have I:h.get? b=a_ o:=PySem.W.of_hideAll (trk h H) e;refine⟨I,?_⟩
 cases q:H b with
 |none=>rfl|some x=>have J:b∈trk h H:=GL.mpr ⟨List.mem_range.mpr (A1 I),by simp[q]⟩;have z:(hidT h H).get? b=c_:=PySem.W.hideAll_none (trk h H) J;rw[z]at e;cases e
structure Mod(K:Pn)(mg:Ld)(base:Gv):Prop where
 kin:K.In base
 glob:base.Ns Gj mg
 blt:∃mb,base.Ns ND mb/\∀x:p_,x≠"__name__"->mb x=Hx x
 nolimit:base.NoLimit
structure Cx where
 prog:GH
 w:GV
 K:Pn
 mg:Ld
 base:Gv
 A:HE
 N:List p_
 s₀:y_
 H₀:Hp
 env:Ll
 outer:List Ll
 stack:List Ll
 ex:List i_
 fn:p_->Bool
 calm:Bool
 pn:Vp
 xe:Mq
variable{X:Cx}
noncomputable def frs(l:List Ll):List i_:=l.filterMap (·.frame)
abbrev Cx.fs(X:Cx):List i_:=frs X.outer
def Vis(sc:K4)(x:p_):Prop:=sc.names.lookup x=a_ .local\/sc.names.lookup x=a_ .cell\/sc.names.lookup x=a_ .free
def Loc(sc:K4)(x:p_):Prop:=sc.names.lookup x=a_ .local\/sc.names.lookup x=a_ .cell
def Look(env:Ll)(h:Gv)(m:Ld)(x:p_)(u:j_):Prop:=
 (env.kindOf x=a_ .local/\m x=a_ u)\/((env.kindOf x=a_ .cell\/env.kindOf x=a_ .free)/\∃c,env.cells.lookup x=a_ c/\h.IsCell c (a_ u))
structure Cx.Ok(X:Cx):Prop where
 mod:Mod X.K X.mg X.base
 kind:X.env.scope.kind=.function
 glob:X.env.globals=Gj
 blt:X.env.builtins=ND
 above:X.s₀.heap.objs.size<=X.env.locals
 inj:∀x y c,X.env.cells.lookup x=a_ c->X.env.cells.lookup y=a_ c->x=y
 has:∀x,(X.env.kindOf x=a_ .cell\/X.env.kindOf x=a_ .free)->∃c,X.env.cells.lookup x=a_ c
 cab:∀x c,X.fn x=d_->X.env.cells.lookup x=a_ c->X.s₀.heap.objs.size<=c
 hd:X.calm=d_->X.A.handled=c_
 frames:X.A.frames=a_ X.stack
 stk:X.stack=X.outer\/(X.stack=X.env::X.outer/\X.env.frame=a_ X.env.locals)
 exf:∀b∈X.ex,b≠X.env.locals/\∀x c,X.env.cells.lookup x=a_ c->c≠b
 bs:∀b o,X.base.get? b=a_ o->X.s₀.heap.get? b=a_ o/\X.H₀ b=c_
 bsz:X.base.objs.size<=X.s₀.heap.objs.size
 noex:∀b o,X.base.get? b=a_ o->b∉X.ex
 exfs:∀b∈X.ex,b∉X.fs
 xG:X.s₀.heap.FunFrames X.base X.outer
 frf:∀b∈X.fs,X.H₀ b=c_
structure C'(X:Cx)(B':Vp)(σ:List (Option V))(H:Hp)(s:y_):Prop where
 ok:X.Ok
 os:s.os=X.s₀.os
 bare:JM s.gens
 base:Un X.fs X.ex X.H₀ H X.s₀.heap s.heap
 loc:∃m,s.heap.Ns X.env.locals m/\∀(i:Nat) (x:p_) (v:V),X.N[i]?=a_ x->σ[i]?=a_ (a_ v)->Vis X.env.scope x->∃u,Hh v u/\Look X.env s.heap m x u
 cell:∀x c,X.env.cells.lookup x=a_ c->∃v,s.heap.IsCell c v
 free:H X.env.locals=c_
 freeC:∀x c,X.env.cells.lookup x=a_ c->H c=c_
 pin:∀p∈X.pn++B',s.heap.get? p.1=a_ p.2/\H p.1=c_/\p.1≠X.env.locals/\p.1∉X.fs/\∀v,p.2.data≠.cell v
 hok:HOk X.prog X.w H s.heap
 len:σ.length=X.N.length
section
variable{σ:List (Option V)} 
theorem Cx.Ok.nofr(I:X.Ok){o:JJ}(e:X.base.get? b=a_ o):b∉X.fs:=λJ=>by have:=(I.xG.mem J).1;rw[e]at this;cases this
theorem C'.bs(I:C' X B' σ H s):∀b o,X.base.get? b=a_ o->s.heap.get? b=a_ o/\H b=c_:=λb o e=>⟨I.base.keep b o (I.ok.bs b o e).1 (I.ok.bs b o e).2 (I.ok.nofr e) (I.ok.noex b o e),I.base.free b o (I.ok.bs b o e).1 (I.ok.bs b o e).2 (I.ok.noex b o e)⟩
theorem C'.bk(I:C' X B' σ H s):∀b o,X.base.get? b=a_ o->s.heap.get? b=a_ o:=λb o e=>(I.bs b o e).1
theorem C'.mod(I:C' X B' σ H s):Mod X.K X.mg X.base:=I.ok.mod
theorem C'.kIn(I:C' X B' σ H s):X.K.In s.heap:=I.ok.mod.kin.keeps I.bk
theorem C'.lt(I:C' X B' σ H s):X.env.locals<s.heap.objs.size:=let ⟨_,J,_⟩:=I.loc;J.lt
theorem C'.sz(I:C' X B' σ H s):X.s₀.heap.objs.size<=s.heap.objs.size:=Gb I.ok.above (Jl I.lt)
theorem C'.nofs(I:C' X B' σ H s)(h:s.heap.objs.size<=a):a∉X.fs:=λY=>by obtain⟨_,o,J,_⟩:=I.ok.xG.mem Y;exact FJ (FP (A1 J) (Gb I.sz h)) (GP _)
theorem C'.cne(I:C' X B' σ H s):∀x c,X.env.cells.lookup x=a_ c->c≠X.env.locals:=λx c e z=>by obtain⟨v,o,a,hd⟩:=I.cell x c e;obtain⟨m,⟨o',es,ep,J,Y,_⟩,_⟩:=I.loc;rw[z,J]at a;cases a;rw[Y]at hd;cases hd
theorem C'.xG(I:C' X B' σ H s):s.heap.FunFrames X.base X.outer:=by
 have c:∀(l:List Ll),(∀b∈frs l,b∈X.fs)->X.s₀.heap.FunFrames X.base l->s.heap.FunFrames X.base l:=by
  intro l
  induction l with
  |nil=>intro _ _;trivial|cons env r f=>intro d j;obtain⟨k,⟨L,o,J,i,h,hd⟩,g⟩:=j;have a:L∈X.fs:=d L (by unfold frs;rw[J8,J];exact Gp);obtain⟨m,e⟩:=I.base.slot L o h (I.ok.frf L a) a λz=>I.ok.exfs L z a;exact⟨k,⟨L,_,J,i,e,hd⟩,f (λb Y=>d b (by unfold frs;rw[J8,J];exact FH _ Y)) g⟩
 exact c X.outer (λ_ Y=>Y) I.ok.xG
theorem C'.stack(I:C' X B' σ H s):s.heap.FunFrames X.base X.stack:=by
 rcases I.ok.stk with e|⟨e,Y⟩
 ·rw[e];exact I.xG
 ·rw[e];obtain⟨m,J,_⟩:=I.loc;refine .cons (by rw[I.ok.kind];decide) Y J ?_ I.xG;exact Heap.get?_none_of_le (Gb I.ok.bsz I.ok.above)
theorem C'.tf(I:C' X B' σ H s):∀b∈frs X.stack,b∈X.env.locals::X.fs:=λb J=>by
 rcases I.ok.stk with e|⟨e,Y⟩
 ·rw[e]at J;exact FH _ J
 ·rw[e]at J;unfold frs at J;rw[J8,Y]at J;exact J
theorem C'.Df(I:C' X B' σ H s):∀b∈frs X.stack,H b=c_:=λb J=>by
 rcases x_.mp (I.tf b J)with e|J
 ·rw[e];exact I.free
 ·obtain⟨_,o,Y,_⟩:=I.ok.xG.mem J;exact I.base.free b o Y (I.ok.frf b J) λz=>I.ok.exfs b z J
theorem C'.step{t':Nat}{d':Drawn}(I:C' X B' σ H s)(g:∀b∈ch,(b∈X.ex\/X.s₀.heap.objs.size<=b)/\b≠X.env.locals/\(∀x c,X.env.cells.lookup x=a_ c->c≠b)/\∀p∈X.pn++B',p.1≠b)(f:∀b o,b≠X.env.locals->b∉X.fs->b∉ch->s.heap.get? b=a_ o->H b=c_->h'.get? b=a_ o)(t:∀b o,b≠X.env.locals->b∈X.fs->b∉ch->s.heap.get? b=a_ o->H b=c_->∃K,h'.get? b=a_ {o with slots:=K})(Y:∀b o,b∉ch->s.heap.get? b=a_ o->H b=c_->H' b=c_)(w:∀b o,b∉ch->s.heap.get? b=a_ o->∃o',h'.get? b=a_ o')(B:∀b xs,H b=a_ (.tup xs)->H' b=a_ (.tup xs))(F:∀b o u,H b=a_ (.frz o u)->H' b=a_ (.frz o u))(C:∀b ps,H b=a_ (.tbl ps)->∃E,H' b=a_ (.tbl (ps++E)))(ns:∀m,s.heap.Ns X.env.locals m->h'.Ns X.env.locals m)(L:HOk X.prog X.w H' h')(U:JM g'):
  C' X B' σ H' {s with heap:=h',gens:=g',drawn:=d',toks:=t'}:=by
 have D:∀b o,X.s₀.heap.get? b=a_ o->b≠X.env.locals:=λb o e=>Ga (FP (A1 e) I.ok.above);have j:∀b o,X.s₀.heap.get? b=a_ o->b∉X.ex->b∉ch:=λb o e J y=>by
  rcases(g b y).1 with z|z
  ·exact J z
  ·exact FJ (FP (A1 e) z) (GP _)
 have h:∀x c,X.env.cells.lookup x=a_ c->∀v,s.heap.IsCell c v->h'.IsCell c v:=λx c e v ⟨o,A,hd⟩=>by
  have a:c∉ch:=λz=>(g c z).2.2.1 x c e rfl;by_cases Q:c∈X.fs
  ·obtain⟨K,q⟩:=t c o (I.cne x c e) Q a A (I.freeC x c e);exact⟨_,q,hd⟩
  ·exact⟨o,f c o (I.cne x c e) Q a A (I.freeC x c e),hd⟩
 refine⟨I.ok,I.os,U,⟨λb o e n y J=>?_,λb o e n y J=>?_,λb o e n J=>?_,λb o e J=>?_,λb xs e=>B b xs (I.base.tups b xs e),λb o xs e=>F b o xs (I.base.frzs b o xs e),λb ps e=>?_⟩,?_,λx c e=>?_,?_,λx c e=>?_,λp P=>?_,L,I.len⟩
 ·exact f b o (D b o e) y (j b o e J) (I.base.keep b o e n y J) (I.base.free b o e n J)
 ·obtain⟨K,e1⟩:=I.base.slot b o e n y J;obtain⟨G,e2⟩:=t b _ (D b o e) y (j b o e J) e1 (I.base.free b o e n J);exact⟨G,e2⟩
 ·obtain⟨o',e1⟩:=I.base.there b o e J;exact Y b o' (j b o e J) e1 (I.base.free b o e n J)
 ·obtain⟨o',e1⟩:=I.base.there b o e J;exact w b o' (j b o e J) e1
 ·obtain⟨m1,e1⟩:=I.base.tbls b ps e;obtain⟨R,e2⟩:=C b _ e1;exact⟨m1++R,by rw[e2,Kc]⟩
 ·obtain⟨m,S,T⟩:=I.loc;refine⟨m,ns m S,λi x v e1 e2 e3=>?_⟩
  obtain⟨u,r,l⟩:=T i x v e1 e2 e3;refine⟨u,r,?_⟩
  rcases l with l|⟨k,c,e,z⟩
  ·exact .inl l
  ·exact .inr ⟨k,c,e,h x c e _ z⟩
 ·obtain⟨v,z⟩:=I.cell x c e;exact⟨v,h x c e v z⟩
 ·obtain⟨m,⟨o,_,_,A,_⟩,_⟩:=I.loc;exact Y _ o (λz=>(g _ z).2.1 rfl) A I.free
 ·obtain⟨v,o,A,hd⟩:=I.cell x c e;exact Y c o (λz=>(g c z).2.2.1 x c e rfl) A (I.freeC x c e)
 ·obtain⟨e,n,O,N,d⟩:=I.pin p P;have a:p.1∉ch:=λz=>(g p.1 z).2.2.2 p P rfl;exact⟨f p.1 p.2 O N a e n,Y p.1 p.2 a e n,O,N,d⟩
theorem C'.un{t':Nat}(I:C' X B' σ H s)(u:Un X.fs [] H H' s.heap h')(Y:HOk X.prog X.w H' h'):C' X B' σ H' {s with heap:=h',toks:=t'}:=by
 obtain⟨m,⟨o,es,ep,d,r⟩,_⟩:=id I.loc;obtain⟨h,g⟩:=u.any d I.free (by simp);exact I.step (g':=s.gens) (d':=s.drawn) (ch:=[]) (λ_ z=>nomatch z) (λb o _ a _ e n=>u.keep b o e n a (by simp)) (λb o _ a _ e n=>u.slot b o e n a (by simp)) (λb o _ e n=>u.free b o e n (by simp)) (λb o _ e=>u.there b o e (by simp)) u.tups u.frzs u.tbls (λi f=>by obtain⟨o',c,ep',J,r'⟩:=f;rw[d]at J;cases J;exact⟨_,c,ep',g,r'⟩) Y I.bare
theorem C'.call{t':Nat}{d':Drawn}(I:C' X B' σ H s)(u:Un (frs X.stack) ch H H' s.heap h')(d:HOk X.prog X.w H' h')(j:JM g')(a:∀b∈ch,(b∈X.ex\/X.s₀.heap.objs.size<=b)/\b≠X.env.locals/\(∀x c,X.env.cells.lookup x=a_ c->c≠b)/\∀p∈X.pn++B',p.1≠b):
  C' X B' σ H' {s with heap:=h',gens:=g',drawn:=d',toks:=t'}:=by
 obtain⟨m,⟨o,es,ep,h,r⟩,_⟩:=id I.loc;obtain⟨l,f⟩:=u.any h I.free λz=>(a _ z).2.1 rfl;exact I.step (ch:=ch) a (λb o f k J e n=>u.keep b o e n (λz=>(x_.mp (I.tf b z)).elim f k) J) (λb o _ _ J e n=>u.any e n J) (λb o J e n=>u.free b o e n J) (λb o J e=>u.there b o e J) u.tups u.frzs u.tbls (λq i=>by obtain⟨o',g,ep',Y,r'⟩:=i;rw[h]at Y;cases Y;exact⟨_,g,ep',f,r'⟩) d j
theorem C'.turned{t':Nat}{it:i_}(I:C' X B' σ H s)(k:∀b o,b≠it->s.heap.get? b=a_ o->h'.get? b=a_ o)(f:H it=c_)(a:it≠X.env.locals)(h1:it∈X.ex\/X.s₀.heap.objs.size<=it)(h2:∀x c,X.env.cells.lookup x=a_ c->c≠it)(i:∀p∈X.pn++B',p.1≠it):C' X B' σ H {s with heap:=h',toks:=t'}:=by
 have Y:∀b u,H b=a_ u->b≠it:=λb u e z=>by rw[z,f]at e;cases e
 refine I.step (g':=s.gens) (d':=s.drawn) (ch:=[it]) (λb h=>?_) (λb o _ _ J e _=>k b o (λz=>J (by simp[z])) e) (λb o _ _ J e _=>⟨o.slots,k b o (λz=>J (by simp[z])) e⟩) (λ_ _ _ _ n=>n)
  (λb o J e=>⟨o,k b o (λz=>J (by simp[z])) e⟩) (λ_ _ e=>e) (λ_ _ _ e=>e) (λb ps e=>⟨#[],by rw[e];simp⟩) (λm g=>?_) (λb u e=>?_) I.bare
 ·have e:b=it:=by simpa using h
  subst e;exact⟨h1,a,h2,i⟩
 ·obtain⟨o,es,ep,d,r⟩:=g;exact⟨o,es,ep,k _ o (FZ a) d,r⟩
 ·refine(I.hok b u e).yE (λc v J q=>k c v ?_ q) (λ_ q=>q) λ_ _ q=>q;rcases J with z|z
  ·rw[z];exact Y b u e
  ·exact Y c _ z
theorem C'.tok(I:C' X B' σ H s)(t:Nat):C' X B' σ H {s with toks:=t}:=I.un (h':=s.heap) (t':=t) Un.refl I.hok
theorem C'.kept{t':Nat}(I:C' X B' σ H s)(k:∀b u,s.heap.get? b=a_ u->h'.get? b=a_ u):C' X B' σ H {s with heap:=h',toks:=t'}:=I.un (Un.kept k) (I.hok.kept k)
theorem C'.laid{a:i_}{o:HO}{t':Nat}(I:C' X B' σ H s)(k:∀b u,s.heap.get? b=a_ u->h'.get? b=a_ u)(Y:s.heap.objs.size<=a)(J:cQ X.prog X.w (upd H a o) h' a o):
  C' X B' σ (upd H a o) {s with heap:=h',toks:=t'}:=I.un (Un.laid k Y (I.hok.fresh Y)) (I.hok.laid k Y J)
theorem C'.write{x e:i_}{o:HO}{t':Nat}(I:C' X B' σ H s)(a:Mut (H x))(c:e=x\/H e=a_ (.own x))(k:∀b u,b≠e->s.heap.get? b=a_ u->h'.get? b=a_ u)(J:∃u,h'.get? e=a_ u)(Y:cQ X.prog X.w (upd H x o) h' x o):C' X B' σ (upd H x o) {s with heap:=h',toks:=t'}:=I.un (Un.write a c k J) (I.hok.write a c k J Y)
theorem C'.weak{σ':List (Option V)}(I:C' X B' σ H s)(a:σ'.length=σ.length)(w:∀(i:Nat) v,σ'[i]?=a_ (a_ v)->σ[i]?=a_ (a_ v)):C' X B' σ' H s:=
 ⟨I.ok,I.os,I.bare,I.base,let ⟨m,Y,J⟩:=I.loc;⟨m,Y,λi x v e1 e2 e3=>J i x v e1 (w i v e2) e3⟩,I.cell,I.free,I.freeC,I.pin,I.hok,a.trans I.len⟩
theorem C'.uJ{pins':Vp}(I:C' X B' σ H s)(h:∀p∈pins',s.heap.get? p.1=a_ p.2/\H p.1=c_/\p.1≠X.env.locals/\p.1∉X.fs/\∀v,p.2.data≠.cell v):C' X pins' σ H s:=
 ⟨I.ok,I.os,I.bare,I.base,I.loc,I.cell,I.free,I.freeC,λp J=>(Gn.mp J).elim (λz=>I.pin p (JU _ z)) (h p),I.hok,I.len⟩
theorem uV(I:N.Nodup){j:Nat}(a:N[i]?=a_ x)(b:N[j]?=a_ x):i=j:=by obtain⟨h1,e1⟩:=w_.mp a;obtain⟨h2,e2⟩:=w_.mp b;exact(List.getElem_inj I).mp (e1.trans e2.symm)
theorem w5{M:KA}(I:C' X B' σ H s)(hN:X.N.Nodup)(hi:X.N[i]?=a_ x)(g:Loc X.env.scope x)(r:Hh v u)(h:∀s',C' X B' (σ.set i (a_ v)) H s'->(∃a,Jh a s.heap s'.heap/\(a=X.env.locals\/X.env.cells.lookup x=a_ a))->Q () s')(hf:autoParam (X.fn x=d_\/X.env.scope.names.lookup x=a_ .local) Jq3):D_ M A (storeName X.env x u) Q E s:=by
 obtain⟨m,hn,hl⟩:=id I.loc;have L:(X.env.scope.kind==.class||(X.env.scope.kind==.module&&X.env.locals != X.env.globals))=b_:=by rw[I.ok.kind];rfl
 have w:i<σ.length:=by rw[I.len];exact(w_.mp hi).1
 have F:=I.cne;have Y:∀{a:i_} {h':Gv},(∃o,s.heap.get? a=a_ o/\H a=c_)->Jh a s.heap h'->HOk X.prog X.w H h':=λ{a h'} ha J b ob e=>by
  obtain⟨_,_,l⟩:=ha;refine(I.hok b ob e).yE (λc P f q=>(J.2 c ?_).trans q) (λ_ q=>q) λ_ _ q=>q;rintro rfl;rcases f with rfl|f
  ·rw[l]at e;cases e
  ·rw[l]at f;cases f
 rcases g with t|t
 ·refine wpAny_storeName_local t hn (λh' hn' J=>?_) L;obtain⟨oL,_,_,hoL,_⟩:=id hn;refine h _ ⟨I.ok,I.os,I.bare,⟨λb o e n D g=>?_,λb o e n D g=>?_,I.base.free,λb o e g=>?_,I.base.tups,I.base.frzs,I.base.tbls⟩,⟨_,hn',λj y T e1 e2 e3=>?_⟩,λy c e=>?_,I.free,I.freeC,λp hp=>?_,Y ⟨oL,hoL,I.free⟩ J,by simpa using I.len⟩ ⟨_,J,.inl rfl⟩
  ·exact(J.2 b (Ga (FP (A1 e) I.ok.above))).trans (I.base.keep b o e n D g)
  ·obtain⟨W,e1⟩:=I.base.slot b o e n D g;exact⟨W,(J.2 b (Ga (FP (A1 e) I.ok.above))).trans e1⟩
  ·obtain⟨o',e1⟩:=I.base.there b o e g;exact⟨o',(J.2 b (Ga (FP (A1 e) I.ok.above))).trans e1⟩
  ·by_cases B:j=i
   ·subst B;rw[hi]at e1;cases e1;rw[u_ w]at e2;cases e2;exact⟨u,r,.inl ⟨t,by simp⟩⟩
   ·rw[n_ (FZ B)]at e2;obtain⟨U,r',q⟩:=hl j y T e1 e2 e3;refine⟨U,r',?_⟩
    rcases q with⟨k,e⟩|⟨k,c,e,z⟩
    ·refine .inl ⟨k,?_⟩;have:y≠x:=λe=>B (uV hN e1 (e▸hi));simp[this,e]
    ·exact .inr ⟨k,c,e,z.sameBut J (F y c e)⟩
  ·obtain⟨P,z⟩:=I.cell y c e;exact⟨P,z.sameBut J (F y c e)⟩
  ·obtain⟨e,n,R,Z,d⟩:=I.pin p hp;exact⟨(J.2 p.1 R).trans e,n,R,Z,d⟩
 ·have C:X.fn x=d_:=by
   rcases hf with z|z
   ·exact z
   ·rw[z]at t;cases t
  obtain⟨c,f⟩:=I.ok.has x (.inl t);obtain⟨P,z⟩:=I.cell x c f;refine wpAny_storeName_cell I.ok.kind t f z (λh' O J=>?_);obtain⟨oc,K,G⟩:=id z;refine h {s with heap:=h'} ⟨I.ok,I.os,I.bare,⟨λb o e n D g=>?_,λb o e n D g=>?_,I.base.free,λb o e g=>?_,I.base.tups,I.base.frzs,I.base.tbls⟩,⟨m,hn.sameBut J (FZ (F x c f)),λj y T e1 e2 e3=>?_⟩,λy S e=>?_,I.free,I.freeC,λp hp=>?_,Y ⟨oc,K,I.freeC x c f⟩ J,by simpa using I.len⟩ ⟨c,J,.inr f⟩
  ·exact(J.2 b (Ga (FP (A1 e) (I.ok.cab x c C f)))).trans (I.base.keep b o e n D g)
  ·obtain⟨W,e1⟩:=I.base.slot b o e n D g;exact⟨W,(J.2 b (Ga (FP (A1 e) (I.ok.cab x c C f)))).trans e1⟩
  ·obtain⟨o',e1⟩:=I.base.there b o e g;exact⟨o',(J.2 b (Ga (FP (A1 e) (I.ok.cab x c C f)))).trans e1⟩
  ·by_cases B:j=i
   ·subst B;rw[hi]at e1;cases e1;rw[u_ w]at e2;cases e2;exact⟨u,r,.inr ⟨.inl t,c,f,O⟩⟩
   ·rw[n_ (FZ B)]at e2;obtain⟨U,r',q⟩:=hl j y T e1 e2 e3;refine⟨U,r',?_⟩
    rcases q with q|⟨k,S,e,z'⟩
    ·exact .inl q
    ·refine .inr ⟨k,S,e,z'.sameBut J ?_⟩;rintro rfl;exact B (uV hN e1 (I.ok.inj _ _ _ e f▸hi))
  ·by_cases N:S=c
   ·subst N;exact⟨_,O⟩
   ·obtain⟨w2,z2⟩:=I.cell y S e;exact⟨w2,z2.sameBut J N⟩
  ·obtain⟨e,n,R,Z,d⟩:=I.pin p hp;refine⟨(J.2 p.1 ?_).trans e,n,R,Z,d⟩
   intro q;rw[q,K]at e;have q':oc=p.2:=FW e;exact d P (by rw[<- q'];exact G)
theorem mT{M:KA}(I:C' X B' σ H s)(a:X.N.Nodup)(hi:X.N[i]?=a_ x)(J:Loc X.env.scope x)(r:Hh v u)(h:∀s',C' X B' (σ.set i (a_ v)) H s'->Q () s')(Y:autoParam (X.fn x=d_\/X.env.scope.names.lookup x=a_ .local) Jq3):D_ M A (storeName X.env x u) Q E s:=
 w5 I a hi J r (λs' b _=>h s' b) Y
theorem C'.call'(I:C' X B' σ H s)(a:s'.os=s.os)(u:Un (frs X.stack) ch H H' s.heap s'.heap)(J:HOk X.prog X.w H' s'.heap)(d:JM s'.gens)(Y:∀b∈ch,(b∈X.ex\/X.s₀.heap.objs.size<=b)/\b≠X.env.locals/\(∀x c,X.env.cells.lookup x=a_ c->c≠b)/\∀p∈X.pn++B',p.1≠b):C' X B' σ H' s':=by obtain⟨h',g',d',t',o'⟩:=s';have e:o'=s.os:=a;subst e;exact I.call (g':=g') (t':=t') (d':=d') u J d Y
end
abbrev XK:=j_->Option i_->Hp->Prop
noncomputable abbrev St:=List (Option V)
variable{σ:St}
abbrev VK:=V->Hp->Prop
abbrev TE:=St->Hp->VK->Prop
variable{ta tb te:TE}
abbrev TT:=St->Hp->(Bool->Hp->Prop)->Prop
variable{tc:TT}
abbrev TA:=St->Hp->(List V->Hp->Prop)->Prop
structure Ends where
 nx:St->Hp->Prop
 rt:VK
 bk:St->Hp->Prop:=λ_ _=>False
 ct:St->Hp->Prop:=λ_ _=>False
abbrev TS:=Ends->St->Hp->Prop
def EP(X:Cx)(B':Vp)(σ:St)(Q:VK)(u:j_)(s':y_):Prop:=∃v H',C' X B' σ H' s'/\Hh v u/\Q v H'
def TP(X:Cx)(B':Vp)(σ:St)(Q:Bool->Hp->Prop)(b:Bool)(s':y_):Prop:=∃H',C' X B' σ H' s'/\Q b H'
def AP(X:Cx)(B':Vp)(σ:St)(Q:List V->Hp->Prop)(us:List j_)(s':y_):Prop:=∃vs H',C' X B' σ H' s'/\Hn vs us/\Q vs H'
def SP(X:Cx)(B':Vp)(D:Ends)(f:Flow)(s':y_):Prop:=
 match f with
 |.next=>∃σ' H',C' X B' σ' H' s'/\D.nx σ' H'
 |.brk=>∃σ' H',C' X B' σ' H' s'/\D.bk σ' H'
 |.cont=>∃σ' H',C' X B' σ' H' s'/\D.ct σ' H'
 |.ret u=>∃v σ' H',C' X B' σ' H' s'/\Hh v u/\D.rt v H'
def PE(X:Cx)(e:GO)(t:TE):Prop:=
 ∀(B':Vp) (s:y_) (σ:St) (H:Hp) (Q:VK),C' X B' σ H s->t σ H Q->D_ (FE X.prog X.w) X.A (FR e X.env) (EP X B' σ Q) X.xe s
def PT(X:Cx)(e:GO)(t:TT):Prop:=
 ∀(B':Vp) (s:y_) (σ:St) (H:Hp) (Q:Bool->Hp->Prop),C' X B' σ H s->t σ H Q->D_ (FE X.prog X.w) X.A (MV e X.env (FR e X.env)) (TP X B' σ Q) X.xe s
def PW(X:Cx)(e:GO)(t:TT):Prop:=
 ∀(I:N2 j_) (B':Vp) (s:y_) (σ:St) (H:Hp) (Q:Bool->Hp->Prop),C' X B' σ H s->t σ H Q->D_ (FE X.prog X.w) X.A (MV e X.env I) (TP X B' σ Q) X.xe s
theorem PW.pt{t:TT}(h:PW X e t):PT X e t:=h _
def PA(X:Cx)(es:List GO)(t:TA):Prop:=
 ∀(pos:Np) (B':Vp) (s:y_) (σ:St) (H:Hp) (Q:List V->Hp->Prop),C' X B' σ H s->t σ H Q->D_ (FE X.prog X.w) X.A (NT (Gh pos (h_ es X.env))) (AP X B' σ Q) X.xe s
def PS(X:Cx)(st:GK)(t:TS):Prop:=
 ∀(B':Vp) (s:y_) (σ:St) (H:Hp) (D:Ends),C' X B' σ H s->t D σ H->D_ (FE X.prog X.w) X.A (exec st X.env) (SP X B' D) X.xe s
def PSs(X:Cx)(st:List GK)(t:TS):Prop:=
 ∀(B':Vp) (s:y_) (σ:St) (H:Hp) (D:Ends),C' X B' σ H s->t D σ H->D_ (FE X.prog X.w) X.A (execs st X.env) (SP X B' D) X.xe s
theorem HH{α:Type}{t:N2 α}{Q I:α->y_->Prop}{M:KA}(h:D_ M A t Q E s)(J:∀a s,Q a s->I a s):D_ M A t I E s:=Gx h J λ_ _ x=>x
section
noncomputable def bG(i:Nat):TE:=λσ H Q=>∃v,σ[i]?=a_ (a_ v)/\Q v H
noncomputable def tC(v:V):TE:=λ_ H Q=>Q v H
theorem pe_var(k:X.N[i]?=a_ x)(hv:Vis X.env.scope x)(hd:((x==("__debug__":p_))=b_)⁻¹)(b:((x==("__classdict__":p_))=b_)⁻¹):PE X (.Name x pos) (bG i):=by
 intro B' s σ H Q I h;obtain⟨v,e,h⟩:=h;obtain⟨m,f,j⟩:=I.loc;obtain⟨u,r,l⟩:=j i x v k e hv;have a:EP X B' σ Q u s:=⟨v,H,I,r,h⟩
 rcases l with⟨Y,g⟩|⟨Y,c,d,J⟩
 ·exact Nz (wpAny_loadName_local I.ok.kind Y f g a) hd
 ·rcases Y with Y|Y
  ·exact Nz (wpAny_loadName_cell I.ok.kind Y d J a) hd
  ·exact Nz (wpAny_loadName_free I.ok.kind Y d J a b) hd
theorem wW{i j pos}:PE X (.Constant (.int i) j pos) (tC (.int i)):=λ_ _ _ H _ I h=>wpAny_Constant_int ⟨.int i,H,I.tok _,⟨_,rfl⟩,h⟩
theorem jx{b j pos}:PE X (.Constant (.bool b) j pos) (tC (.bl b)):=λ_ _ _ H _ I h=>Constant_bool ⟨.bl b,H,I,rfl,h⟩
theorem pe_non{j pos}:PE X (.Constant .none j pos) (tC .non):=λ_ _ _ H _ I h=>Constant_none ⟨.non,H,I,rfl,h⟩
theorem tG{x j pos}:PE X (.Constant (.str x) j pos) (tC (.str x)):=λ_ _ _ H _ I h=>Calls.Constant_str ⟨.str x,H,I.tok _,⟨_,rfl⟩,h⟩
def Gl(X:Cx)(x:p_):Prop:=X.env.kindOf x=a_ .globalImplicit
theorem jF{Q:Mq}(I:C' X B' σ H s)(Y:Gl X x)(J:X.mg x=a_ u)(h:Q u s)(hd:((x==("__debug__":p_))=b_)⁻¹):D_ (FE X.prog X.w) X.A (FR (.Name x pos) X.env) Q E s:=
 K5 I.ok.kind Y (Calls.loadGlobal_global (by rw[I.ok.glob];exact I.mod.glob.keeps I.bk) J h) hd
theorem tI{Q:Mq}(I:C' X B' σ H s)(a:Gl X x)(Y:X.mg x=c_)(hv:Hx x=a_ u)(h:Q u s)(J:(x≠"__name__")⁻¹)(hd:((x==("__debug__":p_))=b_)⁻¹):D_ (FE X.prog X.w) X.A (FR (.Name x pos) X.env) Q E s:=by obtain⟨b,h1,h2⟩:=I.mod.blt;exact K5 I.ok.kind a (Calls.loadGlobal_builtin (by rw[I.ok.glob];exact I.mod.glob.keeps I.bk) Y (by rw[I.ok.blt];exact h1.keeps I.bk) ((h2 x J).trans hv) h) hd
theorem uL(Y:Gl X x)(J:X.mg x=a_ u)(r:Hh v u)(hd:((x==("__debug__":p_))=b_)⁻¹):PE X (.Name x pos) (tC v):=
 λ_ _ _ H _ I h=>jF I Y J ⟨v,H,I,r,h⟩ hd
theorem pe_bltn(a:Gl X x)(Y:X.mg x=c_)(hv:Hx x=a_ u)(r:Hh v u)(J:(x≠"__name__")⁻¹)(hd:((x==("__debug__":p_))=b_)⁻¹):PE X (.Name x pos) (tC v):=
 λ_ _ _ H _ I h=>tI I a Y hv ⟨v,H,I,r,h⟩ J hd
variable{a b:GO} 
def PC(X:Cx)(op:CmpOp)(a b:GO)(t:TE):Prop:=
 ∀(B':Vp) (s:y_) (σ:St) (H:Hp) (Q:VK),C' X B' σ H s->t σ H Q ->
  D_ (FE X.prog X.w) X.A (FR a X.env) (λv J=>D_ (FE X.prog X.w) X.A (FR b X.env) (λu I=>D_ (FE X.prog X.w) X.A (FU op v u) (EP X B' σ Q) X.xe I) X.xe J) X.xe s
theorem nobehind(b:GO)(h:op≠.In)(h2:op≠.NotIn):HM op b=b_:=by
 have e1:(op==CmpOp.In)=b_:=by cases op<;>first|rfl|exact FJ rfl h
 have e2:(op==N7)=b_:=by cases op<;>first|rfl|exact FJ rfl h2
 cases b<;>simp[HM,e1,e2]
noncomputable def tIsN(ta:TE):TE:=λσ H Q=>ta σ H λx H1=>Q (.bl (q_ (x=.non))) H1
theorem Hh.none_iff{x:V}{v:j_}(r:Hh x v):(v==Ip)=q_ (x=.non):=by
 cases x with
 |non=>cases r;rfl|bl _=>cases r;rfl|int _=>obtain⟨t,rfl⟩:=r;rfl
 |str _=>obtain⟨t,rfl⟩:=r;rfl
 |byt _=>obtain⟨t,rfl⟩:=r;rfl
 |flt _=>obtain⟨t,rfl⟩:=r;rfl
 |ref _=>cases r;rfl|ty _=>cases r;rfl
theorem pc_isN{j pos'}(c:PE X a ta):PC X .Is a (.Constant .none j pos') (tIsN ta):=by intro B' s σ H Q I h;refine HH (c B' s σ H _ I h) λv e b=>?_;obtain⟨x,H1,d,J,Y⟩:=b;exact Constant_none (is_none_gen ⟨.bl _,H1,d,by rw[J.none_iff];rfl,Y⟩)
noncomputable def tB(t:TE):TT:=λσ H Q=>t σ H λx H1=>∃c,x=.bl c/\Q c H1
theorem pt_cmp{t:TE}(h:PC X op a b t)(h1:HM op b=b_:=by first|exact nobehind _ (by decide) (by decide)|rfl):PT X (.Compare a [op] [b] pos) (tB t):=by intro B' s σ H Q I hw;refine M9 (HH (h B' s σ H _ I hw) λv j h1=>HH h1 λu i h2=>HH h2 λc g e=>?_) h1;obtain⟨x,H1,f,J,Y⟩:=e;obtain⟨d,rfl,q⟩:=Y;cases J;exact GG ⟨H1,f,q⟩
variable{tA tB':TT}{rest:List GO}
noncomputable def tAnd(t u:TT):TT:=λσ H Q=>t σ H λc H1=>if c=d_ then u σ H1 Q else Q b_ H1
noncomputable def tOr(t u:TT):TT:=λσ H Q=>t σ H λc H1=>if c=d_ then Q d_ H1 else u σ H1 Q
noncomputable def tNot(t:TT):TT:=λσ H Q=>t σ H λc H1=>Q (!c) H1
theorem DC(J:PT X a tA):PW X (.BoolOp .And [a] pos) tA:=by
 intro Y B' s σ H Q I h;refine isTrue_and (HH (J B' s σ H Q I h) λc b e=>?_);cases c with
 |true=>exact isTrue_and_nil e|false=>exact e
theorem pw_or1(J:PT X a tA):PW X (.BoolOp .Or [a] pos) tA:=by
 intro Y B' s σ H Q I h;refine isTrue_or (HH (J B' s σ H Q I h) λc b e=>?_);cases c with
 |false=>exact isTrue_or_nil e|true=>exact e
theorem DD(i:PT X a tA)(g:PW X (.BoolOp .And (b::rest) pos) tB'):PW X (.BoolOp .And (a::b::rest) pos) (tAnd tA tB'):=by
 intro d B' s σ H Q I h;refine isTrue_and (HH (i B' s σ H _ I h) λc e f=>?_);obtain⟨H1,Y,J⟩:=f;cases c with
 |true=>exact g d B' e σ H1 Q Y J|false=>exact⟨H1,Y,J⟩
theorem pw_or(i:PT X a tA)(g:PW X (.BoolOp .Or (b::rest) pos) tB'):PW X (.BoolOp .Or (a::b::rest) pos) (tOr tA tB'):=by
 intro d B' s σ H Q I h;refine isTrue_or (HH (i B' s σ H _ I h) λc e f=>?_);obtain⟨H1,Y,J⟩:=f;cases c with
 |true=>exact⟨H1,Y,J⟩|false=>exact g d B' e σ H1 Q Y J
theorem AA(J:PT X a tA):PT X (.UnaryOp .Not a pos) (tNot tA):=by intro B' s σ H Q I h;exact isTrue_not (J B' s σ H (λc H1=>Q (!c) H1) I h)
noncomputable def tAndV(ta tb:TE):TE:=λσ H Q=>ta σ H λx H1=>∃c,x=.bl c/\if c=d_ then tb σ H1 Q else Q (.bl b_) H1
noncomputable def tOrV(ta tb:TE):TE:=λσ H Q=>ta σ H λx H1=>∃c,x=.bl c/\if c=d_ then Q (.bl d_) H1 else tb σ H1 Q
noncomputable def tNotV(ta:TE):TE:=λσ H Q=>ta σ H λx H1=>∃c,x=.bl c/\Q (.bl (!c)) H1
theorem pe_one{op}{t:TE}(h:PE X a t):PE X (.BoolOp op [a] pos) t:=λB' s σ H Q I hw=>BoolOp_one (h B' s σ H Q I hw)
theorem pe_and(i:PE X a ta)(g:PE X (.BoolOp .And (b::rest) pos) tb):PE X (.BoolOp .And (a::b::rest) pos) (tAndV ta tb):=by
 intro B' s σ H Q I h;refine BoolOp_and (HH (i B' s σ H _ I h) λv d f=>?_);obtain⟨x,H1,Y,e,J⟩:=f;obtain⟨c,rfl,J⟩:=J;cases e;refine GG ?_;cases c with
 |true=>exact g B' d σ H1 Q Y J|false=>exact⟨.bl b_,H1,Y,rfl,J⟩
theorem pe_or(i:PE X a ta)(g:PE X (.BoolOp .Or (b::rest) pos) tb):PE X (.BoolOp .Or (a::b::rest) pos) (tOrV ta tb):=by
 intro B' s σ H Q I h;refine BoolOp_or (HH (i B' s σ H _ I h) λv d f=>?_);obtain⟨x,H1,Y,e,J⟩:=f;obtain⟨c,rfl,J⟩:=J;cases e;refine GG ?_;cases c with
 |false=>exact g B' d σ H1 Q Y J|true=>exact⟨.bl d_,H1,Y,rfl,J⟩
theorem pe_not(d:PE X a ta):PE X (.UnaryOp .Not a pos) (tNotV ta):=by intro B' s σ H Q I h;refine UnaryOp_ (HH (d B' s σ H _ I h) λv f b=>?_);obtain⟨x,H1,e,Y,J⟩:=b;obtain⟨c,rfl,J⟩:=J;cases Y;exact not_of (GG ⟨.bl (!c),H1,e,rfl,J⟩)
noncomputable def tIf(t:TT)(ta tb:TE):TE:=λσ H Q=>t σ H λc H1=>if c=d_ then ta σ H1 Q else tb σ H1 Q
theorem pe_ifExp(g:PT X c tA)(j:PE X a ta)(i:PE X b tb):PE X (.IfExp c a b pos) (tIf tA ta tb):=by
 intro B' s σ H Q I h;refine wpAny_IfExp (HH (g B' s σ H _ I h) λd J f=>?_);obtain⟨H1,e,Y⟩:=f;cases d with
 |true=>exact j B' J σ H1 Q e Y|false=>exact i B' J σ H1 Q e Y
end
def SqL(K:Pn)(H:Hp)(a:i_)(xs:List V):Prop:=
 Rd H a (.lst xs) \/
  ∃(o:JJ) (F9:Array j_) (n:Nat),K.lookup a=a_ o/\o.cls=.type "list"/\o.dict=c_/\o.data=.seq F9 n/\F9.size<=f_/\Hn xs F9.toList
def SqT(K:Pn)(H:Hp)(a:i_)(xs:List V):Prop:=
 Rd H a (.tup xs) \/
  ∃(o:JJ) (F9:Array j_) (n:Nat),K.lookup a=a_ o/\o.cls=.type "tuple"/\o.data=.seq F9 n/\F9.size<=f_/\Hn xs F9.toList
noncomputable def absV:j_->Option V
 |.none=>a_ .non|.bool b=>a_ (.bl b)|.int i _=>a_ (.int i)|.str x _=>a_ (.str x)|.bytes b _=>a_ (.byt b)|.float b _=>a_ (.flt b)|.ref a=>a_ (.ref a)|.type n=>a_ (.ty n)|_=>c_
theorem Hh.abs{x:V}(r:Hh x u):absV u=a_ x:=by
 cases x with
 |non=>cases r;rfl|bl _=>cases r;rfl|int _=>obtain⟨t,rfl⟩:=r;rfl
 |str _=>obtain⟨t,rfl⟩:=r;rfl
 |byt _=>obtain⟨t,rfl⟩:=r;rfl
 |flt _=>obtain⟨t,rfl⟩:=r;rfl
 |ref _=>cases r;rfl|ty _=>cases r;rfl
theorem Hh.inj{x y:V}{u:j_}(r:Hh x u)(q:Hh y u):x=y:=FW (r.abs.symm.trans q.abs)
theorem Hn.inj:∀{xs ys:List V} {us:List j_},Hn xs us->Hn ys us->xs=ys
 |_,_,_,.nil,.nil=>rfl|_,_,_,.cons r t,.cons r' t'=>by rw[r.inj r',Hn.inj t t']
section
variable{xs ys:List V}
theorem SqL.of(h:H a=a_ (.lst xs)):SqL K H a xs:=.inl (.inl h)
theorem SqT.of(h:H a=a_ (.tup xs)):SqT K H a xs:=.inl (.inl h)
theorem C'.list(I:C' X B' σ H s)(h:SqL X.K H a xs):∃F9:List j_,Hn xs F9/\PlainL s.heap a F9.toArray/\xs.length<=f_:=by
 rcases h with h|⟨o,F9,n,Y,b,hd,J,c,r⟩
 ·obtain⟨z,F9,n,r,e⟩:=h.ok I.hok;exact⟨F9,r,⟨_,n,e,rfl,rfl,rfl⟩,z⟩
 ·refine⟨F9.toList,r,⟨o,n,I.kIn a o Y,b,hd,by simpa using J⟩,?_⟩
  have e:=r.length;simp only[Hr]at e;omega
theorem C'.tuple(I:C' X B' σ H s)(h:SqT X.K H a xs):∃F9:List j_,Hn xs F9/\N8 s.heap a F9.toArray/\xs.length<=f_:=by
 rcases h with h|⟨o,F9,n,Y,b,J,c,r⟩
 ·obtain⟨z,F9,r,p⟩:=h.ok I.hok;exact⟨F9,r,p,z⟩
 ·refine⟨F9.toList,r,⟨o,I.kIn a o Y,b,n,by simpa using J⟩,?_⟩
  have e:=r.length;simp only[Hr]at e;omega
theorem C'.pR(I:C' X B' σ H s)(h:SqL X.K H a xs)(h':SqL X.K H a ys):xs=ys:=by
 obtain⟨F9,r,⟨o,n,e,_,_,d⟩,_⟩:=I.list h;obtain⟨its',r',⟨o',Y,J,_,_,d'⟩,_⟩:=I.list h';rw[e]at J;cases J;rw[d]at d';injection d' with d1 _
 have:F9=its':=by simpa using Iv Ko d1
 subst this;exact r.inj r'
theorem C'.CY(I:C' X B' σ H s)(h:SqT X.K H a xs)(h':SqT X.K H a ys):xs=ys:=by
 obtain⟨F9,r,⟨o,e,_,n,d⟩,_⟩:=I.tuple h;obtain⟨its',r',⟨o',J,_,Y,d'⟩,_⟩:=I.tuple h';rw[e]at J;cases J;rw[d]at d';injection d' with d1 _
 have:F9=its':=by simpa using Iv Ko d1
 subst this;exact r.inj r'
end
noncomputable abbrev Cx.vR(X:Cx)(E:Mq):Cx:={X with xe:=E}
abbrev Cx.nox(X:Cx):Cx:=X.vR λ_ _=>False
theorem Cx.Ok.vR{X:Cx}(I:X.Ok)(E:Mq):(X.vR E).Ok:=
 ⟨I.mod,I.kind,I.glob,I.blt,I.above,I.inj,I.has,I.cab,I.hd,I.frames,I.stk,I.exf,I.bs,I.bsz,I.noex,I.exfs,I.xG,I.frf⟩
theorem Cx.Ok.lr(I:(X.vR E).Ok):X.Ok:=
 ⟨I.mod,I.kind,I.glob,I.blt,I.above,I.inj,I.has,I.cab,I.hd,I.frames,I.stk,I.exf,I.bs,I.bsz,I.noex,I.exfs,I.xG,I.frf⟩
theorem C'.vR(I:C' X B' σ H s)(E:Mq):C' (X.vR E) B' σ H s:=⟨I.ok.vR E,I.os,I.bare,I.base,I.loc,I.cell,I.free,I.freeC,I.pin,I.hok,I.len⟩
theorem C'.lr(I:C' (X.vR E) B' σ H s):C' X B' σ H s:=⟨I.ok.lr,I.os,I.bare,I.base,I.loc,I.cell,I.free,I.freeC,I.pin,I.hok,I.len⟩
theorem SP.lr{D:Ends}{f:Flow}{s':y_}(h:SP (X.vR E) B' D f s'):SP X B' D f s':=by
 cases f with
 |next=>obtain⟨σ',H',I,q⟩:=h;exact⟨σ',H',I.lr,q⟩
 |brk=>obtain⟨σ',H',I,q⟩:=h;exact⟨σ',H',I.lr,q⟩
 |cont=>obtain⟨σ',H',I,q⟩:=h;exact⟨σ',H',I.lr,q⟩
 |ret u=>obtain⟨v,σ',H',I,r,q⟩:=h;exact⟨v,σ',H',I.lr,r,q⟩
theorem PSs.nox{st:List GK}{t:TS}(h:PSs X.nox st t):PSs X st t:=λB' s σ H D I hw=>Gx (h B' s σ H D (I.vR _) hw) (λ_ _ q=>q.lr) λ_ _ z=>GA z
section
variable{st:GK}{rest:List GK}{t u:TS} 
def eY:TS:=λD σ H=>D.nx σ H
def cR(t u:TS):TS:=λD σ H=>t {D with nx:=u D} σ H
theorem bC:PSs X [] eY:=λ_ _ σ H _ I h=>II ⟨σ,H,I,h⟩
theorem ax(h1:PS X st t)(h2:PSs X rest u):PSs X (st::rest) (cR t u):=by
 intro B' s σ H D I h;refine K_ (HH (h1 B' s σ H {D with nx:=u D} I h) λf J q=>?_);cases f with
 |next=>obtain⟨σ',H',Y,q⟩:=q;exact h2 B' J σ' H' D Y q
 |ret v=>exact q|brk=>exact q|cont=>exact q
theorem aU(h1:PS X st t):PSs X [st] t:=by
 intro B' s σ H D I h;refine K_ (HH (h1 B' s σ H D I h) λf J q=>?_);cases f with
 |next=>exact II q|ret v=>exact q|brk=>exact q|cont=>exact q
theorem C'.quiet(I:C' X B' σ H s):interactive X.env=b_:=by simp[interactive,I.ok.kind]
def lN(te:TE):TS:=λD σ H=>te σ H λ_ H1=>D.nx σ H1
theorem gu(b:PE X e te)(Y: ~~~(G0 e c_ pos.line X.env=GZ b_)):PS X (.Expr e pos) (lN te):=by intro B' s σ H D I h;refine wpAny_Expr_any (HH (b B' s σ H _ I h) λv d a=>?_) I.quiet Y;obtain⟨x,H1,c,f,J⟩:=a;exact⟨σ,H1,c,J⟩
def sk(te:TE):TS:=λD σ H=>te σ H D.rt
theorem ck(b:PE X e te):PS X (.Return (a_ e) pos) (sk te):=by intro B' s σ H D I h;refine wpAny_Return_some (HH (b B' s σ H _ I h) λv d a=>?_);obtain⟨x,H1,c,J,Y⟩:=a;exact⟨x,σ,H1,c,J,Y⟩
def lM(c:TT)(t u:TS):TS:=λD σ H=>c σ H λb H1=>if b=d_ then t D σ H1 else u D σ H1
theorem gW{a b:List GK}(g:PT X c tc)(j:PSs X a t)(i:PSs X b u):PS X (.If c a b pos) (lM tc t u):=by
 intro B' s σ H D I h;refine wpAny_If (HH (g B' s σ H _ I h) λd J f=>?_);obtain⟨H1,e,Y⟩:=f;cases d with
 |true=>exact j B' J σ H1 D e Y|false=>exact i B' J σ H1 D e Y
noncomputable def tNever:TS:=λ_ _ _=>False
theorem wN{sts:List GK}:PSs X sts tNever:=λ_ _ _ _ _ _ h=>h.elim
end
abbrev TG:=V->St->Hp->(St->Hp->Prop)->Prop
abbrev TGs:=List V->St->Hp->(St->Hp->Prop)->Prop
def PG(X:Cx)(I:GO)(t:TG):Prop:=
 ∀(B':Vp) (s:y_) (σ:St) (H:Hp) (v:V) (u:j_) (Q:St->Hp->Prop),C' X B' σ H s->Hh v u->t v σ H Q ->
  D_ (FE X.prog X.w) X.A (Jp I X.env u) (λ_ s'=>∃σ' H',C' X B' σ' H' s'/\Q σ' H') X.xe s
def PGs(X:Cx)(ts:List GO)(t:TGs):Prop:=
 ∀(B':Vp) (s:y_) (σ:St) (H:Hp) (vs:List V) (us:List j_) (Q:St->Hp->Prop),C' X B' σ H s->Hn vs us->t vs σ H Q ->
  D_ (FE X.prog X.w) X.A (assignInOrder ((Hi ts X.env).map (·.2)) us) (λ_ s'=>∃σ' H',C' X B' σ' H' s'/\Q σ' H') X.xe s
abbrev TSet:=V->V->V->Hp->(Hp->Prop)->Prop
def PSet(X:Cx)(t:TSet):Prop:=
 ∀(B':Vp) (s:y_) (σ:St) (H:Hp) (o i v:V) (I J u:j_) (Q:Hp->Prop),C' X B' σ H s->Hh o I->Hh i J->Hh v u->t o i v H Q ->
  D_ (FE X.prog X.w) X.A (NV I J u) (λ_ s'=>∃H',C' X B' σ H' s'/\Q H') X.xe s
noncomputable def bU(i:Nat):TG:=λv σ H Q=>Q (σ.set i (a_ v)) H
theorem cU(a:X.N.Nodup)(hi:X.N[i]?=a_ x)(J:Loc X.env.scope x)(Y:autoParam (X.fn x=d_\/X.env.scope.names.lookup x=a_ .local) Jq3):PG X (.Name x pos) (bU i):=by intro B' s σ H v u Q I r h;exact NO (mT I a hi J r (λs' b=>⟨_,H,b,h⟩) Y)
noncomputable def gNil:TGs:=λvs σ H Q=>vs=[]/\Q σ H
noncomputable def lh(t:TG)(u:TGs):TGs:=λvs σ H Q=>∃v r,vs=v::r/\t v σ H λσ' H'=>u r σ' H' Q
theorem uK:PGs X [] gNil:=by intro B' s σ H vs us Q I r h;obtain⟨e,h⟩:=h;subst e;cases r;exact assignInOrder_nil ⟨σ,H,I,h⟩
theorem dh{t:TG}{u:TGs}(h1:PG X e t)(h2:PGs X es u)(c: ~~~((Hi (e::es) X.env).map (·.2)=Jp e X.env::(Hi es X.env).map (·.2))):PGs X (e::es) (lh t u):=by
 intro B' s σ H vs us Q I r h;obtain⟨v,g,e1,h⟩:=h;subst e1;cases r with
 |cons r a=>rw[c];refine assignInOrder_cons (HH (h1 B' s σ H _ _ _ I r h) λ_ Y d=>?_);obtain⟨J,H1,f,b⟩:=d;exact h2 B' Y J H1 _ _ Q f a b
def gTup(K:Pn)(n:Nat)(t:TGs):TG:=λv σ H Q=>∃a xs,v=.ref a/\SqT K H a xs/\xs.length=n/\t xs σ H Q
theorem AE{k:Nat}{t:TGs}(j:X.calm=d_)(h:PGs X es t)(g: ~~~((Hi es X.env).length=n))(J: ~~~((Hi es X.env).findIdx? (·.1)=c_)):PG X (.Tuple es k pos) (gTup X.K n t):=by intro B' s σ H v u Q I r hw;obtain⟨a,xs,e1,f,i,hw⟩:=hw;subst e1;cases r;obtain⟨F9,Y,d,m⟩:=I.tuple f;refine assign_Tuple_tuple (I.ok.hd j) d (by simp[g,<- i,Y.length]) J λh' c=>?_;have l:C' X B' σ H {s with heap:=h'}:=I.kept (t':=s.toks) λb o e=>c b o (Ga (A1 e)) e;exact h B' _ σ H xs _ Q l (by simpa using Y) hw
noncomputable def gSub(to I:TE)(t:TSet):TG:=λv σ H Q=>to σ H λo H1=>I σ H1 λi H2=>t o i v H2 λJ=>Q σ J
theorem pg_sub{o i:GO}{to b:TE}{t:TSet}(l:PE X o to)(hi:PE X i b)(k:PSet X t)(m:autoParam (∀v,Jp (.Subscript o i pos) X.env v=(do
   let J <- Jv [v] (FR o X.env)
   let Y <- Jv [v,J] (FR i X.env)
   KY pos
   Jv [v,J,Y] (NV J Y v)
   release [v,J,Y] [])) Jq5):PG X (.Subscript o i pos) (gSub to b t):=by
 intro B' s σ H v u Q I r h;rw[m];refine k_ (IH (HH (l B' s σ H _ I h) λJ d a=>?_));obtain⟨x,H1,q,e,j⟩:=a;refine k_ (IH (HH (hi B' d σ H1 _ q j) λY c a=>?_));obtain⟨y,H2,p,r2,g⟩:=a;refine k_ (Jf (k_ (IH (HH (k B' c σ H2 x y v J Y u _ p e r2 r g) λ_ z a=>?_))));obtain⟨w,n,f⟩:=a;exact wpAny_release ⟨σ,w,n,f⟩
def oK(te:TE)(g:TG):TS:=λD σ H=>te σ H λx H1=>g x σ H1 D.nx
theorem wQ{g:TG}(f:PE X e te)(d:PG X tg g)(b: ~~~(Ky [tg] e pos.line X.env=GZ b_))(hw: ~~~(Kz [tg] e X.env=GZ c_))(h1: ~~~((Hi [tg] X.env).map (·.2)=[Jp tg X.env])):PS X (.Assign [tg] e pos) (oK te g):=by intro B' s σ H D I h;refine wpAny_Assign_stores (HH (f B' s σ H _ I h) λv J c=>?_) b hw;obtain⟨x,H1,i,Y,a⟩:=c;rw[h1];exact HH (d B' J σ H1 x v _ i Y a) λ_ j q=>q
theorem jX(g:X.N.Nodup)(hi:X.N[i]?=a_ x)(a:Loc X.env.scope x)(f:PE X e te)(b: ~~~(G0 e (a_ (.Name x pos')) pos.line X.env=GZ b_))(d:autoParam (X.fn x=d_\/X.env.scope.names.lookup x=a_ .local) Jq3):
  PS X (.Assign [.Name x pos'] e pos) (oK te (bU i)):=by
 intro B' s σ H D I h;refine NQ (HH (f B' s σ H _ I h) λv m c=>?_) b;obtain⟨y,H1,k,J,Y⟩:=c;exact mT k g hi a J (λl j=>⟨_,H1,j,Y⟩) d
def D2(c:TT)(tb:TS):TS:=λD σ H=>∃W:Nat->St->Hp->Prop,(∃m,W m σ H)/\∀m σ H,W m σ H ->
 c σ H λb H1=>if b=d_ then ∃N:St->Hp->Prop,(∀σ' H',N σ' H'->∃I,I<m/\W I σ' H')/\tb {D with nx:=N,ct:=N,bk:=D.nx} σ H1 else D.nx σ H1
theorem ps_while{tb:TS}(i:MM (FE X.prog X.w) X.A X.env X.xe)(w:PT X c tc)(x:PSs X body tb):PS X (.While c body [] pos) (D2 tc tb):=by
 intro B' s σ H D I h;obtain⟨W,⟨u,w0⟩,a⟩:=h;refine wpAny_While (codeAny_whileLoop (λn s'=>∃σ' H',C' X B' σ' H' s'/\W n σ' H') ?_ u ⟨σ,H,I,w0⟩);rintro n t ⟨Y,H1,y,w1⟩;refine Il i (HH (w B' t Y H1 _ y (a n Y H1 w1)) λb r i=>?_);obtain⟨H2,q,g⟩:=i;cases b with
 |true=>
  obtain⟨N,p,g⟩:=g;rw[g_ rfl];refine Il i (HH (x B' r Y H2 _ q g) λf z e=>?_);cases f with
  |next=>obtain⟨J,d,o,k⟩:=e;obtain⟨l,m,j⟩:=p J d k;exact⟨l,m,J,d,o,j⟩
  |cont=>obtain⟨J,d,o,k⟩:=e;obtain⟨l,m,j⟩:=p J d k;exact⟨l,m,J,d,o,j⟩
  |brk=>exact e|ret v=>exact e
 |false=>rw[l_ Gu];exact II ⟨Y,H2,q,g⟩
structure It where
 go:Nat->Hp->Prop
 yld:Nat->Hp->V->Hp->Prop
 stop:Nat->Hp->Prop
def CL(X:Cx)(B':Vp)(H:Hp)(b:i_):Prop:=
 H b=c_/\b≠X.env.locals/\b∉X.fs/\(b∈X.ex\/X.s₀.heap.objs.size<=b)/\(∀x c,X.env.cells.lookup x=a_ c->c≠b)/\∀p∈X.pn++B',p.1≠b
theorem C'.fpOk(I:C' X B' σ H s)(J:s.heap.objs.size<=b)(a:H' b=c_):CL X B' H' b:=by
 refine⟨a,JN (FP I.lt J),I.nofs J,.inr (Gb I.sz J),λx c e z=>?_,λp Y z=>?_⟩
 ·obtain⟨v,q⟩:=I.cell x c e;exact FJ (FP q.lt (by rw[z];exact J)) (GP _)
 ·exact FJ (FP (A1 (I.pin p Y).1) (by rw[z];exact J)) (GP _)
structure Turn(P:GH)(w:GV)(K:Pn)(tg:GO)(J:It)(fp:List i_)(it:i_)(tn:Nat->Gv->Prop):Prop where
 mem:it∈fp
 obj:∀i h,tn i h->∀b∈fp,∃o,h.get? b=a_ o/\∀v,o.data≠.cell v
 keep:∀i h h',tn i h->(∀b∈fp,∀o,h.get? b=a_ o->h'.get? b=a_ o)->tn i h'
 item:∀(X:Cx),X.prog=P->X.w=w->X.K=K->X.calm=d_->∀(i:Nat) (B':Vp) (s:y_) (σ:St) (H:Hp) (E:Mq),C' X B' σ H s->(∀b∈fp,CL X B' H b)->tn i s.heap->J.go i H ->
  D_ (FE P w) X.A (pyNext (.ref it)) (λr s1=>∃u,r=a_ u /\
   D_ (FE P w) X.A (J1 tg (.ref it) u) (λ_ s2=>∃x H',C' X B' σ H' s2/\Hh x u/\J.yld i H x H'/\tn (i+1) s2.heap/\∀b∈fp,H' b=c_) E s1) E s
 done:∀(X:Cx),X.prog=P->X.w=w->X.K=K->X.calm=d_->∀(i:Nat) (B':Vp) (s:y_) (σ:St) (H:Hp) (E:Mq),C' X B' σ H s->(∀b∈fp,CL X B' H b)->tn i s.heap->J.stop i H ->
  D_ (FE P w) X.A (pyNext (.ref it)) (λr s1=>r=c_/\C' X B' σ H s1) E s
 self:∀(A:HE) (i:Nat) (s:y_) (Q:Mq) (E:Mq),tn i s.heap->Q (.ref it) s->D_ (FE P w) A (pyIter (.ref it)) Q E s
abbrev TI:=St->Hp->(It->Hp->Prop)->Prop
def PIE(X:Cx)(B':Vp)(σ:St)(tg:GO)(R:It->Hp->Prop)(I:j_)(a:y_):Prop:=
 ∃(it:i_) (fp:List i_) (Y:Nat->Gv->Prop) (J:It) (H':Hp),I=.ref it/\C' X B' σ H' a/\Turn X.prog X.w X.K tg J fp it Y/\Y 0 a.heap/\(∀b∈fp,CL X B' H' b)/\R J H'
def PI(X:Cx)(tg iter:GO)(wi:TI):Prop:=
 ∀(B':Vp) (s:y_) (σ:St) (H:Hp) (R:It->Hp->Prop),C' X B' σ H s->wi σ H R ->
  D_ (FE X.prog X.w) X.A (FR iter X.env) (λv I=>D_ (FE X.prog X.w) X.A (pyIter v) (PIE X B' σ tg R) X.xe I) X.xe s
theorem go_of{M : KA}{A : HE}{E : j_ -> y_ -> Prop}{s : y_}{tg : GO}{it : i_}{u : j_}{o : JJ}{n : String}{vs : Array j_}{Q : Unit -> y_ -> Prop}(J : s.heap.get? it = a_ o)(a : o.cls = .type n)(hd : o.data = .fields vs)(Y : ["enumerate", "zip", "dict_itemiterator", "dict_reverseitemiterator", "odict_iterator", "itertools.zip_longest", "itertools.pairwise"].contains n = b_)(I : Q () s): D_ M A (J1 tg (.ref it) u) Q E s := by
  unfold J1;cases tg <;> first
    | exact B_ I
    | (cases u <;> first
        | exact B_ I
        | (refine k_ (wpAny_load J ?_)
           rw[a,hd];show D_ M A (if (["enumerate", "zip", "dict_itemiterator", "dict_reverseitemiterator", "odict_iterator", "itertools.zip_longest", "itertools.pairwise"].contains n && vs[0]?== a_ (KJ _)) = d_ then _ else _) Q E s;rw[l_ (by intro h; rw[Y,Bool.false_and]at h; cases h)];exact B_ I))
noncomputable def Itl(K:Pn)(a:i_):It:=
 ⟨λi H=>∃xs x,SqL K H a xs/\xs[i]?=a_ x,λi H x H'=>H'=H/\∀xs,SqL K H a xs->xs[i]?=a_ x,λi H=>∃xs,SqL K H a xs/\xs.length<=i⟩
noncomputable def Itt(K:Pn)(a:i_):It:=
 ⟨λi H=>∃xs x,SqT K H a xs/\xs[i]?=a_ x,λi H x H'=>H'=H/\∀xs,SqT K H a xs->xs[i]?=a_ x,λi H=>∃xs,SqT K H a xs/\xs.length<=i⟩
noncomputable def Itr(lo:Int)(n:Nat):It:=⟨λi _=>i<n,λi H x H'=>H'=H/\x=.int (lo+i),λi _=>n<=i⟩
theorem vV(a it:i_):Turn P w K tg (Itl K a) [it] it (λi h=>h.IsListIter it a i) where
 mem:=by simp
 obj:=λi h st b J=>by
  have e:b=it:=by simpa using J
  subst e;obtain⟨o,e,c,d⟩:=st;exact⟨o,e,λv z=>by rw[d]at z;cases z⟩
 keep:=λi h h' st k=>st.at λo e=>k it (by simp) o e
 item:=by intro X n hw q r i B' s σ H E I g st m;subst n hw q;obtain⟨xs,x,f,l⟩:=m;obtain⟨F9,j,p,A⟩:=I.list f;obtain⟨u,C,y⟩:=j.get l;obtain⟨f0,f1,f2,f3,f4,f5⟩:=g it (by simp);refine wpAny_pyNext_list_item st p.isList (x:=u) (by simpa using C) λh' Y t=>?_;have F:C' X B' σ H {s with heap:=h'}:=I.turned (t':=s.toks) (λb o J e=>(t.2 b J).trans e) f0 f1 f3 f4 f5;obtain⟨o,e,c,d⟩:=id Y;exact⟨u,rfl,go_of (s:={s with heap:=h'}) e c d (by decide) ⟨x,H,F,y,⟨rfl,λys B=>by rw[I.pR B f];exact l⟩,Y,λb J=>(g b J).1⟩⟩
 done:=by intro X n hw q r i B' s σ H E I g st m;subst n hw q;obtain⟨xs,f,l⟩:=m;obtain⟨F9,j,p,A⟩:=I.list f;obtain⟨f0,f1,f2,f3,f4,f5⟩:=g it (by simp);have G:=j.length;exact wpAny_pyNext_list_end (I.ok.hd r) st p.isList (by simp;omega) λh' D=>⟨rfl,I.turned (t':=s.toks) (λb o J e=>D b o J e) f0 f1 f3 f4 f5⟩
 self:=λ_ _ _ _ _ st h=>wpAny_pyIter_listiter st h
theorem Bi(a it:i_):Turn P w K tg (Itt K a) [it] it (λi h=>h.IsTupleIter it a i) where
 mem:=by simp
 obj:=λi h st b J=>by
  have e:b=it:=by simpa using J
  subst e;obtain⟨o,e,c,d⟩:=st;exact⟨o,e,λv z=>by rw[d]at z;cases z⟩
 keep:=λi h h' st k=>st.at λo e=>k it (by simp) o e
 item:=by intro X n hw q r i B' s σ H E I g st m;subst n hw q;obtain⟨xs,x,f,l⟩:=m;obtain⟨F9,j,p,A⟩:=I.tuple f;obtain⟨u,C,y⟩:=j.get l;obtain⟨f0,f1,f2,f3,f4,f5⟩:=g it (by simp);refine wpAny_pyNext_tuple_item st (show s.heap.IsTuple a F9.toArray from p) (x:=u) (by simpa using C) λh' Y t=>?_;have F:C' X B' σ H {s with heap:=h'}:=I.turned (t':=s.toks) (λb o J e=>(t.2 b J).trans e) f0 f1 f3 f4 f5;obtain⟨o,e,c,d⟩:=id Y;exact⟨u,rfl,go_of (s:={s with heap:=h'}) e c d (by decide) ⟨x,H,F,y,⟨rfl,λys B=>by rw[I.CY B f];exact l⟩,Y,λb J=>(g b J).1⟩⟩
 done:=by intro X n hw q r i B' s σ H E I g st m;subst n hw q;obtain⟨xs,f,l⟩:=m;obtain⟨F9,j,p,A⟩:=I.tuple f;obtain⟨f0,f1,f2,f3,f4,f5⟩:=g it (by simp);have G:=j.length;exact wpAny_pyNext_tuple_end (I.ok.hd r) st (show s.heap.IsTuple a F9.toArray from p) (by simp;omega) λh' D=>⟨rfl,I.turned (t':=s.toks) (λb o J e=>D b o J e) f0 f1 f3 f4 f5⟩
 self:=λ_ _ _ _ _ st h=>wpAny_pyIter_tupleiter st h
theorem Bj(it:i_)(lo:Int)(n:Nat):Turn P w K tg (Itr lo n) [it] it (λi h=>IsRangeIter h it (lo+(i:Nat)*1) ((n:Int)-(i:Nat)) 1) where
 mem:=by simp
 obj:=λi h st b J=>by
  have e:b=it:=by simpa using J
  subst e;exact⟨_,st,λv z=>by have j:Data.fields _=Data.cell v:=z;cases j⟩
 keep:=λi h h' st k=>k it (by simp) _ st
 item:=by
  intro X f hw g d i B' s σ H E I a st c;subst f hw g;obtain⟨f0,f1,f2,f3,f4,f5⟩:=a it (by simp);have W:=Walks.range (prog:=X.prog) (w:=X.w) (I.ok.hd d) it lo 1 n;refine W.item i s _ _ c st λv h' tk hv Y l=>?_;obtain⟨t,rfl⟩:=hv;have p:C' X B' σ H {s with heap:=h',toks:=tk}:=I.turned (λb o J e=>l b o (by simpa using J) e) f0 f1 f3 f4 f5;refine⟨_,rfl,go_of (s:={s with heap:=h',toks:=tk}) (n:="range_iterator") Y rfl rfl (by decide) ⟨.int (lo+i),H,p,⟨t,?_⟩,⟨rfl,rfl⟩,Y,λb J=>(a b J).1⟩⟩
  rw[Int.mul_one]
 done:=by intro X f hw g d i B' s σ H E I a st c;subst f hw g;obtain⟨f0,f1,f2,f3,f4,f5⟩:=a it (by simp);exact wpAny_pyNext_range_end (I.ok.hd d) st (by have:n<=i:=c;omega) λh' m=>⟨rfl,I.turned (t':=s.toks) (λb o J e=>m b o J e) f0 f1 f3 f4 f5⟩
 self:=λ_ _ _ _ _ st h=>wpAny_pyIter_rangeiter st h
def iList(K:Pn)(tl:TE):TI:=λσ H R=>tl σ H λx H1=>∃a,x=.ref a/\(∃xs,SqL K H1 a xs)/\R (Itl K a) H1
theorem zb{l:GO}{tl:TE}(i:PE X l tl):PI X tg l (iList X.K tl):=by
 intro B' s σ H R I h;refine HH (i B' s σ H _ I h) λv J g=>?_;obtain⟨x,H1,Y,c,d⟩:=g;obtain⟨a,e,⟨xs,f⟩,q⟩:=d;subst e;cases c;obtain⟨F9,k,p,m⟩:=Y.list f;refine IX p.isList ?_;refine⟨J.heap.objs.size,[J.heap.objs.size],_,_,H1,rfl,Y.kept (t':=J.toks) λb o e=>r_ _ e,vV a _,⟨_,FK _ rfl,rfl,rfl⟩,λb j=>?_,q⟩
 have e:b=J.heap.objs.size:=by simpa using j
 subst e;exact Y.fpOk (v_ _) (Y.hok.fresh (v_ _))
theorem range_it{R:It->Hp->Prop}{lo hi:Int}{t u v:Nv}{tk:Nat}(I:C' X B' σ H s)(h1: -(2^62)<=lo)(h2:lo<2^62)(c: -(2^62)<=hi)(a:hi<2^62)(q:R (Itr lo (hi-lo).toNat) H):D_ (FE X.prog X.w) X.A (pyIter (.ref s.heap.objs.size)) (PIE X B' σ tg R) E {s with heap:=s.heap.push {cls:=.type "range",data:=.fields #[.int lo t,.int hi u,.int 1 v]},toks:=tk}:=by
 refine wpAny_pyIter_range (IsRange.new ..) (small_one h1 h2 c a) ?_;have J:C' X B' σ H {s with heap:=s.heap.push {cls:=.type "range",data:=.fields #[.int lo t,.int hi u,.int 1 v]},toks:=tk}:=I.kept λb o e=>r_ _ e;refine⟨(s.heap.push {cls:=.type "range",data:=.fields #[.int lo t,.int hi u,.int 1 v]}).objs.size,[(s.heap.push {cls:=.type "range",data:=.fields #[.int lo t,.int hi u,.int 1 v]}).objs.size],_,_,H,rfl,
  J.kept (t':=tk) λb o e=>r_ _ e,Bj _ lo (hi-lo).toNat,?_,λb Y=>?_,q⟩
 ·have e1:lo+((0:Nat):Int)*1=lo:=by simp
  have e2:(((hi-lo).toNat:Nat):Int)-((0:Nat):Int)=Ov lo hi 1:=by rw[rangeSize_one];split<;>omega
  show IsRangeIter _ _ (lo+((0:Nat):Int)*1) ((((hi-lo).toNat:Nat):Int)-((0:Nat):Int)) 1;rw[e1,e2];exact FK _ rfl
 ·have e:b=(s.heap.push {cls:=.type "range",data:=.fields #[.int lo t,.int hi u,.int 1 v]}).objs.size:=by simpa using Y
  subst e;exact J.fpOk (v_ _) (J.hok.fresh (v_ _))
def iRng1(ta:TA):TI:=λσ H R=>ta σ H λvs H1=>∃j:Int,vs=[.int j]/\ -(2^62)<=j/\j<2^62/\R (Itr 0 j.toNat) H1
theorem wU{a:GO}{ta:TA}(i:Gl X "range")(g:X.mg "range"=c_)(k:PA X [a] ta)(d: ~~~(h_ [a] X.env=[(b_,FR a X.env)])):PI X tg (.Call (.Name "range" p) [a] [] pos) (iRng1 ta):=by
 intro B' s σ H R I h;refine Call_ (tI I i g boot_range (IS (HH (k pos B' s σ H _ I h) λus m f=>?_) d rfl));obtain⟨vs,H1,l,b,J⟩:=f;obtain⟨j,e,J,c,q⟩:=J;subst e;cases b with
 |cons r Y=>cases Y;obtain⟨t,rfl⟩:=r;exact call_range_1 (range_it l (by omega) (by omega) J c (by simpa using q))
def tFor(wi:TI)(g:TG)(tb:TS):TS:=λD σ H=>wi σ H λJ H1=>∃W:Nat->Nat->St->Hp->Prop,(∃m,W 0 m σ H1)/\∀i m σ H,W i m σ H ->
 (J.stop i H/\D.nx σ H)\/(J.go i H/\∃N:St->Hp->Prop,(∀σ' H',N σ' H'->∃Y,Y<m/\W (i+1) Y σ' H')/\∀x H',J.yld i H x H'->g x σ H' λI H2=>tb {D with nx:=N,ct:=N,bk:=D.nx} I H2)
noncomputable def wR(fp:List i_)(h:Gv):Vp:=fp.filterMap λb=>(h.get? b).map λo=>(b,o)
theorem kU{o:JJ}(I:b∈fp)(e:h.get? b=a_ o):(b,o)∈wR fp h:=HY.mpr ⟨b,I,by rw[e];rfl⟩
theorem DU{p:i_×JJ}(I:p∈wR fp h):p.1∈fp/\h.get? p.1=a_ p.2:=by
 obtain⟨b,J,e⟩:=HY.mp I;cases q:h.get? b with
 |none=>rw[q]at e;cases e|some o=>rw[q]at e;have Y:(b,o)=p:=FW e;subst Y;exact⟨J,q⟩
theorem C'.pinned(I:C' X B' σ H s)(f:∀b∈fp,CL X B' H b)(c:∀b∈fp,∃o,s.heap.get? b=a_ o/\∀v,o.data≠.cell v):C' X (B'++wR fp s.heap) σ H s:=
 I.uJ λp a=>(Gn.mp a).elim (λz=>I.pin p (Gy _ z)) λz=>by obtain⟨J,e⟩:=DU z;obtain⟨f0,f1,f2,_⟩:=f p.1 J;obtain⟨o,Y,d⟩:=c p.1 J;rw[e]at Y;cases Y;exact⟨e,f0,f1,f2,d⟩
theorem C'.uj{pl:Vp}(I:C' X (B'++pl) σ H s):C' X B' σ H s:=I.uJ λp J=>I.pin p (Gy _ (JU _ J))
theorem AB{iter:GO}{wi:TI}{g:TG}{tb:TS}(a:MM (FE X.prog X.w) X.A X.env X.xe)(Z:X.calm=d_)(hi:PI X tg iter wi)(hg:PG X tg g)(k:PSs X body tb)(hs:autoParam (∀x,Ht iter X.env x=GZ x) Jq5):PS X (.For tg iter body [] pos) (tFor wi g tb):=by
 intro B' s σ H D I h;refine wpAny_For (HH (hi B' s σ H _ I h) λv s1 h1=>HH h1 λitv s2 h2=>?_) hs;obtain⟨it,fp,R,J,H2,e,I2,T,K,f2,W,⟨m0,w0⟩,y⟩:=h2;subst e;have j:∀{H':Hp},(∀b∈fp,H' b=c_)->∀b∈fp,CL X B' H' b:=λhn b k=>⟨hn b k,(f2 b k).2⟩
 refine codeAny_forLoop_any (λn s'=>∃i σ' H',C' X B' σ' H' s'/\R i s'.heap/\(∀b∈fp,H' b=c_)/\W i n σ' H') ?_ m0 ⟨0,σ,H2,I2,K,λb k=>(f2 b k).1,w0⟩;rintro n U ⟨i,c,F,I3,B,E,w3⟩;rcases y i n c F w3 with⟨z,qn⟩|⟨go,N,hN,A⟩
 ·refine Il a (HH (T.done X rfl rfl rfl Z i B' U c F X.xe I3 (j E) B z) λr s4 a=>?_);obtain⟨O,I4⟩:=a;subst O;exact II ⟨c,F,I4,qn⟩
 ·refine Il a (HH (T.item X rfl rfl rfl Z i B' U c F X.xe I3 (j E) B go) λr s4 a=>?_);obtain⟨u,O,h4⟩:=a;subst O;refine Il a (HH h4 λ_ S a=>?_);obtain⟨x,H5,I5,r5,y5,w,P⟩:=a;have Q:=I5.pinned (j P) (T.obj _ _ w);refine Il a (HH (hg _ S c H5 x u _ Q r5 (A x H5 y5)) λ_ s6 a=>?_);obtain⟨G,H6,I6,q6⟩:=a;refine Il a (HH (k _ s6 G H6 _ I6 q6) λf L t=>?_);have l:∀{Y:St} {q:Hp},C' X (B'++wR fp S.heap) Y q L->N Y q->∃m,m<n/\∃i σ' H',C' X B' σ' H' L/\R i L.heap/\(∀b∈fp,H' b=c_)/\W i m σ' H':=λ{Y q} p C=>by
   obtain⟨m',hm,w7⟩:=hN Y q C;refine⟨m',hm,i+1,Y,q,p.uj,T.keep _ _ _ w λb k o e=>(p.pin (b,o) (Gy _ (Gy _ (kU k e)))).1,λb k=>?_,w7⟩
   obtain⟨o,e,d⟩:=T.obj _ _ w b k;exact(p.pin (b,o) (Gy _ (Gy _ (kU k e)))).2.1
  cases f with
  |next=>obtain⟨Y,q,p,C⟩:=t;exact l p C
  |cont=>obtain⟨Y,q,p,C⟩:=t;exact l p C
  |brk=>obtain⟨Y,q,p,t⟩:=t;exact⟨Y,q,p.uj,t⟩
  |ret v=>obtain⟨x7,Y,q,p,r7,t⟩:=t;exact⟨x7,Y,q,p.uj,r7,t⟩
abbrev R2:=V->V->Hp->VK->Prop
variable{r r':R2}
def OpR(X:Cx)(f:j_->j_->N2 j_)(r:R2):Prop:=
 ∀(B':Vp) (s:y_) (σ:St) (H:Hp) (x y:V) (v u:j_) (Q:VK),C' X B' σ H s->Hh x v->Hh y u->r x y H Q ->
  D_ (FE X.prog X.w) X.A (f v u) (EP X B' σ Q) X.xe s
def UnR(X:Cx)(f:j_->N2 j_)(r:V->Hp->VK->Prop):Prop:=
 ∀(B':Vp) (s:y_) (σ:St) (H:Hp) (x:V) (v:j_) (Q:VK),C' X B' σ H s->Hh x v->r x H Q ->
  D_ (FE X.prog X.w) X.A (f v) (EP X B' σ Q) X.xe s
def g7(X:Cx)(f:j_)(r:List V->Hp->VK->Prop):Prop:=
 ∀(B':Vp) (s:y_) (σ:St) (H:Hp) (xs:List V) (us:List j_) (Q:VK),C' X B' σ H s->Hn xs us->r xs H Q ->
  D_ (FE X.prog X.w) X.A (Ja f us) (EP X B' σ Q) X.xe s
def TruR(X:Cx)(r:V->Hp->(Bool->Hp->Prop)->Prop):Prop:=
 ∀(B':Vp) (s:y_) (σ:St) (H:Hp) (x:V) (v:j_) (Q:Bool->Hp->Prop),C' X B' σ H s->Hh x v->r x H Q ->
  D_ (FE X.prog X.w) X.A (truthy v) (TP X B' σ Q) X.xe s
noncomputable def tOp(r:R2)(ta tb:TE):TE:=λσ H Q=>ta σ H λx H1=>tb σ H1 λy H2=>r x y H2 Q
noncomputable def tUn(r:V->Hp->VK->Prop)(ta:TE):TE:=λσ H Q=>ta σ H λx H1=>r x H1 Q
def rI(C:Int->Int->Prop)(g:Int->Int->V):R2:=λx y H Q=>∃i j,x=.int i/\y=.int j/\C i j/\Q (g i j) H
def rI0(g:Int->Int->V):R2:=λx y H Q=>∃i j,x=.int i/\y=.int j/\Q (g i j) H
def rU(g:Int->V):V->Hp->VK->Prop:=λx H Q=>∃i,x=.int i/\Q (g i) H
section
variable{a b:GO} 
theorem binT(m:PE X a ta)(l:PE X b tb){R:V->V->Hp->Prop}(I:C' X B' σ H s)(h:ta σ H λx H1=>tb σ H1 λy H2=>R x y H2){Q:Mq}(k:∀v u c x y H2,C' X B' σ H2 c->Hh x v->Hh y u->R x y H2->D_ (FE X.prog X.w) X.A (f v u) Q X.xe c):
  D_ (FE X.prog X.w) X.A (FR a X.env) (λv Y=>D_ (FE X.prog X.w) X.A (FR b X.env) (λu J=>D_ (FE X.prog X.w) X.A (f v u) Q X.xe J) X.xe Y) X.xe s:=by
 refine HH (m B' s σ H _ I h) λv e d=>?_;obtain⟨x,H1,o,g,j⟩:=d;refine HH (l B' e σ H1 _ o j) λu c d=>?_;obtain⟨y,H2,n,r2,i⟩:=d;exact k v u c x y H2 n g r2 i
theorem pe_op{op:Operator}(d:OpR X (HD op) r)(f:PE X a ta)(e:PE X b tb):PE X (.BinOp a op b pos) (tOp r ta tb):=by intro B' s σ H Q I h;exact wpAny_BinOp (binT f e I h λv u J x y H2 g c Y q=>d B' J σ H2 x y v u Q g c Y q)
theorem pe_un{op:UnaryOp}{r:V->Hp->VK->Prop}(d:UnR X (NR op) r)(e:PE X a ta):PE X (.UnaryOp op a pos) (tUn r ta):=by intro B' s σ H Q I h;refine UnaryOp_ (HH (e B' s σ H _ I h) λv J c=>?_);obtain⟨x,H1,f,Y,b⟩:=c;exact d B' J σ H1 x v Q f Y b
theorem opI{C:Int->Int->Prop}(J:∀(i j:Int) (t u:Nv) (s:y_) (Q:Mq) (E:Mq),C i j->Q (.int (g i j) s.toks) {s with toks:=s.toks+1}->D_ (FE X.prog X.w) X.A (f (.int i t) (.int j u)) Q E s):
  OpR X f (rI C λi j=>.int (g i j)):=by
 intro B' s σ H x y v u Q I a Y h;obtain⟨i,j,rfl,rfl,b,q⟩:=h;obtain⟨t,rfl⟩:=a;obtain⟨t',rfl⟩:=Y;exact J i j t t' s _ _ b ⟨.int (g i j),H,I.tok _,⟨_,rfl⟩,q⟩
theorem opI0(J:∀(i j:Int) (t u:Nv) (s:y_) (Q:Mq) (E:Mq),Q (.int (g i j) s.toks) {s with toks:=s.toks+1}->D_ (FE X.prog X.w) X.A (f (.int i t) (.int j u)) Q E s):
  OpR X f (rI0 λi j=>.int (g i j)):=by
 intro B' s σ H x y v u Q I a Y h;obtain⟨i,j,rfl,rfl,q⟩:=h;obtain⟨t,rfl⟩:=a;obtain⟨t',rfl⟩:=Y;exact J i j t t' s _ _ ⟨.int (g i j),H,I.tok _,⟨_,rfl⟩,q⟩
theorem opB0{g:Int->Int->Bool}(J:∀(i j:Int) (t u:Nv) (s:y_) (Q:Mq) (E:Mq),Q (.bool (g i j)) s->D_ (FE X.prog X.w) X.A (f (.int i t) (.int j u)) Q E s):
  OpR X f (rI0 λi j=>.bl (g i j)):=by
 intro B' s σ H x y v u Q I a Y h;obtain⟨i,j,rfl,rfl,q⟩:=h;obtain⟨t,rfl⟩:=a;obtain⟨t',rfl⟩:=Y;exact J i j t t' s _ _ ⟨.bl (g i j),H,I,rfl,q⟩
def CPow(i j:Int):Prop:=0<=j/\j<=1000000/\i.natAbs<2^64
def CMul(i j:Int):Prop:=(-(2^64)<i/\i<2^64)\/(-(2^64)<j/\j<2^64)
theorem CMul.ok{i j:Int}(h:CMul i j):IntMulOk i j:=by
 rcases h with⟨h1,h2⟩|⟨h1,h2⟩
 ·exact .of_left (intBits_le_64 h1 h2)
 ·exact .of_right (intBits_le_64 h1 h2)
theorem op_add:OpR X (HD .Add) (rI0 λi j=>.int (i+j)):=opI0 λ_ _ _ _ _ _ _ q=>add_int q
theorem op_mul:OpR X (HD .Mult) (rI CMul λi j=>.int (i*j)):=opI λ_ _ _ _ _ _ _ I q=>mul_int q I.ok
theorem op_mod:OpR X (HD .Mod) (rI (λ_ j=>0<j) λi j=>.int (i%j)):=opI λi j _ _ _ _ _ I q=>by have h1:(0:Int)<j:=I;exact mod_int' (by omega) (by rw[Int.fmod_eq_emod_of_nonneg i (by omega)];exact q)
theorem op_pow:OpR X (HD .Pow) (rI CPow λi j=>.int (i^j.toNat)):=opI λ_ _ _ _ _ _ _ I q=>pow_int_small I.1 I.2.1 I.2.2 q
theorem unI{f:j_->N2 j_}{g:Int->Int}(J:∀(i:Int) (t:Nv) (s:y_) (Q:Mq) (E:Mq),Q (.int (g i) s.toks) {s with toks:=s.toks+1}->D_ (FE X.prog X.w) X.A (f (.int i t)) Q E s):
  UnR X f (rU λi=>.int (g i)):=by
 intro B' s σ H x v Q I Y h;obtain⟨i,rfl,q⟩:=h;obtain⟨t,rfl⟩:=Y;exact J i t s _ _ ⟨.int (g i),H,I.tok _,⟨_,rfl⟩,q⟩
theorem un_neg:UnR X (NR .USub) (rU λi=>.int (-i)):=unI λ_ _ _ _ _ q=>neg_int q
end
noncomputable def scal:V->V->Bool
 |.non,.non=>d_|.non,.int _=>d_|.int _,.non=>d_|.non,.bl _=>d_|.bl _,.non=>d_|.non,.str _=>d_|.str _,.non=>d_|.int _,.int _=>d_|.bl _,.bl _=>d_|.str _,.str _=>d_|.byt _,.byt _=>d_|.int _,.str _=>d_|.str _,.int _=>d_|.bl _,.str _=>d_|.str _,.bl _=>d_|_,_=>b_
def rNe:R2:=λx y H Q=>scal x y=d_/\Q (.bl (!decide (x=y))) H
theorem dec_int{i j:Int}:q_ (V.int i=V.int j)=(i==j):=by rw[Jc];simp
theorem dec_bl{i j:Bool}:q_ (V.bl i=V.bl j)=(i==j):=by rw[Jc];simp
theorem dec_str{i j:p_}:q_ (V.str i=V.str j)=(i==j):=by rw[Jc];simp
theorem dec_byt{i j:Array UInt8}:q_ (V.byt i=V.byt j)=(i.toList==j.toList):=by rw[Jc];cases i;cases j;simp
section
variable{a b:GO}{tc:TE} 
theorem fK{Q:VK}{k J:Bool}(I:C' X B' σ H s)(q:Q (.bl k) H)(e:k=J):EP X B' σ Q (.bool J) s:=by subst e;exact⟨.bl k,H,I,rfl,q⟩
theorem op_ne:OpR X (FU .NotEq) rNe:=by
 intro B' s σ H x y v u Q I a J h;obtain⟨Y,q⟩:=h;cases x with
 |non=>
  cases a;cases y with
  |non=>cases J;exact PySem.EqNone.ne_none_none (fK I q (by simp))|bl j=>cases J;exact PySem.EqNone.ne_none_bool (fK I q (by simp))|int j=>obtain⟨t',rfl⟩:=J;exact PySem.EqNone.ne_none_int (fK I q (by simp))
  |str j=>obtain⟨t',rfl⟩:=J;exact PySem.EqNone.ne_none_str (fK I q (by simp))
  |_=>exact FJ (show b_=d_ from Y) Gu
 |bl i=>
  cases a;cases y with
  |non=>cases J;exact PySem.EqNone.ne_bool_none (fK I q (by simp))|bl j=>cases J;exact ne_bool (fK I q (Iv not dec_bl))|str j=>obtain⟨t',rfl⟩:=J;exact Om (fK I q (by simp))
  |_=>exact FJ (show b_=d_ from Y) Gu
 |int i=>
  obtain⟨t,rfl⟩:=a;cases y with
  |non=>cases J;exact PySem.EqNone.ne_int_none (fK I q (by simp))|int j=>obtain⟨t',rfl⟩:=J;exact ne_int (fK I q (Iv not dec_int))
  |str j=>obtain⟨t',rfl⟩:=J;exact Ol (fK I q (by simp))
  |_=>exact FJ (show b_=d_ from Y) Gu
 |str i=>
  obtain⟨t,rfl⟩:=a;cases y with
  |non=>cases J;exact PySem.EqNone.ne_str_none (fK I q (by simp))|bl j=>cases J;exact Oj (fK I q (by simp))|int j=>obtain⟨t',rfl⟩:=J;exact Oi (fK I q (by simp))
  |str j=>obtain⟨t',rfl⟩:=J;exact ne_str (fK I q (Iv not dec_str))
  |_=>exact FJ (show b_=d_ from Y) Gu
 |byt i=>
  obtain⟨t,rfl⟩:=a;cases y with
  |byt j=>obtain⟨t',rfl⟩:=J;exact PySem.W.ne_bytes (fK I q (Iv not dec_byt))
  |_=>exact FJ (show b_=d_ from Y) Gu
 |_=>cases y<;>exact FJ (show b_=d_ from Y) Gu
theorem op_lt:OpR X (FU .Lt) (rI0 λi j=>.bl (q_ (i<j))):=opB0 λ_ _ _ _ _ _ _ q=>lt_int q
theorem op_le:OpR X (FU .LtE) (rI0 λi j=>.bl (q_ (i<=j))):=opB0 λ_ _ _ _ _ _ _ q=>le_int q
theorem op_gt:OpR X (FU .Gt) (rI0 λi j=>.bl (q_ (j<i))):=opB0 λ_ _ _ _ _ _ _ q=>gt_int q
theorem op_ge:OpR X (FU .GtE) (rI0 λi j=>.bl (q_ (j<=i))):=opB0 λ_ _ _ _ _ _ _ q=>ge_int q
theorem DN:OpR X (FU .In) (λx y H Q=>∃i j,x=.str i/\y=.str j/\Q (.bl (!(Gg j i 0 j.length 1).isEmpty)) H):=by intro B' s σ H x y v u Q I Y J h;obtain⟨i,j,rfl,rfl,q⟩:=h;obtain⟨t,rfl⟩:=Y;obtain⟨t',rfl⟩:=J;exact in_str (fK I q rfl)
theorem op_isN:OpR X (FU .Is) (λx y H Q=>y=.non/\Q (.bl (q_ (x=.non))) H):=by
 intro B' s σ H x y v u Q I J Y h;obtain⟨rfl,q⟩:=h;cases Y;refine is_none_gen (fK I q ?_);cases x<;>first
  |(cases J;rfl)
  |(obtain⟨t,rfl⟩:=J;rfl)
theorem op_notN:OpR X (FU .IsNot) (λx y H Q=>y=.non/\Q (.bl (!decide (x=.non))) H):=by
 intro B' s σ H x y v u Q I J Y h;obtain⟨rfl,q⟩:=h;cases Y;refine isnot_none_gen (fK I q ?_);cases x<;>first
  |(cases J;rfl)
  |(obtain⟨t,rfl⟩:=J;rfl)
theorem wX:OpR X (FU .NotIn) (λx y H Q=>∃i j,x=.str i/\y=.str j/\Q (.bl (!(!(Gg j i 0 j.length 1).isEmpty))) H):=by intro B' s σ H x y v u Q I Y J h;obtain⟨i,j,rfl,rfl,q⟩:=h;obtain⟨t,rfl⟩:=Y;obtain⟨t',rfl⟩:=J;exact notIn_str (fK I q rfl)
theorem OpR.or(h:OpR X f r)(h':OpR X f r'):OpR X f (λx y H Q=>r x y H Q\/r' x y H Q):=by
 intro B' s σ H x y v u Q I Y J q;rcases q with q|q
 ·exact h B' s σ H x y v u Q I Y J q
 ·exact h' B' s σ H x y v u Q I Y J q
theorem AI(b:GO)(h:(op≠.In)⁻¹)(h2:(op≠.NotIn)⁻¹):HM op b=b_:=by
 have e1:(op==CmpOp.In)=b_:=by cases op<;>first|rfl|exact FJ rfl h
 have e2:(op==N7)=b_:=by cases op<;>first|rfl|exact FJ rfl h2
 cases b<;>simp[HM,e1,e2]
theorem pe_cmpR(d:OpR X (FU op) r)(g:PE X a ta)(f:PE X b tb)(e:HM op b=b_):PE X (.Compare a [op] [b] pos) (tOp r ta tb):=by intro B' s σ H Q I h;exact wpAny_Compare1 (binT g f I h λv u J x y H2 i c Y q=>d B' J σ H2 x y v u Q i c Y q) e
noncomputable def tTest(t:TE):TT:=λσ H Q=>t σ H λx H'=>∃k,x=.bl k/\Q k H'
theorem z9(l:OpR X (FU op) r)(o:PE X a ta)(n:PE X b tb)(m:HM op b=b_):PT X (.Compare a [op] [b] pos) (tTest (tOp r ta tb)):=by
 intro B' s σ H Q I h;refine M9 (HH (o B' s σ H _ I h) λv Y ⟨x,H1,t,f,j⟩=>HH (n B' Y σ H1 _ t j) λu J ⟨y,H2,q,r2,i⟩=>HH (l B' J σ H2 x y v u _ q f r2 i) λc A hp=>?_) m
 obtain⟨z,w,p,d,k,e,g⟩:=hp
 subst e;cases d;exact GG ⟨w,p,g⟩
noncomputable def Dd(r r':R2)(ta tb tc:TE):TE:=λσ H Q=>ta σ H λx H1=>tb σ H1 λy H2=>r x y H2 λz I=>∃k,z=.bl k /\
 (if k=d_ then tc σ I λJ Y=>r' y J Y Q else Q (.bl b_) I)
theorem pe_chain(C:OpR X (FU op) r)(J:OpR X (FU op') r')(G:PE X a ta)(F:PE X b tb)(E:PE X c tc)(D:autoParam (Kq [op,op'] [b,c]=b_) Jq7):PE X (.Compare a [op,op'] [b,c] pos) (Dd r r' ta tb tc):=by
 intro B' s σ H Q I h;refine Compare_chain (HH (G B' s σ H _ I h) λv o ⟨x,H1,N,t,B⟩=>NH (HH (F B' o σ H1 _ N B) λu n ⟨y,H2,L,r2,A⟩=>HH (C B' n σ H2 x y v u _ L t r2 A) λd m hp=>?_)) D
 obtain⟨z,g,f,q,k,e,Y⟩:=hp
 subst e;cases q;refine GG ?_;cases k with
 |false=>exact ite_ff ⟨.bl b_,g,f,rfl,Y⟩|true=>exact ite_tt (chain_last (HH (E B' m σ g _ f Y) λj l ⟨i,O,K,p,w⟩=>J B' l σ O y i u j Q K r2 p w))
theorem pt_chain(G:OpR X (FU op) r)(Y:OpR X (FU op') r')(O:PE X a ta)(N:PE X b tb)(L:PE X c tc)(K:autoParam (Kq [op,op'] [b,c]=b_) Jq7):PT X (.Compare a [op,op'] [b,c] pos) (tTest (Dd r r' ta tb tc)):=by
 intro B' s σ H Q I h;refine isTrue_chain (HH (O B' s σ H _ I h) λv p ⟨x,H1,U,A,E⟩=>test_link (HH (N B' p σ H1 _ U E) λu o ⟨y,H2,T,r2,D⟩=>HH (G B' o σ H2 x y v u _ T A r2 D) λd n hp=>?_)) K
 obtain⟨z,i,g,w,k,e,f⟩:=hp
 subst e;cases w;refine GG ?_;cases k with
 |false=>obtain⟨k',P,F⟩:=f;cases P;exact ite_ff ⟨i,g,F⟩
 |true=>refine ite_tt (test_last (HH (L B' n σ i _ g f) λl m J=>?_));obtain⟨j,Z,S,t,C⟩:=J;refine HH (Y B' m σ Z y j u l _ S r2 t C) λd' s5 J=>?_;obtain⟨z2,W,R,q,k2,e2,B⟩:=J;subst e2;cases q;exact GG ⟨W,R,B⟩
def TruV(K:Pn)(x:V)(H:Hp)(k:Bool):Prop:=
 match x with
 |.non=>k=b_|.bl b=>k=b|.int i=>k=(i != 0)|.str y=>y.length<=f_/\k=((y.length:Int) != 0)|.byt y=>y.size<=f_/\k=((y.size:Int) != 0)|.ref p=>(∃xs,SqL K H p xs/\k= !xs.isEmpty)\/(∃xs,SqT K H p xs/\k= !xs.isEmpty)\/∃D',H p=a_ (.dK D')/\k= !D'.isEmpty
 |_=>False
theorem Ca{D':List (κ×V)}{vs:List (κ×j_)}(r:KV D' vs):(!vs.isEmpty)= !D'.isEmpty:=by cases r<;>rfl
theorem tN{xs:List V}{F9:List j_}(r:Hn xs F9):(!F9.toArray.isEmpty)= !xs.isEmpty:=by cases r<;>simp
theorem qV:(f_:Nat)<2^63:=by rw[FO];decide
theorem tru_ok:TruR X (λx H Q=>∃k,TruV X.K x H k/\Q k H):=by
 intro B' s σ H x v Q I a h;obtain⟨k,e,q⟩:=h;have l:=qV;have j:f_=16777216:=FO;cases x with
 |non=>cases a;have J:k=b_:=e;subst J;exact truthy_none ⟨H,I,q⟩|bl b=>cases a;have J:k=b:=e;subst J;exact GG ⟨H,I,q⟩|int i=>obtain⟨t,rfl⟩:=a;have J:k=(i != 0):=e;subst J;exact PySem.P.truthy_int ⟨H,I,q⟩
 |str y=>obtain⟨t,rfl⟩:=a;obtain⟨f,J⟩:y.length<=f_/\k=((y.length:Int) != 0):=e;subst J;exact PySem.P.truthy_str (by omega) ⟨H,I.tok _,q⟩
 |byt y=>obtain⟨t,rfl⟩:=a;obtain⟨f,J⟩:y.size<=f_/\k=((y.size:Int) != 0):=e;subst J;exact PySem.W.truthy_bytes (by omega) ⟨H,I.tok _,q⟩
 |ref p=>
  cases a;have J:(∃xs,SqL X.K H p xs/\k= !xs.isEmpty)\/(∃xs,SqT X.K H p xs/\k= !xs.isEmpty)\/∃D',H p=a_ (.dK D')/\k= !D'.isEmpty:=e;rcases J with⟨xs,c,J⟩|⟨xs,c,J⟩|⟨D',c,J⟩
  ·subst J;obtain⟨F9,r,pl,d⟩:=I.list c;have Y:=r.length;exact wpAny_truthy_list pl.isList (by simp only[A_];omega) ⟨H,I.tok _,by rw[tN r];exact q⟩
  ·subst J;obtain⟨F9,r,pl,d⟩:=I.tuple c;have Y:=r.length;exact truthy_tuple pl (by simp only[A_];omega) ⟨H,I.tok _,by rw[tN r];exact q⟩
  ·subst J;obtain⟨d,g,vs,r,m⟩:D'.length<=f_/\(p==GR)=b_/\∃vs,KV D' vs/\s.heap.DictOf (cV X.prog X.w) p vs:=I.hok p _ c;have Y:D'.length=vs.length:=Jt r;exact wpAny_truthy_dict g m (by omega) ⟨H,I.tok _,by rw[Ca r];exact q⟩
 |_=>exact(show False from e).elim
theorem pN(f:PE X a ta)(e:∀J,MV a X.env J=(do let v <- J;KY a.pos;Jv [v] (truthy v))):
  PT X a (λσ H Q=>ta σ H λx H'=>∃k,TruV X.K x H' k/\Q k H'):=by
 intro B' s σ H Q I h;refine isTrue_plain (HH (f B' s σ H _ I h) λv Y d=>?_) (e _);obtain⟨x,H1,g,b,c⟩:=d;exact tru_ok B' Y σ H1 x v Q g b c
theorem BE:OpR X (HD .Add) (λx y H Q=>∃i j,x=.str i/\y=.str j/\i.length+j.length<=f_/\Q (.str (i++j)) H):=by intro B' s σ H x y v u Q I Y J h;obtain⟨i,j,rfl,rfl,a,q⟩:=h;obtain⟨t,rfl⟩:=Y;obtain⟨t',rfl⟩:=J;exact add_str (λt' tk=>⟨.str (i++j),H,I.tok _,⟨_,rfl⟩,q⟩) a
theorem vals1{x:V}(r:Hn [x] us):∃u,us=[u]/\Hh x u:=by
 cases r with
 |cons I r2=>cases r2;exact⟨_,rfl,I⟩
theorem vals2{x:V}(r:Hn [x,y] us):∃u I,us=[u,I]/\Hh x u/\Hh y I:=by
 cases r with
 |cons a r2=>
  cases r2 with
  |cons Y J=>cases J;exact⟨_,_,rfl,a,Y⟩
theorem Fm(Y:X.calm=d_):g7 X (.builtin "min") (λxs H Q=>∃i j,xs=[.int i,.int j]/\Q (.int (if j<i then j else i)) H):=by
 intro B' s σ H xs us Q I r h;obtain⟨i,j,rfl,q⟩:=h;obtain⟨u,a,rfl,⟨t,rfl⟩,⟨t',rfl⟩⟩:=vals2 r;refine min_two_ints (I.ok.hd Y) λh' tk k=>⟨_,H,I.kept k,?_,q⟩
 by_cases J:j<i
 ·rw[g_ J,g_ J];exact⟨_,rfl⟩
 ·rw[l_ J,l_ J];exact⟨_,rfl⟩
theorem Fo:g7 X (.type "int") (λxs H Q=>(∃i,xs=[.int i]/\Q (.int i) H)\/∃k,xs=[.bl k]/\Q (.int (if k then 1 else 0)) H):=by
 intro B' s σ H xs us Q I r h;rcases h with⟨i,rfl,q⟩|⟨k,rfl,q⟩
 ·obtain⟨u,rfl,t,rfl⟩:=vals1 r;exact call_int_int ⟨.int i,H,I,⟨_,rfl⟩,q⟩
 ·obtain⟨u,rfl,J⟩:=vals1 r;cases J;exact call_int_bool ⟨.int (if k then 1 else 0),H,I.tok _,⟨_,rfl⟩,q⟩
theorem yf:g7 X (.type "str") (λxs H Q=>∃i,xs=[.int i]/\i.natAbs.log2<1920/\Q (.str (toString i)) H):=by intro B' s σ H xs us Q I r h;obtain⟨i,rfl,J,q⟩:=h;obtain⟨u,rfl,t,rfl⟩:=vals1 r;exact PySem.P.str_of_int J ⟨.str _,H,I.tok _,⟨_,rfl⟩,q⟩
end
structure ObjM(h:Gv)(x dx C:i_)(mA:Ld):Prop where
 obj:h.get? x=a_ (Hz C dx)
 ns:h.Ns1 dx mA
 ne:dx≠x
theorem xo(n:h.Ns1 dx mA):∃od,h.get? dx=a_ od/\∀name,Jq name od=a_ (mA name):=by
 obtain⟨o,es,ep,Y,hd,c,_,b⟩:=n;refine⟨o,Y,λname=>?_⟩
 have e:=b name;unfold nsFind findBy at e;rw[<- MD]at e;unfold Jq;rw[hd];dsimp only;split
 ·rename_i y q;rw[q]at e;exact Iv a_ e
 ·rename_i q;rw[q]at e;have a:es.toList.any (·.refKey)=b_:=by
   rw[List.any_eq_false];intro y J;obtain⟨z,t,I⟩:=c y (Array.mem_toList_iff.mp J);simp[DictEntry.refKey,I]
  have d:¬es.toList.any (·.refKey)=d_:=by rw[a];exact Gu
  rw[l_ d];exact Iv a_ e
theorem ObjM.look{x:i_}(I:ObjM h x dx C mA):∃od,HV h x (Hz C dx) C (a_ od)/\∀name,Jq name od=a_ (mA name):=
 let ⟨od,J,Y⟩:=xo I.ns
 ⟨od,⟨I.obj,rfl,rfl,J⟩,Y⟩
section
variable{x f:i_}{v:j_}
theorem get_map{Y:Bool}{Q:Mq}(X:K.In s.heap)(I:ObjM s.heap x dx C mA)(c:K2 K C name=d_)(hh:Ie K C=d_)(d:FQ K (.ref C) name=a_ c_)(hv:mA name=a_ v)(a:Lf v=d_)(h:Q v {s with toks:=s.toks+1}):
  D_ (FE prog w) A (MW (.ref x) name Y) Q E s:=by
 obtain⟨od,J,b⟩:=I.look;exact PySem.W.get_value X J (JR c).1 (Nt hh d rfl (by rw[b,hv])) a h
theorem get_meth{Q:j_×List j_->y_->Prop}(X:K.In s.heap)(I:ObjM s.heap x dx C mA)(Y:K2 K C name=d_)(c:FQ K (.ref C) name=a_ (a_ (.ref f)))(a:isFn K (.ref f)=d_)(hv:mA name=c_)(h:Q (.ref f,[.ref x]) s):
  D_ (FE prog w) A (Lc (.ref x) name pl) Q E s:=by
 obtain⟨od,J,b⟩:=I.look;exact PySem.W.method_fn X J (JR Y).1 (JR Y).2 c (HC.mp a) (by show(Jq name od).map (·.isSome)=a_ b_;rw[b,hv];rfl) h
theorem set_map{ns:List p_}(X:K.In s.heap)(I:ObjM s.heap x dx C mA)(k:FQ K (.ref C) "__setattr__"=a_ (a_ (.builtin "object.__setattr__")))(l:MJ K C=d_)(j:takerIn K C name=a_ c_)(hh:Ie K C=d_)(hw:Jd mA ns)(hsz:ns.length<=f_)(h:∀h',ObjM h' x dx C (λy=>if y=name then a_ v else mA y)->Jh dx s.heap h'->Q () {s with heap:=h',toks:=s.toks+2}):
  D_ (FE prog w) A (NW (.ref x) name v) Q E s:=by
 obtain⟨od,J,q⟩:=I.look;refine N0 X J k (PySem.W.osa_open (s:={s with toks:=s.toks+1}) (r:=c_) X J l j λb=>?_);obtain⟨cd,m,f⟩:=LB hh;have i:s.heap.get? x=a_ ⟨.ref C,a_ dx,.plain,#[]⟩:=I.obj;refine k_ (B_ (k_ (k_ (LV i (k_ (Mx (s:={s with toks:=s.toks+1}) (LA X m) ?_))))));rw[f];refine B_ (a:=a_ dx) (k_ (B_ (k_ ?_)));refine wpAny_nsSet1 (s:={s with toks:=s.toks+1}) I.ns λh' c Y=>?_;obtain⟨p,n,o,d,e,g⟩:=c.count (Mt name v hw);refine k_ (Ob d (by rw[e];exact Og (Gb g (by rw[FV];omega))) ?_);exact B_ (h _ ⟨(Y.2 _ (FZ I.ne)).trans I.obj,c,I.ne⟩ Y)
theorem make_map{R:M1->y_->Prop}{vs:List j_}(X:K.In s.heap)(J:MZ K C=d_)(hi:FQ K (.ref C) "__init__"=a_ (a_ (.ref f)))(Y:L0 K (.ref f)=a_ (.type "function"))(h:IZ (FE prog w) (A.under (.builtin "type.__call__" ⟨.ref C::vs,kw⟩)) (.call (.ref f) ⟨.ref (s.heap.objs.size+1)::vs,kw⟩) (PySem.W.InitBack (s.heap.objs.size+1) R)
   {s with heap:=(s.heap.push GI).push (Hz C s.heap.objs.size)}):
  IZ (FE prog w) A (.call (.ref C) ⟨vs,kw⟩) R s:=by
 obtain⟨hh,g,d,t,os⟩:=s;exact PySem.W.make_core (PySem.W.makes_of X J) (IA X hi) (λI=>PySem.W.bind_fn X I Y) (.inl rfl) h
end
noncomputable def tF(f:p_)(v:V):List (p_×V)->List (p_×V)
 |[]=>[(f,v)]|(g,x)::r=>if g=f then(g,v)::r else(g,x)::tF f v r
theorem qU(f g:p_)(v:V):∀fs:List (p_×V),(tF f v fs).lookup g=if g=f then a_ v else fs.lookup g
 |[]=>by
  show Gq g [(f,v)]=_;by_cases h:g=f
  ·have I:(g==f)=d_:=HC.mpr h;simp only[Gq,I,g_ h]
  ·have I:(g==f)=b_:=Hj.mpr h;simp only[Gq,I,l_ h]
 |(k,x)::r=>by
  have Y:=qU f g v r;rw[show tF f v ((k,x)::r)=(if k=f then(k,v)::r else(k,x)::tF f v r)from rfl];by_cases J:k=f
  ·rw[g_ J];by_cases h:g=k
   ·have I:(g==k)=d_:=HC.mpr h;simp only[Gq,I,g_ (h.trans J)]
   ·have I:(g==k)=b_:=Hj.mpr h;simp only[Gq,I,l_ (λe:g=f=>h (e.trans J.symm))]
  ·rw[l_ J];by_cases h:g=k
   ·have I:(g==k)=d_:=HC.mpr h;simp only[Gq,I,l_ (λe:g=f=>J (h.symm.trans e))]
   ·have I:(g==k)=b_:=Hj.mpr h;simp only[Gq,I];exact Y
theorem qX(f:p_)(v:V):∀fs:List (p_×V),f∈(tF f v fs).map (·.1)/\∀g,g∈fs.map (·.1)->g∈(tF f v fs).map (·.1)
 |[]=>⟨by simp[tF],λg h=>by simp at h⟩|(k,x)::r=>by
  obtain⟨Y,J⟩:=qX f v r;rw[show tF f v ((k,x)::r)=(if k=f then(k,v)::r else(k,x)::tF f v r)from rfl];by_cases I:k=f
  ·rw[g_ I];subst I;exact⟨by simp,λg h=>by simpa using h⟩
  ·rw[l_ I];refine⟨?_,λg h=>?_⟩
   ·rw[C_];exact FH _ Y
   ·rw[C_]at h ⊢;rcases x_.mp h with e|e
    ·exact x_.mpr (.inl e)
    ·exact FH _ (J g e)
theorem qW(f:p_)(v:V):∀fs:List (p_×V),(tF f v fs).length<=fs.length+1
 |[]=>by simp[tF]|(k,x)::r=>by
  have J:=qW f v r;rw[show tF f v ((k,x)::r)=(if k=f then(k,v)::r else(k,x)::tF f v r)from rfl];by_cases I:k=f
  ·rw[g_ I,FV,FV];omega
  ·rw[l_ I,FV,FV];omega
theorem qe.some_of{o:Option j_}(r:qe (a_ v) o):∃u,o=a_ u/\Hh v u:=by
 cases o with
 |none=>exact(show False from r).elim|some u=>exact⟨u,rfl,r⟩
theorem qe.none_of{o:Option j_}(r:qe c_ o):o=c_:=by
 cases o with
 |none=>rfl|some u=>exact(show False from r).elim
theorem xB(r:Hh v u):Lf u=d_:=by
 cases v with
 |non=>cases(show u=Ip from r);rfl|bl b=>cases(show u=K3 b from r);rfl|int i=>obtain⟨t,e⟩:=(show ∃t,u=Jg i t from r);cases e;rfl
 |str x=>obtain⟨t,e⟩:=(show ∃t,u=Ha x t from r);cases e;rfl
 |byt b=>obtain⟨t,e⟩:=(show ∃t,u=N1 b t from r);cases e;rfl
 |flt b=>obtain⟨t,e⟩:=(show ∃t,u=L9 b t from r);cases e;rfl
 |ref a=>cases(show u=FF a from r);rfl|ty n=>cases(show u=Io n from r);rfl
section
variable{fs:List (p_×V)}
theorem vg(I:HOk P w H h)(e:H a=a_ (.ins C dx fs)):∃mA,ObjM h a dx C mA/\(∀f,qe (fs.lookup f) (mA f))/\Jd mA (fs.map (·.1))/\fs.length<=1000/\H dx=a_ (.own a):=by
 obtain⟨d,z,Y,J,mA,n,r,q⟩:=(show cQ P w H h a (.ins C dx fs)from I a _ e)
 exact⟨mA,⟨J,n,Y⟩,r,q,z,d⟩
end
structure Cls(K:Pn)(C:i_):Prop where
 pg:K2 K C HQ=d_
 hd:Ie K C=d_
 po:MJ K C=d_
 sa:FQ K (.ref C) "__setattr__"=a_ (a_ (.builtin "object.__setattr__"))
theorem Cls.get(c:Cls K C)(f:p_):K2 K C f=d_:=c.pg
def bp(K:Pn)(C:i_)(f:p_):Prop:=FQ K (.ref C) f=a_ c_
theorem bp.taker{f:p_}(n:bp K C f):takerIn K C f=a_ c_:=by unfold takerIn;rw[show FQ K (.ref C) f=a_ c_ from n];rfl
structure Meth(K:Pn)(C:i_)(m:p_)(f:i_):Prop where
 at_:FQ K (.ref C) m=a_ (a_ (.ref f))
 fn:isFn K (.ref f)=d_
 kp:H_ K (.ref f)=d_
section
variable{fs:List (p_×V)}{f:p_} 
theorem Cd{b:Bool}{Q:Mq}(I:C' X B' σ H s)(e:H a=a_ (.ins C dx fs))(c:Cls X.K C)(n:bp X.K C f)(l:fs.lookup f=a_ v)(h:∀u s',C' X B' σ H s'->Hh v u->Q u s'):D_ (FE X.prog X.w) A (MW (.ref a) f b) Q E s:=by obtain⟨mA,O,r,_,_,_⟩:=vg I.hok e;obtain⟨u,Y,J⟩:=qe.some_of (v:=v) (o:=mA f) (by rw[<- l];exact r f);exact get_map I.kIn O (c.get f) c.hd n Y (xB J) (h u _ (I.tok _) J)
theorem Cc{g:i_}{Q:j_×List j_->y_->Prop}(I:C' X B' σ H s)(e:H a=a_ (.ins C dx fs))(c:Cls X.K C)(k:Meth X.K C m g)(l:fs.lookup m=c_)(h:Q (.ref g,[.ref a]) s):D_ (FE X.prog X.w) A (Lc (.ref a) m pl) Q E s:=by obtain⟨mA,O,r,_,_,_⟩:=vg I.hok e;have J:mA m=c_:=qe.none_of (by rw[<- l];exact r m);exact get_meth I.kIn O (c.get m) k.at_ k.fn J h
theorem Bl(I:C' X B' σ H s)(e:H a=a_ (.ins C dx fs))(c:Cls X.K C)(n:bp X.K C f)(m:fs.length<1000)(d:Hh y u)(h:∀s',C' X B' σ (upd H a (.ins C dx (tF f y fs))) s'->Q () s'):D_ (FE X.prog X.w) A (NW (.ref a) f u) Q E s:=by
 obtain⟨mA,O,r,wi,_,J⟩:=vg I.hok e;have i:(fs.map (·.1)).length<=f_:=by rw[t_,FO];omega
 refine set_map I.kIn O c.sa c.po n.taker c.hd wi i λh' O' Y=>h _ ?_;have hd:∃o,h'.get? dx=a_ o:=let ⟨o,_,_,l,_⟩:=O'.ns;⟨o,l⟩;refine I.write (x:=a) (e:=dx) (by rw[e];exact GS) (.inr J) (λb q k z=>(Y.2 b k).trans z) hd ?_;refine⟨by rw[aq O.ne];exact J,?_,O.ne,O'.obj,_,O'.ns,λg=>?_,λg j=>?_⟩
 ·have:=qW f y fs;omega
 ·show qe ((tF f y fs).lookup g) (if g=f then a_ u else mA g);rw[qU];by_cases q:g=f
  ·rw[g_ q,g_ q];exact d
  ·rw[l_ q,l_ q];exact r g
 ·by_cases q:g=f
  ·rw[q];exact(qX f y fs).1
  ·refine(qX f y fs).2 g (wi g λz=>j ?_);show(if g=f then a_ u else mA g)=c_;rw[l_ q];exact z
theorem C'.made(I:C' X B' σ H s):C' X B' σ (upd (upd H s.heap.objs.size (.own (s.heap.objs.size+1))) (s.heap.objs.size+1) (.ins C s.heap.objs.size []))
  {s with heap:=(s.heap.push GI).push (Hz C s.heap.objs.size)}:=by
 have e1:(s.heap.push GI).get? s.heap.objs.size=a_ GI:=FK s.heap rfl;have e2:((s.heap.push GI).push (Hz C s.heap.objs.size)).get? (s.heap.objs.size+1)=a_ (Hz C s.heap.objs.size):=by
  have:=FK (s.heap.push GI) (o:=Hz C s.heap.objs.size) rfl
  rwa [G2]at this
 have e3:(s.heap.push GI).Ns s.heap.objs.size (λ_=>c_):=⟨GI,#[],_,e1,rfl,(λe c=>FJ c (by simp)),λ_=>rfl⟩
 have d:=I.laid (a:=s.heap.objs.size) (o:=.own (s.heap.objs.size+1)) (h':=s.heap.push GI) (t':=s.toks) (λb u q=>r_ _ q) (v_ _) ⟨_,e1⟩;refine d.laid (a:=s.heap.objs.size+1) (o:=.ins C s.heap.objs.size []) (t':=s.toks) (λb u q=>r_ _ q) (Ow (G2 _ _)) ?_;have J:s.heap.objs.size≠s.heap.objs.size+1:=Ga (HS _);refine⟨by rw[aq J,ao],G7 _,J,e2,λ_=>c_,(L_ e3).at λo q=>r_ _ q,λ_=>GS,λy Y=>FJ rfl Y⟩
theorem Ft{env:Ll}{f:p_}{Q:Mq}(J:GQ e f env (FR e env)=FR e env)(h:D_ (FE prog w) A (FR e env) (λo I=>D_ (FE prog w) A (MW o f d_) Q E I) E s):D_ (FE prog w) A (FR (.Attribute e f pos) env) Q E s:=
 Attribute_any_ h (by rw[arm_eval_Attribute,J])
end
def uq(K:Pn)(ta:TE)(f:p_):TE:=λσ H Q=>ta σ H λx H1=>∃a C dx fs v,x=.ref a/\H1 a=a_ (.ins C dx fs)/\Cls K C/\bp K C f/\fs.lookup f=a_ v/\Q v H1
def An(K:Pn)(ta tv:TE)(f:p_):TS:=λD σ H=>tv σ H λy H1=>ta σ H1 λx H2=>∃a C dx fs,x=.ref a/\H2 a=a_ (.ins C dx fs)/\Cls K C/\bp K C f/\fs.length<1000 /\
 D.nx σ (upd H2 a (.ins C dx (tF f y fs)))
section
variable{o value:GO}{f:p_}{tv:TE}
theorem ik(d:PE X e ta)(g:GQ e f X.env (FR e X.env)=FR e X.env):PE X (.Attribute e f pos) (uq X.K ta f):=by intro B' s σ H Q I h;refine Ft g (HH (d B' s σ H _ I h) λu o b=>?_);obtain⟨x,H1,j,J,a,C,dx,fs,v,ex,ea,c,n,l,q⟩:=b;subst ex;obtain rfl:u=FF a:=J;exact Cd j ea c n l λk m i Y=>⟨v,H1,i,Y,q⟩
theorem iO(j:PE X o ta)(hv:PE X value tv)(i:G0 value (a_ (.Attribute o f pos')) pos.line X.env=GZ b_):PS X (.Assign [.Attribute o f pos'] value pos) (An X.K ta tv f):=by intro B' s σ H D I h;refine K6 (HH (hv B' s σ H _ I h) λu Y J=>?_) i;obtain⟨y,H1,p,b,q⟩:=J;refine HH (j B' Y σ H1 _ p q) λg t J=>?_;obtain⟨x,H2,m,d,a,C,dx,fs,ex,ea,c,n,l,e⟩:=J;subst ex;obtain rfl:g=FF a:=d;exact Bl m ea c n l b λr k=>⟨σ,_,k,e⟩
end
section
variable{Q:Mq}{c:j_}{b:Bool}
inductive CC(K:Pn)(H:Hp):V->j_->Prop where
 |non:CC K H .non (.type "NoneType")
 |bl (x:Bool):CC K H (.bl x) (.type "bool")
 |int (i:Int):CC K H (.int i) (.type "int")
 |str (x:p_):CC K H (.str x) (.type "str")
 |flt (x:UInt64):CC K H (.flt x) (.type "float")
 |lst {a:i_} {xs:List V} (e:H a=a_ (.lst xs)):CC K H (.ref a) (.type "list")
 |frz {a:i_} {o:JJ} {xs:List V} (e:H a=a_ (.frz o (.lst xs))):CC K H (.ref a) (.type "list")
 |tup {a:i_} {xs:List V} (e:H a=a_ (.tup xs)):CC K H (.ref a) (.type "tuple")
 |dK {a:i_} {D':List (Key×V)} (e:H a=a_ (.dK D')):CC K H (.ref a) (.type "dict")
 |dT {a:i_} {D':List (List Key×V)} (e:H a=a_ (.dT D')):CC K H (.ref a) (.type "dict")
 |ins {a C dx:i_} {fs:List (p_×V)} (e:H a=a_ (.ins C dx fs)) (cl:Cls K C) (ha:FQ K (.ref C) "__class__"=a_ (a_ (.builtin "object.__class__")))
   (hn:Ks K (.builtin "object.__class__") "__get__"=a_ (a_ (.builtin "getset_descriptor.__get__"))) (htk:NZ K (.builtin "object.__class__")=a_ d_)
   (hm:HZ K C (.type "object")=a_ d_):CC K H (.ref a) (.ref C)
theorem Eo{x:V}{t:j_}(I:C' X B' σ H s)(Y:Hh x u)(ty:CC X.K H x t)(e:Gs X.K t c=a_ b)(h:∀tk,Q (.bool b) {s with toks:=tk}):
  D_ (FE X.prog X.w) A (Ja (.builtin "isinstance") [u,c]) Q E s:=by
 cases ty with
 |non=>cases(show u=Ip from Y);exact HX Md I.kIn GS e (λz=>nomatch z) h
 |bl y=>cases(show u=K3 y from Y);exact HX Mf I.kIn GS e (λz=>nomatch z) h
 |int i=>obtain⟨t,q⟩:=(show ∃t,u=Jg i t from Y);cases q;exact HX Mv I.kIn GS e (λz=>nomatch z) h
 |str y=>obtain⟨t,q⟩:=(show ∃t,u=Ha y t from Y);cases q;exact HX Mu I.kIn GS e (λz=>nomatch z) h
 |flt y=>obtain⟨t,q⟩:=(show ∃t,u=L9 y t from Y);cases q;exact HX PySem.W.kitx_float I.kIn GS e (λz=>nomatch z) h
 |@lst a xs ea=>
  cases(show u=FF a from Y);obtain⟨_,_,n,_,h1⟩:=(show cQ X.prog X.w H s.heap a (.lst xs)from I.hok a _ ea)
  exact HX J_ I.kIn ⟨_,h1,rfl⟩ e (λz=>nomatch z) h
 |@frz a g xs ea=>
  cases(show u=FF a from Y);obtain⟨_,_,_,n,_,h1⟩:=(show cQ X.prog X.w H s.heap a (.frz g (.lst xs))from I.hok a _ ea)
  exact HX J_ I.kIn ⟨_,h1,rfl⟩ e (λz=>nomatch z) h
 |@tup a xs ea=>
  cases(show u=FF a from Y);obtain⟨_,_,_,p⟩:=(show cQ X.prog X.w H s.heap a (.tup xs)from I.hok a _ ea)
  obtain⟨o,h1,h2,_⟩:=p;exact HX L4 I.kIn ⟨o,h1,h2⟩ e (λz=>nomatch z) h
 |@dK a D' ea=>
  cases(show u=FF a from Y);obtain⟨_,_,vs,_,p⟩:=(show cQ X.prog X.w H s.heap a (.dK D')from I.hok a _ ea)
  obtain⟨o,es,ep,h1,h2,_⟩:=p;exact HX Me I.kIn ⟨o,h1,h2.1⟩ e (λz=>nomatch z) h
 |@dT a D' ea=>
  cases(show u=FF a from Y);obtain⟨_,_,xs,_,o,es,ep,h1,h2,_⟩:=(show cQ X.prog X.w H s.heap a (.dT D')from I.hok a _ ea)
  exact HX Me I.kIn ⟨o,h1,h2.1⟩ e (λz=>nomatch z) h
 |@ins a C dx fs ea f l j d k=>cases(show u=FF a from Y);obtain⟨mA,O,_⟩:=vg I.hok ea;obtain⟨od,J,_⟩:=O.look;exact HX (PySem.W.kitx_own (f.get _) f.hd l j d k) I.kIn J e (λz=>nomatch z) h
end
structure iJ(k:Nat)(A:HE):Prop where
 hd:A.handled=c_
 dp:A.depth+3*k+5<recursionLimit
 un:A.units+16*k+200<G5
theorem iJ.mono{j k:Nat}(r:iJ k A)(h:j<=k):iJ j A:=⟨r.hd,by have:=r.dp;omega,by have:=r.un;omega⟩
theorem iJ.deeper{k:Nat}{A:HE}(r:iJ (k+1) A)(env:Ll):iJ k (A.deeper env):=
 ⟨r.hd,by have:=r.dp;show A.depth+1+3*k+5<_;omega,by have:=r.un;show A.units+3+16*k+200<_;omega⟩
theorem BP:(A.under (.builtin "type.__call__" ⟨.ref C::us,kw⟩)).depth=A.depth+1:=by first|rfl|simp[Around.under,Code.weight,Code.isCreation,Code.isGuard,Code.isCaller,Code.frames,Code.isFrame,guardIds]
theorem BO:(A.under (.builtin "type.__call__" ⟨.ref C::us,kw⟩)).units=A.units+1:=by first|rfl|simp[Around.under,Code.cUnits,Code.frames,Code.isFrame]
theorem iJ.make{k:Nat}(r:iJ (k+1) A)(C:i_)(us:List j_)(kw:List (p_×j_)):iJ k (A.under (.builtin "type.__call__" ⟨.ref C::us,kw⟩)):=
 ⟨r.hd,by have:=r.dp;rw[BP];omega,by have:=r.un;rw[BO];omega⟩
theorem iJ.depth{k:Nat}{A:HE}(r:iJ k A):A.depth<recursionLimit:=by have:=r.dp;omega
theorem iJ.units{k:Nat}{A:HE}(r:iJ k A):A.units+64<G5:=by have:=r.un;omega
noncomputable def dS:TA:=λ_ H Q=>Q [] H
def aM(ta:TE)(I:TA):TA:=λσ H Q=>ta σ H λx H1=>I σ H1 λxs H2=>Q (x::xs) H2
section
variable{t:TA} 
theorem aK:PA X [] dS:=λ_ _ _ _ H Q I h=>Ju ⟨[],H,I,.nil,h⟩
theorem av(g:PE X e te)(f:PA X es t)(d: ~~~(h_ (e::es) X.env=(b_,FR e X.env)::h_ es X.env)):PA X (e::es) (aM te t):=by intro pos B' s σ H Q I h;rw[d];show D_ _ _ (NT ((b_,FR e X.env)::Gh pos (h_ es X.env))) _ _ s;refine HW (HH (g B' s σ H _ I h) λu Y J=>?_);obtain⟨x,H1,j,a,c⟩:=J;refine HH (f pos B' Y σ H1 _ j c) λus k J=>?_;obtain⟨xs,H2,i,r2,b⟩:=J;exact⟨x::xs,H2,i,.cons a r2,b⟩
def tTup(t:TA):TE:=λσ H Q=>t σ H λxs H1=>xs.length<=f_/\∀p,H1 p=c_->Q (.ref p) (upd H1 p (.tup xs))
def Af(t:TA):TE:=λσ H Q=>t σ H λxs H1=>xs.length<=f_/\∀p,H1 p=c_->Q (.ref p) (upd H1 p (.lst xs))
theorem wV{a}(h:PA X es t):PE X (.Tuple es a pos) (tTup t):=by
 intro B' s σ H Q I c;refine wpAny_Tuple_spliced (HH (h pos B' s σ H _ I c) λus J d=>?_);obtain⟨xs,H1,Y,r,z,q⟩:=d;refine⟨by rw[<- r.length];exact z,?_⟩
 have f:H1 J.heap.objs.size=c_:=Y.hok.fresh (v_ _);refine⟨.ref J.heap.objs.size,upd H1 J.heap.objs.size (.tup xs),Y.laid (t':=J.toks) (λb u e=>r_ _ e) (v_ _) ?_,rfl,q _ f⟩
 exact⟨z,us,r,⟨_,FK _ rfl,rfl,_,rfl⟩⟩
theorem jN(h:PA X es t):PE X (.List es pos) (Af t):=by
 intro B' s σ H Q I a;refine NA (HH (h pos B' s σ H _ I a) λus J c=>?_);obtain⟨xs,H1,Y,r,z,q⟩:=c;refine⟨by rw[<- r.length];exact z,?_⟩
 have d:H1 J.heap.objs.size=c_:=Y.hok.fresh (v_ _);refine⟨.ref J.heap.objs.size,upd H1 J.heap.objs.size (.lst xs),Y.laid (t':=J.toks) (λb u e=>r_ _ e) (v_ _) ?_,rfl,q _ d⟩
 exact⟨z,us,0,r,FK _ rfl⟩
end
abbrev Sp:=List V->Hp->VK->XK->Prop
variable{sp:Sp}
abbrev CXT:=List Ll->Hp->y_->XK->Mq
variable{CX:CXT}
structure Env0(P:GH)(w:GV)(K:Pn)(mg:Ld)(base:Gv)(A:HE)(outer:List Ll)(s:y_)(H:Hp):Prop where
 frames:A.frames=a_ outer
 mod:Mod K mg base
 bs:∀b o,base.get? b=a_ o->s.heap.get? b=a_ o/\H b=c_
 bsz:base.objs.size<=s.heap.objs.size
 xG:s.heap.FunFrames base outer
 frf:∀b∈frs outer,H b=c_
 hok:HOk P w H s.heap
 bare:JM s.gens
def CE(outer:List Ll)(P:GH)(w:GV)(H:Hp)(s:y_)(Q:VK)(u:j_)(s':y_):Prop:=
 ∃v H',s'.os=s.os/\JM s'.gens/\Un (frs outer) [] H H' s.heap s'.heap/\HOk P w H' s'.heap/\Hh v u/\Q v H'
def CR(CX:CXT)(outer:List Ll)(P:GH)(w:GV)(H:Hp)(s:y_)(Q:VK)(E:XK)(r:M1)(s':y_):Prop:=
 match r with
 |.ok (.ret u)=>CE outer P w H s Q u s'|.ok _=>False|.error e=>CX outer H s E e s'
structure iL(P:GH)(w:GV)(K:Pn)(mg:Ld)(base:Gv)(CX:CXT)(k:Nat)(f:i_)(fd:Hv)(ps:List p_)(sp:Sp):Prop where
 len:∀vs H Q E,sp vs H Q E->vs.length=ps.length
 run:∀(A:HE) (outer:List Ll) (s:y_) (H:Hp) (args:Args) (us:List j_) (vs:List V) (Q:VK) (E:XK),iJ k A->Env0 P w K mg base A outer s H->Kt s fd args (ps.zip us)->Hn vs us->sp vs H Q E ->
  IZ (FE P w) A (.call (.ref f) args) (CR CX outer P w H s Q E) s
theorem Env0.make{base:Gv}(e:Env0 P w K mg base A outer s H)(C:i_)(us:List j_)(kw:List (p_×j_)):
  Env0 P w K mg base (A.under (.builtin "type.__call__" ⟨.ref C::us,kw⟩)) outer s H:=⟨by first|exact e.frames|(simpa[Around.under,Code.envs,Code.isFrame,pushEnvs] using e.frames),e.mod,e.bs,e.bsz,e.xG,e.frf,e.hok,e.bare⟩
theorem C'.env0(I:C' X B' σ H s):Env0 X.prog X.w X.K X.mg X.base X.A X.stack s H:=
 ⟨I.ok.frames,I.ok.mod,I.bs,Gb I.ok.bsz I.sz,I.stack,I.Df,I.hok,I.bare⟩
theorem C'.after{Q:VK}(I:C' X B' σ H s)(h:CE X.stack X.prog X.w H s Q u s'):EP X B' σ Q u s':=by obtain⟨v,H',os,J,c,a,r,q⟩:=h;obtain⟨hh,g,d,t,Y⟩:=s';obtain rfl:Y=s.os:=os;exact⟨v,H',I.call (h':=hh) (g':=g) (d':=d) (t':=t) (ch:=[]) c a J (λb z=>FJ z (by simp)),r,q⟩
noncomputable def hZ(sp:Sp)(dvs:List V)(E:XK)(t:TA):TE:=λσ H Q=>t σ H λvs H1=>sp (vs++dvs) H1 Q E
def tMeth(C:i_)(m:p_)(sp:Sp)(dvs:List V)(E:XK)(ta:TE)(t:TA):TE:=λσ H Q=>ta σ H λx H1=>∃a dx fs,x=.ref a/\H1 a=a_ (.ins C dx fs)/\fs.lookup m=c_ /\
 t σ H1 λvs H2=>sp (x::(vs++dvs)) H2 Q E
def tMake(C:i_)(sp:Sp)(dvs:List V)(E:XK)(t:TA):TE:=λσ H Q=>t σ H λvs H1=>∀x dx,H1 x=c_->H1 dx=c_->dx≠x ->
 sp (.ref x::(vs++dvs)) (upd (upd H1 dx (.own x)) x (.ins C dx [])) (λv H2=>v=.non/\Q (.ref x) H2) E
def Binds(K:Pn)(fd:Hv)(ps:List p_)(ds:List j_):Prop:=
 ∀(s:y_) (us:List j_),K.In s.heap->(us++ds).length=ps.length->Kt s fd ⟨us,[]⟩ (ps.zip (us++ds))
theorem Binds.all(h:∀us:List j_,us.length=ps.length->Kj fd ⟨us,[]⟩=GZ (ps.zip us)):Binds K fd ps []:=λs us _ I=>by rw[HF]at I ⊢;exact .of_eq (h us I)
def Passes(CX:CXT)(X:Cx)(E:XK):Prop:=∀(B':Vp) (σ:St) (H:Hp) (s:y_) (e:j_) (s':y_),C' X B' σ H s->CX X.stack H s E e s'->X.xe e s'
section
variable{k:Nat}{f:i_}{dvs:List V}{ds:List j_}{E:XK}{apos:Np}{o:GO}{t:TA}
theorem Dn{Q:VK}(F:iL X.prog X.w X.K X.mg X.base CX k f fd ps sp)(a:iJ k X.A)(c:Binds X.K fd ps ds)(hd:Hn dvs ds)(Y:Passes CX X E)(I:C' X B' σ H s)(r:Hn vs us)(h:sp (vs++dvs) H Q E):D_ (FE X.prog X.w) X.A (Ja (.ref f) us) (EP X B' σ Q) X.xe s:=by
 have r2:Hn (vs++dvs) (us++ds):=r.append hd;have b:(us++ds).length=ps.length:=by rw[<- r2.length];exact F.len _ _ _ _ h
 refine JV (HK (F.run X.A X.stack s H ⟨us,[]⟩ (us++ds) (vs++dvs) Q E a I.env0 (c s us I.kIn b) r2 h) λr s' J=>?_);cases r with
 |error e=>exact Y B' σ H s e s' I J|ok fl=>
  cases fl with
  |ret u=>exact I.after J|next=>exact GA J|brk=>exact GA J|cont=>exact GA J
theorem qN(F:iL X.prog X.w X.K X.mg X.base CX k f fd ps sp)(c:iJ k X.A)(j:Gl X x)(g:X.mg x=a_ (.ref f))(i:H_ X.K (.ref f)=d_)(m:Binds X.K fd ps ds)(hd:Hn dvs ds)(b:Passes CX X E)(n:PA X (e::es) t)(Y:((x==("__debug__":p_))=b_)⁻¹)(l: ~~~(h_ (e::es) X.env=(b_,FR e X.env)::h_ es X.env))(J: ~~~((Gh pos (h_ es X.env)).any (·.1)=b_)):
  PE X (.Call (.Name x p) (e::es) [] pos) (hZ sp dvs E t):=by
 intro B' s σ H Q I h;refine Hg (jF I j g ?_ Y);refine KL (h₀:=X.base) I.ok.mod.kin i (HH (n pos B' s σ H _ I h) λus o d=>?_) l J;obtain⟨vs,H1,a,r,q⟩:=d;refine⟨a.kIn,?_⟩
 exact Dn F c m hd b a r q
theorem pe_meth0(n:PE X o ta)(c:Cls X.K C)(b:Meth X.K C m f)(F:iL X.prog X.w X.K X.mg X.base CX k f fd ps sp)(i:iJ k X.A)(p:Binds X.K fd ps ds)(hd:Hn dvs ds)(e:Passes CX X E)(g: ~~~(FR (.Call (.Attribute o m apos) [] [] pos) X.env=(do
   let Y <- FR o X.env
   KY apos.atName
   let (f,first) <- Jv [Y] (Lc Y m pl)
   LZ pos f first (Gh pos (h_ [] X.env)) (Ho pos (GJ [] X.env))))):
  PE X (.Call (.Attribute o m apos) [] [] pos) (tMeth C m sp dvs E ta dS):=by
 intro B' s σ H Q I h;refine Lp (pl:=pl) (HH (n B' s σ H _ I h) λu r j=>?_) g;obtain⟨x,H1,J,d,a,dx,fs,ex,ea,l,q⟩:=j;subst ex;obtain rfl:u=FF a:=d;refine Cc J ea c b l ?_;exact LN (first:=[.ref a]) J.kIn b.kp (Dn (us:=[.ref a]) (vs:=[.ref a]) F i p hd e J (.cons rfl .nil) q)
structure Mk(K:Pn)(C f:i_):Prop where
 makes:MZ K C=d_
 init:FQ K (.ref C) "__init__"=a_ (a_ (.ref f))
 fn:isFn K (.ref f)=d_
 kp:H_ K (.ref C)=d_
theorem Ao{Q:VK}(M:Mk X.K C f)(F:iL X.prog X.w X.K X.mg X.base CX k f fd ps sp)(g:iJ (k+1) X.A)(j:Binds X.K fd ps ds)(hd:Hn dvs ds)(d:Passes CX X E)(I:C' X B' σ H s)(r:Hn vs us)(h:∀x dx,H x=c_->H dx=c_->dx≠x->sp (.ref x::(vs++dvs)) (upd (upd H dx (.own x)) x (.ins C dx [])) (λv H2=>v=.non/\Q (.ref x) H2) E):
  D_ (FE X.prog X.w) X.A (Ja (.ref C) us) (EP X B' σ Q) X.xe s:=by
 have a:=h (s.heap.objs.size+1) s.heap.objs.size (I.hok.fresh (Gk _)) (I.hok.fresh (v_ _)) (Ga (HS _));have Y:=C'.made (C:=C) I;have r2:Hn (V.ref (s.heap.objs.size+1)::(vs++dvs)) (FF (s.heap.objs.size+1)::(us++ds)):=.cons rfl (r.append hd);have i:(FF (s.heap.objs.size+1)::us++ds).length=ps.length:=by have e:=r2.length;rw[F.len _ _ _ _ a]at e;exact e.symm
 refine JV (make_map (f:=f) I.kIn M.makes M.init (HC.mp M.fn) (HK (F.run _ X.stack _ _ ⟨FF (s.heap.objs.size+1)::us,[]⟩ (FF (s.heap.objs.size+1)::(us++ds)) _ _ E (g.make C us [])
  (Y.env0.make C us []) (j _ (FF (s.heap.objs.size+1)::us) Y.kIn i) r2 a) λr s' J=>?_))
 cases r with
 |error e=>exact d B' σ _ _ e s' Y J|ok fl=>
  cases fl with
  |ret u=>obtain⟨v,H',m,b,l,c⟩:=Y.after J;subst l;exact⟨b,⟨V.ref (s.heap.objs.size+1),H',m,rfl,c⟩⟩
  |next=>exact GA J|brk=>exact GA J|cont=>exact GA J
theorem zd(M:Mk X.K C f)(F:iL X.prog X.w X.K X.mg X.base CX k f fd ps sp)(c:iJ (k+1) X.A)(i:Gl X x)(g:X.mg x=a_ (.ref C))(l:Binds X.K fd ps ds)(hd:Hn dvs ds)(b:Passes CX X E)(m:PA X (e::es) t)(Y:((x==("__debug__":p_))=b_)⁻¹)(j: ~~~(h_ (e::es) X.env=(b_,FR e X.env)::h_ es X.env))(J: ~~~((Gh pos (h_ es X.env)).any (·.1)=b_)):
  PE X (.Call (.Name x p) (e::es) [] pos) (tMake C sp dvs E t):=by
 intro B' s σ H Q I h;refine Hg (jF I i g ?_ Y);refine KL (h₀:=X.base) I.ok.mod.kin M.kp (HH (m pos B' s σ H _ I h) λus n d=>?_) j J;obtain⟨vs,H1,a,r,q⟩:=d;refine⟨a.kIn,?_⟩
 exact Ao M F c l hd b a r q
theorem pe_make0(M:Mk X.K C f)(F:iL X.prog X.w X.K X.mg X.base CX k f fd ps sp)(a:iJ (k+1) X.A)(c:Gl X x)(b:X.mg x=a_ (.ref C))(d:Binds X.K fd ps ds)(hd:Hn dvs ds)(Y:Passes CX X E)(J:((x==("__debug__":p_))=b_)⁻¹):PE X (.Call (.Name x p) [] [] pos) (tMake C sp dvs E dS):=by intro B' s σ H Q I h;refine Hg (jF I c b ?_ J);exact LN I.kIn M.kp (Ao (us:=[]) M F a d hd Y I .nil h)
end
structure gE(N P:List p_)(sc:K4):Prop where
 kind:sc.kind=.function
 co:sc.isCoroutine=b_
 gen:sc.isGenerator=b_
 nd:N.Nodup
 pre:N.take P.length=P
 par:∀x∈P,sc.names.lookup x=a_ .local\/sc.names.lookup x=a_ .cell
 nofree:∀y∈sc.names,y.2≠.free
theorem yi{J:p_->Option Iq}{x:p_}:∀{I:List (p_×j_)} {m:Ld},(∀v,(x,v)∉I)->MG J I m x=m x
 |[],_,_=>rfl|(n,v)::r,m,h=>by
  unfold MG;rw[yi λw hw=>h w (FH _ hw)];split
  ·have:x≠n:=by rintro rfl;exact h v Gp
   simp[this]
  ·rfl
theorem yk{J:p_->Option Iq}{x:p_}:∀{I:List (p_×j_)} {m:Ld},(∀v,(x,v)∉I)->MH J I m x=m x
 |[],_,_=>rfl|(n,v)::r,m,h=>by
  unfold MH;rw[yk λw hw=>h w (FH _ hw)];split
  ·rfl
  ·have:x≠n:=by rintro rfl;exact h v Gp
   simp[this]
theorem yj{I:p_->Option Iq}{x:p_}{v:j_}:∀{P:List p_} {vs:List j_} {i:Nat} {m:Ld},P.Nodup->P[i]?=a_ x->vs[i]?=a_ v->I x=a_ .local ->
  MG I (P.zip vs) m x=a_ v
 |[],_,_,_,_,h,_,_=>by simp at h|_::_,[],_,_,_,_,h,_=>by simp at h|p::P,w::vs,0,m,J,h1,h2,Y=>by simp at h1 h2;subst h1;subst h2;show MG I ((p,w)::P.zip vs) m p=_;unfold MG;rw[yi λv hv=>(Iz.mp J).1 (KP hv).1,g_ Y];simp|p::P,w::vs,i+1,m,J,h1,h2,Y=>by show MG I ((p,w)::P.zip vs) m x=_;unfold MG;exact yj (i:=i) (Iz.mp J).2 (by simpa using h1) (by simpa using h2) Y
theorem ym{I:p_->Option Iq}{x:p_}{v:j_}:∀{P:List p_} {vs:List j_} {i:Nat} {m:Ld},P.Nodup->P[i]?=a_ x->vs[i]?=a_ v->I x≠a_ .local ->
  MH I (P.zip vs) m x=a_ v
 |[],_,_,_,_,h,_,_=>by simp at h|_::_,[],_,_,_,_,h,_=>by simp at h|p::P,w::vs,0,m,J,h1,h2,Y=>by simp at h1 h2;subst h1;subst h2;show MH I ((p,w)::P.zip vs) m p=_;unfold MH;rw[yk λv hv=>(Iz.mp J).1 (KP hv).1,l_ Y];simp|p::P,w::vs,i+1,m,J,h1,h2,Y=>by show MH I ((p,w)::P.zip vs) m x=_;unfold MH;exact ym (i:=i) (Iz.mp J).2 (by simpa using h1) (by simpa using h2) Y
noncomputable def start(N:List p_)(vs:List V):St:=vs.map a_++GY (N.length-vs.length) c_
noncomputable def zU(CX:CXT)(P:GH)(w:GV)(K:Pn)(mg:Ld)(base:Gv)(N:List p_)(qual:p_)(scope:K4)(f:i_)(cd:j_)(A:HE)(outer:List Ll)(s:y_)(H:Hp)(E:XK):Cx where
 prog:=P
 w:=w
 K:=K
 mg:=mg
 base:=base
 A:=A.deeper (Ik qual scope s.heap.objs.size f cd)
 N:=N
 s₀:=s
 H₀:=H
 env:=Ik qual scope s.heap.objs.size f cd
 outer:=outer
 stack:=Ik qual scope s.heap.objs.size f cd::outer
 ex:=[]
 calm:=d_
 fn:=λ_=>d_
 pn:=[]
 xe:=λe s'=>D_ (FE P w) (A.deeper (Ik qual scope s.heap.objs.size f cd)) (NX (Ik qual scope s.heap.objs.size f cd) e) (λ_ I=>CX outer H s E e I) (λJ I=>CX outer H s E J I) s'
theorem B9{sc:K4}(h:sc.names.lookup x=a_ .cell):∃c,(G1 n sc.names []).lookup x=a_ c:=by have q:=HN sc.names n [] (.inl h);exact HG.mp q
theorem Ep{base:Gv}{f:i_}{cd:j_}{g:y_}{E:XK}(S:gE N ps scope)(hd:A.handled=c_)(e0:Env0 P w K mg base A outer s H)(B:vs.length=ps.length)(r:Hn vs us)(x:InCallC s s.heap.objs.size (MG (Ik qual scope s.heap.objs.size f cd).kindOf (ps.zip us) λ_=>c_) (G1 (s.heap.objs.size+1) scope.names []) (MH (Ik qual scope s.heap.objs.size f cd).kindOf (ps.zip us) λ_=>c_) g):
  C' (zU CX P w K mg base N qual scope f cd A outer s H E) [] (start N vs) H g:=by
 have o:ps.length<=N.length:=by have:=Iv Mm S.pre;rw[GC]at this;omega
 obtain⟨h1,tk,rfl,l⟩:=x.done;have I:∀b:i_,b∉(zU CX P w K mg base N qual scope f cd A outer s H E).ex:=λb z=>FJ (show b∈([]:List i_)from z) (by simp);refine⟨⟨e0.mod,S.kind,rfl,rfl,v_ _,λy z c h1 h2=>?_,λy J=>?_,λy c _ h=>?_,λ_=>hd,Around.frames_deeper e0.frames,.inr ⟨rfl,rfl⟩,λb z=>FJ z (I b),e0.bs,e0.bsz,λb _ _=>I b,λb z=>FJ z (I b),e0.xG,e0.frf⟩,
  rfl,e0.bare,Un.kept l,⟨_,x.toInCall.ns,λi y v h1 h2 C=>?_⟩,λy c h=>⟨_,x.cell y c h⟩,e0.hok.fresh (v_ _),λy c h=>?_,λp d=>FJ (show p∈([]:Vp)from d) (by simp),e0.hok.kept l,?_⟩
 ·exact name_of_addr x.apart (GW h1) (GW h2)
 ·have J:scope.names.lookup y=a_ .cell\/scope.names.lookup y=a_ .free:=J;rcases J with J|J
  ·exact B9 J
  ·exact FJ rfl (S.nofree _ (GW J))
 ·exact Jl (x.above y c (GW h))
 ·have hi:i<vs.length:=by
   unfold start at h2;by_cases hi:i<vs.length
   ·exact hi
   ·rw[Iu (by simpa using hi)]at h2;rw[JD]at h2;split at h2<;>cases h2
  have t:vs[i]?=a_ v:=by
   unfold start at h2;rw[GF (by simpa using hi),GD]at h2;cases e:vs[i]? with
   |none=>rw[e]at h2;cases h2|some a=>rw[e]at h2;cases h2;rfl
  obtain⟨u,j,m⟩:=r.get t;have d:ps[i]?=a_ y:=by rw[<- S.pre,List.getElem?_take_of_lt (by omega)];exact h1
  have Y:ps.Nodup:=by rw[<- S.pre];exact S.nd.sublist (List.take_sublist _ _)
  refine⟨u,m,?_⟩
  rcases S.par y (Gr d)with k|k
  ·exact .inl ⟨k,yj Y d j k⟩
  ·obtain⟨c,e⟩:=B9 (n:=s.heap.objs.size+1) k;refine .inr ⟨.inl k,c,e,?_⟩;have q:=x.cell y c e;rw[ym Y d j (by show scope.names.lookup y≠_;rw[k];decide)]at q;exact q
 ·exact e0.hok.fresh (Jl (x.above y c (GW h)))
 ·unfold start;show _=N.length;rw[FG,t_,G_];omega
theorem fn_of{base:Gv}{k:Nat}{f:i_}{Y:Arguments}{B kV doc pm cdv ct oc:j_}{an od:Option i_}{osl:Array (Option j_)}(F:K.lookup f=a_ ⟨oc,od,.func (Kw name qual Y body scope B kV doc pm an cdv ct),osl⟩)(p:Lg K cdv qual=d_)(S:gE N ps scope)(g:∀vs H Q E,sp vs H Q E->vs.length=ps.length)(c:∀(A:HE) (outer:List Ll) (s:y_) (H:Hp) (vs:List V) (Q:VK) (E:XK),iJ k (A.deeper (Ik qual scope s.heap.objs.size f cdv))->sp vs H Q E ->
   ∃t,PSs (zU CX P w K mg base N qual scope f cdv A outer s H E) body t/\t {nx:=λ_ H'=>Q .non H',rt:=Q} (start N vs) H):
  iL P w K mg base CX (k+1) f (Kw name qual Y body scope B kV doc pm an cdv ct) ps sp:=by
 refine⟨g,λA outer s H C us vs Q E m e0 U r h=>?_⟩
 have R:=g _ _ _ _ h;have D:K.In s.heap:=e0.mod.kin.keeps λb o e=>(e0.bs b o e).1;have l:s.heap.NoLimit:=e0.mod.nolimit.keeps λb o e=>(e0.bs b o e).1;have a:∀y∈ps.zip us,scope.names.lookup y.1=a_ .local\/(scope.names.lookup y.1=a_ .cell/\((G1 (s.heap.objs.size+1) scope.names []).lookup y.1).isSome=d_):=λ⟨n,v⟩ G=>by
  rcases S.par n (KP G).1 with q|q
  ·exact .inl q
  ·exact .inr ⟨q,HN _ _ _ (.inl q)⟩
 refine codeAny_call_function m.depth (D _ _ F) rfl S.co S.gen rfl (PySem.W.codeRec_of D p) (U _ _ _ _ ?_);refine wpAny_newFunctionEnv_cells S.kind a λenv T z x=>?_;subst T;refine⟨l.keeps x.toInCall.keep,codeAny_func ?_⟩
 obtain⟨t,L,O⟩:=c A outer s H vs Q E (m.deeper _) h;have I:C' (zU CX P w K mg base N qual scope f cdv A outer s H E) [] (start N vs) H z:=Ep S m.hd e0 R r x;refine Gx (L [] z (start N vs) H _ I O) (λfl s' d=>?_) λe s' d=>d;have i:∀{σ':St} {H':Hp} {v:V} {u:j_},C' (zU CX P w K mg base N qual scope f cdv A outer s H E) [] σ' H' s'->Hh v u->Q v H'->CE outer P w H s Q u s':=
  λ{σ' H' v u} J j q=>⟨v,H',J.os,J.bare,J.base,J.hok,j,q⟩
 cases fl with
 |ret u=>obtain⟨v,σ',H',J,j,q⟩:=d;exact i J j q
 |next=>obtain⟨σ',H',J,q⟩:=d;exact i (v:=V.non) (u:=Ip) J rfl q
 |brk=>obtain⟨_,_,_,q⟩:=d;exact GA q
 |cont=>obtain⟨_,_,_,q⟩:=d;exact GA q
section
variable{t:TA}{id T:String}{r:List V->Hp->VK->Prop}
noncomputable def tCB(r:List V->Hp->VK->Prop)(t:TA):TE:=λσ H Q=>t σ H λvs H1=>r vs H1 Q
theorem iP(k:g7 X (.builtin id) r)(i:Gl X x)(g:X.mg x=c_)(hv:Hx x=a_ (.builtin id))(l:PA X (e::es) t)(f:(x≠"__name__")⁻¹)(Y:((x==("__debug__":p_))=b_)⁻¹)(j: ~~~(h_ (e::es) X.env=(b_,FR e X.env)::h_ es X.env))(J: ~~~((Gh pos (h_ es X.env)).any (·.1)=b_)):PE X (.Call (.Name x p) (e::es) [] pos) (tCB r t):=by intro B' s σ H Q I h;refine Hg (tI I i g hv ?_ f Y);refine PyProof.Rows.callWith_builtin1 (HH (l pos B' s σ H _ I h) λus a d=>?_) j J;obtain⟨vs,H1,m,b,c⟩:=d;exact k B' a σ H1 vs us Q m b c
theorem jY(k:g7 X (.type T) r)(i:Gl X x)(g:X.mg x=c_)(hv:Hx x=a_ (.type T))(l:PA X (e::es) t)(f:(x≠"__name__")⁻¹)(Y:((x==("__debug__":p_))=b_)⁻¹)(j: ~~~(h_ (e::es) X.env=(b_,FR e X.env)::h_ es X.env))(J: ~~~((Gh pos (h_ es X.env)).any (·.1)=b_)):PE X (.Call (.Name x p) (e::es) [] pos) (tCB r t):=by intro B' s σ H Q I h;refine Hg (tI I i g hv ?_ f Y);refine IS (HH (l pos B' s σ H _ I h) λus a d=>?_) j J;obtain⟨vs,H1,m,b,c⟩:=d;exact k B' a σ H1 vs us Q m b c
end
end Lake
namespace Lake.HT
open PySem PyProof.Rows
section
open PySem.SeqAt
open PySem.AutoSeq1 (wpAny_loadPart')
open PySem.MeetsSeq PySem.MeetsSeq2 PySem.MeetsSeq3
end
section
variable{prog:GH}{w:GV}{A:HE}{E:Mq}{s:y_}
theorem cat_tup{t b:i_}{vs ws:List j_}{Q:Mq}(j:N8 s.heap t vs.toArray)(k:N8 s.heap b ws.toArray)(hv:vs≠[])(h1:ws=[]->Q (.ref t) s)(h2:ws≠[]->Q (.ref s.heap.objs.size) {s with heap:=s.heap.push {cls:=.type "tuple",data:=.seq (vs++ws).toArray}})(hsz:vs.length+ws.length<=f_):D_ (FE prog w) A (HD .Add (.ref t) (.ref b)) Q E s:=by
 obtain⟨⟨cls,dd,data,g⟩,d,h,n,hd⟩:=id j;obtain⟨⟨i,c,f,J⟩,I,a,n2,Y⟩:=id k;simp only at h hd a Y;subst h hd a Y;have e:vs.toArray++ws.toArray=(vs++ws).toArray:=by simp
 by_cases hw:ws=[]
 ·exact K0 ⟨_,d,rfl⟩ ⟨_,I,rfl⟩ Lb Ms JA Jw (Jr _ _)
   (tuple_addW1 t b vs.toArray ws.toArray n n2 dd c g J (by simpa using hv) (by simp[hw])) ⟨d,I,h1 hw⟩
 ·refine K0 ⟨_,d,rfl⟩ ⟨_,I,rfl⟩ Lb Ms JA Jw (Jr _ _)
   (tuple_addW2 t b vs.toArray ws.toArray n n2 dd c g J (by simpa using hv) (by simpa using hw) (by rw[A_,A_];exact hsz)) ⟨d,I,?_⟩
  rw[e];exact h2 hw
noncomputable def sIx(n d:Nat):Option Int->Nat
 |none=>d|some v=>if v<0 then(v+(n:Int)).toNat else min v.toNat n
theorem sIx_le(n d:Nat)(hd:d<=n)(o:Option Int):sIx n d o<=n:=by
 cases o with
 |none=>exact hd|some v=>
  show(if v<0 then(v+(n:Int)).toNat else min v.toNat n)<=n;by_cases hv:v<0
  ·rw[g_ hv];omega
  ·rw[l_ hv];exact Nat.min_le_right _ _
theorem Fj(v:Int)(n d:Nat):(if v<0 then max (v+(n:Int)) 0 else min v (n:Int))=((sIx n d (a_ v):Nat):Int):=by
 show(if v<0 then max (v+(n:Int)) 0 else min v (n:Int))=(((if v<0 then(v+(n:Int)).toNat else min v.toNat n):Nat):Int)
 by_cases hv:v<0
 ·simp only[g_ hv];omega
 ·simp only[l_ hv];omega
theorem CB(lo hi:Option Int)(n:Nat):I_ lo hi 1 (n:Int)=(((sIx n 0 lo:Nat):Int),((sIx n n hi:Nat):Int)):=by
 have h1:¬((1:Int)<0):=by omega
 unfold I_;simp only[h1,Nx];refine Prod.ext ?_ ?_
 ·cases lo with
  |none=>rfl|some v=>exact Fj v n 0
 ·cases hi with
  |none=>rfl|some v=>exact Fj v n n
theorem BD(i j:Nat):Ic (i:Int) (j:Int) 1=j-i:=by
 unfold Ic;have h1:(1:Int)>0:=by omega
 simp only[h1,Ln,Int.ediv_one];split<;>omega
theorem tm{v:j_}{o:Option Int}{Q:Option Int->y_->Prop}(p:Li v o)(h:Q o s):D_ (FE prog w) A (Ot v) Q E s:=by
 cases p with
 |none=>exact slicePart_none h|int i t=>exact slicePart_int h
theorem pB{b:i_}{a Y:j_}{lo hi:Option Int}{n:Nat}{Q:Int×Int×Nat->y_->Prop}(d:s.heap.IsSliceOf b a Y .none)(pl:Li a lo)(c:Li Y hi)(h:Q (((sIx n 0 lo:Nat):Int),1,sIx n n hi-sIx n 0 lo) s):D_ (FE prog w) A (Ka (.ref b) (GZ (n:Int))) Q E s:=by obtain⟨os,I,e,J⟩:=id d;unfold Ka Ou;refine k_ (k_ (IQ I J (x:=a) rfl (k_ (IQ I J (x:=Y) rfl (k_ (IQ I J (x:=.none) rfl (B_ ?_)))))));refine k_ (slicePart_none ?_);show D_ _ _ (if ((1:Int)==0)=d_ then _ else _) _ _ s;rw[l_ (by decide)];refine k_ (tm pl (k_ (tm c (k_ (B_ ?_)))));show D_ _ _ (match I_ lo hi 1 (n:Int)with|(lo,hi)=>GZ (lo,(1:Int),Ic lo hi 1)) _ _ s;rw[CB lo hi n];show D_ _ _ (GZ (((sIx n 0 lo:Nat):Int),(1:Int),Ic ((sIx n 0 lo:Nat):Int) ((sIx n n hi:Nat):Int) 1)) _ _ s;rw[BD];exact B_ h
theorem pick_gen(xs:Array j_)(i k:Nat):((GU k).filterMap λ(m:Nat)=>xs[((i:Int)+(m:Int)*1).toNat]?).toArray=((xs.toList.drop i).take k).toArray:=by
 have e:(λ(m:Nat)=>xs[((i:Int)+(m:Int)*1).toNat]?)=λm=>xs[i+m]?:=by
  funext m
  have:((i:Int)+(m:Int)*1).toNat=i+m:=by omega
  rw[this]
 rw[e];have:=pick_run xs i k;rw[List.filterMap_map]at this;have e2:((λx=>xs[x]?)∘λx=>i+x)=λm=>xs[i+m]?:=rfl;rw[e2]at this;rw[this]
theorem ou{t Y:i_}{I:Array j_}{f e:j_}{lo hi:Option Int}{Q:Mq}(J:N8 s.heap t I)(g:s.heap.IsSliceOf Y f e .none)(pl:Li f lo)(i:Li e hi)(hw:¬(sIx I.size 0 lo=0/\sIx I.size I.size hi=I.size))(h:Q (.ref s.heap.objs.size) {s with heap:=s.heap.push {cls:=.type "tuple",data:=.seq ((I.toList.drop (sIx I.size 0 lo)).take (sIx I.size I.size hi-sIx I.size 0 lo)).toArray}})(hsz:I.size<=f_):D_ (FE prog w) A (Kr (.ref t) (.ref Y)) Q E s:=by
 have htake:sizeOk (.seq ((I.toList.drop (sIx I.size 0 lo)).take (sIx I.size I.size hi-sIx I.size 0 lo)).toArray):=by show((I.toList.drop (sIx I.size 0 lo)).take (sIx I.size I.size hi-sIx I.size 0 lo)).toArray.size<=f_;rw[A_,GC,Nd,Hr];omega
 have n:sIx I.size I.size hi<=I.size:=sIx_le _ _ (v_ _) hi;obtain⟨os,a,c,j⟩:=id g;have d:s.TypeIs (.ref Y) "slice":=⟨os,a,c⟩
 unfold Kr
 try with_reducible refine IH ?_
 first|refine k_ (B_ ?_)|skip
 refine k_ (wpAny_sequenceKey J.typeIs (by decide) ?_);refine k_ (wpAny_callSpecial?_slot (name:=e_ "__getitem__") J.typeIs HU
  (La HU J.typeIs entry_tuple_getitem ?_ (args_tuple_getitem _ _)))
 show D_ _ _ (Oo (.ref t) >>= _) _ _ s;refine k_ (tupleItemsOf_ J ?_);refine k_ (wpAny_typeOf d ?_);rw[g_ (by decide)];refine k_ (pB g pl i ?_);have b:¬((((sIx I.size 0 lo:Nat):Int)==0&&(1:Int)==1&&(sIx I.size I.size hi-sIx I.size 0 lo)==I.size)=d_):=by intro q;rw[o_,o_]at q;have l:((sIx I.size 0 lo:Nat):Int)=0:=HA q.1.1;have k:sIx I.size I.size hi-sIx I.size 0 lo=I.size:=HA q.2;exact hw ⟨by omega,by omega⟩
 show D_ _ _ (if (((sIx I.size 0 lo:Nat):Int)==0&&(1:Int)==1&&(sIx I.size I.size hi-sIx I.size 0 lo)==I.size)=d_ then _ else _) _ _ s;rw[l_ b,pick_gen]
 first
  |exact k_ (m:=Oq _) (KU (B_ ⟨_,rfl,B_ h⟩) htake)
  |exact wpAny_bind (m:=Builtin.Tuple.tupleExact _) (wpAny_newObj_type (wpAny_bind (wpAny_pure (wpAny_pure ⟨_,rfl,wpAny_pure h⟩))) htake)
  |exact wpAny_bind (wpAny_bind (m:=Builtin.Tuple.tupleExact _) (wpAny_newObj_type (wpAny_pure (wpAny_pure ⟨_,rfl,wpAny_pure h⟩)) htake))
  |exact wpAny_bind (wpAny_bind (m:=Builtin.Tuple.tupleExact _) (wpAny_newObj_type (wpAny_pure ⟨_,rfl,wpAny_pure h⟩) htake))
end
end Lake.HT
namespace Lake
open PySem PySem.Spec PyProof.Rows
variable{X:Cx}{e:GO}{pos:Np}{r:V->Option Int->Option Int->Hp->VK->Prop}{us F9 its':List j_}{α:Type}{n:Nat}{i:Int}{B':Vp}{σ:St}{H:Hp}{s:y_}{T:String}{x:V}
abbrev TO:=St->Hp->(Option Int->Hp->Prop)->Prop
def PO(X:Cx)(e:Option GO)(t:TO):Prop:=
 ∀(B':Vp) (s:y_) (σ:St) (H:Hp) (Q:Option Int->Hp->Prop),C' X B' σ H s->t σ H Q ->
  D_ (FE X.prog X.w) X.A (evalPart e X.env) (λu s'=>∃o H',C' X B' σ H' s'/\Li u o/\Q o H') X.xe s
noncomputable def tNoPart:TO:=λ_ H Q=>Q c_ H
noncomputable def tPart(t:TE):TO:=λσ H Q=>t σ H λx H1=>∃i,x=.int i/\Q (a_ i) H1
theorem intsAre_of{ns:List Int}:∀{us:List j_},Hn (ns.map V.int) us->LP us ns:=by
 induction ns with
 |nil=>intro us r;rw[HI]at r;cases r;exact .nil|cons n ns J=>
  intro us r;rw[C_]at r;cases r with
  |cons I r2=>obtain⟨t,e⟩:=I;subst e;exact .cons n t (J r2)
section
variable{te:TE}{lo hi:Option GO}{tl th:TO}{p2:Np}
theorem po_none:PO X c_ tNoPart:=by intro B' s σ H Q I h;rw[evalPart_none];exact B_ ⟨c_,H,I,.none,h⟩
theorem po_some(h:PE X e te):PO X (a_ e) (tPart te):=by intro B' s σ H Q I hw;rw[evalPart_some];refine HH (h B' s σ H _ I hw) λu c a=>?_;obtain⟨x,H1,b,J,Y⟩:=a;obtain⟨i,rfl,q⟩:=Y;obtain⟨t,rfl⟩:=J;exact⟨a_ i,H1,b,.int i t,q⟩
def SlR(X:Cx)(r:V->Option Int->Option Int->Hp->VK->Prop):Prop:=
 ∀(B':Vp) (s:y_) (σ:St) (H:Hp) (x:V) (v J I:j_) (lo hi:Option Int) (Y:i_) (Q:VK),C' X B' σ H s->Hh x v->s.heap.IsSliceOf Y J I .none->Li J lo->Li I hi->r x lo hi H Q ->
  ∃T id,NB (.type T) "__getitem__"=GZ (a_ (.builtin id))/\s.TypeIs v T/\D_ (FE X.prog X.w) X.A (Kr v (.ref Y)) (EP X B' σ Q) X.xe s
theorem SlR.or{r':V->Option Int->Option Int->Hp->VK->Prop}(h:SlR X r)(h':SlR X r'):SlR X (λx lo hi H Q=>r x lo hi H Q\/r' x lo hi H Q):=by
 intro B' s σ H x v Y J lo hi a Q I b d pl c q;rcases q with q|q
 ·exact h B' s σ H x v Y J lo hi a Q I b d pl c q
 ·exact h' B' s σ H x v Y J lo hi a Q I b d pl c q
noncomputable def tSl(r:V->Option Int->Option Int->Hp->VK->Prop)(te:TE)(tl th:TO):TE:=λσ H Q=>te σ H λx H1=>tl σ H1 λl H2=>th σ H2 λu I=>r x l u I Q
theorem pe_slice(t:SlR X r)(z:PE X e te)(w:PO X lo tl)(o:PO X hi th):PE X (.Subscript e (.Slice lo hi c_ p2) pos) (tSl r te tl th):=by intro B' s σ H Q I h;refine NI (HH (z B' s σ H _ I h) λv g Y=>?_);obtain⟨x,H1,E,i,m⟩:=Y;refine wpAny_Slice (HH (w B' g σ H1 _ E m) λc f Y=>?_);obtain⟨l,H2,D,pl,k⟩:=Y;refine HH (o B' f σ H2 _ D k) λa J Y=>?_;obtain⟨u,d,C,n,j⟩:=Y;rw[evalPart_none];refine B_ ?_;have B:C' X B' σ d {J with heap:=J.heap.push {cls:=.type "slice",data:=.fields #[c,a,.none]}}:=C.kept (t':=J.toks) λb F q=>r_ _ q;obtain⟨T,id,A,p,y⟩:=t B' {J with heap:=J.heap.push {cls:=.type "slice",data:=.fields #[c,a,.none]}} σ d x v c a l u J.heap.objs.size Q B i (N5 ..) pl n j;show D_ (FE X.prog X.w) X.A (Mz e (.Slice lo hi c_ p2) v (.ref J.heap.objs.size)) (EP X B' σ Q) X.xe {J with heap:=J.heap.push {cls:=.type "slice",data:=.fields #[c,a,.none]}};exact tail_any (ops:=[.ref J.heap.objs.size,v]) p A y (by with_unfolding_all rfl)
noncomputable def cutV(xs:List V)(lo hi:Option Int):List V:=(xs.drop (HT.sIx xs.length 0 lo)).take (HT.sIx xs.length xs.length hi-HT.sIx xs.length 0 lo)
theorem rP(xs:List V)(lo hi:Option Int):(cutV xs lo hi).length<=xs.length:=by unfold cutV;rw[GC,Nd];omega
def rSlT(K:Pn):V->Option Int->Option Int->Hp->VK->Prop:=λx lo hi H Q=>∃a xs,x=.ref a/\SqT K H a xs /\
 ¬(HT.sIx xs.length 0 lo=0/\HT.sIx xs.length xs.length hi=xs.length)/\∀p,H p=c_->Q (.ref p) (upd H p (.tup (cutV xs lo hi)))
theorem sl_tup:SlR X (rSlT X.K):=by
 intro B' s σ H x v j i lo hi k Q I d g pl e h;obtain⟨a,xs,rfl,f,hw,q⟩:=h;cases d;obtain⟨F9,r,c,Y⟩:=I.tuple f;have J:F9.toArray.size=xs.length:=by rw[A_];exact r.length.symm
 refine⟨"tuple",_,HU.lookup,c.typeIs,?_⟩
 refine HT.ou c g pl e (by rw[J];exact hw) ?_ (by rw[J];exact Y);rw[J];refine⟨.ref s.heap.objs.size,_,I.laid (t':=s.toks) (o:=.tup (cutV xs lo hi)) (λb l q=>r_ _ q) (v_ _) ?_,rfl,q _ (I.hok.fresh (v_ _))⟩
 exact⟨Gb (rP xs lo hi) Y,_,(r.drop (HT.sIx xs.length 0 lo)).take (HT.sIx xs.length xs.length hi-HT.sIx xs.length 0 lo),IsTup.new _ _⟩
def rCatT(K:Pn):R2:=λx y H Q=>∃a b xs ys,x=.ref a/\y=.ref b/\SqT K H a xs/\SqT K H b ys/\xs≠[]/\xs.length+ys.length<=f_ /\
 (ys=[]->Q (.ref a) H)/\(ys≠[]->∀p,H p=c_->Q (.ref p) (upd H p (.tup (xs++ys))))
theorem Hn.zp{xs:List V}(r:Hn xs us):us=[]↔xs=[]:=by
 cases r with
 |nil=>simp|cons _ _=>simp
theorem op_catT:OpR X (HD .Add) (rCatT X.K):=by
 intro B' s σ H x y v u Q I e d h;obtain⟨a,b,xs,ys,rfl,rfl,k,j,i,c,g,f⟩:=h;cases e;cases d;obtain⟨F9,J,p1,_⟩:=I.tuple k;obtain⟨Y,r2,p2,_⟩:=I.tuple j;refine HT.cat_tup p1 p2 (λz=>i (J.zp.mp z)) (λz=>⟨.ref a,H,I,rfl,g (r2.zp.mp z)⟩) (λz=>?_) (by rw[<- J.length,<- r2.length];exact c);refine⟨.ref s.heap.objs.size,_,I.laid (t':=s.toks) (o:=.tup (xs++ys)) (λb l q=>r_ _ q) (v_ _) ?_,rfl,f (λw=>z (r2.zp.mpr w)) _ (I.hok.fresh (v_ _))⟩
 exact⟨by rw[FG];exact c,_,J.append r2,IsTup.new _ _⟩
end
noncomputable def ixN(n:Nat)(i:Int):Option Nat:=if 0<=i then(if i<n then a_ i.toNat else c_)else if -(n:Int)<=i then a_ (i+n).toNat else c_
def atI(xs:List α)(i:Int):Option α:=(ixN xs.length i).bind λj=>xs[j]?
theorem uZ{j:Nat}(h:ixN n i=a_ j):Of i n=a_ j/\j<n/\ -(n:Int)<=i/\i<n:=by
 unfold ixN at h;by_cases I:0<=i
 ·rw[g_ I]at h;by_cases h1:i<n
  ·rw[g_ h1]at h;have e:i.toNat=j:=FW h;exact⟨by rw[Nk I h1,e],by omega,by omega,h1⟩
  ·rw[l_ h1]at h;cases h
 ·rw[l_ I]at h;by_cases h1: -(n:Int)<=i
  ·rw[g_ h1]at h;have e:(i+n).toNat=j:=FW h;exact⟨by rw[MU (by omega) h1,e],by omega,h1,by omega⟩
  ·rw[l_ h1]at h;cases h
theorem A4{xs:List α}{v:α}(h:atI xs i=a_ v):∃j,Of i xs.length=a_ j/\xs[j]?=a_ v/\j<xs.length/\ -(xs.length:Int)<=i/\i<xs.length:=by
 unfold atI at h;cases e:ixN xs.length i with
 |none=>rw[e]at h;cases h|some j=>rw[e]at h;obtain⟨h1,h2,J,I⟩:=uZ e;exact⟨j,h1,h,h2,J,I⟩
def Fw(b:GO):Prop:=∀o i,Lo b b_ o i=operate [o,i] (Kr o i)
def IxR(X:Cx)(r:R2):Prop:=
 ∀(value I:GO) (B':Vp) (s:y_) (σ:St) (H:Hp) (x y:V) (v u:j_) (Q:VK),C' X B' σ H s->Hh x v->Hh y u->r x y H Q ->
  Lo I b_ v u=operate [v,u] (Kr v u)->D_ (FE X.prog X.w) X.A (Mz value I v u) (EP X B' σ Q) X.xe s
def MtR(X:Cx)(id:String)(r:V->List V->Hp->VK->Prop):Prop:=
 ∀(B':Vp) (s:y_) (σ:St) (H:Hp) (x:V) (xs:List V) (v:j_) (us:List j_) (Q:VK),C' X B' σ H s->Hh x v->Hn xs us->r x xs H Q ->
  D_ (FE X.prog X.w) X.A (Ja (.builtin id) (v::us)) (EP X B' σ Q) X.xe s
section
variable{a b:GO}{ta tb:TE} 
theorem IxR.or{r r':R2}(h:IxR X r)(h':IxR X r'):IxR X (λx y H Q=>r x y H Q\/r' x y H Q):=by
 intro value J B' s σ H x y v u Q I a Y q b;rcases q with q|q
 ·exact h value J B' s σ H x y v u Q I a Y q b
 ·exact h' value J B' s σ H x y v u Q I a Y q b
theorem pe_ix{r:R2}(e:IxR X r)(g:PE X a ta)(f:PE X b tb)(d:Fw b):PE X (.Subscript a b pos) (tOp r ta tb):=by intro B' s σ H Q I h;exact NI (binT g f I h λv u J x y H2 i c Y q=>e a b B' J σ H2 x y v u Q i c Y q (d _ _))
def rIxL(K:Pn):R2:=λx y H Q=>∃p xs i v,x=.ref p/\y=.int i/\SqL K H p xs/\atI xs i=a_ v/\Q v H
def rIxT(K:Pn):R2:=λx y H Q=>∃p xs i v,x=.ref p/\y=.int i/\SqT K H p xs/\atI xs i=a_ v/\Q v H
def rIxS:R2:=λx y H Q=>∃z i c,x=.str z/\y=.int i/\z.length<=f_/\atI z.cps.toList i=a_ c/\Q (.str ⟨#[c]⟩) H
theorem ix_list:IxR X (rIxL X.K):=by
 intro value Y B' s σ H x y v u Q I g f h c;obtain⟨p,xs,i,z,rfl,rfl,k,m,q⟩:=h;cases g;obtain⟨t,rfl⟩:=f;obtain⟨F9,r,pl,A⟩:=I.list k;obtain⟨j,h1,h2,C,o,n⟩:=A4 m;obtain⟨w,e,a⟩:=r.get h2;have l:=r.length;have B:=qV;have J:EP X B' σ Q w s:=⟨z,H,I,a,q⟩
 by_cases d:0<=i
 ·have b:i.toNat=j:=by
   rw[Nk d n]at h1;exact FW h1
  exact item_listR pl.isList d (by omega) (by rw[b];simpa using e) J c
 ·have b:(i+(F9.toArray.size:Int)).toNat=j:=by
   rw[MU (by omega) o]at h1;rw[A_,<- l];exact FW h1
  exact M3 (x:=w) pl.isList.typeIs NU.lookup
   (wpAny_getItem_list_neg (Q:=λr s'=>r=w/\EP X B' σ Q r s') pl.isList (by omega) (by rw[A_]<;>omega) (by omega) (by rw[b];simpa using e) ⟨rfl,J⟩) c
theorem ix_tup:IxR X (rIxT X.K):=by
 intro value J B' s σ H x y v u Q I c b h d;obtain⟨p,xs,i,z,rfl,rfl,e,g,q⟩:=h;cases c;obtain⟨t,rfl⟩:=b;obtain⟨F9,r,pl,l⟩:=I.tuple e;obtain⟨j,h1,h2,A,o,n⟩:=A4 g;obtain⟨w,k,Y⟩:=r.get h2;have f:=r.length;have m:=qV;have a:EP X B' σ Q w s:=⟨z,H,I,Y,q⟩
 exact M3 (x:=w) pl.typeIs HU.lookup
  (getItem_tuple (j:=j) (Q:=λr s'=>r=w/\EP X B' σ Q r s') pl (by omega) (by omega) (by rw[A_,<- f];exact h1) (by simpa using k) ⟨rfl,a⟩) d
theorem ix_str:IxR X rIxS:=by
 intro value J B' s σ H x y v u Q I a Y h b;obtain⟨z,i,c,rfl,rfl,k,e,q⟩:=h;obtain⟨t,rfl⟩:=a;obtain⟨t',rfl⟩:=Y;obtain⟨j,h1,h2,m,g,f⟩:=A4 e;have d:z.cps.toList.length=z.length:=by simp[Str.length]
 rw[d]at h1 g f;have l:=qV;exact tail_any (JW s z t) slot_str_getitem.lookup (getItem_str (c:=c) (by have e1:q_ (i< -(2^63:Int))=b_:=m_ (by omega);have e2:q_ (i>=2^63)=b_:=m_ (by omega);rw[e1,e2,Bool.or_false]) (by rw[h1];simpa using h2) ⟨.str ⟨#[c]⟩,H,I.tok _,⟨_,rfl⟩,q⟩) b
def rIx(K:Pn):R2:=λx y H Q=>rIxL K x y H Q\/rIxT K x y H Q\/rIxS x y H Q
theorem ix_seq:IxR X (rIx X.K):=ix_list.or (ix_tup.or ix_str)
theorem BN(F9:List j_)(n j:Nat)(u:j_):Kl (·.setIfInBounds j u) {cls:=.type "list",data:=.seq F9.toArray n}={cls:=.type "list",data:=.seq (F9.set j u).toArray n}:=by simp[Kl]
theorem C'.lst{B':Vp}{σ:St}{H:Hp}{s:y_}{p:i_}{xs:List V}(I:C' X B' σ H s)(h:H p=a_ (.lst xs)):
  ∃(F9:List j_) (n:Nat),Hn xs F9/\s.heap.get? p=a_ {cls:=.type "list",data:=.seq F9.toArray n}/\xs.length<=f_:=by
 obtain⟨z,F9,n,r,e⟩:=I.hok p _ h;exact⟨F9,n,r,e,z⟩
theorem C'.lstUpd{p:i_}{xs ys:List V}{J:Nat}{f:JJ->JJ}(I:C' X B' σ H s)(h:H p=a_ (.lst xs))(c:s.heap.get? p=a_ {cls:=.type "list",data:=.seq F9.toArray n})(Y:f {cls:=.type "list",data:=.seq F9.toArray n}={cls:=.type "list",data:=.seq its'.toArray J})(r:Hn ys its')(a:ys.length<=f_)(t:Nat):
  C' X B' σ (upd H p (.lst ys)) {s with heap:=s.heap.update p f,toks:=t}:=by
 have e:(s.heap.update p f).get? p=a_ {cls:=.type "list",data:=.seq its'.toArray J}:=by rw[Ih f c (by rw[Y]<;>rfl),Y]
 refine I.write (x:=p) (e:=p) (by rw[h];trivial) (.inl rfl) (λb u d q=>(Gd _ _ (FZ d)).trans q) ⟨_,e⟩ ?_;exact⟨a,its',J,r,e⟩
def rSetL:V->V->V->Hp->(Hp->Prop)->Prop:=λo i v H Q=>∃p xs k j,o=.ref p/\i=.int k/\H p=a_ (.lst xs)/\ixN xs.length k=a_ j/\Q (upd H p (.lst (xs.set j v)))
theorem set_list:PSet X rSetL:=by
 intro B' s σ H o i v w x u Q I ro ri g h;obtain⟨p,xs,k,j,rfl,rfl,b,m,q⟩:=h;cases ro;obtain⟨t,rfl⟩:=ri;obtain⟨F9,n,r,J,l⟩:=I.lst b;obtain⟨h1,h2,d,c⟩:=uZ m;have Y:=r.length;have y:=qV;have f:C' X B' σ (upd H p (.lst (xs.set j v))) {s with heap:=s.heap.update p (Kl (·.setIfInBounds j u))}:=
  I.lstUpd b J (BN F9 n j u) (r.set g j) (by rw[Cb];exact l) s.toks
 by_cases e:0<=k
 ·have a:k.toNat=j:=by
   rw[Nk e c]at h1;exact FW h1
  exact PySem.W.ki_setAt J e (by omega) (by rw[A_,<- Y];exact c) (by rw[a];exact⟨_,f,q⟩)
 ·have a:(k+(F9.toArray.size:Int)).toNat=j:=by
   rw[MU (by omega) d]at h1;rw[A_,<- Y];exact FW h1
  exact PySem.W.ki_setBack J (by omega) (by rw[A_,<- Y];exact d) (by omega) (by rw[a];exact⟨_,f,q⟩)
theorem wc(lo hi:Option Int)(n:Nat):(Jj lo hi c_ n).1=((HT.sIx n 0 lo:Nat):Int)/\(Jj lo hi c_ n).2.1=((HT.sIx n n hi:Nat):Int)/\(Jj lo hi c_ n).2.2=1:=by
 refine⟨?_,?_,rfl⟩
 ·cases lo with
  |none=>simp[Jj,HT.sIx]|some i=>
   simp only[Jj,HT.sIx,MP,show(1:Int)>0 by decide,Ln];by_cases h:i<0
   ·simp only[h,Ln]<;>omega
   ·simp only[h,Nx]<;>omega
 ·cases hi with
  |none=>simp[Jj,HT.sIx]|some i=>
   simp only[Jj,HT.sIx,MP,show(1:Int)>0 by decide,Ln];by_cases h:i<0
   ·simp only[h,Ln]<;>omega
   ·simp only[h,Nx]<;>omega
theorem uy(F9:List j_)(lo hi:Option Int):slicePick F9.toArray lo hi c_=((F9.drop (HT.sIx F9.length 0 lo)).take (HT.sIx F9.length F9.length hi-HT.sIx F9.length 0 lo)).toArray:=by obtain⟨h1,h2,I⟩:=wc lo hi F9.toArray.size;unfold slicePick;rw[h1,h2,I];simp only[sliceRange_one,pick_run,A_]<;>rfl
def rSlL(K:Pn):V->Option Int->Option Int->Hp->VK->Prop:=λx lo hi H Q=>∃a xs,x=.ref a/\SqL K H a xs/\∀p,H p=c_->Q (.ref p) (upd H p (.lst (cutV xs lo hi)))
theorem sl_list:SlR X (rSlL X.K):=by
 intro B' s σ H x v j i lo hi k Q I c g pl d h;obtain⟨a,xs,rfl,f,q⟩:=h;cases c;obtain⟨F9,r,Y,e⟩:=I.list f;have J:=r.length;refine⟨"list",_,NU.lookup,Y.isList.typeIs,?_⟩
 refine wpAny_getItem_list_slice Y.isList g pl d .none (by simp) ?_ (by rw[A_]<;>omega);rw[uy,<- J];refine⟨.ref s.heap.objs.size,_,I.laid (t':=s.toks) (o:=.lst (cutV xs lo hi)) (λb l q=>r_ _ q) (v_ _) ?_,rfl,q _ (I.hok.fresh (v_ _))⟩
 exact⟨Gb (rP xs lo hi) e,_,0,(r.drop (HT.sIx xs.length 0 lo)).take (HT.sIx xs.length xs.length hi-HT.sIx xs.length 0 lo),FK _ rfl⟩
theorem kE:g7 X (.builtin "len") (λxs H Q=>∃p ys,xs=[.ref p]/\(SqL X.K H p ys\/SqT X.K H p ys)/\Q (.int ys.length) H):=by
 intro B' s σ H xs us Q I r h;obtain⟨p,ys,rfl,Y,q⟩:=h;obtain⟨u,rfl,a⟩:=vals1 r;cases a;have c:=qV;rcases Y with Y|Y
 ·obtain⟨F9,r',pl,b⟩:=I.list Y;have J:=r'.length;exact Calls.call_len_list pl.isList (by simp only[A_]<;>omega) ⟨.int ys.length,H,I.tok _,⟨s.toks+1,by rw[A_,J]⟩,q⟩
 ·obtain⟨F9,r',pl,b⟩:=I.tuple Y;have J:=r'.length;exact len_tuple pl (by simp only[A_]<;>omega) ⟨.int ys.length,H,I.tok _,⟨s.toks+1,by rw[A_,J]⟩,q⟩
theorem yg:g7 X (.builtin "len") (λxs H Q=>∃z,xs=[.str z]/\z.length<=f_/\Q (.int z.length) H):=by intro B' s σ H xs us Q I r h;obtain⟨z,rfl,J,q⟩:=h;obtain⟨u,rfl,t,rfl⟩:=vals1 r;have Y:=qV;exact len_str (by omega) ⟨.int z.length,H,I.tok _,⟨_,rfl⟩,q⟩
theorem g7.or{f:j_}{r r':List V->Hp->VK->Prop}(h:g7 X f r)(h':g7 X f r'):g7 X f (λxs H Q=>r xs H Q\/r' xs H Q):=by
 intro B' s σ H xs us Q I rs q;rcases q with q|q
 ·exact h B' s σ H xs us Q I rs q
 ·exact h' B' s σ H xs us Q I rs q
theorem gQ:g7 X (.type "list") (λxs H Q=>∃p ys,xs=[.ref p]/\(SqL X.K H p ys\/SqT X.K H p ys)/\∀l,H l=c_->Q (.ref l) (upd H l (.lst ys))):=by
 intro B' s σ H xs us Q I r h;obtain⟨p,ys,rfl,c,q⟩:=h;obtain⟨u,rfl,j⟩:=vals1 r;cases j;have f:∀(F9:List j_),Hn ys F9->ys.length<=f_->∀(h':Gv) (J:Nat),(∀b o',s.heap.get? b=a_ o'->h'.get? b=a_ o') ->
   h'.get? s.heap.objs.size=a_ {cls:=.type "list",dict:=c_,data:=.seq F9.toArray J,slots:=#[]}->EP X B' σ Q (.ref s.heap.objs.size) {s with heap:=h'}:=λF9 r' a h' J Y e=>
  ⟨.ref s.heap.objs.size,_,I.laid (t':=s.toks) Y (v_ _) (show cQ X.prog X.w _ h' _ (.lst ys)from⟨a,F9,J,r',e⟩),rfl,q _ (I.hok.fresh (v_ _))⟩
 rcases c with c|c
 ·obtain⟨F9,r',pl,a⟩:=I.list c;have d:=r'.length;obtain⟨o,g,i,n,hd⟩:=pl.isList;exact call_list_seq p (.inl rfl) g i hd (λh' J Y e=>f F9 r' a h' J Y e) (by simp only[A_]<;>omega)
 ·obtain⟨F9,r',pl,a⟩:=I.tuple c;have d:=r'.length;obtain⟨o,g,i,n,hd⟩:=pl;exact call_list_seq p (.inr rfl) g i hd (λh' J Y e=>f F9 r' a h' J Y e) (by simp only[A_]<;>omega)
def tyV(K:Pn)(T:String)(x:V)(H:Hp):Prop:=match x with
 |.str _=>T="str"|.int _=>T="int"|.ref p=>(T="list"/\∃xs,SqL K H p xs)\/(T="tuple"/\∃o,K.lookup p=a_ o/\o.cls=.type "tuple"/\o.dict=c_) \/
   (T="dict"/\((∃D',H p=a_ (.dK D'))\/∃D',H p=a_ (.dT D')))\/(T="set"/\∃S n,H p=a_ (.set S n))
 |_=>False
theorem tyV_is{v:j_}(I:C' X B' σ H s)(r:Hh x v)(ty:tyV X.K T x H):
  s.TypeIs v T/\∀a,v=.ref a->∃Y,s.heap.get? a=a_ Y/\Y.dict=c_:=by
 cases x with
 |str z=>obtain⟨t,rfl⟩:=r;cases(show T="str" from ty);exact⟨JW s z t,λ_ e=>nomatch e⟩
 |int i=>obtain⟨t,rfl⟩:=r;cases(show T="int" from ty);exact⟨typeIs_int s i t,λ_ e=>nomatch e⟩
 |ref p=>
  cases r;rcases ty with⟨rfl,xs,b⟩|⟨rfl,o,J,d,hd⟩|⟨rfl,J⟩|⟨rfl,S,n,J⟩
  ·obtain⟨F9,_,pl,_⟩:=I.list b;refine⟨pl.isList.typeIs,λa e=>?_⟩
   cases e;obtain⟨o,n,e,c,hd,_⟩:=pl;exact⟨o,e,hd⟩
  ·refine⟨⟨o,I.kIn p o J,d⟩,λa e=>?_⟩
   cases e;exact⟨o,I.kIn _ o J,hd⟩
  ·have z:∃o,s.heap.get? p=a_ o/\o.ExactDict:=by
    rcases J with⟨D',J⟩|⟨D',J⟩
    ·obtain⟨_,_,_,_,o,_,_,e,ex,_⟩:=I.hok p _ J;exact⟨o,e,ex⟩
    ·obtain⟨_,_,_,_,o,_,_,e,ex,_⟩:=I.hok p _ J;exact⟨o,e,ex⟩
   obtain⟨o,e,ex⟩:=z;refine⟨⟨o,e,ex.1⟩,λa e2=>?_⟩
   cases e2;exact⟨o,e,ex.2.1⟩
  ·obtain⟨o,_,_,_,e,ex,_⟩:=I.hok p _ J;refine⟨⟨o,e,ex.1⟩,λa e2=>?_⟩
   cases e2;exact⟨o,e,ex.2.1⟩
 |_=>exact GA ty
def tBM(K:Pn)(T:String)(r:V->List V->Hp->VK->Prop)(to:TE)(t:TA):TE:=λσ H Q=>to σ H λx H1=>tyV K T x H1/\t σ H1 λxs H2=>r x xs H2 Q
variable{o:GO}{es:List GO}{to:TE}{t:TA}{name:p_}{apos cpos:Np}{id:String}{r:V->List V->Hp->VK->Prop}
theorem lY(p:PlainAttrs T)(b:Slot T name id)(d:typeOf (.builtin id)=GZ (.type "method_descriptor"))(w:MtR X id r)(u:PE X o to)(y:PA X (e::es) t)(a: ~~~(GQ o name X.env (FR o X.env)=FR o X.env))(c: ~~~(((Gh cpos (h_ (e::es) X.env)).all (λx=> !x.1)&&(Ho cpos (GJ [] X.env)).all (λx=>x.1.isSome)
   &&q_ ((e::es).length+([]:List Hk).length+(if ([]:List Hk).isEmpty then 0 else 1)<30))=d_))(Y: ~~~((apos.endLine==cpos.line)=d_))(q: ~~~(h_ (e::es) X.env=(b_,FR e X.env)::h_ es X.env))(J: ~~~((Gh cpos (h_ es X.env)).any (·.1)=b_)):
  PE X (.Call (.Attribute o name apos) (e::es) [] cpos) (tBM X.K T r to t):=by
 intro B' s σ H Q I h;refine wpAny_Call_method_late a c Y rfl (HH (u B' s σ H _ I h) λv l f=>?_);obtain⟨x,H1,j,g,ty,n⟩:=f;obtain⟨h1,h2⟩:=tyV_is j g ty;refine⟨T,id,p,b,d,h1,h2,?_⟩
 have i:=y cpos B' l σ H1 _ j n;rw[q]at i ⊢;refine JF (by show(b_||(Gh cpos (h_ es X.env)).any (·.1))=b_;rw[J]<;>rfl) (JS ?_);refine HH i λus k f=>?_;obtain⟨vs,H2,z,r2,m⟩:=f;exact w B' k σ H2 x vs v us Q z g r2 m
/- xs.append(e),list.index on a module's tuple .. are MtR facts of 06m -/
end
def MtM(X:Cx)(id:String)(r:V->List V->Hp->VK->Prop):Prop:=
 ∀(B':Vp) (s:y_) (σ:St) (H:Hp) (x:V) (xs:List V) (v:j_) (us:List j_) (Q:VK),C' X B' σ H s->Hh x v->Hn xs us->r x xs H Q ->
  D_ (FE X.prog X.w) X.A (Ja (.builtin id) (v::us)) (EP X B' σ Q) X.xe s
theorem Hn.one(h:Hn [x] us):∃u,us=[u]/\Hh x u:=by
 cases h with
 |cons r t=>cases t;exact⟨_,rfl,r⟩
theorem Hn.two{y:V}(h:Hn [x,y] us):∃u v,us=[u,v]/\Hh x u/\Hh y v:=by
 cases h with
 |cons r t=>obtain⟨v,rfl,q⟩:=Hn.one t;exact⟨_,_,rfl,r,q⟩
theorem Hn.zero:∀{us:List j_},Hn [] us->us=[]
 |_,.nil=>rfl
theorem Hn.dropLast{xs:List V}{us:List j_}(h:Hn xs us):Hn xs.dropLast us.dropLast:=by
 induction h with
 |nil=>exact .nil|cons r t I=>
  cases t with
  |nil=>exact .nil|cons q t'=>exact .cons r I
theorem Hn.eraseIdx:∀{xs:List V} {us:List j_} (i:Nat),Hn xs us->Hn (xs.eraseIdx i) (us.eraseIdx i)
 |_,_,_,.nil=>.nil|_,_,0,.cons _ t=>t|_,_,i+1,.cons r t=>.cons r (Hn.eraseIdx i t)
theorem xq{α:Type}:∀(l:List α) (i:Nat),(l.eraseIdx i).length<=l.length
 |[],_=>v_ _|_::_,0=>Gk _|_::r,i+1=>Nat.succ_le_succ (xq r i)
section
variable{l:i_}{xs ys:List V}
theorem C'.lset{f:Array j_->Array j_}{t':Nat}(I:C' X B' σ H s)(c:H l=a_ (.lst xs))(e:s.heap.get? l=a_ {cls:=.type "list",data:=.seq F9.toArray n})(a:f F9.toArray=its'.toArray)(hv:Hn ys its')(J:ys.length<=f_):
  C' X B' σ (upd H l (.lst ys)) {s with heap:=s.heap.update l (Kl f),toks:=t'}:=by
 have q:=PySem.IsL.update e f;rw[a]at q;refine I.write (x:=l) (e:=l) (by rw[c];exact trivial) (.inl rfl) (λd u b Y=>(Gd s.heap (Kl f) (FZ b)).trans Y) ⟨_,q⟩ ?_;exact⟨J,its',_,hv,q⟩
theorem C'.lnew{t':Nat}(I:C' X B' σ H s)(hv:Hn ys F9)(J:ys.length<=f_):
  C' X B' σ (upd H s.heap.objs.size (.lst ys)) {s with heap:=s.heap.push {cls:=.type "list",data:=.seq F9.toArray},toks:=t'}:=
 I.laid (λ_ _ q=>r_ _ q) (v_ _) ⟨J,F9,0,hv,FK _ rfl⟩
theorem C'.fresh(I:C' X B' σ H s):H s.heap.objs.size=c_:=I.hok.fresh (v_ _)
theorem C'.lstM(I:C' X B' σ H s)(J:H l=a_ (.lst xs)):xs.length<=f_/\∃(F9:List j_) (n:Nat),Hn xs F9/\xs.length=F9.length/\s.heap.get? l=a_ {cls:=.type "list",data:=.seq F9.toArray n}:=by obtain⟨z,F9,n,r,e⟩:=I.hok l _ J;exact⟨z,F9,n,r,r.length,e⟩
theorem notLongL(h:n<=f_):Jb n=b_:=by unfold Jb;exact m_ (by omega)
end
def jc:V->List V->Hp->VK->Prop:=λx vs H Q=>∃l xs y,x=.ref l/\vs=[y]/\H l=a_ (.lst xs)/\xs.length<f_/\Q .non (upd H l (.lst (xs++[y])))
theorem dX:MtM X "list.append" jc:=by
 intro B' s σ H x vs v us Q I Y a h;obtain⟨l,xs,y,rfl,rfl,J,c,q⟩:=h;cases Y;obtain⟨u,rfl,b⟩:=a.one;obtain⟨z,F9,n,r,d,e⟩:=I.lstM J;refine JX Gf ⟨_,e,rfl⟩ F.entry_list_append (F.args_list_append_2 _ _) (PySem.list_append l F9.toArray n u (by rw[A_];omega)) ⟨e,?_⟩;refine⟨.non,_,I.lset (its':=F9++[u]) J e (by simp) (r.append (.cons b .nil)) ?_,rfl,q⟩
 rw[FG,Ii];omega
def Dy:V->List V->Hp->VK->Prop:=λx vs H Q=>∃l b xs I,x=.ref l/\vs=[.ref b]/\H l=a_ (.lst xs)/\H b=a_ (.lst I)/\xs.length+I.length<=f_/\Q .non (upd H l (.lst (xs++I)))
theorem Eb:MtM X "list.extend" Dy:=by
 intro B' s σ H x vs v us Q I c d h;obtain⟨l,b,xs,j,rfl,rfl,a,i,m,q⟩:=h;cases c;obtain⟨u,rfl,f⟩:=d.one;cases f;obtain⟨z,F9,n,r,o,e⟩:=I.lstM a;obtain⟨k,J,n2,r2,g,e2⟩:=I.lstM i;have hsz:F9.toArray.size+J.toArray.size<=f_:=by rw[A_,A_];omega
 have Y:¬(!F9.toArray.isEmpty&&Jb (F9.toArray.size+J.toArray.size))=d_:=by rw[notLongL hsz,HL];exact Gu
 refine JX Ma ⟨_,e,rfl⟩ F.entry_list_extend (F.args_list_extend_2 _ _)
  (AutoSeq1.list_extend_list_list_0 l F9.toArray n b J.toArray n2 Y (by rw[A_];omega) (by omega)) ⟨e,e2,?_⟩
 refine⟨.non,_,I.lset (its':=F9++J) a e (by simp) (r.append r2) ?_,rfl,q⟩
 rw[FG];omega
def Dx:V->List V->Hp->VK->Prop:=λx vs H Q=>∃l xs i k y,x=.ref l/\vs=[.int i]/\H l=a_ (.lst xs)/\ -(2^63)<=i/\i<2^63/\Of i xs.length=a_ k/\xs[k]?=a_ y/\Q y (upd H l (.lst (xs.eraseIdx k)))
theorem AL:MtM X "list.pop" Dx:=by
 intro B' s σ H x vs v us Q I a b h;obtain⟨l,xs,i,k,y,rfl,rfl,Y,h1,h2,g,d,q⟩:=h;cases a;obtain⟨u,rfl,c⟩:=b.one;obtain⟨t,rfl⟩:=c;obtain⟨z,F9,n,r,f,e⟩:=I.lstM Y;obtain⟨w,hw,J⟩:=r.get d;refine JX JY ⟨_,e,rfl⟩ F.entry_list_pop (F.args_list_pop_2 _ _)
  (MeetsSeq.list_pop_at l F9.toArray n i t k w (fitsIndex_both h1 h2) (by rw[A_,<- f];exact g) (by rw[<- Array.getElem?_toList];exact hw) (by rw[A_];omega)) ⟨e,?_⟩
 refine⟨y,_,I.lset (its':=F9.eraseIdx k) Y e ?_ (r.eraseIdx k) ?_,J,q⟩
 ·show F9.toArray.eraseIdxIfInBounds k=(F9.eraseIdx k).toArray;rw[List.eraseIdxIfInBounds_toArray]
 ·have:=xq xs k;omega
end Lake
namespace Lake.Att
open PySem PySem.W PySem.Calls PyProof.Rows
theorem rh{P:Params}{h:Gv}:∀(ns:List Int) (vs:List j_),WellAll P h vs (ns.map WData.int)->LP vs ns:=by
 intro ns
 induction ns with
 |nil=>intro vs w;rw[HI]at w;cases w;exact .nil|cons n ns I=>
  intro vs w;rw[C_]at w;cases w with
  |cons a b=>cases a;exact .cons _ _ (I _ b)
theorem Di{l:Kk}{n:Nat}(k:l.most=a_ n){P:Params}{h:Gv}{args:List WData}{I:List j_}(J:l.row.toRowW.claim.pre args=d_)(e:WellAll P h I args):
  ∃a vs ns,I=[FF a]/\args=[WData.list (ns.map WData.int)]/\h.get? a=a_ {cls:=.type "list",data:=.seq vs.toArray}/\LP vs ns/\ns.length<=n:=by
 have f:WShape.hasAll [] args [.list .int]=d_:=(pre_splitW J).1;have g:l.pre.holds [] {args:=args}=d_:=(pre_splitW J).2;obtain⟨d,r,rfl,h1,h2⟩:=hasAllW_cons f;obtain rfl:=hasAllW_nil h2;obtain⟨xs,rfl,m⟩:=hasW_list h1;obtain⟨ns,rfl⟩:=items_int m;have Y:ns.length<=n:=by
  unfold OpenLaw.pre at g;have c:(WTm.not (.lt (.lit (.int (n:Int))) (.len (.arg 0)))).holds [] {args:=[.list (ns.map .int)]}=d_:=by have c:=(holds_andW g).1;rw[k]at c;exact c
  have h5:=condW_of c (w_not (w_lt w_lit (w_len_list (w_arg rfl))));rw[t_]at h5;refine Nat.le_of_not_lt λq=>?_;have i:(n:Int)<((ns.length:Nat):Int):=by omega
  first
   |(rw[s_ i]at h5;exact FJ h5 (by decide))
   |(simp at h5;omega)
 cases e with
 |cons w1 w2=>
  cases w2;cases w1 with
  |list j b=>exact⟨_,_,ns,rfl,rfl,j,rh ns _ b,Y⟩
theorem DH(l:Kk)(args:List WData):l.row.toRowW.claim.post args (.bool d_) args=d_:=
 postW_of (r:=l.row.toRowW) (X:=(d_==d_))
  (show WShape.has [] (.bool d_) .bool=d_ by first|rfl|decide|simp[WShape.has,WShape.arms,WShape.armsAll])
  (show(WTm.eq .res (.lit (.bool d_))).value [] {args:=args,res:=a_ (.bool d_),after:=args}=a_ (.bool (d_==d_))from w_eq_bool (w_res rfl) w_lit) rfl
theorem A3{l:Kk}{n:Nat}{q:GH}{b:List p_}{z:(Ld)->Gv->Prop}{y:GV->Gv->Prop}{d:DefRec}(D:l.most=a_ n)(p:d.params.defaults=[])(i:∀(w:GV) (J I:y_) (mg j:Ld) (fa:i_) (o:JJ) (pm cd doc:j_) (a:i_) (vs:List j_) (ns:List Int),
   Ground q b [] z w J mg j I.heap->y w I.heap ->
   I.heap.get? fa=a_ o->o.data=.func (docDef d.name d.params d.body d.scope pm cd doc)->I.heap.CodeRec cd d.name->mg d.name=a_ (.ref fa) ->
   I.heap.get? a=a_ {cls:=.type "list",data:=.seq vs.toArray}->LP vs ns->ns.length<=n->I.gens=#[] ->
   IZ (FE l.prog w) K1 (.call (.ref fa) ⟨[.ref a],[]⟩) (λr s'=>r=.ok (.ret (.bool d_))/\OldK I.heap s'.heap/\s'.os=I.os/\JM s'.gens) I):
  Mw q b z y l.row.toRowW d [] (λf vs=>Ja f vs):=by
 intro w J I mg j G Y fa o pm cd doc N kV C hd s v m H x t as e u A k F;obtain rfl:N=.none:=Dflts.none v p;obtain rfl:kV=.none:=Dflts.noKw v;obtain⟨a,vs,ns,rfl,rfl,g,c,h⟩:=Di D e k;refine enter_call (HK (i w J I mg j fa o pm cd doc a vs ns G Y C (fd_plain hd) s m g c h H) λr s' B=>?_);obtain⟨rfl,h2,L,K⟩:=B;exact⟨.inl ⟨.bool d_,.bool d_,[],rfl,λ_=>rfl,.bool d_,DH l _,λ_=>⟨Oz,λ_ E=>(nomatch E)⟩⟩,h2,L,K⟩
end Lake.Att
namespace Lake
open PySem PySem.Spec PyProof.Rows
variable{P prog:GH}{w:GV}{K:Pn}{mg:Ld}{CX:CXT}{a f l b c L it C fad C2 fI C1 ar al CN:i_}{fd fdI:Hv}{x qual m z nm:p_}{sp:Sp}{n i nN nN2 n2 ep ep' lo ir il ia di ni ri:Nat}{X:Cx}{st b₀:GK}{ps N' N sn:List p_}{oc doc pm cdv ct mc u hv cd:j_}{od an dx dd:Option i_}{osl:Array (Option j_)}{pos spos py p apos pos' q p2 p3 cpos np hpos p1:Np}{A:HE}{B T newId initId:String}{H H1 H2 H' F F' H0 F1 F0 FB G G' Hc:Hp}{scope sc:K4}{env:Ll}{E E' E1 E2 E3:XK}{s:y_}{B':Vp}{σ σ':St}{ix:List (Option Nat)}{fp as ch:List i_}{R:Bool->Hp->Prop}{elt tg iter e o value e1 e2 e3 e4 e5:GO}{ifs es elts:List GO}{tt:TT}{te ta tb tc td tv:TE}{y v vw:V}{us bmB tl sub:List j_}{h h':Gv}{cs:List (p_×i_)}{rows:List (List Int)}{dvs vs:List V}{pl:N2 Bool}{S:i_->Prop}{Q:VK}{O O2 OL O':List Nat}{ro bn hdct ab b1 b2 b3:Bool}{α:Type}{op op' op'':CmpOp}{sts body suite:List GK}{r':R2}{tk:Nv}{κ:SortKind}{D':List (List Key×V)}{trs:List (TE×TE)}{outer:List Ll}{oe:JJ}{ts:i_->Option i_->TS}{os:OsState}{col:Option Bool}{k0 k2 k3 k5:Option j_}{U:TS}{u0 u3 u4 u5 u6 u7 u8 u9 u10 u11:Option V}
theorem vU:∀{vs:List j_} {ns:List Int},LP vs ns->Hn (ns.map V.int) vs
 |_,_,.nil=>.nil|_,_,.cons n t h=>.cons ⟨t,rfl⟩ (vU h)
def Only(H:Hp):Prop:=∀b,H b=c_\/∃o xs,H b=a_ (.frz o (.lst xs))
theorem law_call{E:Ld}{k:Nat}{fa:i_}{I:y_}{vs:List j_}{ns:List Int}(X:K.In I.heap)(t:I.heap.Ns Gj mg)(Y:I.heap.Ns ND E)(N:∀x:p_,x≠"__name__"->E x=Hx x)(y:I.heap.NoLimit)(hg:I.gens=#[])(C:I.heap.get? a=a_ {cls:=.type "list",data:=.seq vs.toArray})(hi:LP vs ns)(T:ns.length<=f_)(hr:iJ k K1)(F:∀base:Gv,K.In base->base.Ns Gj mg->iL P w K mg base CX k fa fd [x] sp)(g:∀(s:y_) (u:j_),Kt s fd ⟨[u],[]⟩ [(x,u)])(G:∀H:Hp,Only H->SqL K H a (ns.map V.int)->sp [.ref a] H (λv _=>v=.bl d_) λ_ _ _=>False)(O:∀H e s',CX [] H I (λ_ _ _=>False) e s'->False):
  IZ (FE P w) K1 (.call (.ref fa) ⟨[.ref a],[]⟩) (λr s'=>r=.ok (.ret (.bool d_))/\OldK I.heap s'.heap/\s'.os=I.os/\JM s'.gens) I:=by
 have S:=vU hi;have j:=hi.length;have f:∀H:Hp,Only H->SqL K H a (ns.map V.int)->HOk P w H I.heap->(∀b,H b≠c_->b=a)->(H a≠c_->K.lookup a=c_) ->
   IZ (FE P w) K1 (.call (.ref fa) ⟨[.ref a],[]⟩) (λr s'=>r=.ok (.ret (.bool d_))/\OldK I.heap s'.heap/\s'.os=I.os/\JM s'.gens) I:=by
  intro H U hS p W hK;have J:∀{b:i_} {o:JJ},I.heap.get? b=a_ o->H b=c_->(hidT I.heap H).get? b=a_ o:=λe n=>hidT_get e n;have D:∀{b:i_} {o:JJ} {es:Array MO} {ep:Nat},I.heap.get? b=a_ o->o.data=.dict es ep->H b=c_:=λ{b o es ep} e d=>by
   cases q:H b with
   |none=>rfl|some u=>have Q:b=a:=W b (by rw[q];simp);subst Q;rw[C]at e;cases e;have d':Data.seq vs.toArray _=Data.dict es ep:=d;cases d'
  have c:∀{b:i_} {m:Ld},I.heap.Ns b m->(hidT I.heap H).Ns b m:=λ{b m} ⟨o,es,ep,e,d,r⟩=>⟨o,es,ep,J e (D e d),d,r⟩
  have A:K.In (hidT I.heap H):=λb o e=>J (X b o e) (by
   cases q:H b with
   |none=>rfl|some u=>have Q:b=a:=W b (by rw[q];simp);subst Q;rw[hK (by rw[q];simp)]at e;cases e)
  have hM:Mod K mg (hidT I.heap H):=⟨A,c t,⟨E,c Y,N⟩,let ⟨mc,h1,h2⟩:=y;⟨mc,c h1,h2⟩⟩
  have e0:Env0 P w K mg (hidT I.heap H) K1 [] I H:=⟨rfl,hM,λb o e=>of_hidT e,Ow (Et _ _),trivial,λb Y=>FJ (show b∈([]:List i_)from Y) (by simp),p,.of_eq hg⟩
  refine HK ((F _ A (c t)).run K1 [] I H ⟨[.ref a],[]⟩ [.ref a] [.ref a] _ _ hr e0 (g I (.ref a)) (.cons rfl .nil) (G H U hS)) λr s' h=>?_;cases r with
  |error e=>exact(O H e s' h).elim|ok fl=>
   cases fl with
   |next=>exact GA h|brk=>exact GA h|cont=>exact GA h|ret u=>
    obtain⟨v,H',os,B,R,l,r',q⟩:=h;have q':v=.bl d_:=q;subst q';obtain rfl:u=K3 d_:=r';refine⟨rfl,OldK.of_keep λb o e=>?_,os,B⟩
    cases q:H b with
    |none=>exact R.keep b o e q (by intro z;exact FJ (show b∈([]:List i_)from z) (by simp)) (by simp)|some u=>
     rcases U b with z|⟨ob,xs,z⟩
     ·rw[q]at z;cases z
     ·have Z:=R.frzs b ob _ z;obtain⟨e1,_⟩:=p b _ z;obtain⟨e2,_⟩:=l b _ Z;rw[e]at e1;cases e1;exact e2
 cases L:K.lookup a with
 |some o=>have e:=X a o L;rw[C]at e;cases e;refine f (λ_=>c_) (λ_=>.inl rfl) (.inr ⟨_,vs.toArray,_,L,rfl,rfl,rfl,by rw[A_,j];exact T,by simpa using S⟩) (λb u z=>by have i:(c_:Option HO)=a_ u:=z;cases i) (λb z=>FJ rfl z) λz=>FJ rfl z|none=>
  refine f (λb=>if b=a then a_ (.frz {cls:=.type "list",data:=.seq vs.toArray} (.lst (ns.map V.int)))else c_) (λb=>?_) (.inl (.inr ⟨{cls:=.type "list",data:=.seq vs.toArray},g_ rfl⟩)) (λb u z=>?_) (λb z=>?_) λ_=>L
  ·by_cases Y:b=a
   ·exact .inr ⟨_,_,g_ Y⟩
   ·exact .inl (l_ Y)
  ·by_cases Y:b=a
   ·have i:=(g_ Y).symm.trans z;cases i;subst Y;exact⟨C,by rw[t_];exact T,vs,_,S,C⟩
   ·have i:=(l_ Y).symm.trans z;cases i
  ·by_cases Y:b=a
   ·exact Y
   ·exact FJ (l_ Y) z
theorem walk_of{l:Kk}{k:Nat}{q:GH}{J:List p_}{Q:(Ld)->Gv->Prop}{y:GV->Gv->Prop}{d:DefRec}{K:Params->Pn}{CX:GV->CXT}{sp:GV->Sp}(B:l.most=a_ n)(j:n<=f_)(p:d.params.defaults=[])(A:iJ k K1)(L:∀(w:GV) (h:Gv),y w h->(K w.params).In h)(F:∀(w:GV) (mg:Ld) (fa:i_) (h:Gv),(K w.params).In h->h.Ns Gj mg->mg d.name=a_ (.ref fa) ->
   ∃fd:Hv,(∀(s:y_) (u:j_),Kt s fd ⟨[u],[]⟩ [(x,u)]) /\
    ∀base:Gv,(K w.params).In base->base.Ns Gj mg->iL l.prog w (K w.params) mg base (CX w) k fa fd [x] (sp w))(i:∀(w:GV) (H:Hp) (a:i_) (ns:List Int),ns.length<=n->Only H->SqL (K w.params) H a (ns.map V.int)->sp w [.ref a] H (λv _=>v=.bl d_) λ_ _ _=>False)(r:∀(w:GV) (H:Hp) (s:y_) (e:j_) (s':y_),CX w [] H s (λ_ _ _=>False) e s'->False):
  Mw q J Q y l.row.toRowW d [] (λf vs=>Ja f vs):=by
 refine Att.A3 B p λw t c mg R fa o pm cd doc a vs ns G Y S hd D m g b I C=>?_;have z:=L w _ Y;obtain⟨fd,E,P⟩:=F w mg fa _ z G.T.g m;exact law_call z G.T.g G.T.b G.T.builtins G.T.nolimit C g b (Gb I j) A P E (λH O N=>i w H a ns I O N) λH e s'=>r w H c e s'
noncomputable def inClass(s:GK)(j:Nat):GK:=match s with
 |.ClassDef _ _ _ body _ _ _ _ _ _ _=>body.getD j (.Pass ⟨0,0,0,0⟩)|_=>.Pass ⟨0,0,0,0⟩
noncomputable def dU(s:GK):Arguments:=match s with
 |.FunctionDef _ a _ _ _ _ _ _ _ _=>a|_=>{posonlyargs:=[],args:=[],vararg:=c_,kwonlyargs:=[],kw_defaults:=[],kwarg:=c_,defaults:=[]}
noncomputable def bO(s:GK):List GK:=match s with
 |.FunctionDef _ _ b _ _ _ _ _ _ _=>b|_=>[]
noncomputable def aE(s:GK):K4:=match s with
 |.FunctionDef _ _ _ _ _ _ sc _ _ _=>sc|_=>{kind:=.function,names:=[],isGenerator:=b_,isCoroutine:=b_}
noncomputable abbrev CX0:CXT:=λ_ _ _ _ _ _=>False
noncomputable abbrev E0:XK:=λ_ _ _=>False
theorem qO:Passes CX0 X E0:=λ_ _ _ _ _ _ _ h=>h.elim
structure Fun(K:Pn)(x qual:p_)(st:GK)(f:i_)(fd:Hv):Prop where
 ex:∃(oc:j_) (od:Option i_) (kV doc pm:j_) (an:Option i_) (cdv ct:j_) (osl:Array (Option j_)),
  fd=Kw x qual (dU st) (bO st) (aE st) .none kV doc pm an cdv ct/\K.lookup f=a_ ⟨oc,od,.func fd,osl⟩/\Lg K cdv qual=d_
 kp:H_ K (.ref f)=d_
theorem Fun.binds(F:Fun K x qual st f fd)(h:∀(kV doc pm:j_) (an:Option i_) (cdv ct:j_) (us:List j_),us.length=ps.length->Kj (Kw x qual (dU st) (bO st) (aE st) .none kV doc pm an cdv ct) ⟨us,[]⟩=GZ (ps.zip us)):Binds K fd ps []:=by obtain⟨oc,od,kV,doc,pm,an,cdv,ct,osl,rfl,J,I⟩:=F.ex;exact .all (h kV doc pm an cdv ct)
theorem AY{kV:j_}(l:K.lookup f=a_ ⟨oc,od,.func (Kw x qual (dU st) (bO st) (aE st) .none kV doc pm an cdv ct),osl⟩)(c:Lg K cdv qual=d_)(k:H_ K (.ref f)=d_):Fun K x qual st f (Kw x qual (dU st) (bO st) (aE st) .none kV doc pm an cdv ct):=⟨⟨oc,od,kV,doc,pm,an,cdv,ct,osl,rfl,l,c⟩,k⟩
theorem pv(i:Nat)(J: ~~~(X.N[i]?=a_ x))(hv:autoParam (Vis X.env.scope x) Jq4)(hd:((x==("__debug__":p_))=b_)⁻¹)(I:((x==("__classdict__":p_))=b_)⁻¹):PE X (.Name x pos) (bG i):=pe_var J hv hd I
theorem iteF{A B:Prop}(h:B):if b_=d_ then A else B:=by rw[l_ Gu];exact h
theorem iteNS{c A B:Prop}[Decidable c](I:c)(h:B):if (!decide c)=d_ then A else B:=by rw[s_ I];exact iteF h
def aF(H H':Hp):Prop:=∀b o,H b=a_ o->H' b=a_ o
theorem aF.refl(H:Hp):aF H H:=λ_ _ h=>h
theorem aF.trans(a:aF H H1)(b:aF H1 H2):aF H H2:=λc o h=>b c o (a c o h)
theorem aF.free(e:aF H H')(h:H' l=c_):H l=c_:=by
 cases q:H l with
 |none=>rfl|some o=>rw[e l o q]at h;cases h
noncomputable def ua(cells:List (p_×i_)):List (p_×Iq)->List (p_×i_)->List (p_×i_)
 |[],I=>I|(x,k)::r,I=>ua cells r (if (k==NameKind.free)=d_ then(x,(cells.lookup x).getD 0)::I else I)
theorem gt_ne(h1:b<a)(h2:a<c):c≠b:=by rintro rfl;exact FJ (JO h1 h2) (GP _)
theorem BW(h1:a<n)(h2:n<=b):a≠b:=by rintro rfl;exact FJ (FP h1 h2) (GP _)
theorem tZ{cells:List (p_×i_)}{x:p_}{c:i_}:∀(ns:List (p_×Iq)) (I:List (p_×i_)),(ua cells ns I).lookup x=a_ c ->
  ((x,NameKind.free)∈ns/\c=(cells.lookup x).getD 0)\/I.lookup x=a_ c
 |[],_,h=>.inr h|(y,k)::r,I,h=>by
  unfold ua at h;rcases tZ r _ h with⟨m,e⟩|q
  ·exact .inl ⟨FH _ m,e⟩
  ·by_cases Y:(k==NameKind.free)=d_
   ·rw[g_ Y,z_]at q;cases J:x==y with
    |true=>rw[J]at q;have e1:=HA J;have e2:=HA Y;subst e1 e2;exact .inl ⟨Gp,(FW q).symm⟩|false=>rw[J]at q;exact .inr q
   ·rw[l_ Y]at q;exact .inr q
theorem rT{cells:List (p_×i_)}{x:p_}:∀(ns:List (p_×Iq)) (I:List (p_×i_)),((x,NameKind.free)∈ns\/(I.lookup x).isSome=d_)->((ua cells ns I).lookup x).isSome=d_
 |[],_,h=>h.elim (λz=>nomatch z) id
 |(y,k)::r,I,h=>by
  unfold ua;refine rT r _ ?_;rcases h with h|h
  ·rcases x_.mp h with e|h
   ·cases e;refine .inr ?_;rw[g_ (by decide),z_];simp
   ·exact .inl h
  ·refine .inr ?_;by_cases J:(k==NameKind.free)=d_
   ·rw[g_ J,z_];cases Y:x==y with
    |true=>rfl|false=>exact h
   ·rw[l_ J];exact h
theorem mB{x:p_}{c:i_}:∀(ns:List (p_×Iq)) (n:Nat) (I:List (p_×i_)),(G1 n ns I).lookup x=a_ c->(n<=c/\(x,G9)∈ns)\/I.lookup x=a_ c
 |[],_,_,h=>.inr h|(y,k)::r,n,I,h=>by
  unfold G1 at h;by_cases Y:(k==G9)=d_
  ·rw[g_ Y]at h;rcases mB r (n+1) _ h with⟨a,m⟩|q
   ·exact .inl ⟨by omega,FH _ m⟩
   ·rw[z_]at q;cases J:x==y with
    |true=>rw[J]at q;have e1:=HA J;have e2:=HA Y;have e3:=FW q;subst e1 e2 e3;exact .inl ⟨v_ _,Gp⟩|false=>rw[J]at q;exact .inr q
  ·rw[l_ Y]at h;rcases mB r n I h with⟨a,m⟩|q
   ·exact .inl ⟨a,FH _ m⟩
   ·exact .inr q
theorem rV:∀(ns:List (p_×Iq)) (n:Nat) (I:List (p_×i_)),(∀x y c,I.lookup x=a_ c->I.lookup y=a_ c->x=y)->(∀x c,I.lookup x=a_ c->c<n) ->
  ∀x y c,(G1 n ns I).lookup x=a_ c->(G1 n ns I).lookup y=a_ c->x=y
 |[],_,_,hi,_=>hi|(z,k)::r,n,I,hi,b=>by
  unfold G1;by_cases d:(k==G9)=d_
  ·rw[g_ d];refine rV r (n+1) _ (λx y c h1 h2=>?_) (λx c h1=>?_)
   ·rw[z_]at h1 h2;cases J:x==z with
    |true=>
     rw[J]at h1;have e1:=FW h1;cases Y:y==z with
     |true=>rw[HA J,HA Y]|false=>rw[Y]at h2;have a:=b y c h2;rw[<- e1]at a;exact FJ a (GP _)
    |false=>
     rw[J]at h1;cases Y:y==z with
     |true=>rw[Y]at h2;have e2:=FW h2;have a:=b x c h1;rw[<- e2]at a;exact FJ a (GP _)|false=>rw[Y]at h2;exact hi x y c h1 h2
   ·rw[z_]at h1;cases J:x==z with
    |true=>rw[J]at h1;have e1:=FW h1;rw[<- e1];exact HS _|false=>rw[J]at h1;exact Nb (b x c h1)
  ·rw[l_ d];exact rV r n I hi b
theorem o8{x:p_}{c:i_}:∀(ns:List (p_×Iq)) (h:Gv) (I:List (p_×i_)),(G1 h.objs.size ns I).lookup x=a_ c ->
  I.lookup x=a_ c\/(h.objs.size<=c/\(pushCells h ns).IsCell c c_)
 |[],_,_,e=>.inl e|(y,k)::r,h,I,e=>by
  unfold G1 at e;unfold pushCells;by_cases Y:(k==G9)=d_
  ·rw[g_ Y]at e ⊢;have q:=o8 (x:=x) (c:=c) r (h.push {cls:=.type "cell",data:=.cell c_}) ((y,h.objs.size)::I) (by rw[G2];exact e);rcases q with q|⟨b,a⟩
   ·rw[z_]at q;cases J:x==y with
    |true=>rw[J]at q;have e1:=FW q;subst e1;exact .inr ⟨v_ _,Heap.IsCell.keeps ⟨_,FK _ rfl,rfl⟩ (Lz r _)⟩|false=>rw[J]at q;exact .inl q
   ·rw[G2]at b;exact .inr ⟨by omega,a⟩
  ·rw[l_ Y]at e ⊢;exact o8 r h I e
theorem oy{env:Ll}(f:p_×Iq->List (p_×i_)->N2 (ForInStep (List (p_×i_))))(Y:∀n k cs,f (n,k) cs=if (k==NameKind.free)=d_ then(do let a <- cellOf env n;GZ (.yield ((n,a)::cs)))else GZ (.yield cs)):
  ∀(ns:List (p_×Iq)) (I:List (p_×i_)),(∀x∈ns,x.2=NameKind.free->∃c,env.cells.lookup x.1=a_ c)->forIn ns I f=(GZ (ua env.cells ns I):N2 _)
 |[],I,_=>by rw[Nw];rfl|(y,k)::r,I,d=>by
  have b:∀x∈r,x.2=NameKind.free->∃c,env.cells.lookup x.1=a_ c:=λx h=>d x (FH _ h);rw[List.forIn_cons,Y];unfold ua;by_cases J:(k==NameKind.free)=d_
  ·rw[g_ J,g_ J];obtain⟨c,e⟩:=d (y,k) Gp (HA J);have g:env.cells.lookup y=a_ c:=e;have e2:cellOf env y=GZ c:=by unfold cellOf;rw[g]
   rw[e2,g];exact oy f Y r _ b
  ·rw[l_ J,l_ J];exact oy f Y r _ b
theorem tY(I:∀x∈scope.names,x.2=NameKind.free->∃c,env.cells.lookup x.1=a_ c):closureFor scope env=GZ (ua env.cells scope.names []):=by simp only[closureFor];rw[oy (env:=env) _ (λn k cs=>by cases h:(k==NameKind.free)<;>simp[h]) scope.names [] I];rfl
theorem DZ{M:KA}{E:Mq}{f:i_}{Y:List (p_×i_)}{I:Ll}{Q:Ll->y_->Prop}(h:∀h1:Gv,(∀b o,s.heap.get? b=a_ o->h1.get? b=a_ o)->h1.Ns s.heap.objs.size (λ_=>c_) ->
   (∀x c,(G1 (s.heap.objs.size+1) scope.names Y).lookup x=a_ c->Y.lookup x=a_ c\/(s.heap.objs.size<c/\h1.IsCell c c_)) ->
   Q {scope:=scope,locals:=s.heap.objs.size,globals:=f,cells:=G1 (s.heap.objs.size+1) scope.names Y,qual:=qual,func:=c_,code:=I.code,frame:=I.frame,builtins:=I.builtins} {s with heap:=h1}):
  D_ M A (LX scope f Y [] qual c_ .none (a_ I)) Q E s:=by
 simp only[LX,Mi,Ln];refine k_ (wpAny_alloc ?_);refine k_ (wpAny_layCells _ (λname J cells=>by cases d:J==G9<;>simp[d]) _ _ _ _ ?_);rw[show({s with heap:=s.heap.push {cls:=.type "dict",data:=.dict #[]}}:y_).heap.objs.size=s.heap.objs.size+1 from G2 ..];rw[Nw];refine k_ (B_ (B_ ?_));refine h _ (λb o e=>Lz _ _ b o (r_ _ e)) ((Heap.Ns.new s.heap (.type "dict")).keeps (Lz _ _)) λx c e=>?_;have q:=o8 (x:=x) (c:=c) scope.names (s.heap.push {cls:=.type "dict",data:=.dict #[]}) Y (by rw[G2];exact e);rw[G2]at q;refine q.imp id λg=>?_;obtain⟨a,b⟩:=g;exact⟨by omega,b⟩
theorem tw{env:Ll}{x:p_}:∀{ns:List (p_×Iq)},ns.lookup x=a_ .free ->
  (ns.map λ(n,k)=>if (k==NameKind.free&&env.scope.kind==.function&&env.kindOf n==a_ .cell)then(n,G9)else(n,k)).lookup x=a_ .cell \/
  (ns.map λ(n,k)=>if (k==NameKind.free&&env.scope.kind==.function&&env.kindOf n==a_ .cell)then(n,G9)else(n,k)).lookup x=a_ .free
 |[],h=>by simp at h|(n,k)::r,h=>by
  have J:=@tw env x r;rw[C_];dsimp only;by_cases Y:(k==NameKind.free&&env.scope.kind==.function&&env.kindOf n==a_ .cell)=d_
  ·rw[g_ Y,z_];cases I:x==n with
   |true=>exact .inl rfl|false=>rw[z_,I]at h;exact J h
  ·rw[l_ Y,z_];cases I:x==n with
   |true=>rw[z_,I]at h;have e:=FW h;subst e;exact .inr rfl|false=>rw[z_,I]at h;exact J h
theorem tE{env:Ll}{x:p_}:∀{ns:List (p_×Iq)},
  ((ns.map λ(n,k)=>if (k==NameKind.free&&env.scope.kind==.function&&env.kindOf n==a_ .cell)then(n,G9)else(n,k)).lookup x=a_ .cell \/
  (ns.map λ(n,k)=>if (k==NameKind.free&&env.scope.kind==.function&&env.kindOf n==a_ .cell)then(n,G9)else(n,k)).lookup x=a_ .free) ->
  ns.lookup x=a_ .cell\/ns.lookup x=a_ .free
 |[],h=>by simp at h|(n,k)::r,h=>by
  have Y:=@tE env x r;rw[C_]at h;dsimp only at h;by_cases J:(k==NameKind.free&&env.scope.kind==.function&&env.kindOf n==a_ .cell)=d_
  ·rw[g_ J,z_]at h;rw[z_];cases I:x==n with
   |true=>
    have:k=NameKind.free:=by rw[o_,o_]at J;exact HA J.1.1
    subst this;exact .inr rfl
   |false=>rw[I]at h;exact Y h
  ·rw[l_ J,z_]at h;rw[z_];cases I:x==n with
   |true=>rw[I]at h;exact h|false=>rw[I]at h;exact Y h
noncomputable def bg(X:Cx)(N':List p_)(sc:K4)(L:i_)(cs:List (p_×i_))(s:y_)(H:Hp)(fp:List i_):Cx:=
 {X with
  N:=N',s₀:=s,H₀:=H,outer:=X.stack,ex:=fp,pn:=[],xe:=λ_ _=>False
  fn:=λx=> !(sc.names.any λp=>p.1==x&&p.2==NameKind.free)
  env:={scope:=relabel sc X.env,locals:=L,globals:=X.env.globals,cells:=cs,qual:=X.env.qual,func:=c_,code:=X.env.code,frame:=X.env.frame,builtins:=X.env.builtins}}
noncomputable def inS(ix:List (Option Nat))(σ:St):St:=ix.map λo=>match o with
 |none=>c_|some j=>(σ[j]?).join
noncomputable def bF(N:List p_)(I:K4)(N':List p_)(sc:K4)(ix:List (Option Nat)):Bool:=
 q_ (ix.length=N'.length) &&
 ((GU ix.length).all λi=>match ix[i]? with
  |some (a_ j)=>(match N'[i]?,N[j]? with
   |some x,a_ y=>x==y&&sc.names.lookup x==a_ NameKind.free|_,_=>b_)
  |_=>d_) &&
 (sc.names.all λp=>(p.2 != NameKind.free||(I.names.lookup p.1==a_ G9||I.names.lookup p.1==a_ NameKind.free))&&(p.2 != NameKind.local||sc.names.lookup p.1==a_ NameKind.local)) &&
 (sc.names.all λp=>sc.names.all λq=> !(p.1==q.1)||p.2==q.2)
theorem bF.len(I:bF X.N X.env.scope N' sc ix=d_):ix.length=N'.length:=by unfold bF at I;rw[o_,o_,o_]at I;exact IE I.1.1.1
theorem bF.at(I:bF X.N X.env.scope N' sc ix=d_){i j:Nat}{x:p_}(h:ix[i]?=a_ (a_ j))(J:N'[i]?=a_ x):X.N[j]?=a_ x/\sc.names.lookup x=a_ .free:=by
 unfold bF at I;rw[o_,o_,o_]at I;have q:=Hd.mp I.1.1.2 i (List.mem_range.mpr (w_.mp h).1);rw[h,J]at q;dsimp only at q;cases e:X.N[j]? with
 |none=>rw[e]at q;cases q|some y=>rw[e]at q;dsimp only at q;rw[o_]at q;exact⟨by rw[HA q.1],HA q.2⟩
theorem bF.fr(I:bF X.N X.env.scope N' sc ix=d_)(h:(x,NameKind.free)∈sc.names):X.env.kindOf x=a_ .cell\/X.env.kindOf x=a_ .free:=by
 unfold bF at I;rw[o_,o_]at I;have q:=Hd.mp I.1.2 _ h;rw[o_]at q;have J:=q.1;rw[JP]at J;rcases J with z|z
 ·exact FJ z (by simp)
 ·rw[JP]at z;exact z.imp (λe=>HA e) λe=>HA e
theorem bF.loc(I:bF X.N X.env.scope N' sc ix=d_):∀x∈sc.names,x.2=NameKind.local->sc.names.lookup x.1=a_ .local:=λx Y e=>by
 unfold bF at I;rw[o_,o_]at I;have q:=Hd.mp I.1.2 _ Y;rw[o_]at q;have J:=q.2;rw[JP]at J;rcases J with z|z
 ·rw[e]at z;exact FJ z (by decide)
 ·exact HA z
theorem bF.apart(I:bF X.N X.env.scope N' sc ix=d_)(h1:(x,G9)∈sc.names)(h2:(x,NameKind.free)∈sc.names):False:=by unfold bF at I;rw[o_]at I;have q:=Hd.mp (Hd.mp I.2 _ h1) _ h2;simp at q
theorem rR(I:C' X B' σ H s)(J:bF X.N X.env.scope N' sc ix=d_):∀x∈sc.names,x.2=NameKind.free->∃c,X.env.cells.lookup x.1=a_ c:=λx Y e=>by obtain⟨n,k⟩:=x;have a:k=NameKind.free:=e;subst a;exact I.ok.has n (bF.fr J Y)
theorem Fh(I:C' X B' σ H s)(Y:bF X.N X.env.scope N' sc ix=d_)(h:(ua X.env.cells sc.names []).lookup x=a_ c):(x,NameKind.free)∈sc.names/\X.env.cells.lookup x=a_ c:=by
 rcases tZ _ _ h with⟨m,e⟩|z
 ·obtain⟨d,hd⟩:=rR I Y _ m rfl;have J:X.env.cells.lookup x=a_ d:=hd;rw[J]at e;have e2:c=d:=e;subst e2;exact⟨m,J⟩
 ·simp at z
theorem comp_inv{h1:Gv}(I:C' X B' σ H s)(E:∀b∈fp,CL X B' H b)(hb:∀b∈fp,∃o,s.heap.get? b=a_ o)(g:bF X.N X.env.scope N' sc ix=d_)(hk:sc.kind=.function)(d:s.heap.objs.size<=L)(D:∀b o,s.heap.get? b=a_ o->h1.get? b=a_ o)(ns:h1.Ns L λ_=>c_)(n:∀x c,(G1 (L+1) sc.names (ua X.env.cells sc.names [])).lookup x=a_ c->(ua X.env.cells sc.names []).lookup x=a_ c\/(L<c/\h1.IsCell c c_)):
  C' (bg X N' sc L (G1 (L+1) sc.names (ua X.env.cells sc.names [])) s H fp) [] (inS ix σ) H {s with heap:=h1}:=by
 have Y:∀x c,(ua X.env.cells sc.names []).lookup x=a_ c->(x,NameKind.free)∈sc.names/\X.env.cells.lookup x=a_ c/\(∃v,s.heap.IsCell c v)/\c<s.heap.objs.size:=λx c e=>by obtain⟨m,U⟩:=Fh I g e;obtain⟨v,z⟩:=I.cell x c U;exact⟨m,U,⟨v,z⟩,z.lt⟩
 have A:∀b∈fp,b<s.heap.objs.size:=λb z=>let ⟨o,e⟩:=hb b z;A1 e;have Q:∀b∈fp,∀x c,(G1 (L+1) sc.names (ua X.env.cells sc.names [])).lookup x=a_ c->c≠b:=λb z x c e=>by
  have f:=A b z;rcases n x c e with q|⟨q,_⟩
  ·exact(E b z).2.2.2.2.1 x c (Y x c q).2.1
  ·exact gt_ne (FP f d) q
 have G:(bg X N' sc L (G1 (L+1) sc.names (ua X.env.cells sc.names [])) s H fp).Ok:=by
  refine⟨I.ok.mod,hk,I.ok.glob,I.ok.blt,d,?_,?_,?_,I.ok.hd,I.ok.frames,.inl rfl,?_,I.bs,Gb I.ok.bsz I.sz,?_,?_,I.stack,I.Df⟩
  ·refine rV sc.names (L+1) _ (λx y c e1 e2=>I.ok.inj x y c (Y x c e1).2.1 (Y y c e2).2.1) λx c e=>?_;exact Nb (FP (Y x c e).2.2.2 d)
  ·intro x hx;have K:=tE (env:=X.env) (x:=x) (ns:=sc.names) hx;have q:((G1 (L+1) sc.names (ua X.env.cells sc.names [])).lookup x).isSome=d_:=by
    rcases K with z|z
    ·exact HN _ _ _ (.inl z)
    ·exact HN _ _ _ (.inr (rT _ _ (.inl (GW z))))
   exact HG.mp q
  ·intro x c O e;show s.heap.objs.size<=c;rcases n x c e with q|⟨q,_⟩
   ·have m:=(Y x c q).1;have a:(!(sc.names.any λp=>p.1==x&&p.2==NameKind.free))=d_:=O;have z:(sc.names.any λp=>p.1==x&&p.2==NameKind.free)=d_:=KI.mpr ⟨_,m,by simp⟩;rw[z]at a;cases a
   ·exact Gb d (Jl q)
  ·intro b z;have f:=A b z;exact⟨Ga (FP f d),Q b z⟩
  ·intro b o e z;rcases(E b z).2.2.2.1 with q|q
   ·exact I.ok.noex b o e q
   ·exact FJ (FP (A1 e) (Gb I.ok.bsz q)) (GP _)
  ·intro b z hs;rcases x_.mp (I.tf b hs)with q|q
   ·exact(E b z).2.1 q
   ·exact(E b z).2.2.1 q
 refine⟨G,rfl,I.bare,Un.kept D,⟨_,ns,λi x v P h2 h3=>?_⟩,λx c e=>?_,I.hok.fresh d,λx c e=>?_,λp hp=>FJ hp (by simp[bg]),I.hok.kept D,?_⟩
 ·have N:∃j,ix[i]?=a_ (a_ j)/\σ[j]?=a_ (a_ v):=by
   unfold inS at h2;rw[GD]at h2;cases e:ix[i]? with
   |none=>rw[e]at h2;cases h2|some o=>
    rw[e]at h2;cases o with
    |none=>cases h2|some j=>
     have J:(σ[j]?).join=a_ v:=FW h2;refine⟨j,rfl,?_⟩
     cases e2:σ[j]? with
     |none=>rw[e2]at J;cases J|some w=>rw[e2]at J;have t:w=a_ v:=J;rw[t]
  obtain⟨j,e1,e2⟩:=N;obtain⟨e3,e4⟩:=bF.at g e1 P;have h:=bF.fr g (GW e4);obtain⟨m,hn,hl⟩:=I.loc;obtain⟨u,r,l⟩:=hl j x v e3 e2 (h.elim (λz=>.inr (.inl z)) λz=>.inr (.inr z));refine⟨u,r,.inr ⟨tw (env:=X.env) (x:=x) (ns:=sc.names) e4,?_⟩⟩
  rcases l with⟨k,_⟩|⟨k,c,e,z⟩
  ·rcases h with q|q<;>rw[q]at k<;>cases k
  ·have T:=rT (cells:=X.env.cells) sc.names [] (.inl (GW e4));obtain⟨c2,C⟩:=HG.mp T;have S:=(Y x c2 C).2.1;rw[e]at S;cases S;have W:=HN (x:=x) sc.names (L+1) (ua X.env.cells sc.names []) (.inr T);obtain⟨c3,F⟩:=HG.mp W;rcases n x c3 F with B|⟨B,q7⟩
   ·rw[C]at B;cases B;exact⟨c,F,z.keeps D⟩
   ·exfalso;rcases mB _ _ _ F with⟨_,Z⟩|R
    ·exact bF.apart g Z (GW e4)
    ·rw[C]at R;cases R;exact FJ (JO (FP (Y x c C).2.2.2 d) B) (GP _)
 ·rcases n x c e with q|⟨_,q⟩
  ·obtain⟨v,z⟩:=(Y x c q).2.2.1;exact⟨v,z.keeps D⟩
  ·exact⟨_,q⟩
 ·rcases n x c e with q|⟨q,_⟩
  ·exact I.freeC x c (Y x c q).2.1
  ·exact I.hok.fresh (Gb d (Jl q))
 ·show(inS ix σ).length=N'.length;unfold inS;rw[t_];exact bF.len g
def PTs(X:Cx)(ifs:List GO)(t:TT):Prop:=
 ∀(B':Vp) (s:y_) (σ:St) (H:Hp) (Q:Bool->Hp->Prop),C' X B' σ H s->t σ H Q ->
  D_ (FE X.prog X.w) X.A (forIn ifs d_ λc r=>if r=d_ then do let I <- MV c X.env (FR c X.env);GZ (Jz I)else GZ (Jz r)) (TP X B' σ Q) X.xe s
noncomputable def tYes:TT:=λ_ H Q=>Q d_ H
theorem yZ:PTs X [] tYes:=λ_ _ _ H _ I h=>wpAny_tests_nil ⟨H,I,h⟩
theorem qJ{c:GO}{t:TT}(h:PT X c t):PTs X [c] t:=λB' s σ H Q I q=>wpAny_tests_one (h B' s σ H Q I q)
theorem ye{R:M1->y_->Prop}{it I:j_}(J:Nat->y_->Prop)(Y:∀n s,J n s->D_ (FE prog w) A (pyNext it) (λr e=>match r with
   |none=>R (.ok .next) e|some v=>D_ (FE prog w) A (J1 tg it v) (λ_ a=>D_ (FE prog w) A (Jp tg env v) (λ_ j=>
     D_ (FE prog w) A (forIn ifs d_ λc r=>if r=d_ then do let b <- MV c env (FR c env);GZ (Jz b)else GZ (Jz r)) (λb d=>
      if b=d_ then D_ (FE prog w) A (FR elt env) (λx i=>D_ (FE prog w) A (Ja (.builtin "list.append") [I,x]) (λ_ g=>∃m,m<n/\J m g) (λ_ _=>False) i) (λ_ _=>False) d
      else ∃m,m<n/\J m d) (λ_ _=>False) j) (λ_ _=>False) a) (λ_ _=>False) e) (λ_ _=>False) s)(n:Nat)(h:J n s):IZ (FE prog w) A (.compLoop (.ListComp elt [⟨tg,iter,ifs,0⟩] scope pos) 0 it I env) R s:=by
 refine codeAny_loop rfl J (λn s l=>?_) n h;show D_ _ A ((compTurn (.ListComp elt [⟨tg,iter,ifs,0⟩] scope pos) 0 it I env).onRaise (λx=>do ME x env;theTreesLotGoes x)) _ _ s;refine wpAny_noted ?_;rw[compTurn_list];refine k_ (Jf (k_ (Gx (Y n s l) (λr e h1=>?_) λ_ _ z=>z.elim)));cases r with
 |none=>exact B_ h1|some v=>
  refine k_ (Gx h1 (λ_ a f=>?_) λ_ _ z=>z.elim);refine k_ (Gx f (λ_ j h2=>k_ (Gx h2 (λb d k=>?_) λ_ _ z=>z.elim)) λ_ _ z=>z.elim);cases b with
  |false=>exact B_ ⟨rfl,k⟩|true=>exact k_ (k_ (Gx k (λx i p=>k_ (Gx p (λ_ g o=>B_ (B_ ⟨rfl,o⟩)) λ_ _ z=>z.elim)) λ_ _ z=>z.elim))
def kC(J:It)(ix:List (Option Nat))(g:TG)(tt:TT)(te:TE)(σ:St)(F:List V->Hp->Prop)(H:Hp):Prop:=
 ∃W:Nat->Nat->List V->Hp->Prop,(∃m,W 0 m [] H)/\∀i m ys H,W i m ys H ->
  (J.stop i H/\ys.length<=f_/\F ys H)\/(J.go i H/\ys.length<=f_/\∃N:List V->Hp->Prop,(∀Y H',N Y H'->∃a,a<m/\W (i+1) a Y H') /\
   ∀x H',J.yld i H x H'->g x (inS ix σ) H' λI H2=>tt I H2 λb c=>if b=d_ then te I c λy d=>N (ys++[y]) d else N ys c)
theorem C'.slots0(I:C' X B' σ' H s)(h:∀(i:Nat) v,(inS ix σ)[i]?=a_ (a_ v)->σ'[i]?=a_ (a_ v))(J:(inS ix σ).length=X.N.length):C' X B' (inS ix σ) H s:=
 I.weak (by rw[J,I.len]) h
theorem y9{g:TG}{J:It}{tn:Nat->Gv->Prop}{F:List V->Hp->Prop}{E:Mq}(hc:X.calm=d_)(I:C' X B' σ H s)(T:Turn X.prog X.w X.K tg J fp it tn)(st:tn 0 s.heap)(hf:∀b∈fp,CL X B' H b)(ok:bF X.N X.env.scope N' sc ix=d_)(hk:sc.kind=.function)(hg:∀L cs s H fp,PG (bg X N' sc L cs s H fp) tg g)(hkeep:∀x σ' H' (Q:St->Hp->Prop),g x σ' H' Q->g x σ' H' λσ2 H2=>Q σ2 H2/\∀(i:Nat) v,σ'[i]?=a_ (a_ v)->(∃j,ix[i]?=a_ (a_ j))->σ2[i]?=a_ (a_ v))(ht:∀L cs s H fp,PTs (bg X N' sc L cs s H fp) ifs tt)(he:∀L cs s H fp,PE (bg X N' sc L cs s H fp) elt te)(tr:kC J ix g tt te σ F H):
  D_ (FE X.prog X.w) X.A (newList []) (λacc s3=>D_ (FE X.prog X.w) X.A (LX sc X.env.globals (ua X.env.cells sc.names []) [] X.env.qual c_ .none (a_ X.env)) (λf s4=>
   IZ (FE X.prog X.w) X.A (.compStart (.ListComp elt [⟨tg,iter,ifs,0⟩] sc pos) 0 (.ref it) acc {f with scope:=relabel sc X.env}) (λr s'=>(∃fl,r=.ok fl) /\
    ∃(p:i_) (ys:List V) (H2:Hp),acc=.ref p/\C' X B' σ (upd H2 p (.lst ys)) s'/\H2 p=c_/\F ys H2/\(∃m,s'.heap.Ns f.locals m)/\(upd H2 p (.lst ys)) f.locals=c_/\f.locals≠X.env.locals /\
     X.s₀.heap.objs.size<=f.locals/\(∀x c,X.env.cells.lookup x=a_ c->c≠f.locals)/\∀q∈X.pn++B',q.1≠f.locals) s4) E s3) E s:=by
 obtain⟨W,⟨m0,w0⟩,turn⟩:=tr;refine KU (DZ λh1 kp ns hcl=>?_);dsimp only at kp ns hcl ⊢;generalize hH2:s.heap.push {cls:=.type "list",dict:=c_,data:=.seq ([]:List j_).toArray}=w at kp ns hcl ⊢;have eL:w.objs.size=s.heap.objs.size+1:=by rw[<- hH2,G2]
 have kp0:∀b o,s.heap.get? b=a_ o->h1.get? b=a_ o:=λb o e=>kp b o (hH2▸r_ _ e);have hD0:h1.PlainList s.heap.objs.size #[]:=⟨_,kp _ _ (hH2▸FK _ rfl)⟩
 have fpo:∀b∈fp,∃o,s.heap.get? b=a_ o:=λb z=>let ⟨o,e,_⟩:=T.obj 0 _ st b z;⟨o,e⟩;have fpl:∀b∈fp,b<s.heap.objs.size:=λb z=>let ⟨o,e⟩:=fpo b z;A1 e;have sL:s.heap.objs.size<=w.objs.size:=by rw[eL];exact Gk _
 have U:s.heap.objs.size<w.objs.size:=by rw[eL];exact HS _
 have I0:=comp_inv (h1:=h1) I hf fpo ok hk sL kp0 ns hcl;generalize a:bg X N' sc w.objs.size (G1 (w.objs.size+1) sc.names (ua X.env.cells sc.names [])) s H fp=Y at I0;have B:Y.prog=X.prog:=by subst a;rfl
 have A:Y.w=X.w:=by subst a;rfl
 have eY3:Y.K=X.K:=by subst a;rfl
 have eY4:Y.calm=d_:=by subst a;exact hc
 have K:Y.A=X.A:=by subst a;rfl
 have l:Y.env={scope:=relabel sc X.env,locals:=w.objs.size,globals:=X.env.globals,cells:=G1 (w.objs.size+1) sc.names (ua X.env.cells sc.names []),qual:=X.env.qual,func:=c_,code:=X.env.code,frame:=X.env.frame,builtins:=X.env.builtins}:=by subst a;rfl
 have eY7:Y.xe=λ_ _=>False:=by subst a;rfl
 have eY8:Y.pn=[]:=by subst a;rfl
 have eY9:Y.fs=frs X.stack:=by subst a;rfl
 have N:Y.s₀=s:=by subst a;rfl
 have eY11:Y.H₀=H:=by subst a;rfl
 have eY12:Y.ex=fp:=by subst a;rfl
 have eY13:Y.N=N':=by subst a;rfl
 have hgY:PG Y tg g:=by subst a;exact hg _ _ _ _ _
 have htY:PTs Y ifs tt:=by subst a;exact ht _ _ _ _ _
 have heY:PE Y elt te:=by subst a;exact he _ _ _ _ _
 have lenI:(inS ix σ).length=Y.N.length:=by rw[eY13];unfold inS;rw[t_];exact bF.len ok
 have O:∀(b:i_),b<=w.objs.size->(∀x c,X.env.cells.lookup x=a_ c->c≠b)->∀x c,Y.env.cells.lookup x=a_ c->c≠b:=λb h hx x c e=>by
  rw[l]at e;rcases hcl x c e with q|⟨q,_⟩
  ·exact hx x c (Fh I ok q).2
  ·exact(BW (Nat.lt_of_le_of_lt h (HS _)) q).symm
 have oldc:∀x c,X.env.cells.lookup x=a_ c->c<s.heap.objs.size:=λx c e=>let ⟨v,z⟩:=I.cell x c e;z.lt;have nfs:∀b,s.heap.objs.size<=b->b∉frs X.stack:=λb h z=>by
  rcases x_.mp (I.tf b z)with q|q
  ·exact BW I.lt h q.symm
  ·exact I.nofs h q
 have fpY:∀(pp:Vp) (H':Hp),(∀b∈fp,H' b=c_)->(∀q∈pp,q.1∉fp)->∀b∈fp,CL Y pp H' b:=λpp H' hn hq b z=>by
  have hlt:=fpl b z;refine⟨hn b z,?_,?_,.inl (by rw[eY12];exact z),O b (Jl (JO hlt U)) ((hf b z).2.2.2.2.1),λq D e=>?_⟩
  ·rw[l];exact BW hlt sL
  ·rw[eY9];intro hs;rcases x_.mp (I.tf b hs)with q|q
   ·exact(hf b z).2.1 q
   ·exact(hf b z).2.2.1 q
  ·rw[eY8]at D;exact hq q (by simpa using D) (by rw[e];exact z)
 have Dfp:s.heap.objs.size∉fp:=λz=>FJ (fpl _ z) (GP _);have Dok:∀(pp:Vp) (H':Hp),H' s.heap.objs.size=c_->(∀q∈pp,q.1≠s.heap.objs.size)->CL Y pp H' s.heap.objs.size:=λpp H' hn hq=>by
  refine⟨hn,?_,by rw[eY9];exact nfs _ (v_ _),.inr (by rw[N];exact v_ _),O _ sL (λx c e=>Ga (oldc x c e)),λq D=>?_⟩
  ·rw[l];exact Ga U
  ·rw[eY8]at D;exact hq q (by simpa using D)
 have C:IZ (FE X.prog X.w) X.A (.compLoop (.ListComp elt [⟨tg,iter,ifs,0⟩] sc pos) 0 (.ref it) (.ref s.heap.objs.size) Y.env) (λr s'=>(∃fl,r=.ok fl) /\
    ∃(p:i_) (ys:List V) (H2:Hp),FF s.heap.objs.size=.ref p/\C' X B' σ (upd H2 p (.lst ys)) s'/\H2 p=c_/\F ys H2/\(∃m,s'.heap.Ns w.objs.size m)/\(upd H2 p (.lst ys)) w.objs.size=c_/\w.objs.size≠X.env.locals /\
     X.s₀.heap.objs.size<=w.objs.size/\(∀x c,X.env.cells.lookup x=a_ c->c≠w.objs.size)/\∀q∈X.pn++B',q.1≠w.objs.size) {s with heap:=h1}:=by
  refine ye (λn s'=>∃i ys F9 H',C' Y [] (inS ix σ) H' s'/\tn i s'.heap/\(∀b∈fp,H' b=c_)/\H' s.heap.objs.size=c_/\s'.heap.PlainList s.heap.objs.size F9/\Hn ys F9.toList/\W i n ys H') ?_ m0
   ⟨0,[],#[],H,I0,T.keep _ _ _ st λb _ o e=>kp0 b o e,λb z=>(hf b z).1,I.hok.fresh (v_ _),hD0,.nil,w0⟩
  rintro n s3 ⟨i,ys,F9,P,I3,st3,fr3,t,pl3,R,w3⟩;obtain⟨Z,oD⟩:=pl3;have hpD:∀q∈[((s.heap.objs.size:i_),({cls:=.type "list",data:=.seq F9 Z}:JJ))],q.1∉fp:=λq hq=>by have:q=_:=F_.mp hq;rw[this];exact Dfp
  have I3':C' Y [((s.heap.objs.size:i_),({cls:=.type "list",data:=.seq F9 Z}:JJ))] (inS ix σ) P s3:=I3.uJ λq hq=>by have e:q=_:=F_.mp hq;obtain⟨d0,d1,d2,_⟩:=Dok [] P t (λ_ z=>nomatch z);rw[e];exact⟨oD,d0,d1,d2,λv z=>by cases z⟩
  rcases turn i n ys P w3 with⟨stop,ln,qn⟩|⟨go,ln,NN,hNN,step⟩
  ·have h1:=T.done Y B A eY3 eY4 i _ s3 _ P (λ_ _=>False) I3' (fpY _ P fr3 hpD) st3 stop;rw[K]at h1;refine Gx h1 (λr s4 G=>?_) λ_ _ z=>z;obtain⟨hr,I4⟩:=G;subst hr;obtain⟨oD4,hD4,_⟩:=I4.pin ((s.heap.objs.size:i_),({cls:=.type "list",data:=.seq F9 Z}:JJ)) (by rw[eY8];simp);refine⟨⟨_,rfl⟩,s.heap.objs.size,ys,P,rfl,?_,t,qn,?_,?_,?_,?_,?_,?_⟩
   ·have S:Un (frs X.stack) fp H P s.heap s4.heap:=by
     have:=I4.base;rw[eY9,N,eY11,eY12]at this;exact this
    have hok4:HOk X.prog X.w P s4.heap:=by have:=I4.hok;rw[B,A]at this;exact this
    refine I.call' (ch:=fp) (by have:=I4.os;rw[N]at this;exact this) ⟨S.keep,S.slot,λb o e nn hx=>?_,S.there,λb xs q=>?_,λb o u q=>?_,λb ps q=>?_⟩ (λb u e=>?_) I4.bare (λb h=>?_)
    ·rw[aq (Ga (A1 e))];exact S.free b o e nn hx
    ·rw[aq (aN (S.tups b xs q) t)];exact S.tups b xs q
    ·rw[aq (aN (S.frzs b o u q) t)];exact S.frzs b o u q
    ·obtain⟨more,z⟩:=S.tbls b ps q;exact⟨more,by rw[aq (aN z t)];exact z⟩
    ·by_cases h:b=s.heap.objs.size
     ·subst h;rw[ao]at e;cases e;exact⟨ln,F9.toList,Z,R,by simpa using oD4⟩
     ·rw[aq h]at e;exact(hok4 b u e).yE (λ_ _ _ q=>q) (λc q=>by rw[aq (aN q t)];exact q) λc xs q=>by rw[aq (aN q t)];exact q
    ·obtain⟨f0,f1,f2,f3,f4,f5⟩:=hf b h;exact⟨f3,f1,f4,f5⟩
   ·obtain⟨m,hn,_⟩:=I4.loc;rw[l]at hn;exact⟨m,hn⟩
   ·rw[aq (JN U)];have:=I4.free;rw[l]at this;exact this
   ·exact JN (JO I.lt U)
   ·exact Gb I.sz sL
   ·exact λx c e=>BW (oldc x c e) sL
   ·exact λq hq=>BW (A1 (I.pin q hq).1) sL
  ·have h1:=T.item Y B A eY3 eY4 i _ s3 _ P (λ_ _=>False) I3' (fpY _ P fr3 hpD) st3 go;rw[K]at h1;refine Gx h1 (λr s4 G=>?_) λ_ _ z=>z;obtain⟨u,hr,h4⟩:=G;subst hr;refine Gx h4 (λ_ s5 G=>?_) λ_ _ z=>z;obtain⟨x,H5,I5,r5,y5,st5,fr5⟩:=G;have I5':=I5.pinned (fpY _ H5 fr5 hpD) (T.obj _ _ st5);have h5:=hgY _ s5 _ H5 x u _ I5' r5 (hkeep x _ H5 _ (step x H5 y5));rw[B,A,K,eY7]at h5;refine Gx h5 (λ_ s6 G=>?_) λ_ _ z=>z;obtain⟨σ6,H6,I6,q6,k6⟩:=G;have h6:=htY _ s6 σ6 H6 _ I6 q6;rw[B,A,K,eY7]at h6;refine Gx h6 (λb s7 G=>?_) λ_ _ z=>z;obtain⟨H7,I7,q7⟩:=G;have back:∀{s8:y_} {H8:Hp},C' Y ([((s.heap.objs.size:i_),({cls:=.type "list",data:=.seq F9 Z}:JJ))]++wR fp s5.heap) σ6 H8 s8->C' Y [] (inS ix σ) H8 s8/\tn (i+1) s8.heap/\(∀b∈fp,H8 b=c_)/\H8 s.heap.objs.size=c_/\s8.heap.get? s.heap.objs.size=a_ {cls:=.type "list",data:=.seq F9 Z}:=λ{s8 H8} I8=>by
    obtain⟨a1,a2,_⟩:=I8.pin ((s.heap.objs.size:i_),({cls:=.type "list",data:=.seq F9 Z}:JJ)) (by rw[eY8];simp);refine⟨(I8.uJ (pins':=[]) λ_ z=>nomatch z).slots0 (λk v e=>?_) lenI,T.keep _ _ _ st5 λb h o e=>(I8.pin (b,o) (Gy _ (Gy _ (kU h e)))).1,λb h=>?_,a2,a1⟩
    ·refine k6 k v e ?_;unfold inS at e;rw[GD]at e;cases e2:ix[k]? with
     |none=>rw[e2]at e;cases e|some o=>
      cases o with
      |none=>rw[e2]at e;cases e|some j=>exact⟨j,rfl⟩
    ·obtain⟨o,e,d⟩:=T.obj _ _ st5 b h;exact(I8.pin (b,o) (Gy _ (Gy _ (kU h e)))).2.1
   cases b with
   |false=>rw[l_ Gu]at q7 ⊢;obtain⟨m',hm,w7⟩:=hNN _ _ q7;obtain⟨b1,b2,b3,b4,b5⟩:=back I7;exact⟨m',hm,i+1,ys,F9,H7,b1,b2,b3,b4,⟨Z,b5⟩,R,w7⟩
   |true=>
    rw[g_ rfl]at q7 ⊢;have h7:=heY _ s7 σ6 H7 _ I7 q7;rw[B,A,K,eY7,l]at h7;rw[l];refine Gx h7 (λuu s8 G=>?_) λ_ _ z=>z;obtain⟨y,H8,I8,r8,q8⟩:=G;obtain⟨m',hm,w8⟩:=hNN _ _ q8;obtain⟨b1,b2,b3,b4,b5⟩:=back I8;have ez:F9.size<=f_:=by
     have h1:=R.length;have h2:F9.toList.length=F9.size:=by simp
     omega
    refine wpAny_list_append_plain (hsz:=ez) ⟨Z,b5⟩ λh9 pl9 sb9=>?_;obtain⟨d0,d1,d2,d3,d4,d5⟩:=Dok [] H8 b4 (λ_ z=>nomatch z);refine⟨m',hm,i+1,ys++[y],F9.push uu,H8,b1.turned (t':=s8.toks) (λb o h e=>(sb9.2 b h).trans e) d0 d1 d3 d4 d5,T.keep _ _ _ b2 λb h o e=>(sb9.2 b ?_).trans e,b3,b4,pl9,?_,w8⟩
    ·exact BW (fpl b h) (v_ _)
    ·rw[Array.toList_push];exact R.append (.cons r8 .nil)
 rw[l]at C;exact codeAny_compStart_list C (T.self X.A 0 _ _ _ (T.keep _ _ _ st λb _ o e=>kp0 b o e) C)
def tComp(wi:TI)(ix:List (Option Nat))(g:TG)(tt:TT)(te:TE):TE:=λσ H Q=>wi σ H λJ H1=>kC J ix g tt te σ (λys H2=>∀p,H2 p=c_->Q (.ref p) (upd H2 p (.lst ys))) H1
def pq(ix:List (Option Nat))(g:TG):Prop:=∀x σ' H' (Q:St->Hp->Prop),g x σ' H' Q->g x σ' H' λI H2=>Q I H2/\∀(i:Nat) v,σ'[i]?=a_ (a_ v)->(∃j,ix[i]?=a_ (a_ j))->I[i]?=a_ (a_ v)
theorem aL{k:Nat}(h:ix[k]?=a_ c_):pq ix (bU k):=λx σ' H' Q q=>⟨q,λi v e ⟨j,I⟩=>by
 have:k≠i:=by rintro rfl;rw[h]at I;cases I
 rw[n_ this];exact e⟩
section
variable{wi:TI}{g:TG} 
theorem zf(N':List p_)(ix:List (Option Nat))(B:X.calm=d_)(hi:PI X tg iter wi)(z:∀L cs s H fp,PG (bg X N' sc L cs s H fp) tg g)(y:pq ix g)(l:∀L cs s H fp,PTs (bg X N' sc L cs s H fp) ifs tt)(A:∀L cs s H fp,PE (bg X N' sc L cs s H fp) elt te)(a: ~~~(bF X.N X.env.scope N' sc ix=d_))(c: ~~~(sc.kind=.function))(n:autoParam (∀x,Ht iter X.env x=GZ x) Jq5):
  PE X (.ListComp elt [⟨tg,iter,ifs,0⟩] sc pos) (tComp wi ix g tt te):=by
 intro B' s σ H Q I h;rw[eval_ListComp];refine Mr (use:=c_) rfl n (tY (rR I a)) c (bF.loc a) (HH (hi B' s σ H _ I h) λv s1 h1=>HH h1 λk s2 h2=>?_);obtain⟨it,fp,U,J,H2,e,S,T,Y,f2,f⟩:=h2;subst e;refine HH (y9 B S T Y f2 a c z y l A f) λP Z E=>HH E λd W D=>HK D λr j t=>?_;obtain⟨⟨fl,e1⟩,p,ys,H5,e2,R,u,q,⟨m,w⟩,O,N,K,G,F⟩:=t;subst e1;subst e2;exact⟨m,w,λh' i=>⟨.ref p,_,R.turned (t':=j.toks) (λb o C e=>(i.2 b C).trans e) O N (.inr K) G F,rfl,q p u⟩⟩
def Ae(j:Nat)(wi:TI)(ix:List (Option Nat))(g:TG)(tt:TT)(te:TE):TS:=λD σ H=>wi σ H λJ H1=>kC J ix g tt te σ (λys H2=>∀p,H2 p=c_->D.nx (σ.set j (a_ (.ref p))) (upd H2 p (.lst ys))) H1
theorem o9(N':List p_)(ix:List (Option Nat)){j:Nat}{y:p_}(hN:X.N.Nodup)(R:X.N[j]?=a_ y)(l:X.env.scope.names.lookup y=a_ .local)(W:X.calm=d_)(hi:PI X tg iter wi)(S:∀L cs s H fp,PG (bg X N' sc L cs s H fp) tg g)(P:pq ix g)(F:∀L cs s H fp,PTs (bg X N' sc L cs s H fp) ifs tt)(U:∀L cs s H fp,PE (bg X N' sc L cs s H fp) elt te)(i: ~~~(G0 (.ListComp elt [⟨tg,iter,ifs,0⟩] sc pos) (a_ (.Name y py)) spos.line X.env=GZ d_))(f: ~~~(bF X.N X.env.scope N' sc ix=d_))(n: ~~~(sc.kind=.function))(G:autoParam (∀x,Ht iter X.env x=GZ x) Jq5):
  PS X (.Assign [.Name y py] (.ListComp elt [⟨tg,iter,ifs,0⟩] sc pos) spos) (Ae j wi ix g tt te):=by
 intro B' s σ H D I h;rw[exec_Assign_Name_used _ _ _ _ i];refine k_ (Jf (k_ ?_));show D_ _ X.A (do let _ <- comprehension (.ListComp elt [⟨tg,iter,ifs,0⟩] sc pos) sc X.env _ (newList []) b_ (FR iter X.env) (a_ (Jp (.Name y py) X.env))) _ _ s;refine k_ (Gx (Mr (use:=a_ (Jp (.Name y py) X.env)) (Q:=λ_ s'=>SP X B' D .next s') rfl G (tY (rR I f)) n (bF.loc f) (HH (hi B' s σ H _ I h) λv s1 h1=>HH h1 λE s2 h2=>?_)) (λ_ s' N=>B_ (B_ N)) λ_ _ z=>z);obtain⟨it,fp,tn,J,H2,e,I2,T,c,f2,w⟩:=h2;subst e;refine HH (y9 W I2 T c f2 f n S P F U w) λacc s3 h3=>HH h3 λY s4 h4=>HK h4 λr C K=>?_;obtain⟨⟨fl,e1⟩,p,ys,H5,e2,I5,k,q,⟨m,O⟩,c0,u,c2,t,c4⟩:=K;subst e1;subst e2;show D_ _ X.A (Jp (.Name y py) X.env (.ref p)) _ _ C;refine NO (w5 (v:=.ref p) I5 hN R (.inl l) rfl (λB I6 k=>?_) (.inr l));obtain⟨a,A,ha⟩:=k;have ea:Y.locals≠a:=by
  rcases ha with z|z
  ·rw[z];exact u
  ·exact λe=>t y a z e.symm
 refine⟨m,O.sameBut A ea,λh' d=>?_⟩
 exact⟨_,_,I6.turned (t':=B.toks) (λb o Z e=>(d.2 b Z).trans e) c0 u (.inr c2) t c4,q p k⟩
end
theorem xZ{xs:List V}{g:TG}{F:List V->Hp->Prop}(I:Nat->List V->Hp->Prop)(k:I 0 [] H)(j:∀i ys H,i<=xs.length->I i ys H->SqL K H a xs/\ys.length<=f_)(h:∀i x ys H,xs[i]?=a_ x->I i ys H->g x (inS ix σ) H λJ H2=>tt J H2 λb c=>if b=d_ then te J c λy l=>I (i+1) (ys++[y]) l else I (i+1) ys c)(hd:∀ys H,I xs.length ys H->F ys H):kC (Itl K a) ix g tt te σ F H:=by
 refine⟨λi m ys H=>m=xs.length-i/\i<=xs.length/\I i ys H,⟨xs.length,by simp,G7 _,k⟩,?_⟩
 rintro i m ys H ⟨rfl,hi,p⟩;obtain⟨q,z⟩:=j i ys H hi p;by_cases Y:i<xs.length
 ·refine .inr ⟨⟨xs,xs[i],q,by simp[Y]⟩,z,I (i+1),λd H' f=>⟨xs.length-(i+1),by omega,rfl,Y,f⟩,λx H' y=>?_⟩;obtain⟨e,y⟩:=y;subst e;exact h i x ys _ (y xs q) p
 ·have e:i=xs.length:=by omega
  subst e;exact .inl ⟨⟨xs,q,v_ _⟩,z,hd ys H p⟩
theorem Bb:∀{bs:List Bool} {us:List j_},Hn (bs.map V.bl) us->LSm.BoolsAre us bs
 |[],_,.nil=>.nil|b::r,_,.cons e t=>by cases e;exact .cons b (Bb t)
theorem call_all(l:X.calm=d_):g7 X (.builtin "all") (λxs H Q=>∃(a:i_) (bs:List Bool),xs=[.ref a]/\SqL X.K H a (bs.map V.bl)/\Q (.bl (bs.all id)) H):=by
 intro B' s σ H xs us Q I r h;obtain⟨a,bs,rfl,j,q⟩:=h;obtain⟨u,rfl,g⟩:=r.one;cases g;obtain⟨F9,f,p,n⟩:=I.list j;have c:=Bb f;have Y:=p.isList;have J:a<s.heap.objs.size:=by obtain⟨_,e,_⟩:=Y;exact A1 e
 refine call_all_walk (IX Y ?_);refine⟨s.heap.objs.size,[s.heap.objs.size,a],[s.heap.objs.size],F9.toArray.size,_,_,λi=>(bs[i]?).getD d_,rfl,Walks.list (A:=X.A.in1) (I.ok.hd l) _ a (Ga J) F9.toArray,
  ⟨⟨_,FK _ rfl,rfl,rfl⟩,Y.push _⟩,λi v s' o E' m d=>?_,λh' tk k=>?_⟩
 ·obtain⟨b,e,rfl⟩:=c.get i v (by simpa using m);simp only[e,Option.getD_some]at d;exact GG d
 ·have e:((GU F9.toArray.size).all λi=>(bs[i]?).getD d_)=bs.all id:=by
   rw[A_,c.length];exact LSm.range_all bs
  rw[e];exact⟨.bl (bs.all id),H,I.kept (LSm.kept_iter k),rfl,q⟩
theorem Hn.atA{xs:List V}(r:Hn xs us){j:Nat}(h:j<us.toArray.size):∃x,xs[j]?=a_ x/\Hh x us.toArray[j]:=by
 have J:=r.length;have I:j<xs.length:=by rw[J];simpa using h
 obtain⟨u,e1,e2⟩:=r.get (i:=j) (x:=xs[j]) (by simp[I]);refine⟨xs[j],by simp[I],?_⟩
 have:us.toArray[j]=u:=by
  have h':j<us.length:=by simpa using h
  rw[Ge h']at e1;simpa using FW e1
 rw[this];exact e2
theorem pe_tyN(Y:Gl X x)(J:X.mg x=c_)(hv:Hx x=a_ (.type T))(I:(x≠"__name__")⁻¹)(hd:((x==("__debug__":p_))=b_)⁻¹):PE X (.Name x pos) (tC (.ty T)):=pe_bltn (v:=.ty T) Y J hv rfl I hd
theorem pe_gint{n:Int}(J:Gl X x)(I:∃t,X.mg x=a_ (.int n t))(hd:((x==("__debug__":p_))=b_)⁻¹):PE X (.Name x pos) (tC (.int n)):=by obtain⟨t,e⟩:=I;exact uL (v:=.int n) J e ⟨t,rfl⟩ hd
section
variable{base:Gv} 
theorem Fun.okX{k:Nat}(F:Fun K x qual st f fd)(S:gE N ps (aE st))(J:∀vs H Q E,sp vs H Q E->vs.length=ps.length)(I:∀(cdv:j_) (A:HE) (outer:List Ll) (s:y_) (H:Hp) (vs:List V) (Q:VK) (E:XK),iJ k (A.deeper (Ik qual (aE st) s.heap.objs.size f cdv))->sp vs H Q E ->
   ∃t,PSs (zU CX P w K mg base N qual (aE st) f cdv A outer s H E).nox (bO st) t/\t {nx:=λ_ H'=>Q .non H',rt:=Q} (start N vs) H):iL P w K mg base CX (k+1) f fd ps sp:=by
 obtain⟨oc,od,kV,doc,pm,an,cdv,ct,osl,rfl,b,a⟩:=F.ex;refine fn_of b a S J λA outer s H vs Q E c Y=>?_;obtain⟨t,h,q⟩:=I cdv A outer s H vs Q E c Y;exact⟨t,h.nox,q⟩
structure Def(K:Pn)(mg:Ld)(x:p_)(st:GK)(ps:List p_)(f:i_)(fd:Hv):Prop where
 fn:Fun K x x st f fd
 mg:mg x=a_ (.ref f)
 bd:Binds K fd ps []
theorem def_of(J:K.In h)(G:h.Ns Gj mg){kV:j_}(a:Nn K Gj x=a_ (a_ (.ref f)))(l:K.lookup f=a_ ⟨oc,od,.func (Kw x x (dU st) (bO st) (aE st) .none kV doc pm an cdv ct),osl⟩)(c:Lg K cdv x=d_)(k:H_ K (.ref f)=d_)(I:∀(kV doc pm:j_) (an:Option i_) (cdv ct:j_) (us:List j_),us.length=ps.length->Kj (Kw x x (dU st) (bO st) (aE st) .none kV doc pm an cdv ct) ⟨us,[]⟩=GZ (ps.zip us)):
  Def K mg x st ps f (Kw x x (dU st) (bO st) (aE st) .none kV doc pm an cdv ct):=
 ⟨AY l c k,mg_of J G a,(AY l c k).binds I⟩
structure Mth(K:Pn)(C:i_)(x qual:p_)(st:GK)(ps:List p_)(f:i_)(fd:Hv):Prop where
 fn:Fun K x qual st f fd
 mt:Meth K C x f
 bd:Binds K fd ps []
theorem mth_of{kV:j_}(a:FQ K (.ref C) x=a_ (a_ (.ref f)))(i:isFn K (.ref f)=d_)(l:K.lookup f=a_ ⟨oc,od,.func (Kw x qual (dU st) (bO st) (aE st) .none kV doc pm an cdv ct),osl⟩)(c:Lg K cdv qual=d_)(k:H_ K (.ref f)=d_)(I:∀(kV doc pm:j_) (an:Option i_) (cdv ct:j_) (us:List j_),us.length=ps.length->Kj (Kw x qual (dU st) (bO st) (aE st) .none kV doc pm an cdv ct) ⟨us,[]⟩=GZ (ps.zip us)):
  Mth K C x qual st ps f (Kw x qual (dU st) (bO st) (aE st) .none kV doc pm an cdv ct):=
 ⟨AY l c k,⟨a,i,k⟩,(AY l c k).binds I⟩
structure Kls(K:Pn)(mg:Ld)(x:p_)(C:i_):Prop where
 cl:Cls K C
 mg:mg x=a_ (.ref C)
 mks:MZ K C=d_
 kp:H_ K (.ref C)=d_
 c1:FQ K (.ref C) "__class__"=a_ (a_ (.builtin "object.__class__"))
 c2:Ks K (.builtin "object.__class__") "__get__"=a_ (a_ (.builtin "getset_descriptor.__get__"))
 c3:NZ K (.builtin "object.__class__")=a_ d_
 c4:HZ K C (.type "object")=a_ d_
theorem Kls.ty{dx:i_}{fs:List (p_×V)}(k:Kls K mg x C)(e:H a=a_ (.ins C dx fs)):CC K H (.ref a) (.ref C):=.ins e k.cl k.c1 k.c2 k.c3 k.c4
theorem kls_of(g:K.In h)(G:h.Ns Gj mg)(a:Nn K Gj x=a_ (a_ (.ref C)))(Y:K2 K C HQ=d_)(hd:Ie K C=d_)(J:MJ K C=d_)(I:FQ K (.ref C) "__setattr__"=a_ (a_ (.builtin "object.__setattr__")))(mk:MZ K C=d_)(b:H_ K (.ref C)=d_)(f:FQ K (.ref C) "__class__"=a_ (a_ (.builtin "object.__class__")))(e:Ks K (.builtin "object.__class__") "__get__"=a_ (a_ (.builtin "getset_descriptor.__get__")))(d:NZ K (.builtin "object.__class__")=a_ d_)(c:HZ K C (.type "object")=a_ d_):Kls K mg x C:=
 ⟨⟨Y,hd,J,I⟩,mg_of g G a,mk,b,f,e,d,c⟩
end
theorem pg_c(Y:N'.Nodup)(hi:N'[i]?=a_ x)(I:Loc (bg X N' sc L cs s H fp).env.scope x)(J:autoParam ((bg X N' sc L cs s H fp).fn x=d_\/(bg X N' sc L cs s H fp).env.scope.names.lookup x=a_ .local) Jq3):PG (bg X N' sc L cs s H fp) (.Name x pos) (bU i):=cU Y hi I J
structure Grid(H:Hp)(a:i_)(as:List i_)(rows:List (List Int)):Prop where
 top:H a=a_ (.lst (as.map V.ref))
 len:as.length=rows.length
 row:∀(i:Nat) (b:i_) (r:List Int),as[i]?=a_ b->rows[i]?=a_ r->H b=a_ (.lst (r.map V.int))
theorem Grid.same(g:Grid H a as rows)(h:aF H H'):Grid H' a as rows:=
 ⟨h _ _ g.top,g.len,λi b r e1 e2=>h _ _ (g.row i b r e1 e2)⟩
theorem aF.upd{H:Hp}{a:i_}{o:HO}(h:H a=c_):aF H (upd H a o):=λb u e=>by rw[aq (aN e h)];exact e
section
variable{k:Nat}{ds:List j_}{t:TA} 
structure Stat(K:Pn)(C:i_)(mc:j_)(m:p_)(f:i_):Prop where
 s1:Ks K (.ref C) "__getattribute__"=a_ (a_ (.builtin "type.__getattribute__"))
 s2:MI K C mc=d_
 s3:MK K (.ref C) mc m=a_ (.val (.ref f))
 s4:H_ K (.ref f)=d_
theorem pe_cmeth(S:Stat X.K C mc m f)(o:Gl X x)(n:X.mg x=a_ (.ref C))(F:iL X.prog X.w X.K X.mg X.base CX k f fd ps sp)(j:iJ k X.A)(q:Binds X.K fd ps ds)(hd:Hn dvs ds)(g:Passes CX X E)(u:PA X (e::es) t)(a:((x==("__debug__":p_))=b_)⁻¹)(J: ~~~(h_ (e::es) X.env=(b_,FR e X.env)::h_ es X.env))(Y: ~~~((Gh pos (h_ es X.env)).any (·.1)=b_))(i: ~~~(FR (.Call (.Attribute (.Name x p) m apos) (e::es) [] pos) X.env=(do
   let b <- FR (.Name x p) X.env
   KY apos.atName
   let (f,first) <- Jv [b] (Lc b m pl)
   LZ pos f first (Gh pos (h_ (e::es) X.env)) (Ho pos (GJ [] X.env))))):
  PE X (.Call (.Attribute (.Name x p) m apos) (e::es) [] pos) (hZ sp dvs E t):=by
 intro B' s σ H Q I h;refine Lp (pl:=pl) (jF I o n ?_ a) i;refine PySem.W.method_cls I.kIn S.s1 (PySem.W.cls_value I.kIn S.s2 S.s3 rfl ?_);refine KL (first:=[]) (h₀:=X.base) I.ok.mod.kin S.s4 (HH (u pos B' _ σ H _ (I.tok (s.toks+1)) h) λus v l=>?_) J Y;obtain⟨vs,H2,c,r,d⟩:=l;refine⟨c.kIn,?_⟩
 exact Dn (us:=us) (vs:=vs) F j q hd g c r d
end
def Keeps(S:i_->Prop)(H H':Hp):Prop:=∀b o,H b=a_ o->¬S b->H' b=a_ o
theorem Keeps.same(k:Keeps S H H1)(s:aF H1 H2):Keeps S H H2:=λb o e n=>s b o (k b o e n)
theorem Grid.keeps(g:Grid H a as rows)(k:Keeps S H H')(h1:¬S a)(h2:∀x∈as,¬S x):Grid H' a as rows:=
 ⟨k _ _ g.top h1,g.len,λi b r e1 e2=>k _ _ (g.row i b r e1 e2) (h2 b (Gr e1))⟩
section
variable{a:GO} 
def Dc(r r' I:R2)(ta tb tc td:TE):TE:=λσ H Q=>ta σ H λx H1=>tb σ H1 λy H2=>r x y H2 λz b=>∃k,z=.bl k /\
 (if k=d_ then tc σ b λJ f=>r' y J f λc a=>∃Y,c=.bl Y/\(if Y=d_ then td σ a λd e=>I J d e Q else Q (.bl b_) a)else Q (.bl b_) b)
theorem aF.tup{a:i_}{xs:List V}(e:aF H H')(h:SqT K H a xs):SqT K H' a xs:=by
 rcases h with(h|⟨o,h⟩)|h
 ·exact .inl (.inl (e _ _ h))
 ·exact .inl (.inr ⟨o,e _ _ h⟩)
 ·exact .inr h
end
theorem gF{xs:List V}(h:H a=a_ (.lst xs)):tyV K "list" (.ref a) H:=.inl ⟨rfl,_,SqL.of h⟩
set_option genSizeOf true in
set_option genInjectivity true in
inductive A' where
 |non|bl (b:Bool)|int (i:Int)|str (x:p_)|tup (ds:List A')|lst (ds:List A')|ins (C:i_) (fs:List (p_×A'))|dic (ks:List (List Int×A'))|dil (ks:List (Int×List (List Int)))
variable{r:Bool×List A'}{d' d1 d2:A'}{ds' ws out:List A'}{ks:List (List Int×A')}
noncomputable abbrev nV:=List Int×i_×V
noncomputable def tHash(ks:List Int):Int:=LW (Hw (ks.map NY))
def rowE(x:List Int×i_×j_):MO:=⟨tHash x.1,.ref x.2.1,x.2.2⟩
def nS(p:nV)(q:List Int×i_×j_):Prop:=p.1=q.1/\p.2.1=q.2.1/\Hh p.2.2 q.2.2
def oG(h:Gv)(a:i_)(xs:List nV)(ep:Nat):Prop:=∃vs:List (List Int×i_×j_),I9 nS xs vs/\(a==GR)=b_/\xs.length<=f_/\(vs.map (·.1)).Nodup/\∃o es,h.get? a=a_ o/\o.ExactDict/\o.data=.dict es ep/\es.toList=vs.map rowE
noncomputable def yp(a:i_)(xs:List nV)(ep:Nat):HO:=.ext λh=>oG h a xs ep
noncomputable abbrev LK:=Int×List (List Int)
def lHash(k:LK):Int:=LW (Hw [NY k.1,LW (Hw (k.2.map tHash))])
def rowL(x:LK×i_):MO:=⟨lHash x.1,.ref x.2,.bool d_⟩
def DilOk(h:Gv)(a:i_)(xs:List (LK×i_))(ep:Nat):Prop:=(a==GR)=b_/\xs.length<=f_/\(xs.map (·.1)).Nodup/\∃o es,h.get? a=a_ o/\o.ExactDict/\o.data=.dict es ep/\es.toList=xs.map rowL
noncomputable def DilO(a:i_)(xs:List (LK×i_))(ep:Nat):HO:=.ext λh=>DilOk h a xs ep
def LabAt(K:Pn)(F:Hp)(b:i_)(k:LK):Prop:=∃(r:i_) (bs:List i_),SqT K F b [V.int k.1,V.ref r]/\SqT K F r (bs.map V.ref)/\bs.length=k.2.length/\∀(j:Nat) (I:List Int) (c:i_),k.2[j]?=a_ I->bs[j]?=a_ c->SqT K F c (I.map V.int)
def CF(K:Pn)(F:Hp)(ks:List LK)(xs:List (LK×i_)):Prop:=xs.map (·.1)=ks/\∀x∈xs,LabAt K F x.2 x.1
mutual
noncomputable def aR(K:Pn)(F:Hp):A'->V->Prop
 |.non,v=>v=.non|.bl b,v=>v=.bl b|.int i,v=>v=.int i|.str x,v=>v=.str x|.tup ds,v=>∃a xs,v=.ref a/\SqT K F a xs/\az K F ds xs
 |.lst ds,v=>∃a xs,v=.ref a/\SqL K F a xs/\az K F ds xs
 |.ins C gs,v=>∃a dx fs,v=.ref a/\F a=a_ (.ins C dx fs)/\jt K F gs fs
 |.dic ks,v=>∃a xs,v=.ref a/\(∃ep,F a=a_ (yp a xs ep))/\cZ K F ks xs
 |.dil ks,v=>∃a xs,v=.ref a/\(∃ep,F a=a_ (DilO a xs ep))/\CF K F ks xs
noncomputable def az(K:Pn)(F:Hp):List A'->List V->Prop
 |[],xs=>xs=[]|d::ds,xs=>∃v vs,xs=v::vs/\aR K F d v/\az K F ds vs
noncomputable def jt(K:Pn)(F:Hp):List (p_×A')->List (p_×V)->Prop
 |[],fs=>fs=[]|(f,d)::gs,fs=>∃v r,fs=(f,v)::r/\aR K F d v/\jt K F gs r
noncomputable def cZ(K:Pn)(F:Hp):List (List Int×A')->List nV->Prop
 |[],xs=>xs=[]|(k,d)::ks,xs=>∃b v r,xs=(k,b,v)::r/\SqT K F b (k.map .int)/\aR K F d v/\cZ K F ks r
end
mutual
noncomputable def i7:A'->Bool
 |.tup ds=>tU ds|.lst _=>b_|.ins _ _=>b_|.dic _=>b_|.dil _=>b_|_=>d_
noncomputable def tU:List A'->Bool
 |[]=>d_|d::ds=>i7 d&&tU ds
end
theorem aF.lst{xs:List V}(e:aF H H')(h:SqL K H a xs):SqL K H' a xs:=by
 rcases h with(h|⟨o,h⟩)|h
 ·exact .inl (.inl (e _ _ h))
 ·exact .inl (.inr ⟨o,e _ _ h⟩)
 ·exact .inr h
theorem LabAt.mono(s:aF F F'){k:LK}(h:LabAt K F b k):LabAt K F' b k:=
 let ⟨r,bs,t1,t2,l,t3⟩:=h;⟨r,bs,s.tup t1,s.tup t2,l,λj I c e1 e2=>s.tup (t3 j I c e1 e2)⟩
theorem CF.mono{K:Pn}{F F':Hp}(s:aF F F'){ks:List LK}{xs:List (LK×i_)}(h:CF K F ks xs):CF K F' ks xs:=⟨h.1,λx I=>(h.2 x I).mono s⟩
mutual
theorem aR.mono{K:Pn}{F F':Hp}(s:aF F F'):∀{d:A'} {v:V},aR K F d v->aR K F' d v
 |.non,_,h=>h|.bl _,_,h=>h|.int _,_,h=>h|.str _,_,h=>h|.tup _,_,⟨a,xs,e,q,r⟩=>⟨a,xs,e,s.tup q,az.mono s r⟩|.lst _,_,⟨a,xs,e,q,r⟩=>⟨a,xs,e,s.lst q,az.mono s r⟩|.ins _ _,_,⟨a,dx,fs,e,q,r⟩=>⟨a,dx,fs,e,s _ _ q,jt.mono s r⟩|.dic _,_,⟨a,xs,e,⟨ep,q⟩,r⟩=>⟨a,xs,e,⟨ep,s _ _ q⟩,cZ.mono s r⟩|.dil _,_,⟨a,xs,e,⟨ep,q⟩,r⟩=>⟨a,xs,e,⟨ep,s _ _ q⟩,CF.mono s r⟩
theorem az.mono{K:Pn}{F F':Hp}(s:aF F F'):∀{ds:List A'} {xs:List V},az K F ds xs->az K F' ds xs
 |[],_,h=>h|_::_,_,⟨v,vs,e,q,r⟩=>⟨v,vs,e,aR.mono s q,az.mono s r⟩
theorem jt.mono{K:Pn}{F F':Hp}(s:aF F F'):∀{gs:List (p_×A')} {fs:List (p_×V)},jt K F gs fs->jt K F' gs fs
 |[],_,h=>h|(_,_)::_,_,⟨v,r,e,q,t⟩=>⟨v,r,e,aR.mono s q,jt.mono s t⟩
theorem cZ.mono{K:Pn}{F F':Hp}(s:aF F F'):∀{ks:List (List Int×A')} {xs:List nV},cZ K F ks xs->cZ K F' ks xs
 |[],_,h=>h|(_,_)::_,_,⟨b,v,r,e,t,q,z⟩=>⟨b,v,r,e,s.tup t,aR.mono s q,cZ.mono s z⟩
end
mutual
theorem aR.flat{K:Pn}{F F':Hp}(s:∀a xs,SqT K F a xs->SqT K F' a xs):∀{d:A'} {v:V},i7 d=d_->aR K F d v->aR K F' d v
 |.non,_,_,h=>h|.bl _,_,_,h=>h|.int _,_,_,h=>h|.str _,_,_,h=>h|.tup ds,_,f,⟨a,xs,e,q,r⟩=>⟨a,xs,e,s _ _ q,az.flat s (by simpa[i7] using f) r⟩|.lst _,_,f,_=>by simp[i7]at f|.ins _ _,_,f,_=>by simp[i7]at f|.dic _,_,f,_=>by simp[i7]at f|.dil _,_,f,_=>by simp[i7]at f
theorem az.flat{K:Pn}{F F':Hp}(s:∀a xs,SqT K F a xs->SqT K F' a xs):∀{ds:List A'} {xs:List V},tU ds=d_->az K F ds xs->az K F' ds xs
 |[],_,_,h=>h|d::ds,_,f,⟨v,vs,e,q,r⟩=>by simp only[tU,o_]at f;exact⟨v,vs,e,aR.flat s f.1 q,az.flat s f.2 r⟩
end
theorem az.length{K:Pn}{F:Hp}:∀{ds:List A'} {xs:List V},az K F ds xs->xs.length=ds.length
 |[],_,h=>by rw[show _=[]from h];rfl|_::_,_,⟨_,_,e,_,r⟩=>by rw[e,FV,FV,az.length r]
theorem az.get{K:Pn}{F:Hp}:∀{ds:List A'} {xs:List V} {i:Nat} {d:A'},az K F ds xs->ds[i]?=a_ d->∃v,xs[i]?=a_ v/\aR K F d v
 |[],_,_,_,_,e=>by simp at e|_::_,_,0,_,⟨v,vs,e,q,_⟩,h=>by simp only[List.getElem?_cons_zero,Lv]at h;subst h e;exact⟨v,rfl,q⟩|_::_,_,i+1,_,⟨v,vs,e,_,r⟩,h=>by subst e;simp only[ID]at h ⊢;exact az.get r h
theorem az.at{K:Pn}{F:Hp}{ds:List A'}{xs:List V}{i:Nat}{v:V}(r:az K F ds xs)(h:xs[i]?=a_ v):∃d,ds[i]?=a_ d/\aR K F d v:=by
 have hi:i<ds.length:=by rw[<- r.length];exact(w_.mp h).1
 obtain⟨w,e,q⟩:=r.get (i:=i) (d:=ds[i]) (by simp[hi]);rw[h]at e;have I:=FW e;subst I;exact⟨ds[i],by simp[hi],q⟩
theorem az.nil:az K F [] []:=rfl
theorem az.cons{d:A'}{ds:List A'}{xs:List V}(q:aR K F d v)(r:az K F ds xs):az K F (d::ds) (v::xs):=⟨v,xs,rfl,q,r⟩
theorem az.append{K:Pn}{F:Hp}:∀{ds es:List A'} {xs ys:List V},az K F ds xs->az K F es ys->az K F (ds++es) (xs++ys)
 |[],_,_,_,h,r=>by rw[show _=[]from h];exact r|_::_,_,_,_,⟨v,vs,e,q,t⟩,r=>by subst e;exact⟨v,_,rfl,q,az.append t r⟩
theorem az.take{K:Pn}{F:Hp}:∀{ds:List A'} {xs:List V} (n:Nat),az K F ds xs->az K F (ds.take n) (xs.take n)
 |_,_,0,_=>rfl|[],_,_+1,h=>by rw[show _=[]from h];rfl|_::_,_,n+1,⟨v,vs,e,q,r⟩=>by subst e;exact⟨v,_,rfl,q,az.take n r⟩
theorem az.drop{K:Pn}{F:Hp}:∀{ds:List A'} {xs:List V} (n:Nat),az K F ds xs->az K F (ds.drop n) (xs.drop n)
 |_,_,0,h=>h|[],_,_+1,h=>by rw[show _=[]from h];rfl|_::_,_,n+1,⟨v,vs,e,q,r⟩=>by subst e;exact az.drop n r
theorem az.set{K:Pn}{F:Hp}{d:A'}{v:V}(q:aR K F d v):∀{ds:List A'} {xs:List V} (n:Nat),az K F ds xs->az K F (ds.set n d) (xs.set n v)
 |[],_,_,h=>by rw[show _=[]from h];rfl|_::_,_,0,⟨w,vs,e,_,r⟩=>by subst e;exact⟨v,_,rfl,q,r⟩|_::_,_,n+1,⟨w,vs,e,p,r⟩=>by subst e;exact⟨w,_,rfl,p,az.set q n r⟩
theorem az.eraseIdx{K:Pn}{F:Hp}:∀{ds:List A'} {xs:List V} (n:Nat),az K F ds xs->az K F (ds.eraseIdx n) (xs.eraseIdx n)
 |[],_,_,h=>by rw[show _=[]from h];rfl|_::_,_,0,⟨w,vs,e,_,r⟩=>by subst e;exact r|_::_,_,n+1,⟨w,vs,e,p,r⟩=>by subst e;exact⟨w,_,rfl,p,az.eraseIdx n r⟩
theorem az.of_get{K:Pn}{F:Hp}:∀{ds:List A'} {xs:List V},xs.length=ds.length->(∀(i:Nat) d v,ds[i]?=a_ d->xs[i]?=a_ v->aR K F d v)->az K F ds xs
 |[],[],_,_=>rfl|[],_::_,h,_=>by simp at h|_::_,[],h,_=>by simp at h|d::ds,v::vs,h,q=>⟨v,vs,rfl,q 0 d v rfl rfl,az.of_get (by simpa using h) λi e w h1 h2=>q (i+1) e w (by simpa using h1) (by simpa using h2)⟩
structure C6(F H F' H':Hp):Prop where
 ff:aF F F'
 hh:aF H H'
 fh:aF F' H'
 nw:∀b o,F' b=a_ o->F b=a_ o\/H b=c_
theorem C6.refl{F H:Hp}(s:aF F H):C6 F H F H:=⟨aF.refl _,aF.refl _,s,λ_ _ h=>.inl h⟩
theorem C6.trans{F H F1 H1 F2 H2:Hp}(a:C6 F H F1 H1)(b:C6 F1 H1 F2 H2):C6 F H F2 H2:=
 ⟨a.ff.trans b.ff,a.hh.trans b.hh,b.fh,λx o h=>(b.nw x o h).elim (λz=>a.nw x o z) λz=>.inr (a.hh.free z)⟩
theorem C6.lay{p:i_}{o:HO}(s:aF F H)(I:H p=c_):C6 F H (upd F p o) (upd H p o):=
 ⟨aF.upd (s.free I),aF.upd I,λb u h=>by
  by_cases e:b=p
  ·subst e;rw[ao]at h ⊢;exact h
  ·rw[aq e]at h ⊢;exact s b u h,λb u h=>by
  by_cases e:b=p
  ·subst e;exact .inr I
  ·rw[aq e]at h;exact .inl h⟩
theorem C6.grow{p:i_}{o:HO}(s:aF F H)(I:H p=c_):C6 F H F (upd H p o):=
 ⟨aF.refl _,aF.upd I,s.trans (aF.upd I),λ_ _ h=>.inl h⟩
theorem C6.same(s:aF F H)(h:aF H H'):C6 F H F H':=⟨aF.refl _,h,s.trans h,λ_ _ z=>.inl z⟩
def mJ(K:Pn)(F H0 H:Hp):A'->V->Prop
 |.lst ds,v=>∃a xs,v=.ref a/\H a=a_ (.lst xs)/\F a=c_/\H0 a=c_/\az K F ds xs
 |.dic ks,v=>∃a xs,v=.ref a/\(∃ep,H a=a_ (yp a xs ep))/\F a=c_/\H0 a=c_/\cZ K F ks xs
 |.dil ks,v=>∃a xs,v=.ref a/\(∃ep,H a=a_ (DilO a xs ep))/\F a=c_/\H0 a=c_/\CF K F ks xs
 |d,v=>aR K F d v
noncomputable def isO:A'->Bool
 |.lst _=>d_|.dic _=>d_|.dil _=>d_|_=>b_
noncomputable def isMu:HO->Bool
 |.lst _=>d_|.ext _=>d_|_=>b_
theorem mJ.non{d:A'}(hd:isO d=b_):mJ K F H0 H d v=aR K F d v:=by cases d<;>first|rfl|cases hd
theorem mJ.top{d:A'}(hd:isO d=d_)(q:mJ K F H0 H d v):∃a o,v=.ref a/\H a=a_ o/\isMu o=d_/\F a=c_/\H0 a=c_:=by
 cases d with
 |lst ds=>obtain⟨a,xs,e,p,f,z,_⟩:=q;exact⟨a,_,e,p,rfl,f,z⟩
 |dic ks=>obtain⟨a,xs,e,⟨ep,p⟩,f,z,_⟩:=q;exact⟨a,_,e,p,rfl,f,z⟩
 |dil ks=>obtain⟨a,xs,e,⟨ep,p⟩,f,z,_⟩:=q;exact⟨a,_,e,p,rfl,f,z⟩
 |_=>cases hd
theorem mJ.re{d:A'}(hd:isO d=d_)(q:mJ K F H0 H d (.ref a))(I:aF F F')(fa:F' a=c_)(hh:∀o,H a=a_ o->H' a=a_ o):mJ K F' H0 H' d (.ref a):=by
 cases d with
 |lst ds=>obtain⟨b,xs,e,p,f,z,r⟩:=q;cases e;exact⟨a,xs,rfl,hh _ p,fa,z,r.mono I⟩
 |dic ks=>obtain⟨b,xs,e,⟨ep,p⟩,f,z,r⟩:=q;cases e;exact⟨a,xs,rfl,⟨ep,hh _ p⟩,fa,z,r.mono I⟩
 |dil ks=>obtain⟨b,xs,e,⟨ep,p⟩,f,z,r⟩:=q;cases e;exact⟨a,xs,rfl,⟨ep,hh _ p⟩,fa,z,r.mono I⟩
 |_=>cases hd
theorem mJ.give{d:A'}(hd:isO d=d_)(q:mJ K F H0 H d (.ref a))(I:aF F F')(fa:F' a=H a):aR K F' d (.ref a):=by
 cases d with
 |lst ds=>obtain⟨b,xs,e,p,f,z,r⟩:=q;cases e;exact⟨a,xs,rfl,SqL.of (fa.trans p),r.mono I⟩
 |dic ks=>obtain⟨b,xs,e,⟨ep,p⟩,f,z,r⟩:=q;cases e;exact⟨a,xs,rfl,⟨ep,fa.trans p⟩,r.mono I⟩
 |dil ks=>obtain⟨b,xs,e,⟨ep,p⟩,f,z,r⟩:=q;cases e;exact⟨a,xs,rfl,⟨ep,fa.trans p⟩,r.mono I⟩
 |_=>cases hd
def Val(K:Pn)(own:Bool)(F H0 H:Hp)(d:A')(v:V):Prop:=if own=d_ then mJ K F H0 H d v else aR K F d v
theorem mJ.back{d:A'}(s:aF H0 H1)(h:mJ K F H1 H d v):mJ K F H0 H d v:=by
 cases d with
 |lst ds=>obtain⟨a,xs,e,p,q,z,r⟩:=h;exact⟨a,xs,e,p,q,s.free z,r⟩
 |dic ks=>obtain⟨a,xs,e,p,q,z,r⟩:=h;exact⟨a,xs,e,p,q,s.free z,r⟩
 |dil ks=>obtain⟨a,xs,e,p,q,z,r⟩:=h;exact⟨a,xs,e,p,q,s.free z,r⟩
 |_=>exact h
theorem Val.back{K:Pn}{own:Bool}{F H0 H1 H:Hp}{d:A'}{v:V}(s:aF H0 H1)(h:Val K own F H1 H d v):Val K own F H0 H d v:=by
 cases own with
 |true=>exact mJ.back s h|false=>exact h
theorem mJ.freeze{d:A'}(s:aF F H)(h:mJ K F H0 H d v):∃F',aF F F'/\aF F' H/\(∀b o,F' b=a_ o->F b=a_ o\/H0 b=c_)/\aR K F' d v:=by
 cases hd:isO d with
 |true=>
  obtain⟨a,u,e,p,_,q,z⟩:=h.top hd;subst e;refine⟨upd F a u,aF.upd q,λb o h=>?_,λb o h=>?_,h.give hd (aF.upd q) (by rw[ao,p])⟩
  ·by_cases e:b=a
   ·subst e;rw[ao]at h;rw[p,<- h]
   ·rw[aq e]at h;exact s b o h
  ·by_cases e:b=a
   ·subst e;exact .inr z
   ·rw[aq e]at h;exact .inl h
 |false=>rw[mJ.non hd]at h;exact⟨F,aF.refl _,s,λ_ _ z=>.inl z,h⟩
inductive Err where
 |stuck|exc (C:i_) (fs:List (p_×A'))
noncomputable abbrev M:=Except Err
variable{g g' g'':A'->A'->M A'}{mk mf mw:List A'->M A'}{mr:List A'->List A'->M (Bool×List A')}
noncomputable abbrev ah:=List (Option A')
variable{ρ ρ':ah}{fa fb fc fe fk fo f3 f5 fw f8 f0:ah->M A'}{ft fu f4 t1 t2 t3 t4 t5:ah->M Bool}{fi:ah->M (List A')}{fl:ah->M (Option Int)}{fx:List (p_×A')->ah->M ah}
structure eI where
 p:Err->Hp->Hp->Prop
 mono:∀{e:Err} {F H F' H':Hp},p e F H->C6 F H F' H'->p e F' H'
 ns:∀{F H:Hp},p .stuck F H->False
noncomputable def J3:eI:=⟨λ_ _ _=>False,λh _=>h,λh=>h⟩
def aJ(K:Pn)(W:eI)(own:Bool)(F H:Hp)(r:M A')(Q:VK):Prop:=match r with
 |.ok d=>∀v F' H',C6 F H F' H'->Val K own F' H H' d v->Q v H'|.error e=>W.p e F H
theorem aJ.step{W:eI}{own:Bool}{r:M A'}(p:aJ K W own F H r Q)(s:C6 F H F1 H1):aJ K W own F1 H1 r Q:=by
 cases r with
 |ok d=>exact λv F' H' t q=>p v F' H' (s.trans t) (q.back s.hh)|error e=>exact W.mono p s
theorem aJ.frz{W:eI}{r:M A'}(p:aJ K W b_ F H r Q):aJ K W d_ F H r Q:=by
 cases r with
 |ok d=>intro v F' H' t q;obtain⟨F2,J,I,n,z⟩:=mJ.freeze t.fh q;exact p v F2 H' ⟨t.ff.trans J,t.hh,I,λb o h=>(n b o h).elim (λz=>t.nw b o z) .inr⟩ z
 |error e=>exact p
structure cP(K:Pn)(F:Hp)(σ:St)(ρ:ah):Prop where
 len:ρ.length=σ.length
 sl:∀(i:Nat) (d:A'),ρ[i]?=a_ (a_ d)->∃v,σ[i]?=a_ (a_ v)/\aR K F d v
theorem cP.mono{K:Pn}{F F':Hp}{σ:St}{ρ:ah}(r:cP K F σ ρ)(s:aF F F'):cP K F' σ ρ:=
 ⟨r.len,λi d e=>let ⟨v,h,q⟩:=r.sl i d e;⟨v,h,q.mono s⟩⟩
theorem cP.set{K:Pn}{F:Hp}{σ:St}{ρ:ah}{d:A'}{v:V}(r:cP K F σ ρ)(q:aR K F d v)(i:Nat):cP K F (σ.set i (a_ v)) (ρ.set i (a_ d)):=
 ⟨by rw[Cb,Cb,r.len],λj e h=>by
  by_cases I:i=j
  ·subst I;have hi:i<ρ.length:=by
    have:=(w_.mp h).1;simpa using this
   rw[u_ hi]at h;cases h;exact⟨v,by rw[u_ (by rw[<- r.len];exact hi)],q⟩
  ·rw[n_ I]at h;obtain⟨w,h1,h2⟩:=r.sl j e h;exact⟨w,by rw[n_ I];exact h1,h2⟩⟩
def tD(K:Pn)(W:eI)(own:Bool)(f:ah->M A'):TE:=λσ H Q=>∃F ρ,cP K F σ ρ/\aF F H/\aJ K W own F H (f ρ) Q
theorem aO{W:eI}{own:Bool}{f:ah->M A'}{R:VK}(r:cP K F σ ρ)(s:aF F H)(J:∀e,f ρ=.error e->W.p e F H)(I:∀d,f ρ=.ok d->∀v F1 H1,C6 F H F1 H1->Val K own F1 H H1 d v->R v H1):tD K W own f σ H R:=by
 refine⟨F,ρ,r,s,?_⟩
 cases e:f ρ with
 |ok d=>exact I d e|error x=>exact J x e
def tDT(K:Pn)(W:eI)(f:ah->M Bool):TT:=λσ H Q=>∃F ρ,cP K F σ ρ/\aF F H/\(match f ρ with
 |.ok b=>∀F' H',C6 F H F' H'->Q b H'|.error e=>W.p e F H)
theorem eZ{W:eI}{f:ah->M Bool}(r:cP K F σ ρ)(s:aF F H)(J:∀e,f ρ=.error e->W.p e F H)(I:∀b,f ρ=.ok b->∀F1 H1,C6 F H F1 H1->R b H1):tDT K W f σ H R:=by
 refine⟨F,ρ,r,s,?_⟩
 cases e:f ρ with
 |ok d=>exact I d e|error x=>exact J x e
def tDA(K:Pn)(W:eI)(f:ah->M (List A')):TA:=λσ H Q=>∃F ρ,cP K F σ ρ/\aF F H/\(match f ρ with
 |.ok ds=>∀vs F' H',C6 F H F' H'->az K F' ds vs->Q vs H'|.error e=>W.p e F H)
theorem qp{W:eI}{f:ah->M (List A')}{R:List V->Hp->Prop}(r:cP K F σ ρ)(s:aF F H)(J:∀e,f ρ=.error e->W.p e F H)(I:∀ds,f ρ=.ok ds->∀vs F1 H1,C6 F H F1 H1->az K F1 ds vs->R vs H1):tDA K W f σ H R:=by
 refine⟨F,ρ,r,s,?_⟩
 cases e:f ρ with
 |ok d=>exact I d e|error x=>exact J x e
noncomputable def ai(i:Nat):ah->M A':=λρ=>match ρ[i]? with
 |some (a_ d)=>.ok d|_=>.error .stuck
noncomputable def fC(d:A'):ah->M A':=λ_=>.ok d
noncomputable def f1(g:A'->M A')(fa:ah->M A'):ah->M A':=λρ=>(fa ρ).bind g
noncomputable def f2(g:A'->A'->M A')(fa fb:ah->M A'):ah->M A':=λρ=>(fa ρ).bind λa=>(fb ρ).bind λb=>g a b
noncomputable def aC:ah->M (List A'):=λ_=>.ok []
noncomputable def aa(fa:ah->M A')(fr:ah->M (List A')):ah->M (List A'):=λρ=>(fa ρ).bind λa=>(fr ρ).bind λr=>.ok (a::r)
noncomputable def fL(g:List A'->M A')(fr:ah->M (List A')):ah->M A':=λρ=>(fr ρ).bind g
noncomputable def jU(ds:List A'):M A':=if ds.length<=f_ then .ok (.tup ds)else .error .stuck
noncomputable def bP(ds:List A'):M A':=if ds.length<=f_ then .ok (.lst ds)else .error .stuck
noncomputable def fIte(ft:ah->M Bool)(fa fb:ah->M A'):ah->M A':=λρ=>(ft ρ).bind λb=>if b=d_ then fa ρ else fb ρ
noncomputable def xI(ft fu:ah->M Bool):ah->M Bool:=λρ=>(ft ρ).bind λb=>if b=d_ then fu ρ else .ok b_
noncomputable def fOr(ft fu:ah->M Bool):ah->M Bool:=λρ=>(ft ρ).bind λb=>if b=d_ then .ok d_ else fu ρ
noncomputable def si(ft:ah->M Bool):ah->M Bool:=λρ=>(ft ρ).bind λb=>.ok (!b)
noncomputable def asB:A'->M Bool
 |.bl b=>.ok b|_=>.error .stuck
def fB(fa:ah->M A'):ah->M Bool:=λρ=>(fa ρ).bind asB
def iM(fa fb:ah->M A'):ah->M A':=λρ=>(fa ρ).bind λa=>(asB a).bind λb=>if b=d_ then fb ρ else .ok (.bl b_)
def CK(fa fb:ah->M A'):ah->M A':=λρ=>(fa ρ).bind λa=>(asB a).bind λb=>if b=d_ then .ok (.bl d_)else fb ρ
noncomputable def notD:A'->M A'
 |.bl b=>.ok (.bl (!b))|_=>.error .stuck
noncomputable def truD:A'->M Bool
 |.non=>.ok b_|.bl b=>.ok b|.int i=>.ok (i != 0)|.str x=>if x.length<=f_ then .ok ((x.length:Int) != 0)else .error .stuck
 |.tup ds=>.ok (!ds.isEmpty)|.lst ds=>.ok (!ds.isEmpty)|_=>.error .stuck
noncomputable def lI(fa:ah->M A'):ah->M Bool:=λρ=>(fa ρ).bind truD
def jo(g g':A'->A'->M A')(fa fb fc:ah->M A'):ah->M A':=λρ=>(fa ρ).bind λa=>(fb ρ).bind λb=>(g a b).bind λx=>(asB x).bind λk=>if k=d_ then(fc ρ).bind λc=>g' b c else .ok (.bl b_)
def rD2(K:Pn)(W:eI)(own:Bool)(g:A'->A'->M A'):R2:=λx y H Q=>∃F a b,aF F H/\aR K F a x/\aR K F b y/\aJ K W own F H (g a b) Q
def rD1(K:Pn)(W:eI)(own:Bool)(g:A'->M A'):V->Hp->VK->Prop:=λx H Q=>∃F a,aF F H/\aR K F a x/\aJ K W own F H (g a) Q
def rDL(K:Pn)(W:eI)(own:Bool)(g:List A'->M A'):List V->Hp->VK->Prop:=λxs H Q=>∃F ds,aF F H/\az K F ds xs/\aJ K W own F H (g ds) Q
section
variable{W:eI}{own:Bool} 
theorem rd_var(h:tD K W b_ (ai i) σ H Q):bG i σ H Q:=by
 obtain⟨F,ρ,r,s,p⟩:=h;unfold ai at p
 match e:ρ[i]? with
 |some (a_ d)=>rw[e]at p;obtain⟨v,e1,q⟩:=r.sl i d e;exact⟨v,e1,p v F H (C6.refl s) q⟩
 |some c_=>rw[e]at p;exact(W.ns p).elim|none=>rw[e]at p;exact(W.ns p).elim
theorem rd_c{d:A'}(hd:∀F,aR K F d v)(h:tD K W b_ (fC d) σ H Q):tC v σ H Q:=by obtain⟨F,ρ,r,s,p⟩:=h;exact p v F H (C6.refl s) (hd F)
theorem aJ.err{x:M A'}{e:Err}(p:aJ K W own F H x Q)(h:x=.error e):W.p e F H:=by rw[h]at p;exact p
theorem rd_1{g:A'->M A'}(h:tD K W own (f1 g fa) σ H Q):tUn (rD1 K W own g) (tD K W b_ fa) σ H Q:=by
 obtain⟨F,ρ,r,s,p⟩:=h;refine aO r s (λe Y=>p.err (by unfold f1;rw[Y];rfl)) λa b x F1 H1 I J=>?_;refine⟨F1,a,I.fh,J,?_⟩
 have e:f1 g fa ρ=g a:=by unfold f1;rw[b];rfl
 rw[e]at p;exact p.step I
theorem rd_2(h:tD K W own (f2 g fa fb) σ H Q):tOp (rD2 K W own g) (tD K W b_ fa) (tD K W b_ fb) σ H Q:=by
 obtain⟨F,ρ,r,s,p⟩:=h;refine aO r s (λe Y=>p.err (by unfold f2;rw[Y];rfl)) λa c x F1 H1 I f=>?_;refine aO (r.mono I.ff) I.fh (λe Y=>(p.step I).err (by unfold f2;rw[c];show(fb ρ).bind _=_;rw[Y];rfl)) λb i y F2 H2 J d=>?_;refine⟨F2,a,b,J.fh,aR.mono J.ff f,d,?_⟩
 have e:f2 g fa fb ρ=g a b:=by unfold f2;rw[c];show(fb ρ).bind _=_;rw[i];rfl
 rw[e]at p;exact p.step (I.trans J)
theorem rd_nil{R:List V->Hp->Prop}(h:tDA K W aC σ H R):dS σ H R:=by obtain⟨F,ρ,r,s,p⟩:=h;exact p [] F H (C6.refl s) rfl
theorem rd_cons{fr:ah->M (List A')}{R:List V->Hp->Prop}(h:tDA K W (aa fa fr) σ H R):aM (tD K W b_ fa) (tDA K W fr) σ H R:=by
 obtain⟨F,ρ,r,s,p⟩:=h;refine aO r s (λe J=>?_) λa b x F1 H1 I d=>qp (r.mono I.ff) I.fh (λe J=>?_) λds hd xs F2 H2 Y c=>?_
 ·have z:aa fa fr ρ=.error e:=by unfold aa;rw[J];rfl
  rw[z]at p;exact p
 ·have z:aa fa fr ρ=.error e:=by unfold aa;rw[b];show(fr ρ).bind _=_;rw[J];rfl
  rw[z]at p;exact W.mono p I
 ·have z:aa fa fr ρ=.ok (a::ds):=by unfold aa;rw[b];show(fr ρ).bind _=_;rw[hd];rfl
  rw[z]at p;exact p (x::xs) F2 H2 (I.trans Y) ⟨x,xs,rfl,aR.mono Y.ff d,c⟩
theorem rd_L{g:List A'->M A'}{fr:ah->M (List A')}(h:tD K W own (fL g fr) σ H Q):tDA K W fr σ H λxs H1=>rDL K W own g xs H1 Q:=by
 obtain⟨F,ρ,r,s,p⟩:=h;refine qp r s (λe Y=>p.err (by unfold fL;rw[Y];rfl)) λds hd xs F1 H1 I J=>⟨F1,ds,I.fh,J,?_⟩
 have e:fL g fr ρ=g ds:=by unfold fL;rw[hd];rfl
 rw[e]at p;exact p.step I
theorem rd_tup{fr:ah->M (List A')}(h:tD K W own (fL jU fr) σ H Q):tTup (tDA K W fr) σ H Q:=by
 obtain⟨F,ρ,r,s,p⟩:=rd_L h;refine⟨F,ρ,r,s,?_⟩
 cases e:fr ρ with
 |error x=>rw[e]at p;exact p|ok ds=>
  rw[e]at p;intro vs F' H' t q;obtain⟨F1,es,J,Y,z⟩:=p vs F' H' t q;unfold jU at z;by_cases I:es.length<=f_
  ·rw[g_ I]at z;refine⟨by rw[Y.length];exact I,λa b=>z (.ref a) _ _ (C6.lay J b) ?_⟩
   have:aR K (upd F1 a (.tup vs)) (.tup es) (.ref a):=⟨a,vs,rfl,SqT.of ao,Y.mono (aF.upd (J.free b))⟩
   cases own with
   |true=>exact this|false=>exact this
  ·rw[l_ I]at z;exact(W.ns z).elim
theorem rd_lst{fr:ah->M (List A')}(h:tD K W d_ (fL bP fr) σ H Q):Af (tDA K W fr) σ H Q:=by
 obtain⟨F,ρ,r,s,p⟩:=rd_L h;refine⟨F,ρ,r,s,?_⟩
 cases e:fr ρ with
 |error x=>rw[e]at p;exact p|ok ds=>
  rw[e]at p;intro vs F' H' t q;obtain⟨F1,es,Y,b,z⟩:=p vs F' H' t q;unfold bP at z;by_cases I:es.length<=f_
  ·rw[g_ I]at z;exact⟨by rw[b.length];exact I,λa J=>z (.ref a) F1 _ (C6.grow Y J) ⟨a,vs,rfl,ao,Y.free J,J,b⟩⟩
  ·rw[l_ I]at z;exact(W.ns z).elim
theorem rd_ite(h:tD K W own (fIte ft fa fb) σ H Q):tIf (tDT K W ft) (tD K W own fa) (tD K W own fb) σ H Q:=by
 obtain⟨F,ρ,r,s,p⟩:=h;refine eZ r s (λe J=>p.err (by unfold fIte;rw[J];rfl)) λb Y F1 H1 I=>?_;have e:fIte ft fa fb ρ=if b=d_ then fa ρ else fb ρ:=by unfold fIte;rw[Y];rfl
 rw[e]at p;cases b with
 |true=>exact⟨F1,ρ,r.mono I.ff,I.fh,p.step I⟩|false=>exact⟨F1,ρ,r.mono I.ff,I.fh,p.step I⟩
theorem Ag{f:ah->M Bool}(r:cP K F σ ρ)(I:C6 F H F1 H1)(p:match f ρ with
 |.ok b=>∀F' H',C6 F H F' H'->R b H'|.error e=>W.p e F H):tDT K W f σ H1 R:=by
 refine⟨F1,ρ,r.mono I.ff,I.fh,?_⟩
 cases e:f ρ with
 |ok b=>rw[e]at p;exact λF' H' t=>p F' H' (I.trans t)|error x=>rw[e]at p;exact W.mono p I
theorem rd_and(h:tDT K W (xI ft fu) σ H R):tAnd (tDT K W ft) (tDT K W fu) σ H R:=by
 obtain⟨F,ρ,r,s,p⟩:=h;refine eZ r s (λe J=>?_) λb Y F1 H1 I=>?_
 ·have z:xI ft fu ρ=.error e:=by unfold xI;rw[J];rfl
  rw[z]at p;exact p
 ·have z:xI ft fu ρ=if b=d_ then fu ρ else .ok b_:=by unfold xI;rw[Y];rfl
  rw[z]at p;cases b with
  |true=>exact Ag r I p|false=>exact p F1 H1 I
theorem rd_or(h:tDT K W (fOr ft fu) σ H R):tOr (tDT K W ft) (tDT K W fu) σ H R:=by
 obtain⟨F,ρ,r,s,p⟩:=h;refine eZ r s (λe J=>?_) λb Y F1 H1 I=>?_
 ·have z:fOr ft fu ρ=.error e:=by unfold fOr;rw[J];rfl
  rw[z]at p;exact p
 ·have z:fOr ft fu ρ=if b=d_ then .ok d_ else fu ρ:=by unfold fOr;rw[Y];rfl
  rw[z]at p;cases b with
  |false=>exact Ag r I p|true=>exact p F1 H1 I
theorem rd_not(h:tDT K W (si ft) σ H R):tNot (tDT K W ft) σ H R:=by
 obtain⟨F,ρ,r,s,p⟩:=h;refine eZ r s (λe J=>?_) λb Y F1 H1 I=>?_
 ·have z:si ft ρ=.error e:=by unfold si;rw[J];rfl
  rw[z]at p;exact p
 ·have z:si ft ρ=.ok (!b):=by unfold si;rw[Y];rfl
  rw[z]at p;exact p F1 H1 I
theorem rd_B(h:tDT K W (fB fa) σ H R):tTest (tD K W b_ fa) σ H R:=by
 obtain⟨F,ρ,r,s,p⟩:=h;refine aO r s (λe Y=>?_) λa c x F1 H1 I J=>?_
 ·have z:fB fa ρ=.error e:=by unfold fB;rw[Y];rfl
  rw[z]at p;exact p
 ·have z:fB fa ρ=asB a:=by unfold fB;rw[c];rfl
  rw[z]at p;cases a with
  |bl b=>exact⟨b,J,p F1 H1 I⟩|_=>exact(W.ns p).elim
theorem tru_of{a:A'}{x:V}{b:Bool}(s:aF F H1)(q:aR K F a x)(h:truD a=.ok b):TruV K x H1 b:=by
 cases a with
 |non=>rw[show x=.non from q];exact(Hm h).symm|bl c=>rw[show x=.bl c from q];exact(Hm h).symm|int i=>rw[show x=.int i from q];exact(Hm h).symm|str y=>
  rw[show x=.str y from q];have h':(if y.length<=f_ then FN ((y.length:Int) != 0)else HB Err.stuck)=FN b:=h;by_cases I:y.length<=f_
  ·rw[g_ I]at h';exact⟨I,(Hm h').symm⟩
  ·rw[l_ I]at h';cases h'
 |tup ds=>
  obtain⟨p,xs,e,t,r⟩:=q;subst e;refine .inr (.inl ⟨xs,s.tup t,?_⟩);rw[<- Hm h];cases ds with
  |nil=>rw[show xs=[]from r];rfl|cons d ds=>obtain⟨v,vs,e,_⟩:=r;rw[e];rfl
 |lst ds=>
  obtain⟨p,xs,e,t,r⟩:=q;subst e;refine .inl ⟨xs,s.lst t,?_⟩;rw[<- Hm h];cases ds with
  |nil=>rw[show xs=[]from r];rfl|cons d ds=>obtain⟨v,vs,e,_⟩:=r;rw[e];rfl
 |ins C fs=>cases h|dic ks=>cases h|dil ks=>cases h
theorem rd_tru(h:tDT K W (lI fa) σ H R):tD K W b_ fa σ H λx H1=>∃k,TruV K x H1 k/\R k H1:=by
 obtain⟨F,ρ,r,s,p⟩:=h;refine aO r s (λe d=>?_) λa f x F1 H1 J c=>?_
 ·have z:lI fa ρ=.error e:=by unfold lI;rw[d];rfl
  rw[z]at p;exact p
 ·have z:lI fa ρ=truD a:=by unfold lI;rw[f];rfl
  rw[z]at p;cases e:truD a with
  |ok b=>rw[e]at p;exact⟨b,tru_of J.fh c e,p F1 H1 J⟩|error x=>
   rw[e]at p;have:x=.stuck:=by
    cases a with
    |str y=>
     have I:(if y.length<=f_ then FN ((y.length:Int) != 0)else HB Err.stuck)=HB x:=e;by_cases Y:y.length<=f_
     ·rw[g_ Y]at I;cases I
     ·rw[l_ Y]at I;cases I;rfl
    |ins C fs=>cases e;rfl|dic ks=>cases e;rfl|dil ks=>cases e;rfl|_=>cases e
   subst this;exact(W.ns p).elim
theorem rd_andV(h:tD K W b_ (iM fa fb) σ H Q):tAndV (tD K W b_ fa) (tD K W b_ fb) σ H Q:=by
 obtain⟨F,ρ,r,s,p⟩:=h;refine aO r s (λe Y=>p.err (by unfold iM;rw[Y];rfl)) λa c x F1 H1 I J=>?_;have z:iM fa fb ρ=(asB a).bind λb=>if b=d_ then fb ρ else .ok (.bl b_):=by unfold iM;rw[c];rfl
 rw[z]at p;cases a with
 |bl b=>
  refine⟨b,J,?_⟩
  cases b with
  |true=>exact⟨F1,ρ,r.mono I.ff,I.fh,aJ.step (own:=b_) (r:=fb ρ) p I⟩|false=>exact p (.bl b_) F1 H1 I rfl
 |_=>exact(W.ns p).elim
theorem rd_orV(h:tD K W b_ (CK fa fb) σ H Q):tOrV (tD K W b_ fa) (tD K W b_ fb) σ H Q:=by
 obtain⟨F,ρ,r,s,p⟩:=h;refine aO r s (λe Y=>p.err (by unfold CK;rw[Y];rfl)) λa c x F1 H1 I J=>?_;have z:CK fa fb ρ=(asB a).bind λb=>if b=d_ then .ok (.bl d_)else fb ρ:=by unfold CK;rw[c];rfl
 rw[z]at p;cases a with
 |bl b=>
  refine⟨b,J,?_⟩
  cases b with
  |false=>exact⟨F1,ρ,r.mono I.ff,I.fh,aJ.step (own:=b_) (r:=fb ρ) p I⟩|true=>exact p (.bl d_) F1 H1 I rfl
 |_=>exact(W.ns p).elim
theorem rd_notV(h:tD K W b_ (f1 notD fa) σ H Q):tNotV (tD K W b_ fa) σ H Q:=by
 obtain⟨F,ρ,r,s,p⟩:=h;refine aO r s (λe Y=>p.err (by unfold f1;rw[Y];rfl)) λa c x F1 H1 I J=>?_;have z:f1 notD fa ρ=notD a:=by unfold f1;rw[c];rfl
 rw[z]at p;cases a with
 |bl b=>exact⟨b,J,p (.bl (!b)) F1 H1 I rfl⟩|_=>exact(W.ns p).elim
theorem Ax(h:tD K W b_ (jo g g' fa fb fc) σ H Q):Dd (rD2 K W b_ g) (rD2 K W b_ g') (tD K W b_ fa) (tD K W b_ fb) (tD K W b_ fc) σ H Q:=by
 obtain⟨F,ρ,r,s,p⟩:=h;refine aO r s (λe Y=>p.err (by unfold jo;rw[Y];rfl)) λa o x F1 H1 J u=>?_;refine aO (r.mono J.ff) J.fh (λe Y=>(p.step J).err (by unfold jo;rw[o];show(fb ρ).bind _=_;rw[Y];rfl)) λb B y F2 H2 f n=>?_;have z:jo g g' fa fb fc ρ=(g a b).bind λx=>(asB x).bind λk=>if k=d_ then(fc ρ).bind λc=>g' b c else .ok (.bl b_):=by unfold jo;rw[o];show(fb ρ).bind _=_;rw[B];rfl
 rw[z]at p;refine⟨F2,a,b,f.fh,aR.mono f.ff u,n,?_⟩
 have p2:=p.step (J.trans f);cases e:g a b with
 |error x=>rw[e]at p2;exact p2|ok d=>
  rw[e]at p2;intro v m l I t;have p3:aJ K W b_ m l ((asB d).bind λk=>if k=d_ then(fc ρ).bind λc=>g' b c else .ok (.bl b_)) Q:=aJ.step p2 I;cases d with
  |bl k=>
   refine⟨k,t,?_⟩
   cases k with
   |false=>exact p3 (.bl b_) m l (C6.refl I.fh) rfl|true=>
    have j:aJ K W b_ m l ((fc ρ).bind λc=>g' b c) Q:=p3;refine aO (r.mono (J.trans (f.trans I)).ff) I.fh (λe Y=>j.err (by rw[Y];rfl)) λc A w C D i q=>⟨C,b,c,i.fh,aR.mono (I.trans i).ff n,q,?_⟩
    rw[A]at j;exact j.step i
  |_=>exact(W.ns p3).elim
end
inductive Pat where
 |nm (i:Nat)|tp (is:List Nat)
noncomputable def jW:List Nat->List A'->ah->ah
 |i::is,d::ds,ρ=>jW is ds (ρ.set i (a_ d))|_,_,ρ=>ρ
noncomputable def jj:Pat->A'->ah->M ah
 |.nm i,d,ρ=>.ok (ρ.set i (a_ d))|.tp is,.tup ds,ρ=>if ds.length=is.length then .ok (jW is ds ρ)else .error .stuck
 |.tp _,_,_=>.error .stuck
def j5:List Nat->TGs
 |[]=>gNil|i::is=>lh (bU i) (j5 is)
def gP(K:Pn):Pat->TG
 |.nm i=>bU i|.tp is=>gTup K is.length (j5 is)
theorem tP{K:Pn}{F H:Hp}{R:St->Hp->Prop}:∀{is:List Nat} {ds:List A'} {vs:List V} {σ:St} {ρ:ah},cP K F σ ρ->az K F ds vs->ds.length=is.length->(∀σ',cP K F σ' (jW is ds ρ)->R σ' H)->j5 is vs σ H R
 |[],[],_,σ,ρ,r,q,_,h=>⟨q,h σ r⟩|[],_::_,_,_,_,_,_,e,_=>by simp at e|_::_,[],_,_,_,_,_,e,_=>by simp at e|i::is,d::ds,_,σ,ρ,r,⟨v,vs,e,q,t⟩,l,h=>⟨v,vs,e,tP (r.set q i) t (by simpa using l) h⟩
theorem gP_run{R:St->Hp->Prop}{p:Pat}{d:A'}(r:cP K F σ ρ)(s:aF F H)(q:aR K F d v)(e:jj p d ρ=.ok ρ')(h:∀σ',cP K F σ' ρ'->R σ' H):gP K p v σ H R:=by
 cases p with
 |nm i=>have:=Hm e;subst this;exact h _ (r.set q i)|tp is=>
  cases d with
  |tup ds=>
   have J:(if ds.length=is.length then FN (jW is ds ρ)else HB Err.stuck)=FN ρ':=e;by_cases I:ds.length=is.length
   ·rw[g_ I]at J;have:=Hm J;subst this;obtain⟨a,xs,Y,t,z⟩:=q;exact⟨a,xs,Y,s.tup t,by rw[z.length,I],tP r z I h⟩
   ·rw[l_ I]at J;cases J
  |_=>cases e
theorem nQ{p:Pat}{d:A'}{e:Err}(h:jj p d ρ=.error e):e=.stuck:=by
 cases p with
 |nm i=>cases h|tp is=>
  cases d with
  |tup ds=>
   have I:(if ds.length=is.length then FN (jW is ds ρ)else HB Err.stuck)=HB e:=h;by_cases J:ds.length=is.length
   ·rw[g_ J]at I;cases I
   ·rw[l_ J]at I;cases I;rfl
  |_=>cases h;rfl
structure yo(K:Pn)(F1:Hp)(J:It)(ds:List A'):Prop where
 go:∀(i:Nat) (F H:Hp),aF F1 F->aF F H->i<ds.length->J.go i H
 yl:∀(i:Nat) (F H:Hp) (x:V) (H':Hp) (d:A'),aF F1 F->aF F H->ds[i]?=a_ d->J.yld i H x H'->∃F',C6 F H F' H'/\aR K F' d x
 st:∀(F H:Hp),aF F1 F->aF F H->J.stop ds.length H
def iD(K:Pn)(W:eI)(f:ah->M (List A')):TI:=λσ H R=>∃F ρ,cP K F σ ρ/\aF F H/\(match f ρ with
 |.ok ds=>∀J F1 H1,C6 F H F1 H1->yo K F1 J ds->R J H1|.error e=>W.p e F H)
noncomputable def iS:A'->M (List A')
 |.lst ds=>.ok ds|.tup ds=>.ok ds|_=>.error .stuck
noncomputable def fIt(fa:ah->M A'):ah->M (List A'):=λρ=>(fa ρ).bind iS
def iSeq(K:Pn)(tl:TE):TI:=λσ H R=>tl σ H λx H1=>∃a,x=.ref a/\((∃xs,SqL K H1 a xs)/\R (Itl K a) H1\/(∃xs,SqT K H1 a xs)/\R (Itt K a) H1)
theorem En{xs:List V}{ds:List A'}(t:SqL K F a xs)(z:az K F ds xs):yo K F (Itl K a) ds where
 go:=λi F' H' J I hi=>⟨xs,xs[i]'(by rw[z.length];exact hi),I.lst (J.lst t),by simp[z.length,hi]⟩
 yl:=λi F' H' x H2 d J I hd Y=>by obtain⟨e,Y⟩:=Y;subst e;obtain⟨v,e1,q⟩:=z.get hd;have e2:=Y xs (I.lst (J.lst t));rw[e1]at e2;cases e2;exact⟨F',C6.refl I,q.mono J⟩
 st:=λF' H' J I=>⟨xs,I.lst (J.lst t),by rw[z.length];exact v_ _⟩
theorem iter_tup{xs:List V}{ds:List A'}(t:SqT K F a xs)(z:az K F ds xs):yo K F (Itt K a) ds where
 go:=λi F' H' J I hi=>⟨xs,xs[i]'(by rw[z.length];exact hi),I.tup (J.tup t),by simp[z.length,hi]⟩
 yl:=λi F' H' x H2 d J I hd Y=>by obtain⟨e,Y⟩:=Y;subst e;obtain⟨v,e1,q⟩:=z.get hd;have e2:=Y xs (I.tup (J.tup t));rw[e1]at e2;cases e2;exact⟨F',C6.refl I,q.mono J⟩
 st:=λF' H' J I=>⟨xs,I.tup (J.tup t),by rw[z.length];exact v_ _⟩
noncomputable def bQ(lo:Int)(n:Nat):List A':=(GU n).map λk:Nat=>A'.int (lo+k)
theorem C7{lo:Int}:yo K F (Itr lo n) (bQ lo n) where
 go:=λi F' H' Y I hi=>by show i<n;simpa[bQ] using hi
 yl:=λi F' H' x H2 d Y I hd J=>by
  obtain⟨e,J⟩:=J;subst e J;unfold bQ at hd;rw[GD]at hd;have hi:i<n:=by have:=(w_.mp (show((GU n).map λk:Nat=>A'.int (lo+k))[i]?=a_ d by rw[GD];exact hd)).1;simpa using this
  rw[MB hi]at hd;cases hd;exact⟨F',C6.refl I,rfl⟩
 st:=λF' H' Y I=>by show n<=_;simp[bQ]
noncomputable def lO(i:Int):Bool:=q_ (-(2^62)<=i)&&q_ (i<2^62)
def Av:List A'->M (List A')
 |[.int j]=>if lO j=d_ then .ok (bQ 0 j.toNat)else .error .stuck
 |_=>.error .stuck
noncomputable def zH(g:List A'->M (List A'))(fr:ah->M (List A')):ah->M (List A'):=λρ=>(fr ρ).bind g
section
variable{W:eI} 
theorem ri_seq{R:It->Hp->Prop}(h:iD K W (fIt fa) σ H R):iSeq K (tD K W b_ fa) σ H R:=by
 obtain⟨F,ρ,r,s,p⟩:=h;refine aO r s (λe Y=>?_) λa c x F1 H1 I J=>?_
 ·have z:fIt fa ρ=.error e:=by unfold fIt;rw[Y];rfl
  rw[z]at p;exact p
 ·have z:fIt fa ρ=iS a:=by unfold fIt;rw[c];rfl
  rw[z]at p;cases a with
  |lst ds=>obtain⟨b,xs,e,t,z⟩:=J;exact⟨b,e,.inl ⟨⟨xs,I.fh.lst t⟩,p _ F1 H1 I (En t z)⟩⟩
  |tup ds=>obtain⟨b,xs,e,t,z⟩:=J;exact⟨b,e,.inr ⟨⟨xs,I.fh.tup t⟩,p _ F1 H1 I (iter_tup t z)⟩⟩
  |_=>exact(W.ns p).elim
theorem ri_rng1{fr:ah->M (List A')}{R:It->Hp->Prop}(h:iD K W (zH Av fr) σ H R):iRng1 (tDA K W fr) σ H R:=by
 obtain⟨F,ρ,r,s,p⟩:=h;refine qp r s (λe c=>?_) λds hd xs F1 H1 a b=>?_
 ·have z:zH Av fr ρ=.error e:=by unfold zH;rw[c];rfl
  rw[z]at p;exact p
 ·have z:zH Av fr ρ=Av ds:=by unfold zH;rw[hd];rfl
  rw[z]at p;cases ds with
  |nil=>exact(W.ns p).elim|cons d ds=>
   cases d with
   |int j=>
    cases ds with
    |cons _ _=>exact(W.ns p).elim|nil=>
     obtain⟨v,vs,e,q,t⟩:=b;have Y:match (if lO j=d_ then FN (bQ 0 j.toNat)else HB Err.stuck:M (List A'))with
      |.ok ds=>∀J F1 H1,C6 F H F1 H1->yo K F1 J ds->R J H1|.error e=>W.p e F H:=p
     by_cases I:lO j=d_
     ·rw[g_ I]at Y;unfold lO at I;simp only[o_,FT]at I;exact⟨j,by rw[e,show v=.int j from q,show vs=[]from t],I.1,I.2,Y _ F1 H1 a C7⟩
     ·rw[l_ I]at Y;exact(W.ns Y).elim
   |_=>exact(W.ns p).elim
noncomputable def gj(ix:List (Option Nat))(ρ:ah):ah:=ix.map λo=>match o with
 |none=>c_|some j=>(ρ[j]?).join
noncomputable def aS(p:Pat)(ft:ah->M Bool)(fe:ah->M A')(ρ0:ah):List A'->M (List A')
 |[]=>.ok []|d::ds=>(jj p d ρ0).bind λρ=>(ft ρ).bind λb=>if b=d_ then(fe ρ).bind λy=>(aS p ft fe ρ0 ds).bind λr=>.ok (y::r)else aS p ft fe ρ0 ds
noncomputable def cn(fi:ah->M (List A'))(ix:List (Option Nat))(p:Pat)(ft:ah->M Bool)(fe:ah->M A'):ah->M A':=λρ=>(fi ρ).bind λds=>if ds.length<=f_ then(aS p ft fe (gj ix ρ) ds).bind λr=>.ok (.lst r)else .error .stuck
noncomputable def iK:ah->M Bool:=λ_=>.ok d_
theorem cP.inS{F:Hp}{ρ:ah}(r:cP K F σ ρ)(ix:List (Option Nat)):cP K F (Lake.inS ix σ) (gj ix ρ):=
 ⟨by simp[Lake.inS,gj],λi d e=>by
  unfold gj at e;unfold Lake.inS;rw[GD]at e ⊢;cases h:ix[i]? with
  |none=>rw[h]at e;cases e|some o=>
   rw[h]at e;cases o with
   |none=>cases e|some j=>
    simp only[JG,Lv]at e ⊢;have e1:ρ[j]?=a_ (a_ d):=by
     cases z:ρ[j]? with
     |none=>rw[z]at e;cases e|some w=>rw[z]at e;simp at e;rw[e]
    obtain⟨v,h1,h2⟩:=r.sl j d e1;exact⟨v,by rw[h1];rfl,h2⟩⟩
theorem yR{p:Pat}(h:tD K W d_ (cn fi ix p ft fe) σ H Q):
  tComp (iD K W fi) ix (gP K p) (tDT K W ft) (tD K W b_ fe) σ H Q:=by
 obtain⟨F,ρ,r,s,q⟩:=h;refine⟨F,ρ,r,s,?_⟩
 cases S:fi ρ with
 |error e=>exact q.err (by unfold cn;rw[S];rfl)|ok ds=>
  intro J F1 H1 C it;have e0:cn fi ix p ft fe ρ=if ds.length<=f_ then(aS p ft fe (gj ix ρ) ds).bind λr=>.ok (.lst r)else .error .stuck:=by unfold cn;rw[S];rfl
  rw[e0]at q;by_cases R:ds.length<=f_
  ·rw[g_ R]at q;refine⟨λi m ys H2=>m=ds.length-i/\i<=ds.length/\∃F2 I,C6 F1 H1 F2 H2/\az K F2 I ys/\I.length<=i /\
    (match aS p ft fe (gj ix ρ) (ds.drop i)with
     |.ok Y=>aS p ft fe (gj ix ρ) ds=.ok (I++Y)|.error e=>W.p e F H),⟨ds.length,by omega,G7 _,F1,[],C6.refl C.fh,rfl,G7 _,?_⟩,?_⟩
   ·rw[IJ];cases e:aS p ft fe (gj ix ρ) ds with
    |ok Y=>rfl|error x=>exact q.err (by rw[e];rfl)
   ·rintro i m ys H2 ⟨rfl,hi,F2,I,f,E,ly,t⟩;have A:ys.length<=f_:=by rw[E.length];omega
    by_cases j:i<ds.length
    ·have ed:ds.drop i=ds[i]::ds.drop (i+1):=G8 j;rw[ed]at t;refine .inr ⟨it.go i F2 H2 f.ff f.fh j,A,λw H'=>(i+1<=ds.length/\∃F2 I,C6 F1 H1 F2 H'/\az K F2 I w/\I.length<=i+1 /\
      (match aS p ft fe (gj ix ρ) (ds.drop (i+1))with
       |.ok Y=>aS p ft fe (gj ix ρ) ds=.ok (I++Y)|.error e=>W.p e F H)),λw H' n=>⟨ds.length-(i+1),by omega,rfl,n⟩,λx H' y=>?_⟩
     obtain⟨U,o,q3⟩:=it.yl i F2 H2 x H' ds[i] f.ff f.fh (by simp[j]) y;have Z:cP K U (Lake.inS ix σ) (gj ix ρ):=(r.mono (C.trans (f.trans o)).ff).inS ix;have z:C6 F H U H':=C.trans (f.trans o);have ec:aS p ft fe (gj ix ρ) (ds[i]::ds.drop (i+1))=(jj p ds[i] (gj ix ρ)).bind λc=>(ft c).bind λb=>if b=d_ then(fe c).bind λy=>(aS p ft fe (gj ix ρ) (ds.drop (i+1))).bind λr=>.ok (y::r)else aS p ft fe (gj ix ρ) (ds.drop (i+1)):=by rw[aS]
     rw[ec]at t;cases D:jj p ds[i] (gj ix ρ)with
     |error e=>rw[D]at t;have:=nQ D;subst this;exact(W.ns t).elim|ok c=>
      rw[D]at t;refine gP_run Z o.fh q3 D λX P=>?_;have k:match ((ft c).bind λb=>if b=d_ then(fe c).bind λy=>(aS p ft fe (gj ix ρ) (ds.drop (i+1))).bind λr=>.ok (y::r)else aS p ft fe (gj ix ρ) (ds.drop (i+1)))with
       |.ok Y=>aS p ft fe (gj ix ρ) ds=.ok (I++Y)|.error e=>W.p e F H:=t
      refine eZ P o.fh (λe G=>by rw[G]at k;exact W.mono k z) λb L F5 H5 u=>?_;rw[L]at k;cases b with
      |false=>
       have g:match aS p ft fe (gj ix ρ) (ds.drop (i+1))with
        |.ok Y=>aS p ft fe (gj ix ρ) ds=.ok (I++Y)|.error e=>W.p e F H:=k
       exact⟨j,F5,I,f.trans (o.trans u),E.mono (o.trans u).ff,by omega,g⟩
      |true=>
       have g:match ((fe c).bind λy=>(aS p ft fe (gj ix ρ) (ds.drop (i+1))).bind λr=>.ok (y::r))with
        |.ok Y=>aS p ft fe (gj ix ρ) ds=.ok (I++Y)|.error e=>W.p e F H:=k
       refine aO (P.mono u.ff) u.fh (λe G=>by rw[G]at g;exact W.mono g (z.trans u)) λd hd v F6 H6 O q6=>?_;rw[hd]at g;refine⟨j,F6,I++[d],f.trans (o.trans (u.trans O)),az.append (E.mono (o.trans (u.trans O)).ff) ⟨v,[],rfl,q6,rfl⟩,by simp;omega,?_⟩
       have l:match ((aS p ft fe (gj ix ρ) (ds.drop (i+1))).bind λr=>.ok (d::r):M (List A'))with
        |.ok Y=>aS p ft fe (gj ix ρ) ds=.ok (I++Y)|.error e=>W.p e F H:=g
       cases T:aS p ft fe (gj ix ρ) (ds.drop (i+1))with
       |ok Y=>rw[T]at l;show _=FN ((I++[d])++Y);rw[Hl];exact l|error x=>rw[T]at l;exact l
    ·have:i=ds.length:=by omega
     subst this;rw[KG]at t;have B:aS p ft fe (gj ix ρ) ds=.ok (I++[]):=t;rw[HF]at B;rw[B]at q;refine .inl ⟨it.st F2 H2 f.ff f.fh,A,λa N=>?_⟩;have st:C6 F H F2 H2:=C.trans f;exact q (.ref a) F2 _ (st.trans (C6.grow f.fh N)) ⟨a,ys,rfl,ao,f.fh.free N,st.hh.free N,E⟩
  ·rw[l_ R]at q;exact(W.ns q).elim
end
inductive H9 where
 |nx (ρ:ah)|rt (d:A')|bk (ρ:ah)|ct (ρ:ah)
variable{g2:ah->M H9}
structure Rep(K:Pn)(F0 H0 FB:Hp)(O:List Nat)(F H:Hp)(σ:St)(ρ:ah):Prop where
 st:C6 F0 H0 F H
 fb:aF FB F
 len:ρ.length=σ.length
 fz:∀(i:Nat) (d:A'),ρ[i]?=a_ (a_ d)->i∉O->∃v,σ[i]?=a_ (a_ v)/\aR K F d v
 ow:∀(i:Nat) (d:A'),ρ[i]?=a_ (a_ d)->i∈O->∃v,σ[i]?=a_ (a_ v)/\mJ K F H0 H d v
 ap:∀(i j:Nat) (d e:A') (a:i_),i∈O->j∈O->(ρ[i]?=a_ (a_ d)/\isO d=d_)->(ρ[j]?=a_ (a_ e)/\isO e=d_)->σ[i]?=a_ (a_ (.ref a))->σ[j]?=a_ (a_ (.ref a))->i=j
def qg(O O2:List Nat)(σ:St)(ρ:ah)(b:i_):Prop:=∃(i:Nat) (d:A'),i∈O/\i∉O2/\isO d=d_/\ρ[i]?=a_ (a_ d)/\σ[i]?=a_ (a_ (.ref b))
open Classical in
noncomputable def plus(F H:Hp)(A:Addr->Prop):Hp:=λb=>if A b then H b else F b
open Classical in
noncomputable def minus(F:Hp)(A:Addr->Prop):Hp:=λb=>if A b then none else F b
theorem gv{A:i_->Prop}(h:A b):plus F H A b=H b:=by unfold plus;rw[g_ h]
theorem bW{A:i_->Prop}(h:¬A b):plus F H A b=F b:=by unfold plus;rw[l_ h]
theorem pQ{A:i_->Prop}(h:A b):minus F A b=c_:=by unfold minus;rw[g_ h]
theorem fq{A:i_->Prop}(h:¬A b):minus F A b=F b:=by unfold minus;rw[l_ h]
theorem Rep.own(r:Rep K F0 H0 FB O F H σ ρ)(h:qg O O2 σ ρ b):F b=c_/\H0 b=c_/\∃o,H b=a_ o/\isMu o=d_:=by obtain⟨i,d,hi,_,hd,e1,e2⟩:=h;obtain⟨v,e3,q⟩:=r.ow i _ e1 hi;rw[e2]at e3;cases e3;obtain⟨a,o,e,p,m,f,z⟩:=q.top hd;cases e;exact⟨f,z,o,p,m⟩
theorem Rep.lX(r:Rep K F0 H0 FB O F H σ ρ):aF F (plus F H (qg O O2 σ ρ)):=λb o h=>by
 by_cases I:qg O O2 σ ρ b
 ·rw[(r.own I).1]at h;cases h
 ·rw[bW I];exact h
theorem Rep.lV(r:Rep K F0 H0 FB O F H σ ρ):aF (plus F H (qg O O2 σ ρ)) H:=λb o h=>by
 by_cases I:qg O O2 σ ρ b
 ·rw[gv I]at h;exact h
 ·rw[bW I]at h;exact r.st.fh b o h
theorem Rep.freeze(r:Rep K F0 H0 FB O F H σ ρ)(I:∀i∈O2,i∈O):Rep K F0 H0 FB O2 (plus F H (qg O O2 σ ρ)) H σ ρ where
 st:=⟨r.st.ff.trans r.lX,r.st.hh,r.lV,λb o h=>by
  by_cases l:qg O O2 σ ρ b
  ·exact .inr (r.own l).2.1
  ·rw[bW l]at h;exact r.st.nw b o h⟩
 fb:=r.fb.trans r.lX
 len:=r.len
 fz:=λi d e hi=>by
  by_cases J:i∈O
  ·obtain⟨v,e3,q⟩:=r.ow i d e J;refine⟨v,e3,?_⟩
   cases hd:isO d with
   |true=>obtain⟨a,_,k,_⟩:=q.top hd;subst k;exact q.give hd r.lX (gv ⟨i,d,J,hi,hd,e,e3⟩)
   |false=>rw[mJ.non hd]at q;exact q.mono r.lX
  ·obtain⟨v,e3,q⟩:=r.fz i d e J;exact⟨v,e3,q.mono r.lX⟩
 ow:=λi d e hi=>by
  obtain⟨v,e3,q⟩:=r.ow i d e (I i hi);refine⟨v,e3,?_⟩
  cases hd:isO d with
  |true=>
   obtain⟨a,o,k,p,_,f,z⟩:=q.top hd;subst k;refine q.re hd r.lX ?_ λ_ h=>h;have:¬qg O O2 σ ρ a:=λ⟨j,d',c,Y,g,f1,f2⟩=>by have:=r.ap i j d d' a (I i hi) c ⟨e,hd⟩ ⟨f1,g⟩ e3 f2;subst this;exact Y hi
   rw[bW this];exact f
  |false=>rw[mJ.non hd]at q ⊢;exact q.mono r.lX
 ap:=λi j d e a hi c=>r.ap i j d e a (I i hi) (I j c)
theorem Rep.repE(r:Rep K F0 H0 FB [] F H σ ρ):cP K F σ ρ:=⟨r.len,λi d e=>r.fz i d e (by simp)⟩
theorem Rep.tu(r:Rep K F0 H0 FB O F H σ ρ):cP K (plus F H (qg O [] σ ρ)) σ ρ:=(r.freeze (O2:=[]) (by simp)).repE
noncomputable def erase:List Nat->ah->ah
 |[],ρ=>ρ|i::is,ρ=>erase is (ρ.set i c_)
theorem xJ:∀(O:List Nat) (ρ:ah),(erase O ρ).length=ρ.length
 |[],_=>rfl|i::is,ρ=>by rw[erase,xJ,Cb]
theorem xK:∀(O:List Nat) (ρ:ah) (i:Nat) (d:A'),(erase O ρ)[i]?=a_ (a_ d)->ρ[i]?=a_ (a_ d)/\i∉O
 |[],_,_,_,h=>⟨h,by simp⟩|j::is,ρ,i,d,h=>by
  obtain⟨h1,h2⟩:=xK is (ρ.set j c_) i d h;by_cases e:j=i
  ·subst e;have I:j<ρ.length:=by
    have:=(w_.mp h1).1;simpa using this
   rw[u_ I]at h1;cases h1
  ·rw[n_ e]at h1;exact⟨h1,by simp[h2];omega⟩
theorem Rep.jw(r:Rep K F0 H0 FB O F H σ ρ):cP K F σ (erase O ρ):=
 ⟨by rw[xJ,r.len],λi d e=>let ⟨h1,h2⟩:=xK O ρ i d e;r.fz i d h1 h2⟩
theorem Rep.step(r:Rep K F0 H0 FB O F H σ ρ)(s:C6 F H F1 H1):Rep K F0 H0 FB O F1 H1 σ ρ where
 st:=r.st.trans s
 fb:=r.fb.trans s.ff
 len:=r.len
 fz:=λi d e hi=>let ⟨v,e3,q⟩:=r.fz i d e hi;⟨v,e3,q.mono s.ff⟩
 ow:=λi d e hi=>by
  obtain⟨v,e3,q⟩:=r.ow i d e hi;refine⟨v,e3,?_⟩
  cases hd:isO d with
  |true=>
   obtain⟨a,u,I,p,_,f,z⟩:=q.top hd;subst I;refine q.re hd s.ff ?_ (s.hh a);cases e1:F1 a with
   |none=>rfl|some o=>
    rcases s.nw a o e1 with h|h
    ·rw[f]at h;cases h
    ·rw[p]at h;cases h
  |false=>rw[mJ.non hd]at q ⊢;exact q.mono s.ff
 ap:=r.ap
theorem Rep.ur(r:Rep K F0 H0 FB O F H σ ρ)(s:C6 (plus F H (qg O [] σ ρ)) H F1 H1):Rep K F0 H0 FB O (minus F1 (qg O [] σ ρ)) H1 σ ρ:=by
 refine r.step ⟨λb o h=>?_,s.hh,λb o h=>?_,λb o h=>?_⟩
 ·by_cases I:qg O [] σ ρ b
  ·rw[(r.own I).1]at h;cases h
  ·rw[fq I];exact s.ff b o (by rw[bW I];exact h)
 ·by_cases I:qg O [] σ ρ b
  ·rw[pQ I]at h;cases h
  ·rw[fq I]at h;exact s.fh b o h
 ·by_cases I:qg O [] σ ρ b
  ·rw[pQ I]at h;cases h
  ·rw[fq I]at h;rcases s.nw b o h with z|z
   ·rw[bW I]at z;exact .inl z
   ·exact .inr z
theorem Rep.minusT(r:Rep K F0 H0 FB O F H σ ρ)(s:C6 (plus F H (qg O [] σ ρ)) H F1 H1)(a:i_)(xs:List V)(h:SqT K F1 a xs):SqT K (minus F1 (qg O [] σ ρ)) a xs:=by
 have key:∀{b:i_} {o:HO},F1 b=a_ o->isMu o=b_->minus F1 (qg O [] σ ρ) b=a_ o:=λ{b o} h n=>by
  by_cases I:qg O [] σ ρ b
  ·obtain⟨_,_,u,e,m⟩:=r.own I;have:=s.ff b u (by rw[gv I];exact e);rw[h]at this;cases this;rw[n]at m;cases m
  ·rw[fq I];exact h
 rcases h with(h|⟨o,h⟩)|h
 ·exact .inl (.inl (key h rfl))
 ·exact .inl (.inr ⟨o,key h rfl⟩)
 ·exact .inr h
theorem Rep.set{d:A'}{v:V}(r:Rep K F0 H0 FB O F H σ ρ)(q:aR K F d v)(i:Nat):Rep K F0 H0 FB (O.filter (· != i)) F H (σ.set i (a_ v)) (ρ.set i (a_ d)) where
 st:=r.st
 fb:=r.fb
 len:=by rw[Cb,Cb,r.len]
 fz:=λj e h J=>by
  by_cases I:i=j
  ·subst I;have hi:i<ρ.length:=by
    have:=(w_.mp h).1;simpa using this
   rw[u_ hi]at h;cases h;exact⟨v,by rw[u_ (by rw[<- r.len];exact hi)],q⟩
  ·rw[n_ I]at h;rw[n_ I];exact r.fz j e h λz=>J (GL.mpr ⟨z,by simpa using FZ I⟩)
 ow:=λj e h J=>by
  obtain⟨h1,h2⟩:=GL.mp J;have I:i≠j:=λz=>by simp[z]at h2
  rw[n_ I]at h ⊢;exact r.ow j e h h1
 ap:=λj k ds es a J f e1 e2 e3 e4=>by
  obtain⟨c,b⟩:=GL.mp J;obtain⟨k1,k2⟩:=GL.mp f;have I:i≠j:=λz=>by simp[z]at b
  have Y:i≠k:=λz=>by simp[z]at k2
  rw[n_ I]at e1 e3;rw[n_ Y]at e2 e4;exact r.ap j k ds es a c k1 e1 e2 e3 e4
theorem Rep.setOwn{d:A'}(r:Rep K F0 H0 FB O F H σ ρ)(q:mJ K F H0 H d v)(t:∀a,v=.ref a->isO d=d_->¬qg O [i] σ ρ a):Rep K F0 H0 FB (i::O.filter (· != i)) F H (σ.set i (a_ v)) (ρ.set i (a_ d)) where
 st:=r.st
 fb:=r.fb
 len:=by rw[Cb,Cb,r.len]
 fz:=λj e h b=>by simp only[x_,LU]at b;have I:i≠j:=λz=>b.1 z.symm;rw[n_ I]at h ⊢;exact r.fz j e h λz=>b.2 (GL.mpr ⟨z,by simpa using FZ I⟩)
 ow:=λj e h b=>by
  by_cases I:i=j
  ·subst I;have hi:i<ρ.length:=by
    have:=(w_.mp h).1;simpa using this
   rw[u_ hi]at h;cases h;exact⟨v,by rw[u_ (by rw[<- r.len];exact hi)],q⟩
  ·rw[n_ I]at h ⊢;rcases x_.mp b with z|z
   ·exact FJ z.symm I
   ·exact r.ow j e h (GL.mp z).1
 ap:=λj k ds es a b o e1 e2 e3 e4=>by
  have key:∀{c:Nat} {ds' J:A'},c∈O->c≠i->((ρ.set i (a_ d))[i]?=a_ (a_ ds')/\isO ds'=d_)->((ρ.set i (a_ d))[c]?=a_ (a_ J)/\isO J=d_)->(σ.set i (a_ v))[i]?=a_ (a_ (.ref a))->(σ.set i (a_ v))[c]?=a_ (a_ (.ref a))->False:=by
   intro c ds' J l f f1 f2 f3 f4;have hi:i<ρ.length:=by have:=(w_.mp f1.1).1;simpa using this
   rw[u_ hi]at f1;rw[u_ (by rw[<- r.len];exact hi)]at f3;rw[n_ (FZ f)]at f2 f4;have s:v=.ref a:=by simpa using f3
   have p:d=ds':=by simpa using f1.1
   exact t a s (p▸f1.2) ⟨c,J,l,by simpa using f,f2.2,f2.1,f4⟩
  rcases x_.mp b with g|g
  ·rcases x_.mp o with Y|Y
   ·rw[g,Y]
   ·obtain⟨k1,k2⟩:=GL.mp Y;subst g;exact(key k1 (by simpa using k2) e1 e2 e3 e4).elim
  ·obtain⟨n,u⟩:=GL.mp g;have I:i≠j:=λz=>by simp[z]at u
   rcases x_.mp o with Y|Y
   ·subst Y;exact(key n (FZ I) e2 e1 e4 e3).elim
   ·obtain⟨k1,k2⟩:=GL.mp Y;have m:i≠k:=λz=>by simp[z]at k2
    rw[n_ I]at e1 e3;rw[n_ m]at e2 e4;exact r.ap j k ds es a n k1 e1 e2 e3 e4
theorem Rep.tj(r:Rep K F0 H0 FB O F H σ ρ)(s:C6 (plus F H (qg O [] σ ρ)) H F1 H1):aF F (minus F1 (qg O [] σ ρ)):=λb o h=>by
 by_cases I:qg O [] σ ρ b
 ·rw[(r.own I).1]at h;cases h
 ·rw[fq I];exact s.ff b o (by rw[bW I];exact h)
theorem Ci(h:i∉O):O.filter (· != i)=O:=by rw[List.filter_eq_self];intro a I;simp;intro e;exact h (e▸I)
theorem Rep.set'{d:A'}(r:Rep K F0 H0 FB O F H σ ρ)(q:aR K F d v)(hi:i∉O):Rep K F0 H0 FB O F H (σ.set i (a_ v)) (ρ.set i (a_ d)):=by have:=r.set q i;rw[Ci hi]at this;exact this
theorem Rep.base{I:Hp}(r:Rep K F0 H0 FB O F H σ ρ)(s:aF I FB):Rep K F0 H0 I O F H σ ρ:=⟨r.st,s.trans r.fb,r.len,r.fz,r.ow,r.ap⟩
theorem Rep.writeO{d:A'}{u:HO}(r:Rep K F0 H0 FB O F H σ ρ)(hi:i∈O)(e1:ρ[i]?=a_ (a_ d))(hd:isO d=d_)(e2:σ[i]?=a_ (a_ (.ref a)))(q:F a=c_->H0 a=c_->mJ K F H0 (upd H a u) d' (.ref a)):Rep K F0 H0 FB O F (upd H a u) σ (ρ.set i (a_ d')):=by
 have c:F a=c_/\H0 a=c_/\∃o,H a=a_ o/\isMu o=d_:=r.own (O2:=[]) ⟨i,d,hi,by simp,hd,e1,e2⟩;have l:i<ρ.length:=(w_.mp e1).1;refine⟨⟨r.st.ff,λb o h=>?_,λb o h=>?_,r.st.nw⟩,r.fb,by rw[Cb,r.len],λj e h J=>?_,λj e h J=>?_,λj k es fs b J w f1 f2 f3 f4=>?_⟩
 ·rw[aq (aN h c.2.1)];exact r.st.hh b o h
 ·rw[aq (aN h c.1)];exact r.st.fh b o h
 ·have I:i≠j:=λz=>J (z▸hi);rw[n_ I]at h;exact r.fz j e h J
 ·by_cases I:i=j
  ·subst I;rw[u_ l]at h;cases h;exact⟨.ref a,e2,q c.1 c.2.1⟩
  ·rw[n_ I]at h;obtain⟨v,e3,z⟩:=r.ow j e h J;refine⟨v,e3,?_⟩
   cases g:isO e with
   |true=>
    obtain⟨b,o,y,p,_,f,_⟩:=z.top g;subst y;have m:b≠a:=λz=>by subst z;exact I (r.ap i j d e b hi J ⟨e1,hd⟩ ⟨h,g⟩ e2 e3)
    exact z.re g (aF.refl _) f λo h=>by rw[aq m];exact h
   |false=>rw[mJ.non g]at z ⊢;exact z
 ·have Y:∀{j:Nat} {e:A'},((ρ.set i (a_ d'))[j]?=a_ (a_ e)/\isO e=d_)->∃t,ρ[j]?=a_ (a_ t)/\isO t=d_:=λ{j e} f=>by
   by_cases I:i=j
   ·subst I;exact⟨d,e1,hd⟩
   ·rw[n_ I]at f;exact⟨e,f⟩
  obtain⟨s,x⟩:=Y f1;obtain⟨n,g2⟩:=Y f2;exact r.ap j k s n b J w x g2 f3 f4
theorem Rep.write{ds:List A'}{I:List V}(r:Rep K F0 H0 FB O F H σ ρ)(hi:i∈O)(e1:ρ[i]?=a_ (a_ (.lst ds)))(e2:σ[i]?=a_ (a_ (.ref a)))(q:az K F ds' I):Rep K F0 H0 FB O F (upd H a (.lst I)) σ (ρ.set i (a_ (.lst ds'))):=
 r.writeO hi e1 rfl e2 λf z=>⟨a,I,rfl,ao,f,z,q⟩
noncomputable def Pat.names:Pat->List Nat
 |.nm i=>[i]|.tp is=>is
theorem tQ{R:St->Hp->Prop}:∀{is:List Nat} {ds:List A'} {vs:List V} {σ:St} {ρ:ah},Rep K F0 H0 FB O F H σ ρ->(∀i∈is,i∉O)->az K F ds vs->ds.length=is.length->(∀σ',Rep K F0 H0 FB O F H σ' (jW is ds ρ)->R σ' H)->j5 is vs σ H R
 |[],[],_,σ,ρ,r,_,q,_,h=>⟨q,h σ r⟩|[],_::_,_,_,_,_,_,_,e,_=>by simp at e|_::_,[],_,_,_,_,_,_,e,_=>by simp at e|i::is,d::ds,_,σ,ρ,r,n,⟨v,vs,e,q,t⟩,l,h=>⟨v,vs,e,tQ (r.set' q (n i (by simp))) (λj I=>n j (by simp[I])) t (by simpa using l) h⟩
theorem gP_rep{R:St->Hp->Prop}{p:Pat}{d:A'}(r:Rep K F0 H0 FB O F H σ ρ)(n:∀i∈p.names,i∉O)(q:aR K F d v)(e:jj p d ρ=.ok ρ')(h:∀σ',Rep K F0 H0 FB O F H σ' ρ'->R σ' H):gP K p v σ H R:=by
 cases p with
 |nm i=>have:=Hm e;subst this;exact h _ (r.set' q (n i (by simp[Pat.names])))|tp is=>
  cases d with
  |tup ds=>
   have J:(if ds.length=is.length then FN (jW is ds ρ)else HB Err.stuck)=FN ρ':=e;by_cases I:ds.length=is.length
   ·rw[g_ I]at J;have:=Hm J;subst this;obtain⟨a,xs,Y,t,z⟩:=q;exact⟨a,xs,Y,r.st.fh.tup t,by rw[z.length,I],tQ r n z I h⟩
   ·rw[l_ I]at J;cases J
  |_=>cases e
def gR(K:Pn)(W:eI)(ro:Bool)(F0 H0 FB:Hp)(OL O':List Nat)(D:Ends)(r:M H9):Prop:=match r with
 |.ok (.nx ρ)=>∀σ F H,Rep K F0 H0 FB O' F H σ ρ->D.nx σ H|.ok (.rt d)=>∀v F H,C6 F0 H0 F H->Val K ro F H0 H d v->D.rt v H|.ok (.bk ρ)=>∀σ F H,Rep K F0 H0 FB OL F H σ ρ->D.bk σ H|.ok (.ct ρ)=>∀σ F H,Rep K F0 H0 FB OL F H σ ρ->D.ct σ H|.error e=>W.p e F0 H0
def tS(K:Pn)(W:eI)(ro:Bool)(F0 H0:Hp)(OL O O':List Nat)(g:ah->M H9):TS:=λD σ H=>∃FB F ρ,Rep K F0 H0 FB O F H σ ρ/\gR K W ro F0 H0 FB OL O' D (g ρ)
noncomputable def dN:ah->M H9:=λρ=>.ok (.nx ρ)
noncomputable def cF(g h:ah->M H9):ah->M H9:=λρ=>(g ρ).bind λfl=>match fl with
 |.nx ρ'=>h ρ'|fl=>.ok fl
noncomputable def sIf(ft:ah->M Bool)(g h:ah->M H9):ah->M H9:=λρ=>(ft ρ).bind λb=>if b=d_ then g ρ else h ρ
def bw(O:List Nat)(i:Nat)(f:ah->M A'):ah->M H9:=λρ=>(f (erase O ρ)).bind λd=>.ok (.nx (ρ.set i (a_ d)))
def yP(O:List Nat)(p:Pat)(f:ah->M A'):ah->M H9:=λρ=>(f (erase O ρ)).bind λd=>(jj p d ρ).bind λρ'=>.ok (.nx ρ')
noncomputable def jE(ρ:ah)(i:Nat):M (List A'):=match ρ[i]? with
 |some (a_ (.lst ds))=>.ok ds|_=>.error .stuck
noncomputable def put(ρ:ah)(i:Nat)(ds:List A'):M H9:=.ok (.nx (ρ.set i (a_ (.lst ds))))
def qD(O:List Nat)(i:Nat)(f:ah->M A'):ah->M H9:=λρ=>(jE ρ i).bind λds=>(f (erase O ρ)).bind λd=>if ds.length<f_ then put ρ i (ds++[d])else .error .stuck
noncomputable def asI:A'->M Int
 |.int i=>.ok i|_=>.error .stuck
def Bs(i:Nat)(fi f:ah->M A'):ah->M H9:=λρ=>(f ρ).bind λd=>(jE ρ i).bind λds=>(fi ρ).bind λk=>(asI k).bind λk=>if i7 d=d_ then(match ixN ds.length k with
 |some j=>put ρ i (ds.set j d)|none=>.error .stuck)else .error .stuck
noncomputable def cL(f:ah->M A'):ah->M H9:=λρ=>(f ρ).bind λd=>.ok (.rt d)
noncomputable def isL:A'->Bool
 |.lst _=>d_|_=>b_
noncomputable def lj(p:Pat)(g:ah->M H9):List A'->ah->M H9
 |[],ρ=>.ok (.nx ρ)|d::ds,ρ=>(jj p d ρ).bind λJ=>(g J).bind λfl=>match fl with
  |.nx I=>lj p g ds I|.ct I=>lj p g ds I|.bk I=>.ok (.nx I)|.rt d=>.ok (.rt d)
def Am(O:List Nat)(fi:ah->M (List A'))(p:Pat)(g:ah->M H9):ah->M H9:=λρ=>(fi (erase O ρ)).bind λds=>lj p g ds ρ
section
variable{W:eI}{own:Bool}{D:Ends}{g h:ah->M H9}{f fi:ah->M A'} 
theorem gR.err{x:M H9}{e:Err}(p:gR K W ro F0 H0 FB OL O' D x)(h:x=.error e):W.p e F0 H0:=by rw[h]at p;exact p
theorem gR.sO{x:M H9}{e:Err}(p:gR K W ro F0 H0 FB OL O' D x)(s:C6 F0 H0 F H)(h:x=.error e):W.p e F H:=W.mono (p.err h) s
theorem gR.stuck{x:M H9}{P:Prop}(p:gR K W ro F0 H0 FB OL O' D x)(h:x=.error .stuck):P:=(W.ns (p.err h)).elim
theorem tS.enter(I:∀i∈O2,i∈O)(t:tS K W ro F0 H0 OL O O' g D σ H):tS K W ro F0 H0 OL O2 O' g D σ H:=by obtain⟨FB,F,ρ,r,p⟩:=t;exact⟨FB,_,ρ,r.freeze I,p⟩
theorem rs_next(t:tS K W ro F0 H0 OL O O dN D σ H):eY D σ H:=by obtain⟨FB,F,ρ,r,p⟩:=t;exact p σ F H r
theorem rs_seq(t:tS K W ro F0 H0 OL O O2 (cF g h) D σ H):cR (tS K W ro F0 H0 OL O O' g) (tS K W ro F0 H0 OL O' O2 h) D σ H:=by
 obtain⟨FB,F,ρ,r,p⟩:=t;refine⟨FB,F,ρ,r,?_⟩
 unfold cF at p;cases e:g ρ with
 |error x=>exact p.err (by rw[e];rfl)|ok fl=>
  rw[e]at p;cases fl with
  |nx ρ'=>exact λσ' F' H' r'=>⟨FB,F',ρ',r',p⟩|rt d=>exact p|bk ρ'=>exact p|ct ρ'=>exact p
theorem rs_if(t:tS K W ro F0 H0 OL O O' (sIf ft g h) D σ H):lM (tDT K W ft) (tS K W ro F0 H0 OL O O' g) (tS K W ro F0 H0 OL O O' h) D σ H:=by
 obtain⟨FB,F,ρ,r,p⟩:=t;refine eZ r.tu r.lV (λe J=>p.sO (r.freeze (O2:=[]) (by simp)).st (by unfold sIf;rw[J];rfl)) λb Y F1 H1 I=>?_;have z:sIf ft g h ρ=if b=d_ then g ρ else h ρ:=by unfold sIf;rw[Y];rfl
 rw[z]at p;cases b with
 |true=>exact⟨FB,_,ρ,r.ur I,p⟩|false=>exact⟨FB,_,ρ,r.ur I,p⟩
noncomputable def aft(own:Bool)(i:Nat)(O:List Nat):List Nat:=if own=d_ then i::O.filter (· != i)else O.filter (· != i)
theorem Rep.bindV{d:A'}(r:Rep K F0 H0 FB O F H σ ρ)(q:Val K own F H2 H d v)(h2:aF H0 H2)(J:∀a,qg O [] σ ρ a->∃o,H2 a=a_ o):Rep K F0 H0 FB (aft own i O) F H (σ.set i (a_ v)) (ρ.set i (a_ d)):=by
 cases own with
 |false=>exact r.set q i|true=>refine r.setOwn (mJ.back h2 q) λa Y hd z=>?_;subst Y;obtain⟨b,_,e,_,_,_,n⟩:=mJ.top hd q;cases e;obtain⟨j,es,h1,h2,g,f,c⟩:=z;obtain⟨o,I⟩:=J a ⟨j,es,h1,by simp,g,f,c⟩;rw[n]at I;cases I
theorem yQ(t:tS K W ro F0 H0 OL O (aft own i O) (bw O i f) D σ H):oK (tD K W own f) (bU i) D σ H:=by
 obtain⟨FB,F,ρ,r,p⟩:=t;refine aO r.jw r.st.fh (λe J=>p.sO r.st (by unfold bw;rw[J];rfl)) λd hd v F1 H1 I q=>?_;have z:bw O i f ρ=.ok (.nx (ρ.set i (a_ d))):=by unfold bw;rw[hd];rfl
 rw[z]at p;exact p _ F1 H1 ((r.step I).bindV q r.st.hh λa Y=>let ⟨_,_,_,e,_⟩:=r.own Y;⟨_,e⟩)
theorem rs_unpB{pt:Pat}(n:∀i∈pt.names,i∉O)(t:tS K W ro F0 H0 OL O O (yP O pt f) D σ H):oK (tD K W b_ f) (gP K pt) D σ H:=by
 obtain⟨FB,F,ρ,r,p⟩:=t;refine aO r.jw r.st.fh (λe J=>p.sO r.st (by unfold yP;rw[J];rfl)) λd hd v F1 H1 I q=>?_;have z:yP O pt f ρ=(jj pt d ρ).bind λρ'=>.ok (.nx ρ'):=by unfold yP;rw[hd];rfl
 rw[z]at p;cases e:jj pt d ρ with
 |error x=>have:=nQ e;subst this;exact p.stuck (by rw[e];rfl)|ok ρ'=>rw[e]at p;exact gP_rep (r.step I) n q e λσ' r'=>p σ' F1 H1 r'
theorem jD{ds:List A'}(h:jE ρ i=.ok ds):ρ[i]?=a_ (a_ (.lst ds)):=by
 unfold jE at h;split at h
 ·cases h;assumption
 ·cases h
theorem nh{e:Err}(h:jE ρ i=.error e):e=.stuck:=by
 unfold jE at h;split at h
 ·cases h
 ·cases h;rfl
theorem Rep.Ee{ds:List A'}(r:Rep K F0 H0 FB O F H σ ρ)(hi:i∈O)(e:ρ[i]?=a_ (a_ (.lst ds))):∃a xs,σ[i]?=a_ (a_ (.ref a))/\H a=a_ (.lst xs)/\az K F ds xs:=by obtain⟨v,e3,a,xs,I,p,_,_,t⟩:=r.ow i _ e hi;subst I;exact⟨a,xs,e3,p,t⟩
def tApp(K:Pn)(i:Nat)(te:TE):TS:=lN (tBM K "list" jc (bG i) (aM te dS))
theorem rs_appB(hi:i∈O)(t:tS K W ro F0 H0 OL O O (qD O i f) D σ H):tApp K i (tD K W b_ f) D σ H:=by
 obtain⟨FB,F,ρ,r,p⟩:=t;cases I:jE ρ i with
 |error e=>have:=nh I;subst this;exact p.stuck (by unfold qD;rw[I];rfl)|ok ds=>
  obtain⟨a,xs,e2,b,z⟩:=r.Ee hi (jD I);refine⟨.ref a,e2,gF b,?_⟩
  refine aO r.jw r.st.fh (λe c=>p.sO r.st (by unfold qD;rw[I];show(f (erase O ρ)).bind _=_;rw[c];rfl)) λd hd v F1 H1 J q=>?_;have g:qD O i f ρ=if ds.length<f_ then put ρ i (ds++[d])else .error .stuck:=by unfold qD;rw[I];show(f (erase O ρ)).bind _=_;rw[hd];rfl
  rw[g]at p;by_cases Y:ds.length<f_
  ·rw[g_ Y]at p;exact⟨a,xs,v,rfl,rfl,J.hh _ _ b,by rw[z.length];exact Y,p σ F1 _ ((r.step J).write hi (jD I) e2 (az.append (z.mono J.ff) ⟨v,[],rfl,q,rfl⟩))⟩
  ·rw[l_ Y]at p;exact p.stuck rfl
theorem rs_setI(hi:i∈O)(t:tS K W ro F0 H0 OL O O (Bs i fi f) D σ H):oK (tD K W b_ f) (gSub (bG i) (tD K W b_ fi) rSetL) D σ H:=by
 obtain⟨FB,F,ρ,r,p⟩:=t;refine aO r.tu r.lV (λe g=>p.sO (r.freeze (O2:=[]) (by simp)).st (by unfold Bs;rw[g];rfl)) λd hd v F1 H1 h q=>?_;have s:Bs i fi f ρ=(jE ρ i).bind λds=>(fi ρ).bind λk=>(asI k).bind λk=>if i7 d=d_ then(match ixN ds.length k with
  |some j=>put ρ i (ds.set j d)|none=>.error .stuck)else .error .stuck:=by unfold Bs;rw[hd];rfl
 rw[s]at p;cases J:jE ρ i with
 |error e=>have:=nh J;subst this;exact p.stuck (by rw[J];rfl)|ok ds=>
  rw[J]at p;have p:gR K W ro F0 H0 FB OL O D ((fi ρ).bind λk=>(asI k).bind λk=>if i7 d=d_ then(match ixN ds.length k with
   |some j=>put ρ i (ds.set j d)|none=>.error .stuck)else .error .stuck):=p
  have I:=r.ur h;obtain⟨a,xs,e2,o,z⟩:=I.Ee hi (jD J);refine⟨.ref a,e2,?_⟩
  refine aO I.tu I.lV (λe g=>p.sO (I.freeze (O2:=[]) (by simp)).st (by rw[g];rfl)) λk n w F2 H2 Y m=>?_;rw[n]at p;cases k with
  |int k=>
   have p:gR K W ro F0 H0 FB OL O D (if i7 d=d_ then(match ixN ds.length k with
    |some j=>put ρ i (ds.set j d)|none=>.error .stuck)else .error .stuck):=p
   by_cases c:i7 d=d_
   ·rw[g_ c]at p;cases b:ixN ds.length k with
    |none=>rw[b]at p;exact p.stuck rfl|some j=>
     rw[b]at p;refine⟨a,xs,k,j,rfl,m,Y.hh _ _ o,by rw[z.length];exact b,?_⟩
     have l:aR K (minus F1 (qg O [] σ ρ)) d v:=aR.flat (r.minusT h) c q;exact p σ _ _ ((I.ur Y).write hi (jD J) e2 (az.set (l.mono (I.tj Y)) j (z.mono (I.tj Y))))
   ·rw[l_ c]at p;exact p.stuck rfl
  |_=>exact p.stuck rfl
theorem rs_ret(t:tS K W ro F0 H0 OL O O' (cL f) D σ H):sk (tD K W ro f) D σ H:=by
 obtain⟨FB,F,ρ,r,p⟩:=t;have I:=r.freeze (O2:=[]) (by simp);refine aO r.tu r.lV (λe Y=>p.sO I.st (by unfold cL;rw[Y];rfl)) λd hd v F1 H1 J q=>?_;have z:cL f ρ=.ok (.rt d):=by unfold cL;rw[hd];rfl
 rw[z]at p;exact p v F1 H1 (I.st.trans J) (q.back r.st.hh)
theorem rs_retV(hi:i∈O)(t:tS K W d_ F0 H0 OL O O' (cL (ai i)) D σ H):sk (bG i) D σ H:=by
 obtain⟨FB,F,ρ,r,p⟩:=t;unfold cL ai at p
 match e:ρ[i]? with
 |some (a_ d)=>rw[e]at p;obtain⟨v,e3,q⟩:=r.ow i d e hi;exact⟨v,e3,p v F H r.st q⟩
 |some c_=>rw[e]at p;exact p.stuck rfl|none=>rw[e]at p;exact p.stuck rfl
theorem rs_for{fs:ah->M (List A')}{pt:Pat}(n:∀i∈pt.names,i∉O)(t:tS K W ro F0 H0 OL O O (Am O fs pt g) D σ H):tFor (iD K W fs) (gP K pt) (tS K W ro F0 H0 O O O g) D σ H:=by
 obtain⟨FB,F,ρ,r,p⟩:=t;refine⟨F,erase O ρ,r.jw,r.st.fh,?_⟩
 cases e:fs (erase O ρ)with
 |error x=>exact p.sO r.st (by unfold Am;rw[e];rfl)|ok ds=>
  have z:Am O fs pt g ρ=lj pt g ds ρ:=by unfold Am;rw[e];rfl
  rw[z]at p;intro J F1 H1 k it;refine⟨λi m σ H=>∃F ρ,Rep K F0 H0 F1 O F H σ ρ/\i<=ds.length/\m=ds.length-i/\gR K W ro F0 H0 FB OL O D (lj pt g (ds.drop i) ρ),⟨ds.length,F1,ρ,?_,G7 _,by omega,by rw[IJ];exact p⟩,?_⟩
  ·have c:=r.step k;exact⟨c.st,aF.refl _,c.len,c.fz,c.ow,c.ap⟩
  ·rintro i m h H2 ⟨F2,I,r2,hi,rfl,p2⟩;by_cases a:i<ds.length
   ·have A:ds.drop i=ds[i]::ds.drop (i+1):=G8 a;rw[A]at p2;refine .inr ⟨it.go i F2 H2 r2.fb r2.st.fh a,λσ' H'=>(∃F ρ,Rep K F0 H0 F1 O F H' σ' ρ/\gR K W ro F0 H0 FB OL O D (lj pt g (ds.drop (i+1)) ρ)),λσ' H' ⟨F,ρ,r,p⟩=>⟨ds.length-(i+1),by omega,F,ρ,r,a,rfl,p⟩,λx H' y=>?_⟩;obtain⟨B,s,v⟩:=it.yl i F2 H2 x H' ds[i] r2.fb r2.st.fh (by simp[a]) y;have w:lj pt g (ds[i]::ds.drop (i+1)) I=(jj pt ds[i] I).bind λj=>(g j).bind λfl=>match fl with
     |.nx I=>lj pt g (ds.drop (i+1)) I|.ct I=>lj pt g (ds.drop (i+1)) I|.bk I=>.ok (.nx I)|.rt d=>.ok (.rt d):=by rw[lj]
    rw[w]at p2;cases f:jj pt ds[i] I with
    |error x=>have:=nQ f;subst this;exact p2.stuck (by rw[f];rfl)|ok b=>
     rw[f]at p2;have p2:gR K W ro F0 H0 FB OL O D ((g b).bind λfl=>match fl with
      |.nx I=>lj pt g (ds.drop (i+1)) I|.ct I=>lj pt g (ds.drop (i+1)) I|.bk I=>.ok (.nx I)|.rt d=>.ok (.rt d)):=p2
     refine gP_rep (r2.step s) n v f λq u=>⟨F1,B,b,u,?_⟩
     have l:aF FB F1:=(r.step k).fb;cases o:g b with
     |error x=>exact p2.err (by rw[o];rfl)|ok fl=>
      rw[o]at p2;cases fl with
      |nx Y=>exact λσ' F' H' r'=>⟨F',Y,r',p2⟩|ct Y=>exact λσ' F' H' r'=>⟨F',Y,r',p2⟩|bk Y=>exact λσ' F' H' r'=>p2 σ' F' H' (r'.base l)|rt d=>exact p2
   ·have:i=ds.length:=by omega
    subst this;rw[KG]at p2;exact .inl ⟨it.st F2 H2 r2.fb r2.st.fh,p2 h F2 H2 (r2.base (r.step k).fb)⟩
end
noncomputable def stk:M α:=.error .stuck
def eC:A'->A'->M A'
 |.int i,.int j=>.ok (.int (i+j))|.str x,.str y=>if x.length+y.length<=f_ then .ok (.str (x++y))else stk
 |.lst xs,.lst ys=>if xs.length+ys.length<=f_ then .ok (.lst (xs++ys))else stk
 |.tup xs,.tup ys=>if xs.length+ys.length<=f_ then .ok (.tup (xs++ys))else stk
 |_,_=>stk
noncomputable def ij(i:Int):Bool:=q_ (-(2^64)<i)&&q_ (i<2^64)
def E8:A'->A'->M A'
 |.int i,.int j=>if (ij i||ij j)=d_ then .ok (.int (i*j))else stk
 |_,_=>stk
def jI:A'->A'->M A'
 |.int i,.int j=>if (q_ (0<j)&&q_ (j<18446744073709551616))=d_ then .ok (.int (i/j))else stk
 |_,_=>stk
def lg:A'->A'->M A'
 |.int i,.int j=>if 0<j then .ok (.int (i%j))else stk
 |_,_=>stk
def DF:A'->A'->M A'
 |.int i,.int j=>if (q_ (0<=j)&&q_ (j<=1000000)&&q_ (i.natAbs<2^64))=d_ then .ok (.int (i^j.toNat))else stk
 |_,_=>stk
def negD:A'->M A'
 |.int i=>.ok (.int (-i))|_=>stk
def ltD:A'->A'->M A'
 |.int i,.int j=>.ok (.bl (q_ (i<j)))|_,_=>stk
def leD:A'->A'->M A'
 |.int i,.int j=>.ok (.bl (q_ (i<=j)))|_,_=>stk
def gtD:A'->A'->M A'
 |.int i,.int j=>.ok (.bl (q_ (j<i)))|_,_=>stk
def geD:A'->A'->M A'
 |.int i,.int j=>.ok (.bl (q_ (j<=i)))|_,_=>stk
noncomputable def b2z(b:Bool):Int:=if b then 1 else 0
mutual
noncomputable def eqD:A'->A'->Bool
 |.non,.non=>d_|.bl a,.bl b=>a==b|.bl a,.int b=>b2z a==b|.int a,.bl b=>a==b2z b|.int a,.int b=>a==b|.str a,.str b=>a==b|.tup xs,.tup ys=>eqDs xs ys|.lst xs,.lst ys=>eqDs xs ys|_,_=>b_
noncomputable def eqDs:List A'->List A'->Bool
 |[],[]=>d_|d::ds,e::es=>eqD d e&&eqDs ds es|_,_=>b_
end
mutual
noncomputable def I':A'->Nat->Bool
 |.tup ds,n=>(match n with
  |0=>b_|n+1=>lD ds n)
 |.lst ds,n=>(match n with
  |0=>b_|n+1=>lD ds n)
 |.ins _ _,_=>b_|.dic _,_=>b_|.dil _,_=>b_|.non,_=>d_|.bl _,_=>d_|.int _,_=>d_|.str _,_=>d_
noncomputable def lD:List A'->Nat->Bool
 |[],_=>d_|d::ds,n=>I' d n&&lD ds n
end
def eqM(a b:A'):M A':=if (I' a 40&&I' b 40)=d_ then .ok (.bl (eqD a b))else stk
def neM(a b:A'):M A':=if (I' a 40&&I' b 40)=d_ then .ok (.bl (!eqD a b))else stk
def inM(a b:A'):M A':=(iS b).bind λds=>if (I' a 40&&lD ds 40)=d_ then .ok (.bl (ds.any λd=>eqD d a))else stk
def ip(a b:A'):M A':=(iS b).bind λds=>if (I' a 40&&lD ds 40)=d_ then .ok (.bl (!ds.any λd=>eqD d a))else stk
def isND:A'->A'->M A'
 |.non,.non=>.ok (.bl d_)|_,.non=>.ok (.bl b_)|_,_=>stk
def DX:A'->A'->M A'
 |.non,.non=>.ok (.bl b_)|_,.non=>.ok (.bl d_)|_,_=>stk
def g8(ds:List A')(i:Int):M A':=match atI ds i with
 |some d=>.ok d|none=>stk
def ixD:A'->A'->M A'
 |.lst ds,.int i=>g8 ds i|.tup ds,.int i=>g8 ds i|_,_=>stk
def jP:List A'->M A'
 |[.lst ds]=>.ok (.int ds.length)|[.tup ds]=>.ok (.int ds.length)|_=>stk
def iI:List A'->M (List Bool)
 |[]=>.ok []|d::ds=>(asB d).bind λb=>(iI ds).bind λr=>.ok (b::r)
def nz:List A'->M (List Int)
 |[]=>.ok []|d::ds=>(asI d).bind λb=>(nz ds).bind λr=>.ok (b::r)
def allD:List A'->M A'
 |[.lst ds]=>(iI ds).bind λbs=>.ok (.bl (bs.all id))|_=>stk
def nj:List A'->M A'
 |[.lst ds]=>.ok (.lst ds)|[.tup ds]=>.ok (.lst ds)|_=>stk
def intD:List A'->M A'
 |[.int i]=>.ok (.int i)|[.bl b]=>.ok (.int (b2z b))|_=>stk
noncomputable def lE(i j:Int):Int:=if j<i then j else i
def minL:List Int->M A'
 |[]=>stk|i::is=>.ok (.int (is.foldl lE i))
def minD:List A'->M A'
 |[.int i,.int j]=>.ok (.int (lE i j))|[.lst ds]=>(nz ds).bind minL|_=>stk
def iT:A'->M A'
 |.int _=>.ok (.bl d_)|.bl _=>.ok (.bl d_)|.ins _ _=>stk|.dic _=>stk|.dil _=>stk|_=>.ok (.bl b_)
def kq:A'->M A'
 |.bl _=>.ok (.bl d_)|.ins _ _=>stk|.dic _=>stk|.dil _=>stk|_=>.ok (.bl b_)
def ko:A'->M A'
 |.lst _=>.ok (.bl d_)|.ins _ _=>stk|.dic _=>stk|.dil _=>stk|_=>.ok (.bl b_)
def kW:A'->M A'
 |.tup _=>.ok (.bl d_)|.ins _ _=>stk|.dic _=>stk|.dil _=>stk|_=>.ok (.bl b_)
noncomputable def nv:A'->M (List A')
 |.lst ds=>.ok ds|_=>.error .stuck
noncomputable def px:List A'->List A'->List A'
 |d::ds,e::es=>.tup [d,e]::px ds es|_,_=>[]
noncomputable def CJ(fa fb:ah->M A'):ah->M (List A'):=λρ=>(fa ρ).bind λa=>(fb ρ).bind λb=>(nv a).bind λds=>(nv b).bind λes=>.ok (px ds es)
def bR(nN n:Nat)(g:ah->M H9)(ds:List A'):M A':=if ds.length=n then(g (ds.map a_++GY (nN-ds.length) c_)).bind λfl=>match fl with
 |.nx _=>.ok .non|.rt d=>.ok d|_=>stk else stk
@[simp] theorem aj{α I:Type}(a:α)(f:α->M I):NJ (FN a:M α) f=f a:=id rfl
@[simp] theorem vI{α I:Type}(e:Err)(f:α->M I):NJ (HB e:M α) f=.error e:=id rfl
@[simp] theorem CA:∀is:List Bool,iI (is.map A'.bl)=.ok is
 |[]=>rfl|i::is=>by simp[iI,asB,CA is]
theorem iV{ds:List A'}{k:Nat}(h:k<ds.length):g8 ds (k:Int)=.ok ds[k]:=by unfold g8 atI ixN;rw[g_ (by omega),g_ (by omega)];simp[h]
theorem getI_int{is:List Int}{k:Int}(J:0<=k)(h:k<is.length):g8 (is.map A'.int) k=.ok (.int (is[k.toNat]'(by omega))):=by
 have I:k.toNat<(is.map A'.int).length:=by simp;omega
 have e:k=(k.toNat:Int):=by omega
 have:=iV I;rw[<- e]at this;rw[this];simp
theorem pT{p:Pat}{g:ah->M H9}(P:Nat->ah->Prop):∀(ds:List A') (k:Nat) (ρ:ah),P k ρ ->
  (∀(i:Nat) (d:A') (ρ:ah),ds[i]?=a_ d->P (k+i) ρ->∃J,jj p d ρ=.ok J/\∃I,(g J=.ok (.nx I)\/g J=.ok (.ct I))/\P (k+i+1) I)->∃ρ',lj p g ds ρ=.ok (.nx ρ')/\P (k+ds.length) ρ'
 |[],k,ρ,h,_=>⟨ρ,rfl,h⟩|d::ds,k,ρ,h,st=>by
  obtain⟨J,e1,I,e2,h2⟩:=st 0 d ρ rfl h;obtain⟨ρ',e3,b⟩:=pT P ds (k+1) I h2 λi d' ρ a Y=>by have:=st (i+1) d' ρ (by simpa using a) (by rw[show k+(i+1)=k+1+i by omega];exact Y);rw[show k+(i+1)+1=k+1+i+1 by omega]at this;exact this
  refine⟨ρ',?_,by rw[show k+(d::ds).length=k+1+ds.length by simp;omega];exact b⟩
  rw[lj,e1];rcases e2 with e2|e2
  ·simp only[aj,e2];exact e3
  ·simp only[aj,e2];exact e3
theorem nP{p:Pat}{fe:ah->M A'}{ρ0:ah}(f:A'->A'):∀(ds:List A'),(∀d∈ds,∃ρ,jj p d ρ0=.ok ρ/\fe ρ=.ok (f d))->aS p iK fe ρ0 ds=.ok (ds.map f)
 |[],_=>rfl|d::ds,h=>by obtain⟨ρ,e1,e2⟩:=h d (by simp);rw[aS,e1];simp only[aj,iK,e2,nP f ds λx I=>h x (by simp[I])];simp
@[simp] theorem small_def(i:Int):ij i=(q_ (-(2^64)<i)&&q_ (i<2^64)):=id rfl
@[simp] theorem small_def2(i:Int):lO i=(q_ (-(2^62)<=i)&&q_ (i<2^62)):=id rfl
section
variable{fr:ah->M (List A')}{g h:ah->M H9}
@[simp] theorem e_var0(d:A')(r:ah):ai 0 (a_ d::r)=.ok d:=id rfl
@[simp] theorem e_varS(i:Nat)(o:Option A')(r:ah):ai (i+1) (o::r)=ai i r:=by simp[ai]
@[simp] theorem e_c(d:A'):fC d ρ=.ok d:=id rfl
@[simp] theorem e_1(k:A'->M A'):f1 k fa ρ=(fa ρ).bind k:=id rfl
@[simp] theorem e_2(k:A'->A'->M A'):f2 k fa fb ρ=(fa ρ).bind λa=>(fb ρ).bind λb=>k a b:=id rfl
@[simp] theorem e_nil:aC ρ=.ok []:=id rfl
@[simp] theorem e_cons:aa fa fr ρ=(fa ρ).bind λa=>(fr ρ).bind λr=>.ok (a::r):=id rfl
@[simp] theorem e_L(k:List A'->M A'):fL k fr ρ=(fr ρ).bind k:=id rfl
@[simp] theorem e_ite:fIte ft fa fb ρ=(ft ρ).bind λb=>if b=d_ then fa ρ else fb ρ:=id rfl
@[simp] theorem e_and:xI ft fu ρ=(ft ρ).bind λb=>if b=d_ then fu ρ else .ok b_:=id rfl
@[simp] theorem e_or:fOr ft fu ρ=(ft ρ).bind λb=>if b=d_ then .ok d_ else fu ρ:=id rfl
@[simp] theorem e_not:si ft ρ=(ft ρ).bind λb=>.ok (!b):=id rfl
@[simp] theorem e_B:fB fa ρ=(fa ρ).bind asB:=id rfl
@[simp] theorem e_andV:iM fa fb ρ=(fa ρ).bind λa=>(asB a).bind λb=>if b=d_ then fb ρ else .ok (.bl b_):=id rfl
@[simp] theorem e_orV:CK fa fb ρ=(fa ρ).bind λa=>(asB a).bind λb=>if b=d_ then .ok (.bl d_)else fb ρ:=id rfl
@[simp] theorem e_tru:lI fa ρ=(fa ρ).bind truD:=id rfl
@[simp] theorem e_chain(k I:A'->A'->M A'):jo k I fa fb fc ρ=(fa ρ).bind λa=>(fb ρ).bind λb=>(k a b).bind λx=>(asB x).bind λz=>if z=d_ then(fc ρ).bind λc=>I b c else .ok (.bl b_):=id rfl
@[simp] theorem e_yes:iK ρ=.ok d_:=id rfl
@[simp] theorem e_it:fIt fa ρ=(fa ρ).bind iS:=id rfl
@[simp] theorem e_rng(k:List A'->M (List A')):zH k fr ρ=(fr ρ).bind k:=id rfl
@[simp] theorem e_zip:CJ fa fb ρ=(fa ρ).bind λa=>(fb ρ).bind λb=>(nv a).bind λds=>(nv b).bind λes=>.ok (px ds es):=id rfl
@[simp] theorem e_comp(fi:ah->M (List A'))(ix:List (Option Nat))(p:Pat):cn fi ix p ft fa ρ=(fi ρ).bind λds=>if ds.length<=f_ then(aS p ft fa (gj ix ρ) ds).bind λr=>.ok (.lst r)else .error .stuck:=id rfl
@[simp] theorem e_asB(b:Bool):asB (.bl b)=.ok b:=id rfl
@[simp] theorem e_asI(b:Int):asI (.int b)=.ok b:=id rfl
@[simp] theorem e_itemsL(ds:List A'):iS (.lst ds)=.ok ds:=id rfl
@[simp] theorem e_itemsT(ds:List A'):iS (.tup ds)=.ok ds:=id rfl
@[simp] theorem e_notD(b:Bool):notD (.bl b)=.ok (.bl (!b)):=id rfl
@[simp] theorem e_truB(b:Bool):truD (.bl b)=.ok b:=id rfl
@[simp] theorem e_addI(i j:Int):eC (.int i) (.int j)=.ok (.int (i+j)):=id rfl
@[simp] theorem e_negI(i:Int):negD (.int i)=.ok (.int (-i)):=id rfl
@[simp] theorem e_ltI(i j:Int):ltD (.int i) (.int j)=.ok (.bl (q_ (i<j))):=id rfl
@[simp] theorem e_leI(i j:Int):leD (.int i) (.int j)=.ok (.bl (q_ (i<=j))):=id rfl
@[simp] theorem e_gtI(i j:Int):gtD (.int i) (.int j)=.ok (.bl (q_ (j<i))):=id rfl
@[simp] theorem e_geI(i j:Int):geD (.int i) (.int j)=.ok (.bl (q_ (j<=i))):=id rfl
@[simp] theorem e_ixL(ds:List A')(i:Int):ixD (.lst ds) (.int i)=g8 ds i:=id rfl
@[simp] theorem e_ixT(ds:List A')(i:Int):ixD (.tup ds) (.int i)=g8 ds i:=id rfl
@[simp] theorem e_lenL(ds:List A'):jP [.lst ds]=.ok (.int ds.length):=id rfl
@[simp] theorem e_lenT(ds:List A'):jP [.tup ds]=.ok (.int ds.length):=id rfl
@[simp] theorem e_all(ds:List A'):allD [.lst ds]=(iI ds).bind λbs=>.ok (.bl (bs.all id)):=id rfl
@[simp] theorem e_listL(ds:List A'):nj [.lst ds]=.ok (.lst ds):=id rfl
@[simp] theorem e_intB(b:Bool):intD [.bl b]=.ok (.int (b2z b)):=id rfl
@[simp] theorem e_min2(i j:Int):minD [.int i,.int j]=.ok (.int (lE i j)):=id rfl
@[simp] theorem e_minL(ds:List A'):minD [.lst ds]=(nz ds).bind minL:=id rfl
@[simp] theorem e_isiBI(i:Int):kq (.int i)=.ok (.bl b_):=id rfl
@[simp] theorem e_isiII(i:Int):iT (.int i)=.ok (.bl d_):=id rfl
@[simp] theorem e_isiLL(ds:List A'):ko (.lst ds)=.ok (.bl d_):=id rfl
@[simp] theorem e_isiTT(ds:List A'):kW (.tup ds)=.ok (.bl d_):=id rfl
@[simp] theorem e_isN(d:A'):isND d .non=.ok (.bl (match d with|.non=>d_|_=>b_)):=by cases d<;>rfl
@[simp] theorem e_notN(d:A'):DX d .non=.ok (.bl (match d with|.non=>b_|_=>d_)):=by cases d<;>rfl
@[simp] theorem e_next:dN ρ=.ok (.nx ρ):=id rfl
@[simp] theorem nI:cF g h ρ=(g ρ).bind λfl=>match fl with
 |.nx ρ'=>h ρ'|fl=>.ok fl:=id rfl
@[simp] theorem e_if:sIf ft g h ρ=(ft ρ).bind λb=>if b=d_ then g ρ else h ρ:=id rfl
@[simp] theorem e_setB(O:List Nat)(i:Nat):bw O i fa ρ=(fa (erase O ρ)).bind λd=>.ok (.nx (ρ.set i (a_ d))):=id rfl
@[simp] theorem e_ret:cL fa ρ=(fa ρ).bind λd=>.ok (.rt d):=id rfl
@[simp] theorem e_for(O:List Nat)(fi:ah->M (List A'))(p:Pat):Am O fi p g ρ=(fi (erase O ρ)).bind λds=>lj p g ds ρ:=id rfl
@[simp] theorem e_unpB(O:List Nat)(p:Pat):yP O p fa ρ=(fa (erase O ρ)).bind λd=>(jj p d ρ).bind λρ'=>.ok (.nx ρ'):=id rfl
@[simp] theorem e_appB(O:List Nat)(i:Nat):qD O i fa ρ=(jE ρ i).bind λds=>(fa (erase O ρ)).bind λd=>if ds.length<f_ then put ρ i (ds++[d])else .error .stuck:=id rfl
@[simp] theorem e_put(i:Nat)(ds:List A'):put ρ i ds=.ok (.nx (ρ.set i (a_ (.lst ds)))):=id rfl
@[simp] theorem e_lst0(ds:List A')(r:ah):jE (a_ (.lst ds)::r) 0=.ok ds:=id rfl
@[simp] theorem e_lstS(i:Nat)(o:Option A')(r:ah):jE (o::r) (i+1)=jE r i:=by simp[jE]
@[simp] theorem e_er0:erase [] ρ=ρ:=id rfl
@[simp] theorem e_erS(i:Nat)(O:List Nat):erase (i::O) ρ=erase O (ρ.set i c_):=id rfl
@[simp] theorem e_bnm(i:Nat)(d:A'):jj (.nm i) d ρ=.ok (ρ.set i (a_ d)):=id rfl
@[simp] theorem e_btp(is:List Nat)(ds:List A'):jj (.tp is) (.tup ds) ρ=if ds.length=is.length then .ok (jW is ds ρ)else .error .stuck:=id rfl
@[simp] theorem e_sa0(ds:List A'):jW [] ds ρ=ρ:=by cases ds<;>rfl
@[simp] theorem e_saS(i:Nat)(is:List Nat)(d:A')(ds:List A'):jW (i::is) (d::ds) ρ=jW is ds (ρ.set i (a_ d)):=id rfl
@[simp] theorem e_in0:gj [] ρ=[]:=id rfl
@[simp] theorem e_inN(ix:List (Option Nat)):gj (c_::ix) ρ=c_::gj ix ρ:=id rfl
@[simp] theorem e_inS(j:Nat)(ix:List (Option Nat)):gj (a_ j::ix) ρ=(ρ[j]?).join::gj ix ρ:=id rfl
@[simp] theorem e_tup(ds:List A'):jU ds=if ds.length<=f_ then .ok (.tup ds)else .error .stuck:=id rfl
@[simp] theorem e_lst(ds:List A'):bP ds=if ds.length<=f_ then .ok (.lst ds)else .error .stuck:=id rfl
@[simp] theorem e_line:f_=16777216:=FO
@[simp] theorem e_run(a b:Nat)(ds:List A'):bR a b g ds=if ds.length=b then(g (ds.map a_++GY (a-ds.length) c_)).bind λfl=>match fl with
 |.nx _=>.ok .non|.rt d=>.ok d|_=>stk else stk:=id rfl
@[simp] theorem e_rng1{j:Int}(h:lO j=d_):Av [.int j]=.ok (bQ 0 j.toNat):=by show(if lO j=d_ then _ else _)=_;rw[g_ h]
@[simp] theorem e_mod{i j:Int}(h:0<j):lg (.int i) (.int j)=.ok (.int (i%j)):=by simp[lg,h]
@[simp] theorem e_fdiv{i j:Int}(h:0<j)(h2:j<18446744073709551616):jI (.int i) (.int j)=.ok (.int (i/j)):=by simp[jI,h,h2]
@[simp] theorem e_mulR{i j:Int}(h:ij j=d_):E8 (.int i) (.int j)=.ok (.int (i*j)):=by show(if (ij i||ij j)=d_ then _ else _)=_;rw[h,LS,g_ rfl]
end
section
variable{W:eI}{own:Bool}{a b c:GO}{rest:List GO}{f:ah->M A'}{fr:ah->M (List A')} 
theorem PE.imp{t t':TE}(h:PE X e t)(q:∀σ H Q,t' σ H Q->t σ H Q):PE X e t':=λB' s σ H Q I z=>h B' s σ H Q I (q σ H Q z)
theorem PT.imp{t t':TT}(h:PT X e t)(q:∀σ H Q,t' σ H Q->t σ H Q):PT X e t':=λB' s σ H Q I z=>h B' s σ H Q I (q σ H Q z)
theorem PW.imp{t t':TT}(h:PW X e t)(q:∀σ H Q,t' σ H Q->t σ H Q):PW X e t':=λJ B' s σ H Q I z=>h J B' s σ H Q I (q σ H Q z)
theorem PA.imp{t t':TA}(h:PA X es t)(q:∀σ H Q,t' σ H Q->t σ H Q):PA X es t':=λps B' s σ H Q I z=>h ps B' s σ H Q I (q σ H Q z)
theorem PI.imp{t t':TI}(h:PI X tg e t)(q:∀σ H Q,t' σ H Q->t σ H Q):PI X tg e t':=λB' s σ H Q I z=>h B' s σ H Q I (q σ H Q z)
theorem PS.imp{t t':TS}(h:PS X st t)(q:∀D σ H,t' D σ H->t D σ H):PS X st t':=λB' s σ H D I z=>h B' s σ H D I (q D σ H z)
theorem PSs.imp{st:List GK}{t t':TS}(h:PSs X st t)(q:∀D σ H,t' D σ H->t D σ H):PSs X st t':=λB' s σ H D I z=>h B' s σ H D I (q D σ H z)
abbrev DE(K:Pn)(W:eI)(own:Bool)(X:Cx)(e:GO)(f:ah->M A'):Prop:=PE X e (tD K W own f)
abbrev DT(K:Pn)(W:eI)(X:Cx)(e:GO)(f:ah->M Bool):Prop:=PT X e (tDT K W f)
abbrev DW(K:Pn)(W:eI)(X:Cx)(e:GO)(f:ah->M Bool):Prop:=PW X e (tDT K W f)
abbrev DA(K:Pn)(W:eI)(X:Cx)(es:List GO)(f:ah->M (List A')):Prop:=PA X es (tDA K W f)
abbrev DI(K:Pn)(W:eI)(X:Cx)(tg e:GO)(f:ah->M (List A')):Prop:=PI X tg e (iD K W f)
abbrev DG(K:Pn)(X:Cx)(tg:GO)(p:Pat):Prop:=PG X tg (gP K p)
abbrev DS(K:Pn)(W:eI)(ro:Bool)(X:Cx)(OL O O':List Nat)(st:GK)(g:ah->M H9):Prop:=∀F0 H0:Hp,PS X st (tS K W ro F0 H0 OL O O' g)
abbrev DSs(K:Pn)(W:eI)(ro:Bool)(X:Cx)(OL O O':List Nat)(st:List GK)(g:ah->M H9):Prop:=∀F0 H0:Hp,PSs X st (tS K W ro F0 H0 OL O O' g)
abbrev Op2(K:Pn)(W:eI)(own:Bool)(X:Cx)(o:j_->j_->N2 j_)(g:A'->A'->M A'):Prop:=OpR X o (rD2 K W own g)
abbrev sX(K:Pn)(W:eI)(own:Bool)(X:Cx)(v:j_)(g:List A'->M A'):Prop:=g7 X v (rDL K W own g)
theorem au(i:Nat)(J: ~~~(X.N[i]?=a_ x))(hv:autoParam (Vis X.env.scope x) Jq4)(hd:((x==("__debug__":p_))=b_)⁻¹)(I:((x==("__classdict__":p_))=b_)⁻¹):DE K W b_ X (.Name x pos) (ai i):=(pv i J hv hd I).imp λ_ _ _=>rd_var
theorem ae{i:Int}{j}:DE K W b_ X (.Constant (.int i) j pos) (fC (.int i)):=wW.imp λ_ _ _=>rd_c λ_=>rfl
theorem lq{k:Bool}{j}:DE K W b_ X (.Constant (.bool k) j pos) (fC (.bl k)):=jx.imp λ_ _ _=>rd_c λ_=>rfl
theorem gm{j}:DE K W b_ X (.Constant .none j pos) (fC .non):=pe_non.imp λ_ _ _=>rd_c λ_=>rfl
theorem aP{j}:DE K W b_ X (.Constant (.str z) j pos) (fC (.str z)):=tG.imp λ_ _ _=>rd_c λ_=>rfl
theorem jJ{n:Int}(I:∃t,X.mg x=a_ (.int n t))(J: ~~~(Gl X x))(hd:((x==("__debug__":p_))=b_)⁻¹):DE K W b_ X (.Name x pos) (fC (.int n)):=(pe_gint J I hd).imp λ_ _ _=>rd_c λ_=>rfl
theorem ay(h:DE K W d_ X e f):DE K W b_ X e f:=PE.imp h λ_ _ _ ⟨F,ρ,r,s,p⟩=>⟨F,ρ,r,s,p.frz⟩
theorem aG{op:Operator}(I:Op2 K W own X (HD op) g)(Y:DE K W b_ X a fa)(J:DE K W b_ X b fb):DE K W own X (.BinOp a op b pos) (f2 g fa fb):=(pe_op I Y J).imp λ_ _ _=>rd_2
theorem de_un{op:UnaryOp}{g:A'->M A'}(I:UnR X (NR op) (rD1 K W own g))(J:DE K W b_ X a fa):DE K W own X (.UnaryOp op a pos) (f1 g fa):=(pe_un I J).imp λ_ _ _=>rd_1
theorem jq(I:Op2 K W b_ X (FU op) g)(c:DE K W b_ X a fa)(Y:DE K W b_ X b fb)(J:autoParam (HM op b=b_) Jq10):DE K W b_ X (.Compare a [op] [b] pos) (f2 g fa fb):=
 (pe_cmpR I c Y J).imp λ_ _ _=>rd_2
theorem aB(I:Op2 K W b_ X (FU op) g)(c:DE K W b_ X a fa)(Y:DE K W b_ X b fb)(J:autoParam (HM op b=b_) Jq10):DT K W X (.Compare a [op] [b] pos) (fB (f2 g fa fb)):=
 (z9 I c Y J).imp λσ H Q h=>by have q:=rd_B h;exact rd_2 (own:=b_) q
theorem B8(J:Op2 K W b_ X (FU op) g)(I:Op2 K W b_ X (FU op') g')(f:DE K W b_ X a fa)(e:DE K W b_ X b fb)(d:DE K W b_ X c fc)(Y:autoParam (Kq [op,op'] [b,c]=b_) Jq7):DE K W b_ X (.Compare a [op,op'] [b,c] pos) (jo g g' fa fb fc):=(pe_chain J I f e d Y).imp λ_ _ _=>Ax
theorem dt_chain(J:Op2 K W b_ X (FU op) g)(I:Op2 K W b_ X (FU op') g')(f:DE K W b_ X a fa)(e:DE K W b_ X b fb)(d:DE K W b_ X c fc)(Y:autoParam (Kq [op,op'] [b,c]=b_) Jq7):DT K W X (.Compare a [op,op'] [b,c] pos) (fB (jo g g' fa fb fc)):=(pt_chain J I f e d Y).imp λσ H Q h=>by have q:=rd_B h;exact Ax q
theorem dR(Y:DE K W b_ X a fa)(b: ~~~(X.K=K))(J:autoParam (∀I,MV a X.env I=(do let v <- I;KY a.pos;Jv [v] (truthy v))) Jq5):DT K W X a (lI fa):=by subst b;exact(pN Y J).imp λ_ _ _=>rd_tru
theorem iC(I:DT K W X a ft):DT K W X (.UnaryOp .Not a pos) (si ft):=(AA I).imp λ_ _ _=>rd_not
theorem my(I:DT K W X a ft):DW K W X (.BoolOp .And [a] pos) ft:=DC I
theorem dD(I:DT K W X a ft):DW K W X (.BoolOp .Or [a] pos) ft:=pw_or1 I
theorem rF(J:DT K W X a ft)(I:DW K W X (.BoolOp .And (b::rest) pos) fu):DW K W X (.BoolOp .And (a::b::rest) pos) (xI ft fu):=(DD J I).imp λ_ _ _=>rd_and
theorem eS(J:DT K W X a ft)(I:DW K W X (.BoolOp .Or (b::rest) pos) fu):DW K W X (.BoolOp .Or (a::b::rest) pos) (fOr ft fu):=(pw_or J I).imp λ_ _ _=>rd_or
theorem nL{op}(h:DE K W b_ X a f):DE K W b_ X (.BoolOp op [a] pos) f:=pe_one h
theorem pj(J:DE K W b_ X a fa)(I:DE K W b_ X (.BoolOp .And (b::rest) pos) fb):DE K W b_ X (.BoolOp .And (a::b::rest) pos) (iM fa fb):=(pe_and J I).imp λ_ _ _=>rd_andV
theorem de_or(J:DE K W b_ X a fa)(I:DE K W b_ X (.BoolOp .Or (b::rest) pos) fb):DE K W b_ X (.BoolOp .Or (a::b::rest) pos) (CK fa fb):=(pe_or J I).imp λ_ _ _=>rd_orV
theorem de_not(I:DE K W b_ X a fa):DE K W b_ X (.UnaryOp .Not a pos) (f1 notD fa):=(pe_not I).imp λ_ _ _=>rd_notV
theorem B4(I:DT K W X c ft)(Y:DE K W own X a fa)(J:DE K W own X b fb):DE K W own X (.IfExp c a b pos) (fIte ft fa fb):=(pe_ifExp I Y J).imp λ_ _ _=>rd_ite
theorem eQ:DA K W X [] aC:=aK.imp λ_ _ _=>rd_nil
theorem cC(Y:DE K W b_ X e fa)(J:DA K W X es fr)(I: ~~~(h_ (e::es) X.env=(b_,FR e X.env)::h_ es X.env)):DA K W X (e::es) (aa fa fr):=(av Y J I).imp λ_ _ _=>rd_cons
theorem ph{I}(h:DA K W X es fr):DE K W own X (.Tuple es I pos) (fL jU fr):=(wV h).imp λ_ _ _=>rd_tup
theorem eu(h:DA K W X es fr):DE K W d_ X (.List es pos) (fL bP fr):=(jN h).imp λ_ _ _=>rd_lst
theorem aD{id:String}{g:List A'->M A'}(d:sX K W own X (.builtin id) g)(b:X.mg x=c_)(hv:Hx x=a_ (.builtin id))(f:DA K W X (e::es) fr)(c: ~~~(Gl X x))(a:(x≠"__name__")⁻¹)(Y:((x==("__debug__":p_))=b_)⁻¹)(I: ~~~(h_ (e::es) X.env=(b_,FR e X.env)::h_ es X.env))(J: ~~~((Gh pos (h_ es X.env)).any (·.1)=b_)):DE K W own X (.Call (.Name x p) (e::es) [] pos) (fL g fr):=
 (iP d c b hv f a Y I J).imp λ_ _ _=>rd_L
theorem cN{g:List A'->M A'}(d:sX K W own X (.type T) g)(b:X.mg x=c_)(hv:Hx x=a_ (.type T))(f:DA K W X (e::es) fr)(c: ~~~(Gl X x))(a:(x≠"__name__")⁻¹)(Y:((x==("__debug__":p_))=b_)⁻¹)(I: ~~~(h_ (e::es) X.env=(b_,FR e X.env)::h_ es X.env))(J: ~~~((Gh pos (h_ es X.env)).any (·.1)=b_)):DE K W own X (.Call (.Name x p) (e::es) [] pos) (fL g fr):=
 (jY d c b hv f a Y I J).imp λ_ _ _=>rd_L
theorem aQ(J:IxR X (rD2 K W own g))(c:DE K W b_ X a fa)(Y:DE K W b_ X b fb)(I:Fw b:=by exact λ_ _=>rfl):DE K W own X (.Subscript a b pos) (f2 g fa fb):=(pe_ix J c Y I).imp λ_ _ _=>rd_2
theorem Ck(Y:X.N.Nodup)(hi: ~~~(X.N[i]?=a_ x))(I:autoParam (Loc X.env.scope x) Jq6)(J:autoParam (X.fn x=d_\/X.env.scope.names.lookup x=a_ .local) Jq3):DG K X (.Name x pos) (.nm i):=cU Y hi I J
theorem hI(k:DE K W b_ X e fa)(m: ~~~(X.K=K)):DI K W X tg e (fIt fa):=by
 subst m;refine PI.imp (t:=iSeq X.K (tD X.K W b_ fa)) ?_ λ_ _ _=>ri_seq;intro B' s σ H R I h;refine HH (k B' s σ H _ I h) λv J j=>?_;obtain⟨y,H1,Y,f,g⟩:=j;obtain⟨l,e1,q⟩:=g;subst e1;cases f;rcases q with⟨⟨xs,a⟩,q⟩|⟨⟨xs,a⟩,q⟩
 ·obtain⟨F9,d,p,i⟩:=Y.list a;refine IX p.isList ?_;refine⟨J.heap.objs.size,[J.heap.objs.size],_,_,H1,rfl,Y.kept (t':=J.toks) λb o e=>r_ _ e,vV l _,⟨_,FK _ rfl,rfl,rfl⟩,λb c=>?_,q⟩
  have e:b=J.heap.objs.size:=by simpa using c
  subst e;exact Y.fpOk (v_ _) (Y.hok.fresh (v_ _))
 ·obtain⟨F9,d,p,i⟩:=Y.tuple a;refine wpAny_pyIter_tuple (show J.heap.IsTuple l F9.toArray from p) ?_;refine⟨J.heap.objs.size,[J.heap.objs.size],_,_,H1,rfl,Y.kept (t':=J.toks) λb o e=>r_ _ e,Bi l _,⟨_,FK _ rfl,rfl,rfl⟩,λb c=>?_,q⟩
  have e:b=J.heap.objs.size:=by simpa using c
  subst e;exact Y.fpOk (v_ _) (Y.hok.fresh (v_ _))
theorem kA(J:X.mg "range"=c_)(b:DA K W X [a] fr)(Y: ~~~(Gl X "range"))(I: ~~~(h_ [a] X.env=[(b_,FR a X.env)])):DI K W X tg (.Call (.Name "range" p) [a] [] pos) (zH Av fr):=(wU Y J b I).imp λ_ _ _=>ri_rng1
variable{g h:ah->M H9}
theorem bN:DSs K W ro X OL O O [] dN:=λ_ _=>bC.imp λ_ _ _=>rs_next
theorem aw(h1:DS K W ro X OL O O' st g)(h2:DSs K W ro X OL O' O2 sts h):DSs K W ro X OL O O2 (st::sts) (cF g h):=λF0 H0=>(ax (h1 F0 H0) (h2 F0 H0)).imp λ_ _ _=>rs_seq
theorem aA(h1:DS K W ro X OL O O' st g):DSs K W ro X OL O O' [st] g:=λF0 H0=>aU (h1 F0 H0)
theorem nJ(h1:DSs K W ro X OL O2 O' sts g)(I:(∀i∈O2,i∈O)⁻¹):DSs K W ro X OL O O' sts g:=λF0 H0=>PSs.imp (h1 F0 H0) λ_ _ _=>tS.enter I
theorem eG{J I:List GK}(Y:DT K W X c ft)(b:DSs K W ro X OL O O' J g)(a:DSs K W ro X OL O O' I h):DS K W ro X OL O O' (.If c J I pos) (sIf ft g h):=λF0 H0=>(gW Y (b F0 H0) (a F0 H0)).imp λ_ _ _=>rs_if
theorem EM(b:X.N.Nodup)(a:DE K W own X e f)(hi: ~~~(X.N[i]?=a_ x))(I:autoParam (Loc X.env.scope x) Jq6)(J: ~~~(G0 e (a_ (.Name x pos')) pos.line X.env=GZ b_))(Y:autoParam (X.fn x=d_\/X.env.scope.names.lookup x=a_ .local) Jq3):
  DS K W ro X OL O (aft own i O) (.Assign [.Name x pos'] e pos) (bw O i f):=λF0 H0=>(jX b hi I a J Y).imp λ_ _ _=>yQ
theorem aI(I:DE K W ro X e f):DS K W ro X OL O O' (.Return (a_ e) pos) (cL f):=λF0 H0=>(ck I).imp λ_ _ _=>rs_ret
theorem ds_retV(J:(i∈O)⁻¹)(Y: ~~~(X.N[i]?=a_ x))(hv:autoParam (Vis X.env.scope x) Jq4)(hd:((x==("__debug__":p_))=b_)⁻¹)(I:((x==("__classdict__":p_))=b_)⁻¹):DS K W d_ X OL O O' (.Return (a_ (.Name x p)) pos) (cL (ai i)):=λF0 H0=>(ck (pv i Y hv hd I)).imp λ_ _ _=>rs_retV J
theorem pf{fs:ah->M (List A')}{pt:Pat}(hi:DI K W X tg iter fs)(Y:DG K X tg pt)(b:DSs K W ro X O O O body g)(n:(∀i∈pt.names,i∉O)⁻¹)(J:autoParam (MM (FE X.prog X.w) X.A X.env X.xe) Jq11)(a: ~~~(X.calm=d_))(I:autoParam (∀x,Ht iter X.env x=GZ x) Jq5):DS K W ro X OL O O (.For tg iter body [] pos) (Am O fs pt g):=λF0 H0=>(AB J a hi Y (b F0 H0) I).imp λ_ _ _=>rs_for n
theorem vo(h:DE K W b_ X e f)(g:(i∈O)⁻¹)(j: ~~~(X.N[i]?=a_ x))(hv:autoParam (Vis X.env.scope x) Jq4)(hd:((x==("__debug__":p_))=b_)⁻¹)(d:((x==("__classdict__":p_))=b_)⁻¹)(k: ~~~(X.K=K))(a: ~~~(h_ [e] X.env=[(b_,FR e X.env)]))(Y: ~~~(GQ (.Name x p) "append" X.env (FR (.Name x p) X.env)=FR (.Name x p) X.env))(b: ~~~(((Gh q (h_ [e] X.env)).all (λx=> !x.1)&&(Ho q (GJ [] X.env)).all (λx=>x.1.isSome)&&q_ ([e].length+([]:List Hk).length+(if ([]:List Hk).isEmpty then 0 else 1)<30))=d_))(I: ~~~((Gh q (h_ [] X.env)).any (·.1)=b_))(J: ~~~((apos.endLine==q.line)=d_))(c: ~~~(G0 (.Call (.Attribute (.Name x p) "append" apos) [e] [] q) c_ pos.line X.env=GZ b_)):
  DS K W ro X OL O O (.Expr (.Call (.Attribute (.Name x p) "append" apos) [e] [] q) pos) (qD O i f):=λF0 H0=>by
 subst k;exact PS.imp (gu (lY FX Gf Gm dX (pv i j hv hd d) (av h aK a) Y b J a I) c) λ_ _ _=>rs_appB g
end
section
variable{W:eI}{own:Bool}
theorem OpR.imp{f:j_->j_->N2 j_}{r:R2}(h:OpR X f r)(q:∀x y H Q,r' x y H Q->r x y H Q):OpR X f r':=λB' s σ H x y v u Q I Y J z=>h B' s σ H x y v u Q I Y J (q x y H Q z)
theorem UnR.imp{f:j_->N2 j_}{r r':V->Hp->VK->Prop}(h:UnR X f r)(q:∀x H Q,r' x H Q->r x H Q):UnR X f r':=λB' s σ H x v Q I J z=>h B' s σ H x v Q I J (q x H Q z)
theorem g7.imp{f:j_}{r r':List V->Hp->VK->Prop}(h:g7 X f r)(q:∀x H Q,r' x H Q->r x H Q):g7 X f r':=λB' s σ H x v Q I J z=>h B' s σ H x v Q I J (q x H Q z)
theorem IxR.imp{r:R2}(h:IxR X r)(q:∀x y H Q,r' x y H Q->r x y H Q):IxR X r':=λJ Y B' s σ H x y v u Q I b a z e=>h J Y B' s σ H x y v u Q I b a (q x y H Q z) e
theorem aJ.stuck{P:Prop}(p:aJ K W own F H (stk) Q):P:=(W.ns p).elim
theorem aJ.int{F H:Hp}{Q:VK}{i:Int}(p:aJ K W own F H (.ok (.int i)) Q)(s:aF F H):Q (.int i) H:=p _ F H (C6.refl s) (by cases own<;>rfl)
theorem aJ.bl{F H:Hp}{Q:VK}{b:Bool}(p:aJ K W own F H (.ok (.bl b)) Q)(s:aF F H):Q (.bl b) H:=p _ F H (C6.refl s) (by cases own<;>rfl)
theorem aJ.str{F H:Hp}{Q:VK}{x:p_}(p:aJ K W own F H (.ok (.str x)) Q)(s:aF F H):Q (.str x) H:=p _ F H (C6.refl s) (by cases own<;>rfl)
theorem aJ.tup{F H:Hp}{Q:VK}{ds:List A'}{xs:List V}{a:i_}(p:aJ K W own F H (.ok (.tup ds)) Q)(s:aF F H)(q:az K F ds xs)(I:H a=c_):Q (.ref a) (upd H a (.tup xs)):=
 p _ _ _ (C6.lay s I) (by
  have:aR K (upd F a (.tup xs)) (.tup ds) (.ref a):=⟨a,xs,rfl,SqT.of ao,q.mono (aF.upd (s.free I))⟩
  cases own<;>exact this)
theorem aJ.same{ds:List A'}(p:aJ K W own F H (.ok (.tup ds)) Q)(s:aF F H)(q:aR K F (.tup ds) v):Q v H:=p _ F H (C6.refl s) (by cases own<;>exact q)
theorem aJ.lst{F H:Hp}{Q:VK}{ds:List A'}{xs:List V}{a:i_}(p:aJ K W d_ F H (.ok (.lst ds)) Q)(s:aF F H)(q:az K F ds xs)(I:H a=c_):Q (.ref a) (upd H a (.lst xs)):=
 p _ F _ (C6.grow s I) ⟨a,xs,rfl,ao,s.free I,I,q⟩
theorem iN(Y:∀a b,(∃i j,a=.int i/\b=.int j)\/g a b=stk){x:V}(h:rD2 K W own g x y H Q):∃F i j,aF F H/\x=.int i/\y=.int j/\aJ K W own F H (g (.int i) (.int j)) Q:=by
 obtain⟨F,a,b,s,J,I,p⟩:=h;rcases Y a b with⟨i,j,rfl,rfl⟩|e
 ·exact⟨F,i,j,s,J,I,p⟩
 ·rw[e]at p;exact p.stuck
theorem uU:Op2 K W own X (HD .Mult) E8:=op_mul.imp λx y H Q h=>by
 obtain⟨F,i,j,s,e1,e2,p⟩:=iN (λa b=>by cases a<;>cases b<;>first|exact .inr rfl|exact .inl ⟨_,_,rfl,rfl⟩) h;have J:aJ K W own F H (if (ij i||ij j)=d_ then .ok (.int (i*j))else stk) Q:=p;by_cases I:(ij i||ij j)=d_
 ·rw[g_ I]at J;refine⟨i,j,e1,e2,?_,J.int s⟩
  unfold ij at I;simp only[JP,o_,FT]at I;exact I
 ·rw[l_ I]at J;exact J.stuck
theorem Ef{j:Int}(I:0<j)(h1:j<18446744073709551616):j.natAbs.log2<9000:=by
 have a:j.natAbs<2^64:=by omega
 have b:=(Nat.log2_lt (n:=j.natAbs) (k:=64) (by omega)).mpr a;omega
theorem DO:OpR X (HD .FloorDiv) (rI (λ_ j=>0<j/\j<18446744073709551616) λi j=>.int (i/j)):=opI λi j _ _ _ _ _ I q=>by obtain⟨Y,J⟩:=I;exact floordiv_int (by omega) (by rw[Int.fdiv_eq_ediv_of_nonneg i (by omega)];exact q) (.inl (PyProof.noPylong_of_log2 (Ef Y J)))
theorem jO:Op2 K W own X (HD .FloorDiv) jI:=DO.imp λx y H Q h=>by
 obtain⟨F,i,j,s,e1,e2,p⟩:=iN (λa b=>by cases a<;>cases b<;>first|exact .inr rfl|exact .inl ⟨_,_,rfl,rfl⟩) h;have I:aJ K W own F H (if (q_ (0<j)&&q_ (j<18446744073709551616))=d_ then .ok (.int (i/j))else stk) Q:=p;by_cases J:(q_ (0<j)&&q_ (j<18446744073709551616))=d_
 ·rw[g_ J]at I;simp only[o_,FT]at J;exact⟨i,j,e1,e2,J,I.int s⟩
 ·rw[l_ J]at I;exact I.stuck
theorem gX:Op2 K W own X (HD .Mod) lg:=op_mod.imp λx y H Q h=>by
 obtain⟨F,i,j,s,e1,e2,p⟩:=iN (λa b=>by cases a<;>cases b<;>first|exact .inr rfl|exact .inl ⟨_,_,rfl,rfl⟩) h;have I:aJ K W own F H (if 0<j then .ok (.int (i%j))else stk) Q:=p;by_cases J:0<j
 ·rw[g_ J]at I;exact⟨i,j,e1,e2,J,I.int s⟩
 ·rw[l_ J]at I;exact I.stuck
theorem xm:Op2 K W own X (HD .Pow) DF:=op_pow.imp λx y H Q h=>by
 obtain⟨F,i,j,s,e1,e2,p⟩:=iN (λa b=>by cases a<;>cases b<;>first|exact .inr rfl|exact .inl ⟨_,_,rfl,rfl⟩) h;have J:aJ K W own F H (if (q_ (0<=j)&&q_ (j<=1000000)&&q_ (i.natAbs<2^64))=d_ then .ok (.int (i^j.toNat))else stk) Q:=p;by_cases I:(q_ (0<=j)&&q_ (j<=1000000)&&q_ (i.natAbs<2^64))=d_
 ·rw[g_ I]at J;simp only[o_,FT]at I;exact⟨i,j,e1,e2,⟨I.1.1,I.1.2,I.2⟩,J.int s⟩
 ·rw[l_ I]at J;exact J.stuck
theorem o_neg:UnR X (NR .USub) (rD1 K W own negD):=un_neg.imp λx H Q h=>by
 obtain⟨F,a,s,I,p⟩:=h;cases a with
 |int i=>exact⟨i,I,aJ.int (own:=own) p s⟩|_=>exact aJ.stuck p
theorem o_lt:Op2 K W own X (FU .Lt) ltD:=op_lt.imp λx y H Q h=>by obtain⟨F,i,j,s,e1,e2,p⟩:=iN (λa b=>by cases a<;>cases b<;>first|exact .inr rfl|exact .inl ⟨_,_,rfl,rfl⟩) h;exact⟨i,j,e1,e2,p.bl s⟩
theorem DV:Op2 K W own X (FU .LtE) leD:=op_le.imp λx y H Q h=>by obtain⟨F,i,j,s,e1,e2,p⟩:=iN (λa b=>by cases a<;>cases b<;>first|exact .inr rfl|exact .inl ⟨_,_,rfl,rfl⟩) h;exact⟨i,j,e1,e2,p.bl s⟩
theorem o_gt:Op2 K W own X (FU .Gt) gtD:=op_gt.imp λx y H Q h=>by obtain⟨F,i,j,s,e1,e2,p⟩:=iN (λa b=>by cases a<;>cases b<;>first|exact .inr rfl|exact .inl ⟨_,_,rfl,rfl⟩) h;exact⟨i,j,e1,e2,p.bl s⟩
theorem o_ge:Op2 K W own X (FU .GtE) geD:=op_ge.imp λx y H Q h=>by obtain⟨F,i,j,s,e1,e2,p⟩:=iN (λa b=>by cases a<;>cases b<;>first|exact .inr rfl|exact .inl ⟨_,_,rfl,rfl⟩) h;exact⟨i,j,e1,e2,p.bl s⟩
theorem op_catL:OpR X (HD .Add) (λx y H Q=>∃l b xs d,x=.ref l/\y=.ref b/\SqL X.K H l xs/\SqL X.K H b d/\xs.length+d.length<=f_/\∀p,H p=c_->Q (.ref p) (upd H p (.lst (xs++d)))):=by
 intro B' s σ H x y v u Q I w t h;obtain⟨l,b,xs,d,rfl,rfl,A,B,F,q⟩:=h;cases w;cases t;obtain⟨F9,r,p1,G⟩:=I.list A;obtain⟨J,r2,p2,z⟩:=I.list B;have E:=r.length;have D:=r2.length;obtain⟨⟨C,dd,k,o⟩,i,j,n,hd⟩:=id p1.isList;obtain⟨⟨m,f,g,e⟩,Y,c,n2,a⟩:=id p2.isList;simp only at j hd c a;subst j hd c a;refine K0 ⟨_,i,rfl⟩ ⟨_,Y,rfl⟩ noFill_list_add seq_list_add PySem.F.slot_list_add PySem.F.entry_list_add (PySem.F.args_list_add_2 _ _) (list_addW l b F9.toArray J.toArray n n2 dd f o e (by simp only[A_];omega)) ⟨i,Y,?_⟩;have ea:F9.toArray++J.toArray=(F9++J).toArray:=by simp
 rw[ea];exact⟨.ref _,_,I.lnew (t':=s.toks) (r.append r2) (by rw[FG];omega),rfl,q _ I.fresh⟩
theorem op_cat3:OpR X (HD .Add) (λx y H Q=>∃a b xs ys,x=.ref a/\y=.ref b/\SqT X.K H a xs/\SqT X.K H b ys/\xs.length+ys.length<=f_/\(xs=[]->Q (.ref b) H)/\(ys=[]->Q (.ref a) H)/\∀p,H p=c_->Q (.ref p) (upd H p (.tup (xs++ys)))):=by
 intro B' s σ H x y v u Q I k j h;obtain⟨a,b,xs,ys,rfl,rfl,r,q,E,D,C,B⟩:=h;by_cases l:xs=[]
 ·subst l;cases k;cases j;obtain⟨F9,A,p1,_⟩:=I.tuple r;obtain⟨J,r2,p2,_⟩:=I.tuple q;cases A;obtain⟨⟨G,dd,t,z⟩,m,o,n,hd⟩:=id p1;obtain⟨⟨w,g,i,f⟩,Y,d,n2,c⟩:=id p2;simp only at o hd d c;subst o hd d c;exact K0 ⟨_,m,rfl⟩ ⟨_,Y,rfl⟩ Lb Ms JA Jw (Jr _ _)
   (tuple_addW0 a b #[] J.toArray n n2 dd g z f rfl) ⟨m,Y,⟨.ref b,H,I,rfl,D rfl⟩⟩
 ·exact op_catT B' s σ H _ _ v u Q I k j ⟨a,b,xs,ys,rfl,rfl,r,q,l,E,λe=>C e,λ_ p F=>B p F⟩
theorem bS(g: ~~~(X.K=K)):Op2 K W d_ X (HD .Add) eC:=by
 subst g;refine(op_add.or (BE.or (op_catL.or op_cat3))).imp λx y H Q h=>?_;obtain⟨F,a,b,s,d,c,p⟩:=h;cases a with
 |int i=>
  cases b with
  |int j=>exact .inl ⟨i,j,d,c,p.int s⟩|_=>exact aJ.stuck p
 |str z=>
  cases b with
  |str w=>
   have I:aJ X.K W d_ F H (if z.length+w.length<=f_ then .ok (.str (z++w))else stk) Q:=p;by_cases J:z.length+w.length<=f_
   ·rw[g_ J]at I;exact .inr (.inl ⟨z,w,d,c,J,I.str s⟩)
   ·rw[l_ J]at I;exact I.stuck
  |_=>exact aJ.stuck p
 |lst ds=>
  cases b with
  |lst es=>
   obtain⟨a,xs,e1,t1,Y⟩:=d;obtain⟨b,ys,e2,t2,r2⟩:=c;have I:aJ X.K W d_ F H (if ds.length+es.length<=f_ then .ok (.lst (ds++es))else stk) Q:=p;by_cases J:ds.length+es.length<=f_
   ·rw[g_ J]at I;exact .inr (.inr (.inl ⟨a,b,xs,ys,e1,e2,s.lst t1,s.lst t2,by rw[Y.length,r2.length];exact J,λl f=>I.lst s (Y.append r2) f⟩))
   ·rw[l_ J]at I;exact I.stuck
  |_=>exact aJ.stuck p
 |tup ds=>
  cases b with
  |tup es=>
   obtain⟨a,xs,e1,t1,Y⟩:=d;obtain⟨b,ys,e2,t2,r2⟩:=c;have I:aJ X.K W d_ F H (if ds.length+es.length<=f_ then .ok (.tup (ds++es))else stk) Q:=p;by_cases J:ds.length+es.length<=f_
   ·rw[g_ J]at I;refine .inr (.inr (.inr ⟨a,b,xs,ys,e1,e2,s.tup t1,s.tup t2,by rw[Y.length,r2.length];exact J,λe=>?_,λe=>?_,λl f=>I.tup s (Y.append r2) f⟩))
    ·have z:ds=[]:=by have:=Y.length;rw[e]at this;exact IC.mp this.symm
     subst z;exact I.same s ⟨b,ys,rfl,t2,r2⟩
    ·have z:es=[]:=by have:=r2.length;rw[e]at this;exact IC.mp this.symm
     subst z;rw[HF]at I;exact I.same s ⟨a,xs,rfl,t1,Y⟩
   ·rw[l_ J]at I;exact I.stuck
  |_=>exact aJ.stuck p
 |_=>exact aJ.stuck p
theorem o_isN:Op2 K W own X (FU .Is) isND:=op_isN.imp λx y H Q h=>by
 obtain⟨F,a,b,s,I,J,p⟩:=h;have key:∀{k:Bool},isND a b=.ok (.bl k)->b=.non->(q_ (x=V.non)=k)->y=V.non/\Q (.bl (q_ (x=V.non))) H:=λ{k} e1 e2 e3=>by subst e2;rw[e1]at p;rw[e3];exact⟨J,p.bl s⟩
 cases b with
 |non=>
  cases a with
  |non=>exact key rfl rfl (by rw[show x=.non from I];rfl)|bl k=>exact key rfl rfl (by rw[show x=.bl k from I];rfl)|int k=>exact key rfl rfl (by rw[show x=.int k from I];rfl)|str k=>exact key rfl rfl (by rw[show x=.str k from I];rfl)|tup ds=>obtain⟨l,xs,e,_⟩:=I;exact key rfl rfl (by rw[e];rfl)
  |lst ds=>obtain⟨l,xs,e,_⟩:=I;exact key rfl rfl (by rw[e];rfl)
  |ins C fs=>obtain⟨l,dx,xs,e,_⟩:=I;exact key rfl rfl (by rw[e];rfl)
  |dic ks=>obtain⟨l,xs,e,_⟩:=I;exact key rfl rfl (by rw[e];rfl)
  |dil ks=>obtain⟨l,xs,e,_⟩:=I;exact key rfl rfl (by rw[e];rfl)
 |_=>cases a<;>exact aJ.stuck p
theorem o_notN:Op2 K W own X (FU .IsNot) DX:=op_notN.imp λx y H Q h=>by
 obtain⟨F,a,b,s,I,J,p⟩:=h;have key:∀{k:Bool},DX a b=.ok (.bl k)->b=.non->((!decide (x=V.non))=k)->y=V.non/\Q (.bl (!decide (x=V.non))) H:=λ{k} e1 e2 e3=>by subst e2;rw[e1]at p;rw[e3];exact⟨J,p.bl s⟩
 cases b with
 |non=>
  cases a with
  |non=>exact key rfl rfl (by rw[show x=.non from I];rfl)|bl k=>exact key rfl rfl (by rw[show x=.bl k from I];rfl)|int k=>exact key rfl rfl (by rw[show x=.int k from I];rfl)|str k=>exact key rfl rfl (by rw[show x=.str k from I];rfl)|tup ds=>obtain⟨l,xs,e,_⟩:=I;exact key rfl rfl (by rw[e];rfl)
  |lst ds=>obtain⟨l,xs,e,_⟩:=I;exact key rfl rfl (by rw[e];rfl)
  |ins C fs=>obtain⟨l,dx,xs,e,_⟩:=I;exact key rfl rfl (by rw[e];rfl)
  |dic ks=>obtain⟨l,xs,e,_⟩:=I;exact key rfl rfl (by rw[e];rfl)
  |dil ks=>obtain⟨l,xs,e,_⟩:=I;exact key rfl rfl (by rw[e];rfl)
 |_=>cases a<;>exact aJ.stuck p
theorem Ex{ds:List A'}{xs:List V}{i:Int}(p:aJ K W b_ F H (g8 ds i) Q)(s:aF F H)(r:az K F ds xs):∃v,atI xs i=a_ v/\Q v H:=by
 unfold g8 at p;cases e:atI ds i with
 |none=>rw[e]at p;exact aJ.stuck p|some d=>
  rw[e]at p;unfold atI at e;cases I:ixN ds.length i with
  |none=>rw[I]at e;cases e|some j=>
   rw[I]at e;obtain⟨v,e1,q⟩:=r.get (show ds[j]?=a_ d from e);refine⟨v,?_,p v F H (C6.refl s) q⟩
   unfold atI;rw[r.length,I];exact e1
theorem du(c: ~~~(X.K=K)):IxR X (rD2 K W b_ ixD):=by
 subst c;refine ix_seq.imp λx y H Q h=>?_;obtain⟨F,a,b,s,Y,J,p⟩:=h;cases a with
 |lst ds=>
  cases b with
  |int i=>obtain⟨a,xs,e1,t1,I⟩:=Y;obtain⟨v,e2,q⟩:=Ex p s I;exact .inl ⟨a,xs,i,v,e1,J,s.lst t1,e2,q⟩
  |_=>exact aJ.stuck p
 |tup ds=>
  cases b with
  |int i=>obtain⟨a,xs,e1,t1,I⟩:=Y;obtain⟨v,e2,q⟩:=Ex p s I;exact .inr (.inl ⟨a,xs,i,v,e1,J,s.tup t1,e2,q⟩)
  |_=>exact aJ.stuck p
 |_=>exact aJ.stuck p
theorem gC(I: ~~~(X.K=K)):sX K W own X (.builtin "len") jP:=by
 subst I;refine kE.imp λxs H Q h=>?_;obtain⟨F,ds,s,q,p⟩:=h;cases ds with
 |nil=>exact aJ.stuck p|cons d ds=>
  cases ds with
  |cons _ _=>cases d<;>exact aJ.stuck p
  |nil=>
   obtain⟨v,vs,e,q,e2⟩:=q;cases d with
   |lst es=>
    obtain⟨a,ys,e1,t,r⟩:=q;refine⟨a,ys,by rw[e,e1,show vs=[]from e2],.inl (s.lst t),?_⟩
    rw[r.length];exact aJ.int (own:=own) p s
   |tup es=>
    obtain⟨a,ys,e1,t,r⟩:=q;refine⟨a,ys,by rw[e,e1,show vs=[]from e2],.inr (s.tup t),?_⟩
    rw[r.length];exact aJ.int (own:=own) p s
   |_=>exact aJ.stuck p
end
section
variable{W:eI}{own:Bool}
theorem oi{g:List A'->M A'}(J:∀ds,(∃d,ds=[d])\/g ds=stk){xs:List V}(h:rDL K W own g xs H Q):∃F d x,aF F H/\xs=[x]/\aR K F d x/\aJ K W own F H (g [d]) Q:=by
 obtain⟨F,ds,s,q,p⟩:=h;rcases J ds with⟨d,rfl⟩|e
 ·obtain⟨v,vs,e,I,e2⟩:=q;exact⟨F,d,v,s,by rw[e,show vs=[]from e2],I,p⟩
 ·rw[e]at p;exact p.stuck
theorem two_arg{g:List A'->M A'}(Y:∀ds,(∃d,ds=[d])\/(∃d e,ds=[d,e])\/g ds=stk){xs:List V}(h:rDL K W own g xs H Q):(∃F d x,aF F H/\xs=[x]/\aR K F d x/\aJ K W own F H (g [d]) Q)\/∃F d e x y,aF F H/\xs=[x,y]/\aR K F d x/\aR K F e y/\aJ K W own F H (g [d,e]) Q:=by
 obtain⟨F,ds,s,q,p⟩:=h;rcases Y ds with⟨d,rfl⟩|⟨d,e,rfl⟩|e
 ·obtain⟨v,vs,e,I,e2⟩:=q;exact .inl ⟨F,d,v,s,by rw[e,show vs=[]from e2],I,p⟩
 ·obtain⟨v,vs,e1,I,w,ws,e2,J,e3⟩:=q;exact .inr ⟨F,d,e,v,w,s,by rw[e1,e2,show ws=[]from e3],I,J,p⟩
 ·rw[e]at p;exact p.stuck
theorem ue{F:Hp}:∀{ds:List A'} {xs:List V} {bs:List Bool},az K F ds xs->iI ds=.ok bs->xs=bs.map V.bl
 |[],_,_,q,e=>by cases e;exact q|d::ds,_,bs,⟨v,vs,e1,q,r⟩,e=>by
  cases d with
  |bl b=>
   cases e2:iI ds with
   |error x=>simp only[iI,asB,aj,e2,vI]at e;cases e|ok cs=>simp only[iI,asB,aj,e2]at e;cases e;rw[e1,show v=.bl b from q,ue r e2];rfl
  |_=>cases e
theorem uf:∀{ds:List A'} {e:Err},iI ds=.error e->e=.stuck
 |[],_,h=>by cases h|d::ds,e,h=>by
  cases d with
  |bl b=>
   cases e2:iI ds with
   |error x=>simp only[iI,asB,aj,e2,vI]at h;cases h;exact uf e2|ok cs=>simp only[iI,asB,aj,e2]at h;cases h
  |_=>cases h;rfl
theorem rj{F:Hp}:∀{ds:List A'} {xs:List V} {bs:List Int},az K F ds xs->nz ds=.ok bs->xs=bs.map V.int
 |[],_,_,q,e=>by cases e;exact q|d::ds,_,bs,⟨v,vs,e1,q,r⟩,e=>by
  cases d with
  |int b=>
   cases e2:nz ds with
   |error x=>simp only[nz,asI,aj,e2,vI]at e;cases e|ok cs=>simp only[nz,asI,aj,e2]at e;cases e;rw[e1,show v=.int b from q,rj r e2];rfl
  |_=>cases e
theorem rl:∀{ds:List A'} {e:Err},nz ds=.error e->e=.stuck
 |[],_,h=>by cases h|d::ds,e,h=>by
  cases d with
  |int b=>
   cases e2:nz ds with
   |error x=>simp only[nz,asI,aj,e2,vI]at h;cases h;exact rl e2|ok cs=>simp only[nz,asI,aj,e2]at h;cases h
  |_=>cases h;rfl
theorem A0(Y:X.calm=d_)(f: ~~~(X.K=K)):sX K W own X (.builtin "all") allD:=by
 subst f;refine(call_all Y).imp λxs H Q h=>?_;obtain⟨F,d,x,s,e,q,p⟩:=oi (λds=>by match ds with|[d]=>exact .inl ⟨d,rfl⟩|[]=>exact .inr rfl|a::b::c=>exact .inr (by cases a<;>rfl)) h;cases d with
 |lst ds=>
  obtain⟨a,ys,e1,t,r⟩:=q;have I:aJ X.K W own F H ((iI ds).bind λbs=>.ok (.bl (bs.all id))) Q:=p;cases J:iI ds with
  |error z=>rw[J]at I;have:=uf J;subst this;exact aJ.stuck I|ok bs=>
   rw[J]at I;refine⟨a,bs,by rw[e,e1],?_,aJ.bl (own:=own) I s⟩
   rw[<- ue r J];exact s.lst t
 |_=>exact aJ.stuck p
theorem c_list(J: ~~~(X.K=K)):sX K W d_ X (.type "list") nj:=by
 subst J;refine gQ.imp λxs H Q h=>?_;obtain⟨F,d,x,s,e,q,p⟩:=oi (λds=>by match ds with|[d]=>exact .inl ⟨d,rfl⟩|[]=>exact .inr rfl|a::b::c=>exact .inr (by cases a<;>rfl)) h;cases d with
 |lst ds=>obtain⟨a,ys,e1,t,r⟩:=q;exact⟨a,ys,by rw[e,e1],.inl (s.lst t),λl I=>aJ.lst p s r I⟩
 |tup ds=>obtain⟨a,ys,e1,t,r⟩:=q;exact⟨a,ys,by rw[e,e1],.inr (s.tup t),λl I=>aJ.lst p s r I⟩
 |_=>exact aJ.stuck p
theorem c_int:sX K W own X (.type "int") intD:=Fo.imp λxs H Q h=>by
 obtain⟨F,d,x,s,e,q,p⟩:=oi (λds=>by match ds with|[d]=>exact .inl ⟨d,rfl⟩|[]=>exact .inr rfl|a::b::c=>exact .inr (by cases a<;>rfl)) h;cases d with
 |int i=>exact .inl ⟨i,by rw[e,show x=.int i from q],aJ.int (own:=own) p s⟩|bl b=>exact .inr ⟨b,by rw[e,show x=.bl b from q],aJ.int (own:=own) p s⟩|_=>exact aJ.stuck p
theorem fold_min:∀(is:List Int) (i:Int),(is.foldl lE i=i\/is.foldl lE i∈is)/\is.foldl lE i<=i/\∀a∈is,is.foldl lE i<=a
 |[],i=>⟨.inl rfl,MC _,λ_ h=>nomatch h⟩
 |j::is,i=>by
  obtain⟨h1,h2,J⟩:=fold_min is (lE i j);have z:(lE i j=i\/lE i j=j)/\lE i j<=i/\lE i j<=j:=by unfold lE;split<;>(refine⟨?_,?_,?_⟩<;>first|exact .inl rfl|exact .inr rfl|omega)
  rw[List.foldl_cons];refine⟨?_,OA h2 z.2.1,λa I=>?_⟩
  ·rcases h1 with h1|h1
   ·rw[h1];rcases z.1 with z|z
    ·exact .inl z
    ·exact .inr (by rw[z];exact Gp)
   ·exact .inr (FH _ h1)
  ·rcases x_.mp I with e|e
   ·rw[e];exact OA h2 z.2.2
   ·exact J a e
theorem zE{is:List Int}{i m:Int}(h1:m∈i::is)(h2:∀a∈i::is,m<=a):is.foldl lE i=m:=by
 obtain⟨J,g2,I⟩:=fold_min is i;have a1:m<=is.foldl lE i:=by
  rcases J with g|g
  ·rw[g];exact h2 i Gp
  ·exact h2 _ (FH _ g)
 have Y:is.foldl lE i<=m:=by
  rcases x_.mp h1 with e|e
  ·rw[e];exact g2
  ·exact I m e
 omega
theorem Fl(l:X.calm=d_):g7 X (.builtin "min") (λxs H Q=>∃a i is,xs=[.ref a]/\SqL X.K H a ((i::is).map V.int)/\Q (.int (is.foldl lE i)) H):=by
 intro B' s σ H xs us Q I r h;obtain⟨a,i,is,rfl,f,q⟩:=h;obtain⟨u,rfl,d⟩:=r.one;cases d;obtain⟨F9,c,p,o⟩:=I.list f;have hi:=intsAre_of c;obtain⟨xs,e⟩:=hi.allInts.items;have J:i::is=xs.toList.map (·.1):=by rw[<- hi.numsOf,<- nums_intItems,<- e]
 have hsz:0<xs.size:=by have n:=Iv Mm J;simp at n;omega
 have Y:=p.isList;rw[e]at Y;refine min_intList (I.ok.hd l) Y hsz λv h' tk hv g=>?_;obtain⟨t,rfl⟩:=intItems_at hv;obtain⟨h1,h2⟩:=argBest_lt (numAt xs) (xs.size-1);refine⟨.int _,H,I.kept g,⟨t,rfl⟩,?_⟩
 have:=zE (is:=is) (i:=i) (m:=numAt xs (argBest (λi j=>q_ (numAt xs i<numAt xs j)) (xs.size-1))) (by
   rw[J,numAt_eq];exact getD_mem (by rw[t_,Hr];omega)) (λa b=>by
   rw[J]at b;obtain⟨j,k,rfl⟩:=mem_getD b;rw[t_,Hr]at k;rw[<- numAt_eq];exact h2 j (by omega))
 rw[<- this];exact q
theorem c_min(Y:X.calm=d_)(g: ~~~(X.K=K)):sX K W own X (.builtin "min") minD:=by
 subst g;refine((Fm Y).or (Fl Y)).imp λxs H Q h=>?_;rcases two_arg (λds=>by match ds with|[d]=>exact .inl ⟨d,rfl⟩|[d,e]=>exact .inr (.inl ⟨d,e,rfl⟩)|[]=>exact .inr (.inr rfl)|a::b::c::d=>exact .inr (.inr (by cases a<;>cases b<;>rfl))) h with⟨F,d,x,s,e,q,p⟩|⟨F,d,d2,x,y,s,e,q,f,p⟩
 ·cases d with
  |lst ds=>
   obtain⟨a,ys,e1,t,r⟩:=q;have I:aJ X.K W own F H ((nz ds).bind minL) Q:=p;cases J:nz ds with
   |error z=>rw[J]at I;have:=rl J;subst this;exact aJ.stuck I|ok is=>
    rw[J]at I;cases is with
    |nil=>exact aJ.stuck I|cons i is=>refine .inr ⟨a,i,is,by rw[e,e1],?_,aJ.int (own:=own) I s⟩;rw[<- rj r J];exact s.lst t
  |_=>exact aJ.stuck p
 ·cases d with
  |int i=>
   cases d2 with
   |int j=>exact .inl ⟨i,j,by rw[e,show x=.int i from q,show y=.int j from f],aJ.int (own:=own) p s⟩|_=>exact aJ.stuck p
  |_=>cases d2<;>exact aJ.stuck p
end
theorem SqL.inj{B':Vp}{σ:St}{H:Hp}{s:y_}{a:i_}{xs ys:List V}(I:C' X B' σ H s)(h:SqL X.K H a xs)(h':SqL X.K H a ys):xs=ys:=by
 obtain⟨c,Y,p1,_⟩:=I.list h;obtain⟨b,r2,p2,_⟩:=I.list h';obtain⟨o,n,e,_,_,d⟩:=p1;obtain⟨o',f,J,_,_,d'⟩:=p2;rw[e]at J;cases J;rw[d]at d';injection d' with d1 _
 have:c=b:=by simpa using Iv Ko d1
 subst this;exact Y.inj r2
theorem SqT.inj{B':Vp}{σ:St}{H:Hp}{s:y_}{a:i_}{xs ys:List V}(I:C' X B' σ H s)(h:SqT X.K H a xs)(h':SqT X.K H a ys):xs=ys:=by
 obtain⟨c,Y,p1,_⟩:=I.tuple h;obtain⟨b,r2,p2,_⟩:=I.tuple h';obtain⟨o,e,_,n,d⟩:=p1;obtain⟨o',J,_,f,d'⟩:=p2;rw[e]at J;cases J;rw[d]at d';injection d' with d1 _
 have:c=b:=by simpa using Iv Ko d1
 subst this;exact Y.inj r2
theorem az.all_eq{F:Hp}(e:Nat->Bool):∀{ds es:List A'},ds.length=es.length->(∀(j:Nat) a b,ds[j]?=a_ a->es[j]?=a_ b->e j=eqD a b)->(GU ds.length).all e=eqDs ds es:=by
 intro ds
 induction ds generalizing e with
 |nil=>intro es h _;cases es with
  |nil=>rfl|cons _ _=>simp at h
 |cons d ds I=>
  intro es h q;cases es with
  |nil=>simp at h|cons b es=>
   rw[FV,LQ,Kb,Ji,eqDs];rw[q 0 d b rfl rfl]
   congr 1
   exact I (e∘Nat.succ) (by simpa using h) λj x y Y J=>q (j+1) x y (by simpa using Y) (by simpa using J)
theorem pV:∀{ds es:List A'},ds.length≠es.length->eqDs ds es=b_
 |[],[],h=>FJ rfl h|[],_::_,_=>rfl|_::_,[],_=>rfl|d::ds,e::es,h=>by rw[eqDs,pV (ds:=ds) (es:=es) (λz=>h (by simp[z])),HL]
theorem B0(e:Nat->Bool):∀{ds es:List A'},(∀(j:Nat) a b,ds[j]?=a_ a->es[j]?=a_ b->e j=eqD a b)->((GU (min ds.length es.length)).all e&&ds.length==es.length)=eqDs ds es:=by
 intro ds es q;by_cases I:ds.length=es.length
 ·have e1:min ds.length es.length=ds.length:=by omega
  rw[e1,az.all_eq (F:=λ_=>c_) e I q,I,MS,NL]
 ·rw[pV I];have:(ds.length==es.length)=b_:=by simpa using I
  rw[this,HL]
mutual
theorem pW:∀{d:A'} {n:Nat},I' d n=d_->eqD d d=d_
 |.non,_,_=>rfl|.bl b,_,_=>by simp[eqD]|.int i,_,_=>by simp[eqD]|.str x,_,_=>by simp[eqD]|.tup ds,0,h=>by simp[I']at h|.tup ds,n+1,h=>by simp only[I']at h;simp only[eqD];exact rC h|.lst ds,0,h=>by simp[I']at h|.lst ds,n+1,h=>by simp only[I']at h;simp only[eqD];exact rC h|.ins _ _,_,h=>by simp[I']at h|.dic _,_,h=>by simp[I']at h|.dil _,_,h=>by simp[I']at h
theorem rC:∀{ds:List A'} {n:Nat},lD ds n=d_->eqDs ds ds=d_
 |[],_,_=>rfl|d::ds,n,h=>by simp only[lD,o_]at h;simp only[eqDs,pW h.1,rC h.2,Bool.and_self]
end
theorem uT:∀{ds:List A'} {n i:Nat} {d:A'},lD ds n=d_->ds[i]?=a_ d->I' d n=d_
 |[],_,_,_,_,h=>by simp at h|_::_,_,0,_,h,e=>by simp only[lD,o_]at h;simp at e;rw[<- e];exact h.1|_::_,_,i+1,_,h,e=>by simp only[lD,o_]at h;exact uT h.2 (by simpa using e)
def ll(ds es:List A')(j:Nat):Bool:=match ds[j]?,es[j]? with
 |some a,a_ b=>eqD a b|_,_=>d_
inductive Sh(s:y_):A'->j_->Prop
 |non:Sh s .non .none
 |bl (b:Bool):Sh s (.bl b) (.bool b)
 |int (i:Int) (t:Nat):Sh s (.int i) (.int i t)
 |str (x:p_) (t:Nat):Sh s (.str x) (.str x t)
 |tup {ds:List A'} {l:i_} {is:Array j_} (p:s.heap.IsTuple l is):Sh s (.tup ds) (.ref l)
 |lst {ds:List A'} {l:i_} {is:Array j_} (p:s.heap.IsList l is):Sh s (.lst ds) (.ref l)
noncomputable def sq:A'->A'->Bool
 |.tup _,.tup _=>d_|.lst _,.lst _=>d_|_,_=>b_
theorem wa{a b:A'}(h:sq a b=d_):(∃ds es,a=.tup ds/\b=.tup es)\/∃ds es,a=.lst ds/\b=.lst es:=by
 unfold sq at h;split at h
 ·exact .inl ⟨_,_,rfl,rfl⟩
 ·exact .inr ⟨_,_,rfl,rfl⟩
 ·cases h
theorem eqAt_U{a b:A'}{v:j_}(Y:Sh s a u)(J:Sh s b v)(I:A.units<G5):sq a b=d_\/JE A s u v (eqD a b):=match Y,J with
 |.non,.non=>.inr (.same _)|.non,.bl b=>.inr (.none_bool b)|.non,.int b t2=>.inr (.none_int b t2)|.non,.str b t2=>.inr (.none_str b t2)|.non,.tup q=>.inr (.none_tuple q I)|.non,.lst q=>.inr (.none_list q I)|.bl a,.non=>.inr (.bool_none a)|.bl a,.bl b=>.inr (.bool_bool a b)|.bl a,.int b t2=>.inr (.bool_int a b t2)|.bl a,.str b t2=>.inr (.bool_str a b t2)|.bl a,.tup q=>.inr (.bool_tuple a q I)|.bl a,.lst q=>.inr (.bool_list a q I)|.int a t,.non=>.inr (.int_none a t)|.int a t,.bl b=>.inr (.int_bool a t b)|.int a t,.int b t2=>.inr (.int_int a t b t2)|.int a t,.str b t2=>.inr (.int_str a t b t2)|.int a t,.tup q=>.inr (.int_tuple a t q I)|.int a t,.lst q=>.inr (.int_list a t q I)|.str a t,.non=>.inr (.str_none a t)|.str a t,.bl b=>.inr (.str_bool a t b)|.str a t,.int b t2=>.inr (.str_int a t b t2)|.str a t,.str b t2=>.inr (.str_str a t b t2)|.str a t,.tup q=>.inr (.str_tuple a t q I)|.str a t,.lst q=>.inr (.str_list a t q I)|.tup p,.non=>.inr (.tuple_none p I)|.tup p,.bl b=>.inr (.tuple_bool b p I)|.tup p,.int b t2=>.inr (.tuple_int b t2 p I)|.tup p,.str b t2=>.inr (.tuple_str b t2 p I)|.tup _,.tup _=>.inl rfl|.tup p,.lst q=>.inr (.tuple_list p q I)|.lst p,.non=>.inr (.list_none p I)|.lst p,.bl b=>.inr (.list_bool b p I)|.lst p,.int b t2=>.inr (.list_int b t2 p I)|.lst p,.str b t2=>.inr (.list_str b t2 p I)|.lst p,.tup q=>.inr (.list_tuple p q I)|.lst _,.lst _=>.inl rfl
theorem rcAt_U{a b:A'}{v:j_}(Y:Sh s a u)(J:Sh s b v)(I:A.units<G5):sq a b=d_\/My A s u v (eqD a b):=match Y,J with
 |.non,.non=>.inr (.none_none)|.non,.bl b=>.inr (.none_bool b)|.non,.int b t2=>.inr (.none_int b t2)|.non,.str b t2=>.inr (.none_str b t2)|.non,.tup q=>.inr (.none_tuple q I)|.non,.lst q=>.inr (.none_list q I)|.bl a,.non=>.inr (.bool_none a)|.bl a,.bl b=>.inr (.bool_bool a b)|.bl a,.int b t2=>.inr (.bool_int a b t2)|.bl a,.str b t2=>.inr (.bool_str a b t2)|.bl a,.tup q=>.inr (.bool_tuple a q I)|.bl a,.lst q=>.inr (.bool_list a q I)|.int a t,.non=>.inr (.int_none a t)|.int a t,.bl b=>.inr (.int_bool a t b)|.int a t,.int b t2=>.inr (.int_int a t b t2)|.int a t,.str b t2=>.inr (.int_str a t b t2)|.int a t,.tup q=>.inr (.int_tuple a t q I)|.int a t,.lst q=>.inr (.int_list a t q I)|.str a t,.non=>.inr (.str_none a t)|.str a t,.bl b=>.inr (.str_bool a t b)|.str a t,.int b t2=>.inr (.str_int a t b t2)|.str a t,.str b t2=>.inr (.str_str a t b t2)|.str a t,.tup q=>.inr (.str_tuple a t q I)|.str a t,.lst q=>.inr (.str_list a t q I)|.tup p,.non=>.inr (.tuple_none p I)|.tup p,.bl b=>.inr (.tuple_bool b p I)|.tup p,.int b t2=>.inr (.tuple_int b t2 p I)|.tup p,.str b t2=>.inr (.tuple_str b t2 p I)|.tup _,.tup _=>.inl rfl|.tup p,.lst q=>.inr (.tuple_list p q I)|.lst p,.non=>.inr (.list_none p I)|.lst p,.bl b=>.inr (.list_bool b p I)|.lst p,.int b t2=>.inr (.list_int b t2 p I)|.lst p,.str b t2=>.inr (.list_str b t2 p I)|.lst p,.tup q=>.inr (.list_tuple p q I)|.lst _,.lst _=>.inl rfl
theorem rcNeAt_U{a b:A'}{v:j_}(Y:Sh s a u)(J:Sh s b v)(I:A.units<G5):sq a b=d_\/LF A s u v (!eqD a b):=match Y,J with
 |.non,.non=>.inr (.none_none)|.non,.bl b=>.inr (.none_bool b)|.non,.int b t2=>.inr (.none_int b t2)|.non,.str b t2=>.inr (.none_str b t2)|.non,.tup q=>.inr (.none_tuple q I)|.non,.lst q=>.inr (.none_list q I)|.bl a,.non=>.inr (.bool_none a)|.bl a,.bl b=>.inr (.bool_bool a b)|.bl a,.int b t2=>.inr (.bool_int a b t2)|.bl a,.str b t2=>.inr (.bool_str a b t2)|.bl a,.tup q=>.inr (.bool_tuple a q I)|.bl a,.lst q=>.inr (.bool_list a q I)|.int a t,.non=>.inr (.int_none a t)|.int a t,.bl b=>.inr (.int_bool a t b)|.int a t,.int b t2=>.inr (.int_int a t b t2)|.int a t,.str b t2=>.inr (.int_str a t b t2)|.int a t,.tup q=>.inr (.int_tuple a t q I)|.int a t,.lst q=>.inr (.int_list a t q I)|.str a t,.non=>.inr (.str_none a t)|.str a t,.bl b=>.inr (.str_bool a t b)|.str a t,.int b t2=>.inr (.str_int a t b t2)|.str a t,.str b t2=>.inr (.str_str a t b t2)|.str a t,.tup q=>.inr (.str_tuple a t q I)|.str a t,.lst q=>.inr (.str_list a t q I)|.tup p,.non=>.inr (.tuple_none p I)|.tup p,.bl b=>.inr (.tuple_bool b p I)|.tup p,.int b t2=>.inr (.tuple_int b t2 p I)|.tup p,.str b t2=>.inr (.tuple_str b t2 p I)|.tup _,.tup _=>.inl rfl|.tup p,.lst q=>.inr (.tuple_list p q I)|.lst p,.non=>.inr (.list_none p I)|.lst p,.bl b=>.inr (.list_bool b p I)|.lst p,.int b t2=>.inr (.list_int b t2 p I)|.lst p,.str b t2=>.inr (.list_str b t2 p I)|.lst p,.tup q=>.inr (.list_tuple p q I)|.lst _,.lst _=>.inl rfl
theorem we(I:C' X B' σ H s)(J:aF F H){d:A'}{x:V}(o:I' d n=d_)(q:aR X.K F d x)(r:Hh x u):Sh s d u:=by
 cases d with
 |non=>cases(show x=.non from q);cases r;exact .non|bl b=>cases(show x=.bl b from q);cases r;exact .bl b|int i=>cases(show x=.int i from q);obtain⟨t,rfl⟩:=r;exact .int i t
 |str y=>cases(show x=.str y from q);obtain⟨t,rfl⟩:=r;exact .str y t
 |tup ds=>obtain⟨l,xs,e,t,_⟩:=q;subst e;cases r;obtain⟨is,_,p,_⟩:=I.tuple (J.tup t);exact .tup (show s.heap.IsTuple l is.toArray from p)
 |lst ds=>obtain⟨l,xs,e,t,_⟩:=q;subst e;cases r;obtain⟨is,_,p,_⟩:=I.list (J.lst t);exact .lst p.isList
 |_=>simp[I']at o
theorem rH{n:Nat}(Y:∀(d e:A') {v:V},aR X.K F d v->aR X.K F e v->I' d n=d_->I' e n=d_->d=e):∀(ds es:List A') {xs:List V},az X.K F ds xs->az X.K F es xs->lD ds n=d_->lD es n=d_->ds=es
 |[],[],_,_,_,_,_=>rfl|[],_::_,_,q,⟨_,_,e,_⟩,_,_=>by rw[show _=[]from q]at e;cases e|_::_,[],_,⟨_,_,e,_⟩,q,_,_=>by rw[show _=[]from q]at e;cases e|d::ds,e::es,_,⟨v,vs,e1,c,a⟩,⟨w,ws,e2,b,r2⟩,J,I=>by rw[e1]at e2;cases e2;simp only[lD,o_]at J I;rw[Y d e c b J.1 I.1,rH Y ds es a r2 J.2 I.2]
theorem pX{d e:A'}(hd:sq d d=b_)(q:aR X.K F d v)(r:aR X.K F e v)(J:I' d n=d_)(I:I' e n=d_):d=e:=by
 cases d<;>first|(cases hd;done)|(simp[I']at J;done)|(simp only[aR]at q;subst q)
 all_goals cases e<;>first|(simp[I']at I;done)|(simp only[aR]at r;first|(obtain⟨_,_,z,_⟩:=r;cases z;done)|(cases r<;>rfl))
theorem vp(I:C' X B' σ H s)(a:aF F H):∀(n:Nat) (d e:A') {v:V},aR X.K F d v->aR X.K F e v->I' d n=d_->I' e n=d_->d=e
 |n,.tup ds,e,v,⟨l,xs,e1,h1,b⟩,r,J,Y=>by
  subst e1;cases n with
  |zero=>simp[I']at J|succ n=>
   cases e with
   |tup es=>obtain⟨c,ys,e2,h2,r2⟩:=r;cases e2;cases SqT.inj I (a.tup h1) (a.tup h2);rw[rH (vp I a n) _ _ b r2 (by simpa only[I'] using J) (by simpa only[I'] using Y)]
   |lst es=>obtain⟨c,ys,e2,h2,r2⟩:=r;cases e2;obtain⟨g,_,p1,_⟩:=I.list (a.lst h2);obtain⟨f,_,p2,_⟩:=I.tuple (a.tup h1);exact FJ rfl (LC p1.isList (show s.heap.IsTuple l f.toArray from p2))
   |_=>first|(simp[I']at Y;done)|(simp only[aR]at r;cases r)
 |n,.lst ds,e,v,⟨l,xs,e1,h1,b⟩,r,J,Y=>by
  subst e1;cases n with
  |zero=>simp[I']at J|succ n=>
   cases e with
   |lst es=>obtain⟨c,ys,e2,h2,r2⟩:=r;cases e2;cases SqL.inj I (a.lst h1) (a.lst h2);rw[rH (vp I a n) _ _ b r2 (by simpa only[I'] using J) (by simpa only[I'] using Y)]
   |tup es=>obtain⟨c,ys,e2,h2,r2⟩:=r;cases e2;obtain⟨g,_,p1,_⟩:=I.list (a.lst h1);obtain⟨f,_,p2,_⟩:=I.tuple (a.tup h2);exact FJ rfl (LC p1.isList (show s.heap.IsTuple l f.toArray from p2))
   |_=>first|(simp[I']at Y;done)|(simp only[aR]at r;cases r)
 |_,.non,_,_,q,r,J,Y=>pX rfl q r J Y|_,.bl _,_,_,q,r,J,Y=>pX rfl q r J Y|_,.int _,_,_,q,r,J,Y=>pX rfl q r J Y|_,.str _,_,_,q,r,J,Y=>pX rfl q r J Y|_,.ins _ _,_,_,_,_,J,_=>by simp[I']at J|_,.dic _,_,_,_,_,J,_=>by simp[I']at J|_,.dil _,_,_,_,_,J,_=>by simp[I']at J
termination_by n=>n
theorem rcAt_S{a b:A'}{x:V}{v:j_}(I:C' X B' σ H s)(Y:aF F H)(D:sq a b=d_)(n:aR X.K F a x)(m:aR X.K F b y)(l:Hh x u)(k:Hh y v)(h:A.units<G5)(r:∀(ds es:List A') (j:Nat) (d1 d2:A') (x y:V) (u v:j_),(a=.tup ds/\b=.tup es\/a=.lst ds/\b=.lst es)->ds[j]?=a_ d1->es[j]?=a_ d2->aR X.K F d1 x->aR X.K F d2 y->Hh x u->Hh y v->JE A.in1 s u v (eqD d1 d2)):My A s u v (eqD a b):=by
 rcases wa D with⟨ds,es,rfl,rfl⟩|⟨ds,es,rfl,rfl⟩
 ·skip;obtain⟨p,xs,e1,h1,J⟩:=n;subst e1;cases l;obtain⟨is,w1,p1,_⟩:=I.tuple (Y.tup h1);obtain⟨o,ys,e2,h2,r2⟩:=m;subst e2;cases k;obtain⟨g,w2,p2,_⟩:=I.tuple (Y.tup h2);have z:=w1.length;have w:=w2.length;have C:=J.length;have B:=r2.length;have q:=SeqAt.RcAt.tuples (A:=A) (e:=ll ds es) (show s.heap.IsTuple p is.toArray from p1) (show s.heap.IsTuple o g.toArray from p2) h (λj h1 h2=>by
   obtain⟨d,f1,i⟩:=w1.atA h1;obtain⟨c,f2,g2⟩:=w2.atA h2;obtain⟨d1,k1,m1⟩:=J.at f1;obtain⟨d2,k2,f⟩:=r2.at f2;rw[show ll ds es j=eqD d1 d2 by simp only[ll,k1,k2]];exact r ds es j d1 d2 d c _ _ (.inl ⟨rfl,rfl⟩) k1 k2 m1 f i g2)
  rw[show is.toArray.size=ds.length by simp;omega,show g.toArray.size=es.length by simp;omega,B0 _ (λj a b h1 h2=>by simp only[ll,h1,h2])]at q;exact q
 ·skip;obtain⟨p,xs,e1,h1,J⟩:=n;subst e1;cases l;obtain⟨is,w1,p1,_⟩:=I.list (Y.lst h1);obtain⟨o,ys,e2,h2,r2⟩:=m;subst e2;cases k;obtain⟨g,w2,p2,_⟩:=I.list (Y.lst h2);have z:=w1.length;have w:=w2.length;have C:=J.length;have B:=r2.length;by_cases t:ds.length=es.length
  ·have q:=SeqAt.RcAt.lists (A:=A) (e:=ll ds es) p1.isList p2.isList (by simp;omega) h (λj h1 h2=>by
   obtain⟨d,f1,i⟩:=w1.atA h1;obtain⟨c,f2,g2⟩:=w2.atA h2;obtain⟨d1,k1,m1⟩:=J.at f1;obtain⟨d2,k2,f⟩:=r2.at f2;rw[show ll ds es j=eqD d1 d2 by simp only[ll,k1,k2]];exact r ds es j d1 d2 d c _ _ (.inr ⟨rfl,rfl⟩) k1 k2 m1 f i g2)
   rw[show is.toArray.size=ds.length by simp;omega,az.all_eq (F:=F) _ t (λj a b h1 h2=>by simp only[ll,h1,h2])]at q;exact q
  ·rw[show eqD (.lst ds) (.lst es)=b_ from pV t];exact SeqAt.RcAt.lists_lengths (A:=A) p1.isList p2.isList (by simp;omega) h
theorem rcNeAt_S{a b:A'}{x:V}{v:j_}(I:C' X B' σ H s)(Y:aF F H)(D:sq a b=d_)(n:aR X.K F a x)(m:aR X.K F b y)(l:Hh x u)(k:Hh y v)(h:A.units<G5)(r:∀(ds es:List A') (j:Nat) (d1 d2:A') (x y:V) (u v:j_),(a=.tup ds/\b=.tup es\/a=.lst ds/\b=.lst es)->ds[j]?=a_ d1->es[j]?=a_ d2->aR X.K F d1 x->aR X.K F d2 y->Hh x u->Hh y v->JE A.in1 s u v (eqD d1 d2)):LF A s u v (!eqD a b):=by
 rcases wa D with⟨ds,es,rfl,rfl⟩|⟨ds,es,rfl,rfl⟩
 ·skip;obtain⟨p,xs,e1,h1,J⟩:=n;subst e1;cases l;obtain⟨is,w1,p1,_⟩:=I.tuple (Y.tup h1);obtain⟨o,ys,e2,h2,r2⟩:=m;subst e2;cases k;obtain⟨g,w2,p2,_⟩:=I.tuple (Y.tup h2);have z:=w1.length;have w:=w2.length;have C:=J.length;have B:=r2.length;have q:=SeqAt.RcNeAt.tuples (A:=A) (e:=ll ds es) (show s.heap.IsTuple p is.toArray from p1) (show s.heap.IsTuple o g.toArray from p2) h (λj h1 h2=>by
   obtain⟨d,f1,i⟩:=w1.atA h1;obtain⟨c,f2,g2⟩:=w2.atA h2;obtain⟨d1,k1,m1⟩:=J.at f1;obtain⟨d2,k2,f⟩:=r2.at f2;rw[show ll ds es j=eqD d1 d2 by simp only[ll,k1,k2]];exact r ds es j d1 d2 d c _ _ (.inl ⟨rfl,rfl⟩) k1 k2 m1 f i g2)
  rw[show is.toArray.size=ds.length by simp;omega,show g.toArray.size=es.length by simp;omega,B0 _ (λj a b h1 h2=>by simp only[ll,h1,h2])]at q;exact q
 ·skip;obtain⟨p,xs,e1,h1,J⟩:=n;subst e1;cases l;obtain⟨is,w1,p1,_⟩:=I.list (Y.lst h1);obtain⟨o,ys,e2,h2,r2⟩:=m;subst e2;cases k;obtain⟨g,w2,p2,_⟩:=I.list (Y.lst h2);have z:=w1.length;have w:=w2.length;have C:=J.length;have B:=r2.length;by_cases t:ds.length=es.length
  ·have q:=SeqAt.RcNeAt.lists (A:=A) (e:=ll ds es) p1.isList p2.isList (by simp;omega) h (λj h1 h2=>by
   obtain⟨d,f1,i⟩:=w1.atA h1;obtain⟨c,f2,g2⟩:=w2.atA h2;obtain⟨d1,k1,m1⟩:=J.at f1;obtain⟨d2,k2,f⟩:=r2.at f2;rw[show ll ds es j=eqD d1 d2 by simp only[ll,k1,k2]];exact r ds es j d1 d2 d c _ _ (.inr ⟨rfl,rfl⟩) k1 k2 m1 f i g2)
   rw[show is.toArray.size=ds.length by simp;omega,az.all_eq (F:=F) _ t (λj a b h1 h2=>by simp only[ll,h1,h2])]at q;exact q
  ·rw[show eqD (.lst ds) (.lst es)=b_ from pV t];exact SeqAt.RcNeAt.lists_lengths (A:=A) p1.isList p2.isList (by simp;omega) h
theorem ok_sub{a b:A'}{j:Nat}{ds es:List A'}(I:I' a n=d_)(J:I' b n=d_)(h:a=.tup ds/\b=.tup es\/a=.lst ds/\b=.lst es)(k1:ds[j]?=a_ d1)(k2:es[j]?=a_ d2):∃m,n=m+1/\I' d1 m=d_/\I' d2 m=d_:=by
 cases n with
 |zero=>rcases h with⟨rfl,rfl⟩|⟨rfl,rfl⟩<;>simp[I']at I
 |succ m=>exact⟨m,rfl,by rcases h with⟨rfl,rfl⟩|⟨rfl,rfl⟩<;>simp only[I']at I J<;>exact⟨uT I k1,uT J k2⟩⟩
theorem eqAt_N(I:C' X B' σ H s)(g:aF F H):∀(n:Nat) (a b:A') {x y:V} {u v:j_} {A:HE},I' a n=d_->I' b n=d_->aR X.K F a x->aR X.K F b y->Hh x u->Hh y v->A.units+n<G5->JE A s u v (eqD a b):=by
 intro n
 induction n with
 |zero=>intro a b x y u v A Y i J f d c w;refine(eqAt_U (we I g Y J d) (we I g i f c) (by omega)).resolve_left λh=>?_;rcases wa h with⟨ds,es,rfl,rfl⟩|⟨ds,es,rfl,rfl⟩<;>simp[I']at Y
 |succ n t=>
  intro a b x y u v A Y i J f d c w;rcases eqAt_U (A:=A) (we I g Y J d) (we I g i f c) (by omega)with h|h
  ·by_cases k:x=y
   ·subst k;cases(show a=b from vp I g (n+1) a b J f Y i);rw[pW Y];rcases wa h with⟨ds,es,rfl,_⟩|⟨ds,es,rfl,_⟩<;>(obtain⟨r,xs,e1,_⟩:=J;subst e1;cases d;cases c;exact SeqAt.EqAt.same _)
   ·have q:=rcAt_S (A:=A) I g h J f d c (by omega) λds es j d1 d2 E D K G B k1 k2 m1 p C g2=>by
     obtain⟨m,e,o,l⟩:=ok_sub Y i B k1 k2;cases e;exact t d1 d2 o l m1 p C g2 (by show A.units+1+n<G5;omega)
    rcases wa h with⟨ds,es,rfl,rfl⟩|⟨ds,es,rfl,rfl⟩<;>(obtain⟨r,xs,e1,_⟩:=J;obtain⟨L,ys,e2,_⟩:=f;subst e1;subst e2;cases d;cases c;exact SeqAt.EqAt.of_refs (λz=>k (by rw[z])) q)
  ·exact h
theorem ED(I:C' X B' σ H s)(h:aF F H)(a b:A'){x:V}{v:j_}(f:I' a n=d_)(e:I' b n=d_)(d:aR X.K F a x)(c:aR X.K F b y)(Y:Hh x u)(J:Hh y v)(g:A.units+n<G5):JE A s u v (eqD a b):=eqAt_N I h n a b f e d c Y J g
theorem eqAt_I(I:C' X B' σ H s)(g:aF F H){a b:A'}(Y:I' a n=d_)(J:I' b n=d_)(i:A.units+n<G5)(ds es:List A')(j:Nat)(d1 d2:A')(x y:V)(u v:j_)(f:a=.tup ds/\b=.tup es\/a=.lst ds/\b=.lst es)(k1:ds[j]?=a_ d1)(k2:es[j]?=a_ d2)(m1:aR X.K F d1 x)(e:aR X.K F d2 y)(h:Hh x u)(g2:Hh y v):JE A.in1 s u v (eqD d1 d2):=by obtain⟨m,rfl,d,c⟩:=ok_sub Y J f k1 k2;exact ED I g d1 d2 d c m1 e h g2 (by show A.units+1+m<G5;omega)
theorem rcAt_D(I:C' X B' σ H s)(J:aF F H)(a b:A'){x:V}{v:j_}(g:I' a n=d_)(f:I' b n=d_)(e:aR X.K F a x)(d:aR X.K F b y)(c:Hh x u)(Y:Hh y v)(i:A.units+n<G5):My A s u v (eqD a b):=
 (rcAt_U (we I J g e c) (we I J f d Y) (by omega)).elim (λh=>rcAt_S I J h e d c Y (by omega) (eqAt_I I J g f i)) id
theorem rcNeAt_D(I:C' X B' σ H s)(J:aF F H)(a b:A'){x:V}{v:j_}(g:I' a n=d_)(f:I' b n=d_)(e:aR X.K F a x)(d:aR X.K F b y)(c:Hh x u)(Y:Hh y v)(i:A.units+n<G5):LF A s u v (!eqD a b):=
 (rcNeAt_U (we I J g e c) (we I J f d Y) (by omega)).elim (λh=>rcNeAt_S I J h e d c Y (by omega) (eqAt_I I J g f i)) id
section
variable{W:eI}{own:Bool}
theorem aJ.blS{b:Bool}(p:aJ K W own F H (.ok (.bl b)) Q)(J:aF F H)(I:C' X B' σ H s):EP X B' σ Q (.bool b) s:=⟨.bl b,H,I,rfl,p.bl J⟩
theorem sd(i:X.A.units+64<G5)(g: ~~~(X.K=K)):Op2 K W own X (FU .Eq) eqM:=by
 subst g;intro B' s σ H x y v u Q I d c h;obtain⟨F,a,b,Y,f,e,p⟩:=h;unfold eqM at p;by_cases J:(I' a 40&&I' b 40)=d_
 ·rw[g_ J]at p;simp only[o_]at J;exact rcAt_D I Y a b J.1 J.2 f e d c (by omega) _ _ _ _ (p.blS Y I)
 ·rw[l_ J]at p;exact p.stuck
theorem sE(i:X.A.units+64<G5)(g: ~~~(X.K=K)):Op2 K W own X (FU .NotEq) neM:=by
 subst g;intro B' s σ H x y v u Q I d c h;obtain⟨F,a,b,Y,f,e,p⟩:=h;unfold neM at p;by_cases J:(I' a 40&&I' b 40)=d_
 ·rw[g_ J]at p;simp only[o_]at J;exact rcNeAt_D I Y a b J.1 J.2 f e d c (by omega) _ _ _ _ (p.blS Y I)
 ·rw[l_ J]at p;exact p.stuck
end
theorem C'.CU{t':Nat}{T:i_}{xs:List V}(I:C' X B' σ H s)(h:∀b∈ch,CL X B' H b)(k:∀b o,b∉ch->s.heap.get? b=a_ o->h'.get? b=a_ o)(i:s.heap.objs.size<=T)(g:xs.length<=f_/\∃F9:List j_,Hn xs F9/\N8 h' T F9.toArray):C' X B' σ (upd H T (.tup xs)) {s with heap:=h',toks:=t'}:=by
 have J:H T=c_:=I.hok.fresh i;have a:∀b u,H b=a_ u->b∉ch:=λb u e z=>by rw[(h b z).1]at e;cases e
 have f:∀{b:i_} {o:JJ},s.heap.get? b=a_ o->b≠T:=λ{b o} e=>Ga (FP (A1 e) i);refine I.step (g':=s.gens) (d':=s.drawn) (ch:=ch) (λb d=>?_) (λb o _ _ Y e _=>k b o Y e) (λb o _ _ Y e _=>⟨o.slots,k b o Y e⟩) (λb o _ e n=>by rw[aq (f e)];exact n)
  (λb o Y e=>⟨o,k b o Y e⟩) (λb ys e=>by rw[aq (aN e J)];exact e) (λb o u e=>by rw[aq (aN e J)];exact e) (λb ps e=>⟨#[],by rw[aq (aN e J),e];simp⟩) (λm l=>?_) (λb u e=>?_) I.bare
 ·obtain⟨f0,f1,f2,f3,f4,f5⟩:=h b d;exact⟨f3,f1,f4,f5⟩
 ·obtain⟨o,es,ep,j,r⟩:=l;exact⟨o,es,ep,k _ o (λz=>(h _ z).2.1 rfl) j,r⟩
 ·by_cases d:b=T
  ·subst d;rw[ao]at e;cases e;exact g
  ·rw[aq d]at e;refine(I.hok b u e).yE (λc v Y q=>k c v ?_ q) (λc q=>?_) λc ys q=>?_
   ·rcases Y with z|z
    ·rw[z];exact a b u e
    ·exact a c _ z
   ·rw[aq (aN q J)];exact q
   ·rw[aq (aN q J)];exact q
theorem C'.CV{t':Nat}(I:C' X B' σ H s)(a:∀b∈ch,CL X B' H b)(k:∀b o,b∉ch->s.heap.get? b=a_ o->h'.get? b=a_ o):C' X B' σ H {s with heap:=h',toks:=t'}:=by
 have Y:∀b u,H b=a_ u->b∉ch:=λb u e z=>by rw[(a b z).1]at e;cases e
 refine I.step (g':=s.gens) (d':=s.drawn) (ch:=ch) (λb g=>?_) (λb o _ _ J e _=>k b o J e) (λb o _ _ J e _=>⟨o.slots,k b o J e⟩) (λb o _ e n=>n)
  (λb o J e=>⟨o,k b o J e⟩) (λb ys e=>e) (λb o u e=>e) (λb ps e=>⟨#[],by rw[e];simp⟩) (λm f=>?_) (λb u e=>?_) I.bare
 ·obtain⟨f0,f1,f2,f3,f4,f5⟩:=a b g;exact⟨f3,f1,f4,f5⟩
 ·obtain⟨o,es,ep,d,r⟩:=f;exact⟨o,es,ep,k _ o (λz=>(a _ z).2.1 rfl) d,r⟩
 ·refine(I.hok b u e).yE (λc v J q=>k c v ?_ q) (λ_ q=>q) λ_ _ q=>q;rcases J with z|z
  ·rw[z];exact Y b u e
  ·exact Y c _ z
section
variable{W:eI}{own:Bool}{a b:GO}{f:ah->M A'}{fr:ah->M (List A')} 
theorem cW:PTs X [] (tDT K W iK):=λB' s σ H Q I h=>yZ B' s σ H Q I (by obtain⟨F,ρ,r,J,q⟩:=h;exact q F H (C6.refl J))
theorem rG:PGs X [] (j5 []):=uK
theorem gJ{is:List Nat}(a:X.N.Nodup)(h2:PGs X es (j5 is))(hi: ~~~(X.N[i]?=a_ x))(I:autoParam (Loc X.env.scope x) Jq6)(Y:autoParam (X.fn x=d_\/X.env.scope.names.lookup x=a_ .local) Jq3)(J: ~~~((Hi (.Name x p::es) X.env).map (·.2)=Jp (.Name x p) X.env::(Hi es X.env).map (·.2))):PGs X (.Name x p::es) (j5 (i::is)):=dh (cU a hi I Y) h2 J
theorem EY{k:Nat}{is:List Nat}(Y:X.calm=d_)(h:PGs X es (j5 is))(J: ~~~((Hi es X.env).length=is.length))(I: ~~~((Hi es X.env).findIdx? (·.1)=c_))(a: ~~~(X.K=K)):DG K X (.Tuple es k pos) (.tp is):=by subst a;exact AE Y h J I
theorem oQ{ix:List (Option Nat)}:∀{is:List Nat},(∀i∈is,ix[i]?=a_ c_)->∀vs σ' H' (Q:St->Hp->Prop),j5 is vs σ' H' Q->j5 is vs σ' H' λI H2=>Q I H2/\∀(i:Nat) v,σ'[i]?=a_ (a_ v)->(∃j,ix[i]?=a_ (a_ j))->I[i]?=a_ (a_ v)
 |[],_,vs,σ',H',Q,⟨e,q⟩=>⟨e,q,λ_ _ h _=>h⟩|i::is,d,vs,σ',H',Q,⟨v,r,e,q⟩=>by
  refine⟨v,r,e,?_⟩
  have:=oQ (ix:=ix) (is:=is) (λj n=>d j (by simp[n])) r (σ'.set i (a_ v)) H' Q q;have Y:∀{is:List Nat} {vs:List V} {J:St} {H1:Hp} {Q a:St->Hp->Prop},(∀I H2,Q I H2->a I H2)->j5 is vs J H1 Q->j5 is vs J H1 a:=by
   intro is
   induction is with
   |nil=>rintro vs J H1 Q a m ⟨e,q⟩;exact⟨e,m _ _ q⟩
   |cons i is k=>rintro vs J H1 Q a m ⟨v,r,e,q⟩;exact⟨v,r,e,k m q⟩
  refine Y (λI H2 b=>?_) this;obtain⟨g,f⟩:=b;refine⟨g,λj w h b=>?_⟩
  obtain⟨l,c⟩:=b;refine f j w ?_ ⟨l,c⟩;have:i≠j:=by rintro rfl;rw[d i (by simp)]at c;cases c
  rw[n_ this];exact h
theorem xt{is:List Nat}(h:∀i∈is,ix[i]?=a_ c_):pq ix (gP K (.tp is)):=λx σ' H' Q ⟨a,xs,e,t,l,q⟩=>⟨a,xs,e,t,l,oQ h xs σ' H' Q q⟩
theorem dE(Y:N'.Nodup)(hi: ~~~(N'[i]?=a_ x))(I:autoParam (Loc (bg X N' sc L cs s H fp).env.scope x) Jq6)(J:autoParam ((bg X N' sc L cs s H fp).fn x=d_\/(bg X N' sc L cs s H fp).env.scope.names.lookup x=a_ .local) Jq3):DG K (bg X N' sc L cs s H fp) (.Name x pos) (.nm i):=pg_c Y hi I J
variable{pt:Pat} 
theorem cY(N':List p_)(ix:List (Option Nat))(hi:DI K W X tg iter fi)(c:∀L cs s H fp,DG K (bg X N' sc L cs s H fp) tg pt)(a:pq ix (gP K pt))(J:∀L cs s H fp,PTs (bg X N' sc L cs s H fp) ifs (tDT K W ft))(d:∀L cs s H fp,DE K W b_ (bg X N' sc L cs s H fp) elt fe)(e: ~~~(X.calm=d_))(I: ~~~(bF X.N X.env.scope N' sc ix=d_))(b: ~~~(sc.kind=.function))(Y:autoParam (∀x,Ht iter X.env x=GZ x) Jq5):
  DE K W d_ X (.ListComp elt [⟨tg,iter,ifs,0⟩] sc pos) (cn fi ix pt ft fe):=(zf N' ix e hi c a J d I b Y).imp λ_ _ _=>yR
theorem tD_fr(h:tD K W own f σ H Q):tD K W d_ f σ H Q:=by
 cases own with
 |true=>exact h|false=>obtain⟨F,ρ,r,s,p⟩:=h;exact⟨F,ρ,r,s,p.frz⟩
theorem vn(own:Bool)(N':List p_)(ix:List (Option Nat))(j:X.N.Nodup)(hi:DI K W X tg iter fi)(f:∀L cs s H fp,DG K (bg X N' sc L cs s H fp) tg pt)(c:pq ix (gP K pt))(a:∀L cs s H fp,PTs (bg X N' sc L cs s H fp) ifs (tDT K W ft))(g:∀L cs s H fp,DE K W b_ (bg X N' sc L cs s H fp) elt fe)(e: ~~~(X.N[i]?=a_ x))(Y: ~~~(X.env.scope.names.lookup x=a_ .local))(h: ~~~(X.calm=d_))(I: ~~~(G0 (.ListComp elt [⟨tg,iter,ifs,0⟩] sc pos) (a_ (.Name x py)) spos.line X.env=GZ d_))(J: ~~~(bF X.N X.env.scope N' sc ix=d_))(d: ~~~(sc.kind=.function))(b:autoParam (∀x,Ht iter X.env x=GZ x) Jq5):
  DS K W ro X OL O (aft own i O) (.Assign [.Name x py] (.ListComp elt [⟨tg,iter,ifs,0⟩] sc pos) spos) (bw O i (cn fi ix pt ft fe)):=λF0 H0=>
 (o9 N' ix j e Y h hi f c a g I J d b).imp λD σ H t=>yR (tD_fr (yQ t))
theorem ds_setI{r:Np}(g:DE K W b_ X e f)(d:DE K W b_ X b fk)(c:(i∈O)⁻¹)(j: ~~~(X.N[i]?=a_ x))(hv:autoParam (Vis X.env.scope x) Jq4)(hd:((x==("__debug__":p_))=b_)⁻¹)(Y:((x==("__classdict__":p_))=b_)⁻¹)(h:autoParam (∀v,Jp (.Subscript (.Name x p) b q) X.env v=(do
   let I <- Jv [v] (FR (.Name x p) X.env)
   let J <- Jv [v,I] (FR b X.env)
   KY q
   Jv [v,I,J] (NV I J v)
   release [v,I,J] [])) Jq5)(a: ~~~(Ky [.Subscript (.Name x p) b q] e r.line X.env=GZ b_))(hw: ~~~(Kz [.Subscript (.Name x p) b q] e X.env=GZ c_))(h1: ~~~((Hi [.Subscript (.Name x p) b q] X.env).map (·.2)=[Jp (.Subscript (.Name x p) b q) X.env])):
  DS K W ro X OL O O (.Assign [.Subscript (.Name x p) b q] e r) (Bs i fk f):=λF0 H0=>(wQ g (pg_sub (pv i j hv hd Y) d set_list h) a hw h1).imp λ_ _ _=>rs_setI c
theorem ds_unpB{pt:Pat}(Y:DE K W b_ X e f)(J:DG K X tg pt)(n:(∀i∈pt.names,i∉O)⁻¹)(I: ~~~(Ky [tg] e pos.line X.env=GZ b_))(hw: ~~~(Kz [tg] e X.env=GZ c_))(h1: ~~~((Hi [tg] X.env).map (·.2)=[Jp tg X.env])):DS K W ro X OL O O (.Assign [tg] e pos) (yP O pt f):=λF0 H0=>(wQ Y J I hw h1).imp λ_ _ _=>rs_unpB n
def spF(K:Pn)(ro:Bool)(g:List A'->M A')(n:Nat):Sp:=λvs H Q _=>∃F ds,aF F H/\az K F ds vs/\ds.length=n/\aJ K J3 ro F H (g ds) Q
theorem uG{g:ah->M H9}{ds:List A'}(h:ds.length≠n):bR nN n g ds=stk:=by unfold bR;rw[l_ h]
theorem de_call{k:Nat}{g:ah->M H9}(F:iL X.prog X.w X.K X.mg X.base CX0 k fad fd ps (spF K ro (bR nN n g) n))(f:iJ k X.A)(i:X.mg x=a_ (.ref fad))(j:H_ X.K (.ref fad)=d_)(m:Binds X.K fd ps [])(o:DA K J3 X (e::es) fr)(l: ~~~(Gl X x))(a:((x==("__debug__":p_))=b_)⁻¹)(J: ~~~(h_ (e::es) X.env=(b_,FR e X.env)::h_ es X.env))(Y: ~~~((Gh pos (h_ es X.env)).any (·.1)=b_)):
  DE K J3 ro X (.Call (.Name x p) (e::es) [] pos) (fL (bR nN n g) fr):=by
 refine PE.imp (qN F f l i j m .nil qO o a J Y) λσ H Q h=>?_;obtain⟨F,ρ,r,s,p⟩:=rd_L h;refine⟨F,ρ,r,s,?_⟩
 cases e1:fr ρ with
 |error z=>rw[e1]at p;exact p|ok ds=>
  rw[e1]at p;intro vs F' H' st q;obtain⟨F1,I,c,d,z⟩:=p vs F' H' st q;show spF K ro (bR nN n g) n (vs++[]) H' Q E0;rw[HF];by_cases b:I.length=n
  ·exact⟨F1,I,c,d,b,z⟩
  ·rw[uG b]at z;exact aJ.stuck z
end
section
variable{base:Gv}
theorem w9{ds:List A'}{d:A'}(q:az K F ds vs)(h:(ds.map a_++GY (N.length-ds.length) c_)[i]?=a_ (a_ d)):∃v,(start N vs)[i]?=a_ (a_ v)/\aR K F d v:=by
 have hi:i<ds.length:=by
  by_cases hi:i<ds.length
  ·exact hi
  ·rw[Iu (by simpa using hi),JD]at h;split at h<;>cases h
 rw[GF (by simpa using hi),GD]at h;cases e:ds[i]? with
 |none=>rw[e]at h;cases h|some d'=>
  rw[e]at h;cases h;obtain⟨v,e1,I⟩:=q.get e;refine⟨v,?_,I⟩
  unfold start;rw[GF (by rw[t_,q.length];exact hi),GD,e1];rfl
theorem fn_D{k:Nat}(F:Fun K x qual st f fd)(S:gE N ps (aE st))(ro:Bool)(g:ah->M H9)(c:∀(cdv:j_) (A:HE) (outer:List Ll) (s:y_) (H:Hp) (E:XK),iJ k (A.deeper (Ik qual (aE st) s.heap.objs.size f cdv)) ->
   DSs K J3 ro (zU CX0 P w K mg base N qual (aE st) f cdv A outer s H E).nox [] [] O' (bO st) g):iL P w K mg base CX0 (k+1) f fd ps (spF K ro (bR N.length ps.length g) ps.length):=by
 have Y:ps.length<=N.length:=by have:=Iv Mm S.pre;rw[GC]at this;omega
 refine F.okX S (λvs H Q E ⟨F,ds,s,q,l,p⟩=>by rw[q.length,l]) λcdv A outer s H vs Q E J b=>?_;obtain⟨F1,ds,I,q,l,p⟩:=b;refine⟨_,c cdv A outer s H E J F1 H,F1,F1,ds.map a_++GY (N.length-ds.length) c_,?_,?_⟩
 ·refine⟨C6.refl I,aF.refl _,?_,λi d e _=>w9 q e,(λi d e h=>nomatch h),(λi j ds es a h=>nomatch h)⟩
  unfold start;rw[FG,FG,t_,t_,G_,G_,q.length]
 ·have e1:bR N.length ps.length g ds=(g (ds.map a_++GY (N.length-ds.length) c_)).bind λfl=>match fl with
   |.nx _=>.ok .non|.rt d=>.ok d|_=>stk:=by unfold bR;exact g_ l
  rw[e1]at p;cases e2:g (ds.map a_++GY (N.length-ds.length) c_)with
  |error z=>rw[e2]at p;exact p|ok fl=>
   rw[e2]at p;cases fl with
   |nx ρ=>exact λσ F H r=>p .non F H r.st (by cases ro<;>rfl)
   |rt d=>exact λv F H st q=>p v F H st q|bk ρ=>exact aJ.stuck p|ct ρ=>exact aJ.stuck p
def spLaw(K:Pn):Sp:=λvs H Q _=>∃(a:i_) (ns:List Int),vs=[.ref a]/\SqL K H a (ns.map V.int)/\ns.length<=63/\∀H',Q (.bl d_) H'
theorem tW{F:Hp}:∀is:List Int,az K F (is.map A'.int) (is.map V.int)
 |[]=>rfl|i::is=>⟨.int i,is.map V.int,rfl,rfl,tW is⟩
theorem law_ok{k:Nat}{mlaw:Nat->List A'->M A'}(F:∀n,iL P w K mg base CX0 k f fd [x] (spF K ro (mlaw n) 1))(h:∀ns:List Int,ns.length<=63->∃n,mlaw n [.lst (ns.map .int)]=.ok (.bl d_)):iL P w K mg base CX0 k f fd [x] (spLaw K):=by
 refine⟨λvs H Q E ⟨a,ns,e,_⟩=>by rw[e];rfl,λA outer s H I us vs Q E J d g hv hp=>?_⟩
 obtain⟨a,ns,e,Y,c,q⟩:=hp
 obtain⟨n,b⟩:=h ns c;refine(F n).run A outer s H I us vs Q E J d g hv ⟨H,[.lst (ns.map .int)],aF.refl _,⟨.ref a,[],e,⟨a,_,rfl,Y,tW ns⟩,rfl⟩,rfl,?_⟩;rw[b];intro v F' H' st z;have:v=.bl d_:=by cases ro<;>exact z
 rw[this];exact q H'
end
structure Kit(K:Pn):Prop where
 DB:Gs K (.type "int") (.type "int")=a_ d_
 BB:Gs K (.type "bool") (.type "int")=a_ d_
 By:Gs K (.type "list") (.type "int")=a_ b_
 yS:Gs K (.type "tuple") (.type "int")=a_ b_
 Dz:Gs K (.type "str") (.type "int")=a_ b_
 sv:Gs K (.type "NoneType") (.type "int")=a_ b_
 BA:Gs K (.type "int") (.type "bool")=a_ b_
 yY:Gs K (.type "bool") (.type "bool")=a_ d_
 yV:Gs K (.type "list") (.type "bool")=a_ b_
 wJ:Gs K (.type "tuple") (.type "bool")=a_ b_
 Bx:Gs K (.type "str") (.type "bool")=a_ b_
 qH:Gs K (.type "NoneType") (.type "bool")=a_ b_
 Bz:Gs K (.type "int") (.type "list")=a_ b_
 yX:Gs K (.type "bool") (.type "list")=a_ b_
 yU:Gs K (.type "list") (.type "list")=a_ d_
 wI:Gs K (.type "tuple") (.type "list")=a_ b_
 Bw:Gs K (.type "str") (.type "list")=a_ b_
 qF:Gs K (.type "NoneType") (.type "list")=a_ b_
 yW:Gs K (.type "int") (.type "tuple")=a_ b_
 wM:Gs K (.type "bool") (.type "tuple")=a_ b_
 wL:Gs K (.type "list") (.type "tuple")=a_ b_
 uI:Gs K (.type "tuple") (.type "tuple")=a_ d_
 yT:Gs K (.type "str") (.type "tuple")=a_ b_
 pC:Gs K (.type "NoneType") (.type "tuple")=a_ b_
 q_int_str:Gs K (.type "int") (.type "str")=a_ b_
 q_bool_str:Gs K (.type "bool") (.type "str")=a_ b_
 q_list_str:Gs K (.type "list") (.type "str")=a_ b_
 q_tuple_str:Gs K (.type "tuple") (.type "str")=a_ b_
 q_str_str:Gs K (.type "str") (.type "str")=a_ d_
 q_NoneType_str:Gs K (.type "NoneType") (.type "str")=a_ b_
section
variable{W:eI}{own:Bool}{a:GO} 
theorem isi_D{d:A'}{x:V}{a b bl Y bs:Bool}{Q:Mq}(I:C' X B' σ H s)(J:aF F H)(q:aR X.K F d x)(r:Hh x u)(hi:Gs X.K (.type "int") (.type T)=a_ a)(v:Gs X.K (.type "bool") (.type T)=a_ b)(p:Gs X.K (.type "list") (.type T)=a_ bl)(j:Gs X.K (.type "tuple") (.type T)=a_ Y)(m:Gs X.K (.type "str") (.type T)=a_ bs)(n:Gs X.K (.type "NoneType") (.type T)=a_ bn)(h:∀k tk,(match d with|.int _=>k=a|.bl _=>k=b|.lst _=>k=bl|.tup _=>k=Y|.str _=>k=bs|.non=>k=bn|.ins _ _=>False|.dic _=>False|.dil _=>False)->Q (.bool k) {s with toks:=tk})(c:∀C fs,d≠.ins C fs)(g:∀ks,d≠.dic ks)(f:∀ks,d≠.dil ks):
  D_ (FE X.prog X.w) X.A (Ja (.builtin "isinstance") [u,.type T]) Q X.xe s:=by
 cases d with
 |non=>cases(show x=.non from q);cases r;exact HX Md I.kIn GS n (λz=>nomatch z) λtk=>h _ tk rfl
 |bl y=>cases(show x=.bl y from q);cases r;exact HX Mf I.kIn GS v (λz=>nomatch z) λtk=>h _ tk rfl
 |int i=>cases(show x=.int i from q);obtain⟨t,rfl⟩:=r;exact HX Mv I.kIn GS hi (λz=>nomatch z) λtk=>h _ tk rfl
 |str y=>cases(show x=.str y from q);obtain⟨t,rfl⟩:=r;exact HX Mu I.kIn GS m (λz=>nomatch z) λtk=>h _ tk rfl
 |lst ds=>obtain⟨l,xs,e,t,_⟩:=q;subst e;cases r;obtain⟨F9,_,pl,_⟩:=I.list (J.lst t);obtain⟨o,h1,h2,_⟩:=pl.isList;exact HX J_ I.kIn ⟨o,h1,h2⟩ p (λz=>nomatch z) λtk=>h _ tk rfl
 |tup ds=>obtain⟨l,xs,e,t,_⟩:=q;subst e;cases r;obtain⟨F9,_,pl,_⟩:=I.tuple (J.tup t);obtain⟨o,h1,h2,_⟩:=pl;exact HX L4 I.kIn ⟨o,h1,h2⟩ j (λz=>nomatch z) λtk=>h _ tk rfl
 |ins C fs=>exact FJ rfl (c C fs)|dic ks=>exact FJ rfl (g ks)|dil ks=>exact FJ rfl (f ks)
theorem B5{y:p_}{g:A'->M A'}(k:g7 X (.builtin "isinstance") (λxs H Q=>∃v,xs=[v,.ty T]/\rD1 K W own g v H Q))(i:X.mg "isinstance"=c_)(c:X.mg y=c_)(Y:Hx y=a_ (.type T))(l:DE K W b_ X a fa)(j: ~~~(Gl X "isinstance"))(e: ~~~(Gl X y))(f:(y≠"__name__")⁻¹)(hd:((y==("__debug__":p_))=b_)⁻¹)(J: ~~~(h_ [a,.Name y p2] X.env=[(b_,FR a X.env),(b_,FR (.Name y p2) X.env)]))(I: ~~~(h_ [.Name y p2] X.env=[(b_,FR (.Name y p2) X.env)]))(b: ~~~((Gh pos (h_ [.Name y p2] X.env)).any (·.1)=b_)):
  DE K W own X (.Call (.Name "isinstance" p) [a,.Name y p2] [] pos) (f1 g fa):=
 (iP k j i Js (av l (av (pe_tyN (pos:=p2) e c Y f hd) aK I) (by rw[J,I])) (by decide) (by decide) (by rw[J,I]) b).imp λσ H Q h=>by
  obtain⟨F,ρ,r,s,q⟩:=rd_1 h;refine⟨F,ρ,r,s,?_⟩
  cases e1:fa ρ with
  |error z=>rw[e1]at q;exact q|ok d=>rw[e1]at q;exact λv F' H' st z=>⟨v,rfl,q v F' H' st z⟩
theorem Fp(J:Kit K)(g: ~~~(X.K=K)):g7 X (.builtin "isinstance") (λxs H Q=>∃v,xs=[v,.ty "int"]/\rD1 K W own iT v H Q):=by
 subst g;intro B' s σ H xs us Q I r h;obtain⟨v,rfl,F,d,b,q,p⟩:=h;obtain⟨u,w,rfl,c,Y⟩:=r.two;cases(show w=Io "int" from Y);by_cases hi:(∃C fs,d=.ins C fs)\/(∃ks,d=.dic ks)\/∃ks,d=.dil ks
 ·rcases hi with⟨C,fs,rfl⟩|⟨ks,rfl⟩|⟨ks,rfl⟩<;>exact aJ.stuck p
 ·refine isi_D I b q c J.DB J.BB J.By J.yS J.Dz J.sv (λk tk f=>⟨.bl k,H,I.tok tk,rfl,?_⟩) (λC fs e=>hi (.inl ⟨C,fs,e⟩)) (λks e=>hi (.inr (.inl ⟨ks,e⟩))) (λks e=>hi (.inr (.inr ⟨ks,e⟩)));cases d<;>first|(have a:k=_:=f;subst a;exact aJ.bl (own:=own) p b)|exact FJ (.inl ⟨_,_,rfl⟩) hi|exact FJ (.inr (.inl ⟨_,rfl⟩)) hi|exact FJ (.inr (.inr ⟨_,rfl⟩)) hi
theorem oB(J:Kit K)(e:X.mg "isinstance"=c_)(c:X.mg "int"=c_)(g:DE K W b_ X a fa)(h: ~~~(X.K=K))(f: ~~~(Gl X "isinstance"))(d: ~~~(Gl X "int"))(Y: ~~~(h_ [a,.Name "int" p2] X.env=[(b_,FR a X.env),(b_,FR (.Name "int" p2) X.env)]))(I: ~~~(h_ [.Name "int" p2] X.env=[(b_,FR (.Name "int" p2) X.env)]))(b: ~~~((Gh pos (h_ [.Name "int" p2] X.env)).any (·.1)=b_)):
  DE K W own X (.Call (.Name "isinstance" p) [a,.Name "int" p2] [] pos) (f1 iT fa):=B5 (Fp J h) e c (by decide +kernel) g f d (by decide) (by decide) Y I b
theorem Cz(J:Kit K)(g: ~~~(X.K=K)):g7 X (.builtin "isinstance") (λxs H Q=>∃v,xs=[v,.ty "bool"]/\rD1 K W own kq v H Q):=by
 subst g;intro B' s σ H xs us Q I r h;obtain⟨v,rfl,F,d,b,q,p⟩:=h;obtain⟨u,w,rfl,c,Y⟩:=r.two;cases(show w=Io "bool" from Y);by_cases hi:(∃C fs,d=.ins C fs)\/(∃ks,d=.dic ks)\/∃ks,d=.dil ks
 ·rcases hi with⟨C,fs,rfl⟩|⟨ks,rfl⟩|⟨ks,rfl⟩<;>exact aJ.stuck p
 ·refine isi_D I b q c J.BA J.yY J.yV J.wJ J.Bx J.qH (λk tk f=>⟨.bl k,H,I.tok tk,rfl,?_⟩) (λC fs e=>hi (.inl ⟨C,fs,e⟩)) (λks e=>hi (.inr (.inl ⟨ks,e⟩))) (λks e=>hi (.inr (.inr ⟨ks,e⟩)));cases d<;>first|(have a:k=_:=f;subst a;exact aJ.bl (own:=own) p b)|exact FJ (.inl ⟨_,_,rfl⟩) hi|exact FJ (.inr (.inl ⟨_,rfl⟩)) hi|exact FJ (.inr (.inr ⟨_,rfl⟩)) hi
theorem rM(J:Kit K)(e:X.mg "isinstance"=c_)(c:X.mg "bool"=c_)(g:DE K W b_ X a fa)(h: ~~~(X.K=K))(f: ~~~(Gl X "isinstance"))(d: ~~~(Gl X "bool"))(Y: ~~~(h_ [a,.Name "bool" p2] X.env=[(b_,FR a X.env),(b_,FR (.Name "bool" p2) X.env)]))(I: ~~~(h_ [.Name "bool" p2] X.env=[(b_,FR (.Name "bool" p2) X.env)]))(b: ~~~((Gh pos (h_ [.Name "bool" p2] X.env)).any (·.1)=b_)):
  DE K W own X (.Call (.Name "isinstance" p) [a,.Name "bool" p2] [] pos) (f1 kq fa):=B5 (Cz J h) e c (by decide +kernel) g f d (by decide) (by decide) Y I b
theorem Cy(J:Kit K)(g: ~~~(X.K=K)):g7 X (.builtin "isinstance") (λxs H Q=>∃v,xs=[v,.ty "list"]/\rD1 K W own ko v H Q):=by
 subst g;intro B' s σ H xs us Q I r h;obtain⟨v,rfl,F,d,b,q,p⟩:=h;obtain⟨u,w,rfl,c,Y⟩:=r.two;cases(show w=Io "list" from Y);by_cases hi:(∃C fs,d=.ins C fs)\/(∃ks,d=.dic ks)\/∃ks,d=.dil ks
 ·rcases hi with⟨C,fs,rfl⟩|⟨ks,rfl⟩|⟨ks,rfl⟩<;>exact aJ.stuck p
 ·refine isi_D I b q c J.Bz J.yX J.yU J.wI J.Bw J.qF (λk tk f=>⟨.bl k,H,I.tok tk,rfl,?_⟩) (λC fs e=>hi (.inl ⟨C,fs,e⟩)) (λks e=>hi (.inr (.inl ⟨ks,e⟩))) (λks e=>hi (.inr (.inr ⟨ks,e⟩)));cases d<;>first|(have a:k=_:=f;subst a;exact aJ.bl (own:=own) p b)|exact FJ (.inl ⟨_,_,rfl⟩) hi|exact FJ (.inr (.inl ⟨_,rfl⟩)) hi|exact FJ (.inr (.inr ⟨_,rfl⟩)) hi
theorem rL(J:Kit K)(e:X.mg "isinstance"=c_)(c:X.mg "list"=c_)(g:DE K W b_ X a fa)(h: ~~~(X.K=K))(f: ~~~(Gl X "isinstance"))(d: ~~~(Gl X "list"))(Y: ~~~(h_ [a,.Name "list" p2] X.env=[(b_,FR a X.env),(b_,FR (.Name "list" p2) X.env)]))(I: ~~~(h_ [.Name "list" p2] X.env=[(b_,FR (.Name "list" p2) X.env)]))(b: ~~~((Gh pos (h_ [.Name "list" p2] X.env)).any (·.1)=b_)):
  DE K W own X (.Call (.Name "isinstance" p) [a,.Name "list" p2] [] pos) (f1 ko fa):=B5 (Cy J h) e c (by decide +kernel) g f d (by decide) (by decide) Y I b
theorem zZ(J:Kit K)(g: ~~~(X.K=K)):g7 X (.builtin "isinstance") (λxs H Q=>∃v,xs=[v,.ty "tuple"]/\rD1 K W own kW v H Q):=by
 subst g;intro B' s σ H xs us Q I r h;obtain⟨v,rfl,F,d,b,q,p⟩:=h;obtain⟨u,w,rfl,c,Y⟩:=r.two;cases(show w=Io "tuple" from Y);by_cases hi:(∃C fs,d=.ins C fs)\/(∃ks,d=.dic ks)\/∃ks,d=.dil ks
 ·rcases hi with⟨C,fs,rfl⟩|⟨ks,rfl⟩|⟨ks,rfl⟩<;>exact aJ.stuck p
 ·refine isi_D I b q c J.yW J.wM J.wL J.uI J.yT J.pC (λk tk f=>⟨.bl k,H,I.tok tk,rfl,?_⟩) (λC fs e=>hi (.inl ⟨C,fs,e⟩)) (λks e=>hi (.inr (.inl ⟨ks,e⟩))) (λks e=>hi (.inr (.inr ⟨ks,e⟩)));cases d<;>first|(have a:k=_:=f;subst a;exact aJ.bl (own:=own) p b)|exact FJ (.inl ⟨_,_,rfl⟩) hi|exact FJ (.inr (.inl ⟨_,rfl⟩)) hi|exact FJ (.inr (.inr ⟨_,rfl⟩)) hi
theorem xP(J:Kit K)(e:X.mg "isinstance"=c_)(c:X.mg "tuple"=c_)(g:DE K W b_ X a fa)(h: ~~~(X.K=K))(f: ~~~(Gl X "isinstance"))(d: ~~~(Gl X "tuple"))(Y: ~~~(h_ [a,.Name "tuple" p2] X.env=[(b_,FR a X.env),(b_,FR (.Name "tuple" p2) X.env)]))(I: ~~~(h_ [.Name "tuple" p2] X.env=[(b_,FR (.Name "tuple" p2) X.env)]))(b: ~~~((Gh pos (h_ [.Name "tuple" p2] X.env)).any (·.1)=b_)):
  DE K W own X (.Call (.Name "isinstance" p) [a,.Name "tuple" p2] [] pos) (f1 kW fa):=B5 (zZ J h) e c (by decide +kernel) g f d (by decide) (by decide) Y I b
end
section
variable{W:eI}
def D5(K:Pn)(i:Nat)(tk:TE):TE:=tBM K "list" Dx (bG i) (aM tk dS)
end
section
variable{y:p_}{t:Np}
theorem pe_pop{j:Nat}{tk:TE}(d:PE X e tk)(f:X.N[j]?=a_ y)(hv:Vis X.env.scope y)(hd:(y==("__debug__":p_))=b_)(c:(y==("__classdict__":p_))=b_)(a:h_ [e] X.env=[(b_,FR e X.env)])(Y:GQ (.Name y p) "pop" X.env (FR (.Name y p) X.env)=FR (.Name y p) X.env)(b:((Gh q (h_ [e] X.env)).all (λx=> !x.1)&&(Ho q (GJ [] X.env)).all (λx=>x.1.isSome)&&q_ ([e].length+([]:List Hk).length+(if ([]:List Hk).isEmpty then 0 else 1)<30))=d_)(I:(Gh q (h_ [] X.env)).any (·.1)=b_)(J:(t.endLine==q.line)=d_):
  PE X (.Call (.Attribute (.Name y p) "pop" t) [e] [] q) (D5 X.K j tk):=lY FX JY Lq AL (pv j f hv hd c) (av d aK a) Y b J a I
end
theorem nK{is:List Nat}(a:N'.Nodup)(h2:PGs (bg X N' sc L cs s H fp) es (j5 is))(hi: ~~~(N'[i]?=a_ x))(I:autoParam (Loc (bg X N' sc L cs s H fp).env.scope x) Jq6)(Y:autoParam ((bg X N' sc L cs s H fp).fn x=d_\/(bg X N' sc L cs s H fp).env.scope.names.lookup x=a_ .local) Jq3)(J: ~~~((Hi (.Name x p::es) (bg X N' sc L cs s H fp).env).map (·.2)=Jp (.Name x p) (bg X N' sc L cs s H fp).env::(Hi es (bg X N' sc L cs s H fp).env).map (·.2))):PGs (bg X N' sc L cs s H fp) (.Name x p::es) (j5 (i::is)):=dh (pg_c a hi I Y) h2 J
open PySem.W in
section
open PySem.W
end
section
open PySem.W
end
section
open PySem.W
end
noncomputable def Aa(t:List Int):A':=.tup (t.map .int)
section
variable{lt:α->α->Bool}
structure Ord(lt:α->α->Bool):Prop where
 irr:∀a,lt a a=b_
 tr:∀a b c,lt a b=d_->lt b c=d_->lt a c=d_
 tot:∀a b,lt a b=b_->lt b a=b_->a=b
theorem Ord.le_trans(o:Ord lt){a b c:α}(h1:lt b a=b_)(h2:lt c b=b_):lt c a=b_:=by
 cases h:lt c a with
 |false=>rfl|true=>
  cases I:lt b c with
  |true=>rw[o.tr b c a I h]at h1;cases h1|false=>have:=o.tot c b h2 I;subst this;rw[h]at h1;cases h1
end
section
open PySem.W
variable{lt:α->α->Bool}
noncomputable def rk(lt:α->α->Bool)(I:List α)(d:α)(i:Nat):Int:=((I.filter λz=>lt z (I.getD i d)).length:Int)
end
noncomputable def cX(n d:Nat):Option Int->Nat
 |none=>d|some v=>if v<0 then(v+(n:Int)).toNat else min v.toNat n
noncomputable def Cr(xs:List α)(lo hi:Option Int):List α:=(xs.drop (cX xs.length 0 lo)).take (cX xs.length xs.length hi-cX xs.length 0 lo)
def de:A'->Option Int->Option Int->M A'
 |.lst ds,lo,hi=>.ok (.lst (Cr ds lo hi))|.tup ds,lo,hi=>if (q_ (cX ds.length 0 lo=0)&&q_ (cX ds.length ds.length hi=ds.length))=d_ then stk else .ok (.tup (Cr ds lo hi))
 |_,_,_=>stk
noncomputable def oh:ah->M (Option Int):=λ_=>.ok c_
def jZ(f:ah->M A'):ah->M (Option Int):=λρ=>(f ρ).bind λd=>(asI d).bind λi=>.ok (a_ i)
noncomputable def fSl(g:A'->Option Int->Option Int->M A')(fa:ah->M A')(fl fu:ah->M (Option Int)):ah->M A':=λρ=>(fa ρ).bind λa=>(fl ρ).bind λl=>(fu ρ).bind λu=>g a l u
def extD(ρ:ah)(i:Nat)(ds:List A'):A'->M H9
 |.lst es=>if ds.length+es.length<=f_ then put ρ i (ds++es)else stk
 |_=>stk
def Dm(O:List Nat)(i:Nat)(f:ah->M A'):ah->M H9:=λρ=>(jE ρ i).bind λds=>(f (erase O ρ)).bind λd=>extD ρ i ds d
def ky(g g' g'':A'->A'->M A')(fa fb fc fd':ah->M A'):ah->M A':=λρ=>(fa ρ).bind λa=>(fb ρ).bind λb=>(g a b).bind λx=>(asB x).bind λk=>if k=d_ then(fc ρ).bind λc=>(g' b c).bind λy=>(asB y).bind λl=>if l=d_ then(fd' ρ).bind λd=>g'' c d else .ok (.bl b_)else .ok (.bl b_)
section
variable{W:eI}{own:Bool}{a b c d:GO}{lo hi:Option GO}{y:p_}{r t u:Np}{f fd':ah->M A'}{fu:ah->M (Option Int)} 
def tDO(K:Pn)(W:eI)(f:ah->M (Option Int)):TO:=λσ H Q=>∃F ρ,cP K F σ ρ/\aF F H/\(match f ρ with
 |.ok o=>∀F' H',C6 F H F' H'->Q o H'|.error e=>W.p e F H)
theorem D9{R:Option Int->Hp->Prop}(r:cP K F σ ρ)(s:aF F H)(J:∀e,fl ρ=.error e->W.p e F H)(I:∀o,fl ρ=.ok o->∀F1 H1,C6 F H F1 H1->R o H1):tDO K W fl σ H R:=by
 refine⟨F,ρ,r,s,?_⟩
 cases e:fl ρ with
 |ok d=>exact I d e|error x=>exact J x e
abbrev DP(K:Pn)(W:eI)(X:Cx)(e:Option GO)(f:ah->M (Option Int)):Prop:=PO X e (tDO K W f)
theorem PO.imp{t t':TO}(h:PO X lo t)(q:∀σ H Q,t' σ H Q->t σ H Q):PO X lo t':=λB' s σ H Q I z=>h B' s σ H Q I (q σ H Q z)
theorem jh:DP K W X c_ oh:=po_none.imp λσ H Q ⟨F,ρ,r,s,p⟩=>p F H (C6.refl s)
theorem jf(h:DE K W b_ X e f):DP K W X (a_ e) (jZ f):=(po_some h).imp λσ H Q ⟨F,ρ,r,s,p⟩=>by
 refine aO r s (λe Y=>?_) λd hd v F1 H1 I J=>?_
 ·have z:jZ f ρ=.error e:=by unfold jZ;rw[Y];rfl
  rw[z]at p;exact p
 ·have z:jZ f ρ=(asI d).bind λi=>.ok (a_ i):=by unfold jZ;rw[hd];rfl
  rw[z]at p;cases d with
  |int i=>exact⟨i,J,p F1 H1 I⟩|_=>exact(W.ns p).elim
def rDS(K:Pn)(W:eI)(own:Bool)(g:A'->Option Int->Option Int->M A'):V->Option Int->Option Int->Hp->VK->Prop:=λx lo hi H Q=>∃F a,aF F H/\aR K F a x/\aJ K W own F H (g a lo hi) Q
theorem rd_sl{g:A'->Option Int->Option Int->M A'}(h:tD K W own (fSl g fa fl fu) σ H Q):tSl (rDS K W own g) (tD K W b_ fa) (tDO K W fl) (tDO K W fu) σ H Q:=by
 obtain⟨F,ρ,r,s,p⟩:=h;refine aO r s (λe Y=>p.err (by unfold fSl;rw[Y];rfl)) λa c x F1 H1 I f=>?_;refine D9 (r.mono I.ff) I.fh (λe Y=>(p.step I).err (by unfold fSl;rw[c];show(fl ρ).bind _=_;rw[Y];rfl)) λl d F2 H2 J=>?_;refine D9 ((r.mono I.ff).mono J.ff) J.fh (λe Y=>(p.step (I.trans J)).err (by unfold fSl;rw[c];show(fl ρ).bind _=_;rw[d];show(fu ρ).bind _=_;rw[Y];rfl)) λu i j k b=>?_;refine⟨j,a,b.fh,aR.mono (J.trans b).ff f,?_⟩
 have e:fSl g fa fl fu ρ=g a l u:=by unfold fSl;rw[c];show(fl ρ).bind _=_;rw[d];show(fu ρ).bind _=_;rw[i];rfl
 rw[e]at p;exact p.step ((I.trans J).trans b)
theorem sP{g:A'->Option Int->Option Int->M A'}(J:SlR X (rDS K W own g))(b:DE K W b_ X a fa)(Y:DP K W X lo fl)(I:DP K W X hi fu):DE K W own X (.Subscript a (.Slice lo hi c_ p2) pos) (fSl g fa fl fu):=(pe_slice J b Y I).imp λ_ _ _=>rd_sl
theorem Ba(n d:Nat)(o:Option Int):cX n d o=HT.sIx n d o:=by cases o<;>rfl
theorem az.cut{ds:List A'}{xs:List V}{l u:Option Int}(h:az K F ds xs):az K F (Cr ds l u) (cutV xs l u):=by unfold Cr cutV;rw[Ba,Ba,h.length];exact az.take _ (az.drop _ h)
theorem x_sl(n: ~~~(X.K=K)):SlR X (rDS K W d_ de):=by
 subst n;intro B' s σ H x v g f lo hi i Q I j m pl k h;refine(SlR.or sl_list sl_tup) B' s σ H x v g f lo hi i Q I j m pl k ?_;obtain⟨F,a,J,d,p⟩:=h;cases a with
 |lst ds=>obtain⟨l,xs,e,t,z⟩:=d;exact .inl ⟨l,xs,e,J.lst t,λr b=>aJ.lst p J z.cut b⟩
 |tup ds=>
  obtain⟨l,xs,e,t,z⟩:=d;have Y:aJ X.K W d_ F H (if (q_ (cX ds.length 0 lo=0)&&q_ (cX ds.length ds.length hi=ds.length))=d_ then stk else .ok (.tup (Cr ds lo hi))) Q:=p;by_cases c:(q_ (cX ds.length 0 lo=0)&&q_ (cX ds.length ds.length hi=ds.length))=d_
  ·rw[g_ c]at Y;exact Y.stuck
  ·rw[l_ c]at Y;refine .inr ⟨l,xs,e,J.tup t,λhw=>c ?_,λr b=>aJ.tup Y J z.cut b⟩;rw[Ba,Ba,<- z.length];simp only[o_,FT];exact hw
 |_=>exact aJ.stuck p
theorem rs_ext{D:Ends}(hi:i∈O)(t:tS K W ro F0 H0 OL O O (Dm O i f) D σ H):lN (tBM K "list" Dy (bG i) (aM (tD K W d_ f) dS)) D σ H:=by
 obtain⟨FB,F,ρ,r,p⟩:=t;cases I:jE ρ i with
 |error e=>have:=nh I;subst this;exact p.stuck (by unfold Dm;rw[I];rfl)|ok ds=>
  obtain⟨a,xs,e2,g,z⟩:=r.Ee hi (jD I);refine⟨.ref a,e2,gF g,?_⟩
  refine aO r.jw r.st.fh (λe j=>p.sO r.st (by unfold Dm;rw[I];show(f (erase O ρ)).bind _=_;rw[j];rfl)) λd hd v F1 H1 J q=>?_;have l:Dm O i f ρ=extD ρ i ds d:=by unfold Dm;rw[I];show(f (erase O ρ)).bind _=_;rw[hd];rfl
  rw[l]at p;cases d with
  |lst es=>
   obtain⟨b,h,e3,k,_,_,c⟩:=q;by_cases Y:ds.length+es.length<=f_
   ·have ep:extD ρ i ds (.lst es)=put ρ i (ds++es):=g_ Y;rw[ep]at p;exact⟨a,b,xs,h,rfl,by rw[e3],J.hh _ _ g,k,by rw[z.length,c.length];exact Y,p σ F1 _ ((r.step J).write hi (jD I) e2 (az.append (z.mono J.ff) c))⟩
   ·exact p.stuck (l_ Y)
  |_=>exact p.stuck rfl
theorem B1(h:DE K W d_ X e f)(g:(i∈O)⁻¹)(j: ~~~(X.N[i]?=a_ x))(hv:autoParam (Vis X.env.scope x) Jq4)(hd:((x==("__debug__":p_))=b_)⁻¹)(d:((x==("__classdict__":p_))=b_)⁻¹)(k: ~~~(X.K=K))(a: ~~~(h_ [e] X.env=[(b_,FR e X.env)]))(Y: ~~~(GQ (.Name x p) "extend" X.env (FR (.Name x p) X.env)=FR (.Name x p) X.env))(b: ~~~(((Gh q (h_ [e] X.env)).all (λx=> !x.1)&&(Ho q (GJ [] X.env)).all (λx=>x.1.isSome)&&q_ ([e].length+([]:List Hk).length+(if ([]:List Hk).isEmpty then 0 else 1)<30))=d_))(I: ~~~((Gh q (h_ [] X.env)).any (·.1)=b_))(J: ~~~((apos.endLine==q.line)=d_))(c: ~~~(G0 (.Call (.Attribute (.Name x p) "extend" apos) [e] [] q) c_ pos.line X.env=GZ b_)):
  DS K W ro X OL O O (.Expr (.Call (.Attribute (.Name x p) "extend" apos) [e] [] q) pos) (Dm O i f):=λF0 H0=>by
 subst k;exact PS.imp (gu (lY FX Ma PySem.F.type_list_extend Eb (pv i j hv hd d) (av h aK a) Y b J a I) c) λ_ _ _=>rs_ext g
theorem DM{r J:R2}(T:OpR X (FU op) r)(g:OpR X (FU op') r')(Y:OpR X (FU op'') J)(ha:PE X a ta)(Z:PE X b tb)(W:PE X c tc)(hd:PE X d td)(U:autoParam (Kq [op,op',op''] [b,c,d]=b_) Jq7):PE X (.Compare a [op,op',op''] [b,c,d] pos) (Dc r r' J ta tb tc td):=by
 intro B' s σ H Q I h;refine Compare_chain (HH (ha B' s σ H _ I h) λv F ⟨x,H1,I1,N,S⟩=>NH (HH (Z B' F σ H1 _ I1 S) λu E ⟨y,H2,I2,r2,R⟩=>HH (T B' E σ H2 x y v u _ I2 N r2 R) λd D hp=>?_)) U
 obtain⟨z,t,p,L,k,e,n⟩:=hp
 subst e;cases L;refine GG ?_;cases k with
 |false=>exact ite_ff ⟨.bl b_,t,p,rfl,n⟩|true=>
  refine ite_tt (NH (HH (W B' D σ t _ p n) λj C f=>?_));obtain⟨i,H4,I4,l,P⟩:=f;refine HH (g B' C σ H4 y i u j _ I4 r2 l P) λd' B f=>?_;obtain⟨z2,q,o,K,k2,e2,m⟩:=f;subst e2;cases K;refine GG ?_;cases k2 with
  |false=>exact ite_ff ⟨.bl b_,q,o,rfl,m⟩|true=>exact ite_tt (chain_last (HH (hd B' B σ q _ o m) λw2 A ⟨w,H6,I6,G,O⟩=>Y B' A σ H6 i w j w2 Q I6 l G O))
theorem Dw(h:tD K W b_ (ky g g' g'' fa fb fc fd') σ H Q):Dc (rD2 K W b_ g) (rD2 K W b_ g') (rD2 K W b_ g'') (tD K W b_ fa) (tD K W b_ fb) (tD K W b_ fc) (tD K W b_ fd') σ H Q:=by
 obtain⟨F,ρ,r,s,p⟩:=h;refine aO r s (λe J=>p.err (by unfold ky;rw[J];rfl)) λa C x F1 H1 i N=>?_;refine aO (r.mono i.ff) i.fh (λe J=>(p.step i).err (by unfold ky;rw[C];show(fb ρ).bind _=_;rw[J];rfl)) λb P y F2 H2 n A=>?_;have z:ky g g' g'' fa fb fc fd' ρ=(g a b).bind λx=>(asB x).bind λk=>if k=d_ then(fc ρ).bind λc=>(g' b c).bind λy=>(asB y).bind λl=>if l=d_ then(fd' ρ).bind λd=>g'' c d else .ok (.bl b_)else .ok (.bl b_):=by unfold ky;rw[C];show(fb ρ).bind _=_;rw[P];rfl
 rw[z]at p;refine⟨F2,a,b,n.fh,aR.mono n.ff N,A,?_⟩
 have p2:=p.step (i.trans n);have t:=(r.mono i.ff).mono n.ff;cases e:g a b with
 |error x=>rw[e]at p2;exact p2|ok w=>
  rw[e]at p2;cases w with
  |bl k=>
   intro v Z T Y G;cases(show v=.bl k from G);have p3:=p2.step Y;refine⟨k,rfl,?_⟩
   cases k with
   |false=>exact aJ.bl p3 Y.fh|true=>
    have p3:aJ K W b_ Z T ((fc ρ).bind λc=>(g' b c).bind λy=>(asB y).bind λl=>if l=d_ then(fd' ρ).bind λd=>g'' c d else .ok (.bl b_)) Q:=p3;refine aO (t.mono Y.ff) Y.fh (λe J=>p3.err (by rw[J];rfl)) λc O w D S m u=>?_;have I:=p3.step m;rw[O]at I;have I:aJ K W b_ D S ((g' b c).bind λy=>(asB y).bind λl=>if l=d_ then(fd' ρ).bind λd=>g'' c d else .ok (.bl b_)) Q:=I;refine⟨D,b,c,m.fh,aR.mono (Y.trans m).ff A,u,?_⟩
    cases e4:g' b c with
    |error x=>rw[e4]at I;exact I|ok w2=>
     rw[e4]at I;cases w2 with
     |bl l=>
      intro E X R f q;cases(show E=.bl l from q);have j:=I.step f;refine⟨l,rfl,?_⟩
      cases l with
      |false=>exact aJ.bl j f.fh|true=>have j:aJ K W b_ X R ((fd' ρ).bind λd=>g'' c d) Q:=j;refine aO (((t.mono Y.ff).mono m.ff).mono f.ff) f.fh (λe J=>j.err (by rw[J];rfl)) λd hd w6 U H6 o L=>?_;have B:=j.step o;rw[hd]at B;exact⟨U,c,d,o.fh,aR.mono (f.trans o).ff u,L,B⟩
     |_=>exact(W.ns I).elim
  |_=>exact(W.ns p2).elim
theorem F8(Y:Op2 K W b_ X (FU op) g)(J:Op2 K W b_ X (FU op') g')(I:Op2 K W b_ X (FU op'') g'')(i:DE K W b_ X a fa)(h:DE K W b_ X b fb)(f:DE K W b_ X c fc)(hd:DE K W b_ X d fd')(e:autoParam (Kq [op,op',op''] [b,c,d]=b_) Jq7):DE K W b_ X (.Compare a [op,op',op''] [b,c,d] pos) (ky g g' g'' fa fb fc fd'):=(DM Y J I i h f hd e).imp λ_ _ _=>Dw
end
section
variable{fu:ah->M (Option Int)}
@[simp] theorem e_pNone:oh ρ=.ok c_:=id rfl
@[simp] theorem e_pSome:jZ fa ρ=(fa ρ).bind λd=>(asI d).bind λi=>.ok (a_ i):=id rfl
@[simp] theorem e_slF(k:A'->Option Int->Option Int->M A'):fSl k fa fl fu ρ=(fa ρ).bind λa=>(fl ρ).bind λl=>(fu ρ).bind λu=>k a l u:=id rfl
@[simp] theorem e_extD(i:Nat)(ds es:List A'):extD ρ i ds (.lst es)=if ds.length+es.length<=f_ then put ρ i (ds++es)else stk:=id rfl
@[simp] theorem e_ext(O:List Nat)(i:Nat):Dm O i fa ρ=(jE ρ i).bind λds=>(fa (erase O ρ)).bind λd=>extD ρ i ds d:=id rfl
@[simp] theorem e_pow{i j:Int}(I:0<=j)(h1:j<=1000000)(h2:i.natAbs<2^64):DF (.int i) (.int j)=.ok (.int (i^j.toNat)):=by show(if (q_ (0<=j)&&q_ (j<=1000000)&&q_ (i.natAbs<2^64))=d_ then _ else _)=_;rw[g_ (by simp only[o_,FT];exact⟨⟨I,h1⟩,h2⟩)]
@[simp] theorem e_eqII(i j:Int):eqM (.int i) (.int j)=.ok (.bl (q_ (i=j))):=by show FN (A'.bl (i==j))=_;rw[show(i==j)=q_ (i=j)from rfl]
@[simp] theorem e_neII(i j:Int):neM (.int i) (.int j)=.ok (.bl (!decide (i=j))):=by show FN (A'.bl (!(i==j)))=_;rw[show(i==j)=q_ (i=j)from rfl]
@[simp] theorem e_isiIN:iT .non=.ok (.bl b_):=id rfl
end
def bJ(Cs:List i_)(x:p_):A'->M A'
 |.ins C fs=>if Cs.contains C=d_ then(match fs.lookup x with
  |some d=>.ok d|none=>stk)else stk
 |_=>stk
noncomputable def isC(C:i_)(m:p_):A'->Bool
 |.ins D fs=>(D==C)&&(fs.lookup m).isNone|_=>b_
def jV(C:i_)(m:p_)(g:List A'->M A')(fo:ah->M A')(fr:ah->M (List A')):ah->M A':=λρ=>(fo ρ).bind λo=>if isC C m o=d_ then(fr ρ).bind λas=>g (o::as)else stk
def jm(C C2:i_)(m:p_)(g g2:List A'->M A')(fo:ah->M A')(fr:ah->M (List A')):ah->M A':=λρ=>(fo ρ).bind λo=>if isC C m o=d_ then(fr ρ).bind λas=>g (o::as)else if isC C2 m o=d_ then(fr ρ).bind λas=>g2 (o::as)else stk
def newR(C:i_)(g:List A'->M A'):List A'->M A'
 |[d]=>(g [d]).bind λr=>.ok (.ins C [("gaps",r)])|_=>stk
noncomputable def twoL:A'->A'->Bool
 |.lst xs,.lst ys=>q_ (xs.length=ys.length)|_,_=>b_
def newP(C:i_)(g:List A'->M A'):List A'->M A'
 |[d,e]=>(g [d]).bind λr=>(g [e]).bind λr2=>if twoL r r2=d_ then .ok (.ins C [("gaps",r),("beside",r2)])else stk
 |_=>stk
def sStk:ah->M H9:=λ_=>stk
section
variable{W:eI}{own:Bool}{a b c d:GO}{y:p_}{f:ah->M A'}{fr:ah->M (List A')}{Cs:List i_}
theorem ds_stk:DS K W ro X OL O O' st sStk:=λF0 H0 B' s σ H D I h=>by obtain⟨FB,F,ρ,r,p⟩:=h;exact p.stuck rfl
theorem jt.at{F:Hp}{x:p_}:∀{gs:List (p_×A')} {fs:List (p_×V)},jt K F gs fs->(∀d,gs.lookup x=a_ d->∃v,fs.lookup x=a_ v/\aR K F d v)/\(gs.lookup x=c_->fs.lookup x=c_)
 |[],fs,h=>by cases(show fs=[]from h);exact⟨λd h=>by simp at h,λ_=>rfl⟩|(g,d)::gs,fs,h=>by
  obtain⟨v,r,rfl,h1,h2⟩:=h;have I:=jt.at (x:=x) h2;rw[z_,z_];cases e:x==g with
  |true=>exact⟨λd' h'=>by cases h';exact⟨v,rfl,h1⟩,λh'=>by cases h'⟩|false=>exact I
theorem fQ(k:∀C∈Cs,Cls K C/\bp K C y)(b:DE K W b_ X e fa)(g: ~~~(GQ e y X.env (FR e X.env)=FR e X.env))(j: ~~~(X.K=K)):DE K W b_ X (.Attribute e y pos) (f1 (bJ Cs y) fa):=by
 subst j;refine(ik b g).imp λσ H Q h=>?_;obtain⟨F,ρ,r,s,p⟩:=h;refine aO r s (λe b=>p.err (by unfold f1;rw[b];rfl)) λa i x F1 H1 J f=>?_;have m:f1 (bJ Cs y) fa ρ=bJ Cs y a:=by unfold f1;rw[i];rfl
 rw[m]at p;cases a with
 |ins C gs=>
  obtain⟨l,dx,fs,e1,ea,n⟩:=f;have I:aJ X.K W b_ F H (if Cs.contains C=d_ then(match gs.lookup y with
   |some d=>.ok d|none=>stk)else stk) Q:=p
  by_cases c:Cs.contains C=d_
  ·rw[g_ c]at I;obtain⟨h1,h2⟩:=k C (by simpa using c);cases Y:gs.lookup y with
   |none=>rw[Y]at I;exact aJ.stuck I|some d=>rw[Y]at I;obtain⟨v,hv,hd⟩:=n.at.1 d Y;exact⟨l,C,dx,fs,v,e1,J.fh _ _ ea,h1,h2,hv,(I.step J) v F1 H1 (C6.refl J.fh) hd⟩
  ·rw[l_ c]at I;exact aJ.stuck I
 |_=>exact aJ.stuck p
theorem PE.or{t1 t2:TE}(h1:PE X e t1)(h2:PE X e t2):PE X e (λσ H Q=>t1 σ H Q\/t2 σ H Q):=λB' s σ H Q I h=>h.elim (h1 B' s σ H Q I) (h2 B' s σ H Q I)
theorem rd_meth{g:ah->M H9}(h:tD K J3 ro (jV C m (bR nN n g) fo fr) σ H Q):tMeth C m (spF K ro (bR nN n g) n) [] E0 (tD K J3 b_ fo) (tDA K J3 fr) σ H Q:=by
 obtain⟨F,ρ,r,s,p⟩:=h;refine aO r s (λe b=>p.err (by unfold jV;rw[b];rfl)) λo k x F1 H1 J f=>?_;have t:jV C m (bR nN n g) fo fr ρ=if isC C m o=d_ then(fr ρ).bind λas=>bR nN n g (o::as)else stk:=by unfold jV;rw[k];rfl
 rw[t]at p;by_cases Y:isC C m o=d_
 ·rw[g_ Y]at p;cases o with
  |ins D gs=>
   obtain⟨l,dx,fs,e1,ea,u⟩:=id f;have I:((D==C)&&(gs.lookup m).isNone)=d_:=Y;rw[o_]at I;obtain⟨d,q⟩:=I;have d:D=C:=by simpa using d
   subst d;refine⟨l,dx,fs,e1,J.fh _ _ ea,u.at.2 (by simpa using q),?_⟩
   have p:=p.step J;refine qp (r.mono J.ff) J.fh (λe b=>p.err (by rw[b];rfl)) λas c vs F2 H2 a j=>?_;rw[c]at p;have p:aJ K J3 ro F1 H1 (bR nN n g (.ins D gs::as)) Q:=p;have p:=p.step a;show spF K ro (bR nN n g) n (x::(vs++[])) H2 Q E0;rw[HF];by_cases i:(A'.ins D gs::as).length=n
   ·exact⟨F2,.ins D gs::as,a.fh,⟨x,vs,rfl,aR.mono a.ff f,j⟩,i,p⟩
   ·rw[uG i]at p;exact aJ.stuck p
  |_=>cases Y
 ·rw[l_ Y]at p;exact aJ.stuck p
theorem rd_meth2{g:ah->M H9}(h:tD K J3 ro (jm C C2 m (bR nN n g) (bR nN2 n2 g2) fo fr) σ H Q):
  tD K J3 ro (jV C m (bR nN n g) fo fr) σ H Q\/tD K J3 ro (jV C2 m (bR nN2 n2 g2) fo fr) σ H Q:=by
 obtain⟨F,ρ,r,s,p⟩:=h;cases I:fo ρ with
 |error e=>
  refine .inl ⟨F,ρ,r,s,?_⟩;have e1:jm C C2 m (bR nN n g) (bR nN2 n2 g2) fo fr ρ=.error e:=by unfold jm;rw[I];rfl
  have e2:jV C m (bR nN n g) fo fr ρ=.error e:=by unfold jV;rw[I];rfl
  rw[e1]at p;rw[e2];exact p
 |ok o=>
  have e1:jm C C2 m (bR nN n g) (bR nN2 n2 g2) fo fr ρ=if isC C m o=d_ then(fr ρ).bind λas=>bR nN n g (o::as)else if isC C2 m o=d_ then(fr ρ).bind λas=>bR nN2 n2 g2 (o::as)else stk:=by unfold jm;rw[I];rfl
  have e2:jV C m (bR nN n g) fo fr ρ=if isC C m o=d_ then(fr ρ).bind λas=>bR nN n g (o::as)else stk:=by unfold jV;rw[I];rfl
  have e3:jV C2 m (bR nN2 n2 g2) fo fr ρ=if isC C2 m o=d_ then(fr ρ).bind λas=>bR nN2 n2 g2 (o::as)else stk:=by unfold jV;rw[I];rfl
  rw[e1]at p;by_cases J:isC C m o=d_
  ·rw[g_ J]at p e2;exact .inl ⟨F,ρ,r,s,by rw[e2];exact p⟩
  ·rw[l_ J]at p;exact .inr ⟨F,ρ,r,s,by rw[e3];exact p⟩
def Fy(X:Cx)(o:GO)(m:p_)(apos:Np)(es:List GO)(pos:Np)(pl:N2 Bool):Prop:=FR (.Call (.Attribute o m apos) es [] pos) X.env=(do let I <- FR o X.env;KY apos.atName;let (f,first) <- Jv [I] (Lc I m pl);LZ pos f first (Gh pos (h_ es X.env)) (Ho pos (GJ [] X.env)))
section
variable{k:Nat}{fad2:i_}{fd2:Hv}{g:ah->M H9} 
theorem qM(c:Cls X.K C)(M:Meth X.K C m fad)(F:iL X.prog X.w X.K X.mg X.base CX0 k fad fd ps (spF X.K ro (bR nN n g) n))(J:iJ k X.A)(a:Binds X.K fd ps [])(Y:DE X.K J3 b_ X o fo)(I:Fy X o m apos [] pos pl):DE X.K J3 ro X (.Call (.Attribute o m apos) [] [] pos) (jV C m (bR nN n g) fo aC):=
 (pe_meth0 (pl:=pl) Y c M F J a .nil qO I).imp λσ H Q h=>by
  obtain⟨F,ρ,r,s,z⟩:=rd_meth h;refine⟨F,ρ,r,s,?_⟩
  cases e1:fo ρ with
  |error e=>rw[e1]at z;exact z|ok od=>rw[e1]at z;intro v F' H' st q;obtain⟨l,dx,fs,h1,h2,d,b⟩:=z v F' H' st q;exact⟨l,dx,fs,h1,h2,d,rd_nil b⟩
theorem xO(c:Cls K C)(M:Meth K C m fad)(F:iL X.prog X.w X.K X.mg X.base CX0 k fad fd ps (spF K ro (bR nN n g) n))(J:iJ k X.A)(a:Binds X.K fd ps [])(Y:DE K J3 b_ X o fo)(b: ~~~(X.K=K))(I: ~~~(Fy X o m apos [] pos pl)):DE K J3 ro X (.Call (.Attribute o m apos) [] [] pos) (jV C m (bR nN n g) fo aC):=by subst b;exact qM c M F J a Y I
theorem rK{k2:Nat}{I:List p_}(c:Cls K C)(M:Meth K C m fad)(F:iL X.prog X.w X.K X.mg X.base CX0 k fad fd ps (spF K ro (bR nN n g) n))(d:iJ k X.A)(e:Binds X.K fd ps [])(h:Cls K C2)(i:Meth K C2 m fad2)(F2:iL X.prog X.w X.K X.mg X.base CX0 k2 fad2 fd2 I (spF K ro (bR nN2 n2 g2) n2))(J:iJ k2 X.A)(Y:Binds X.K fd2 I [])(b:DE K J3 b_ X o fo)(f: ~~~(X.K=K))(a: ~~~(Fy X o m apos [] pos pl)):
  DE K J3 ro X (.Call (.Attribute o m apos) [] [] pos) (jm C C2 m (bR nN n g) (bR nN2 n2 g2) fo aC):=by
 subst f;exact(PE.or (qM c M F d e b a) (qM h i F2 J Y b a)).imp λ_ _ _=>rd_meth2
end
def spI1(K:Pn)(C:i_)(g:List A'->M A'):Sp:=λvs H Q _=>∃p dx v F d,vs=[.ref p,v]/\H p=a_ (.ins C dx [])/\F p=c_/\aF F H/\aR K F d v/\(match g [d]with
 |.ok r=>∀w F' H',aF F F'->aF F' H'->F' p=c_->(∀b o,F' b=a_ o->F b=a_ o\/H b=c_)->(∀c o,H c=a_ o->c≠p->H' c=a_ o)->H' p=a_ (.ins C dx [("gaps",w)])->aR K F' r w->Q .non H'|.error e=>J3.p e F H)
def spI2(K:Pn)(C:i_)(g:List A'->M A'):Sp:=λvs H Q _=>∃p dx v I F d d2,vs=[.ref p,v,I]/\H p=a_ (.ins C dx [])/\F p=c_/\aF F H/\aR K F d v/\aR K F d2 I/\(match (g [d]).bind λr=>(g [d2]).bind λr2=>if twoL r r2=d_ then .ok (r,r2)else stk with
 |.ok (r,r2)=>∀w w2 F' H',aF F F'->aF F' H'->F' p=c_->(∀b o,F' b=a_ o->F b=a_ o\/H b=c_)->(∀c o,H c=a_ o->c≠p->H' c=a_ o)->H' p=a_ (.ins C dx [("gaps",w),("beside",w2)])->aR K F' r w->aR K F' r2 w2->Q .non H'|.error e=>J3.p e F H)
theorem C6.born{x dx:i_}{fs:List (p_×V)}(s:aF F H)(Y:H x=c_)(J:H dx=c_)(a:dx≠x)(h1:aF F F')(h2:aF F' H')(i:F' x=c_)(g:∀b o,F' b=a_ o->F b=a_ o\/upd (upd H dx (.own x)) x (.ins C dx []) b=c_)(f:∀c o,upd (upd H dx (.own x)) x (.ins C dx []) c=a_ o->c≠x->H' c=a_ o)(d:H' x=a_ (.ins C dx fs)):C6 F H (upd F' x (.ins C dx fs)) H' where
 ff:=h1.trans (aF.upd i)
 hh:=λc o e=>by
  have I:c≠x:=λh=>by rw[h,Y]at e;cases e
  have hd:c≠dx:=λh=>by rw[h,J]at e;cases e
  exact f c o (by rw[aq I,aq hd];exact e) I
 fh:=λc o e=>by
  by_cases I:c=x
  ·subst I;rw[ao]at e;rw[d];exact e
  ·rw[aq I]at e;exact h2 _ _ e
 nw:=λc o e=>by
  by_cases I:c=x
  ·subst I;exact .inr Y
  ·rw[aq I]at e;rcases g c o e with z|z
   ·exact .inl z
   ·refine .inr ?_;by_cases hd:c=dx
    ·subst hd;exact J
    ·rw[aq I,aq hd]at z;exact z
theorem de_newR{k:Nat}{g:List A'->M A'}(n:Mk X.K C fI)(T:iL X.prog X.w X.K X.mg X.base CX0 k fI fdI ps (spI1 K C g))(A:iJ (k+1) X.A)(D:X.mg x=a_ (.ref C))(L:Binds X.K fdI ps [])(N:DA K J3 X [e] fr)(E: ~~~(Gl X x))(l:((x==("__debug__":p_))=b_)⁻¹)(f: ~~~(h_ [e] X.env=(b_,FR e X.env)::h_ [] X.env))(i: ~~~((Gh pos (h_ [] X.env)).any (·.1)=b_)):
  DE K J3 b_ X (.Call (.Name x p) [e] [] pos) (fL (newR C g) fr):=by
 refine PE.imp (zd n T A E D L .nil qO N l f i) λσ H Q h=>?_;obtain⟨F,ρ,r,s,p⟩:=rd_L h;refine⟨F,ρ,r,s,?_⟩
 cases e1:fr ρ with
 |error z=>rw[e1]at p;exact p|ok ds=>
  rw[e1]at p;intro vs F1 H1 st q;obtain⟨F2,m,I,y,z⟩:=p vs F1 H1 st q;rcases m with _|⟨d,_|⟨_,_⟩⟩
  ·exact aJ.stuck z
  rotate_left
  ·exact aJ.stuck z
  ·obtain⟨v,a,rfl,u,B⟩:=y;cases(show a=[]from B);intro x dx b Y j;refine⟨x,dx,v,F2,d,rfl,ao,I.free b,λc o e=>?_,u,?_⟩
   ·have G:c≠x:=λh=>by rw[h,I.free b]at e;cases e
    have hd:c≠dx:=λh=>by rw[h,I.free Y]at e;cases e
    rw[aq G,aq hd];exact I _ _ e
   ·have z:aJ K J3 b_ F2 H1 ((g [d]).bind λr=>.ok (.ins C [("gaps",r)])) Q:=z;cases J:g [d]with
    |error e=>rw[J]at z;exact GA z|ok r=>
     rw[J]at z;intro w F' H' h1 h2 t S R P O;refine⟨rfl,z (.ref x) (upd F' x (.ins C dx [("gaps",w)])) H' (C6.born I b Y j h1 h2 t S R P) ?_⟩
     exact⟨x,dx,_,rfl,ao,w,[],rfl,aR.mono (aF.upd t) O,rfl⟩
theorem de_newP{k:Nat}{g:List A'->M A'}(B:Mk X.K C fI)(FI:iL X.prog X.w X.K X.mg X.base CX0 k fI fdI ps (spI2 K C g))(N:iJ (k+1) X.A)(P:X.mg x=a_ (.ref C))(T:Binds X.K fdI ps [])(U:DA K J3 X [e,a] fr)(R: ~~~(Gl X x))(u:((x==("__debug__":p_))=b_)⁻¹)(m: ~~~(h_ [e,a] X.env=(b_,FR e X.env)::h_ [a] X.env))(n: ~~~((Gh pos (h_ [a] X.env)).any (·.1)=b_)):
  DE K J3 b_ X (.Call (.Name x p) [e,a] [] pos) (fL (newP C g) fr):=by
 refine PE.imp (zd B FI N R P T .nil qO U u m n) λσ H Q h=>?_;obtain⟨F,ρ,r,s,p⟩:=rd_L h;refine⟨F,ρ,r,s,?_⟩
 cases e1:fr ρ with
 |error z=>rw[e1]at p;exact p|ok ds=>
  rw[e1]at p;intro vs F1 H1 st q;obtain⟨F2,A,J,L,z⟩:=p vs F1 H1 st q;rcases A with _|⟨d,_|⟨d2,_|⟨_,_⟩⟩⟩
  ·exact aJ.stuck z
  ·exact aJ.stuck z
  rotate_left
  ·exact aJ.stuck z
  ·obtain⟨v,D,rfl,G,E,f,rfl,i,O⟩:=L;cases(show f=[]from O);intro x dx j b t;refine⟨x,dx,v,E,F2,d,d2,rfl,ao,J.free j,λc o e=>?_,G,i,?_⟩
   ·have S:c≠x:=λh=>by rw[h,J.free j]at e;cases e
    have hd:c≠dx:=λh=>by rw[h,J.free b]at e;cases e
    rw[aq S,aq hd];exact J _ _ e
   ·have z:aJ K J3 b_ F2 H1 ((g [d]).bind λr=>(g [d2]).bind λr2=>if twoL r r2=d_ then .ok (.ins C [("gaps",r),("beside",r2)])else stk) Q:=z;cases Y:g [d]with
    |error e=>rw[Y]at z;exact GA z|ok r=>
     rw[Y,aj]at z;cases I:g [d2]with
     |error e=>rw[I]at z;exact GA z|ok r2=>
      rw[I,aj]at z;by_cases l:twoL r r2=d_
      ·rw[g_ l]at z;rw[aj,aj,g_ l];intro w w2 F' H' h1 h2 y h4 h5 h6 Z W;refine⟨rfl,z (.ref x) (upd F' x (.ins C dx [("gaps",w),("beside",w2)])) H' (C6.born J j b t h1 h2 y h4 h5 h6) ?_⟩
       exact⟨x,dx,_,rfl,ao,w,_,rfl,aR.mono (aF.upd y) Z,w2,[],rfl,aR.mono (aF.upd y) W,rfl⟩
      ·rw[l_ l]at z;exact aJ.stuck z
end
noncomputable def Itz(K:Pn)(a b:i_):It:=
 ⟨λi H=>∃xs ys x y,SqL K H a xs/\SqL K H b ys/\xs[i]?=a_ x/\ys[i]?=a_ y,λi H v H'=>∃T x y,H T=c_/\v=.ref T/\H'=upd H T (.tup [x,y])/\(∀xs,SqL K H a xs->xs[i]?=a_ x)/\∀ys,SqL K H b ys->ys[i]?=a_ y,λi H=>∃xs ys,SqL K H a xs/\SqL K H b ys/\(xs.length<=i\/ys.length<=i)⟩
theorem turn_zip{k:Nat}{z f m j g O N:i_}(D:ZipApart z f m j g O N):
  Turn P w K (.Tuple elts k pos) (Itz K O N) [z,f,m,j,g] z (λi h=>IsZip h z f m .none/\IsPair h f (.ref j) (.ref g)/\(∃a b,IsPair h m a b)/\h.IsListIter j O i/\h.IsListIter g N i) where
 mem:=by simp
 obj:=λi h st b J=>by
  obtain⟨l,Y,⟨a,c,d⟩,⟨o1,e1,c1,d1⟩,⟨o2,e2,c2,d2⟩⟩:=st;simp only[x_,GB,IL]at J;rcases J with rfl|rfl|rfl|rfl|rfl
  ·exact⟨_,l,λv q=>by cases q⟩
  ·exact⟨_,Y,λv q=>by cases q⟩
  ·exact⟨_,d,λv q=>by cases q⟩
  ·exact⟨o1,e1,λv q=>by rw[d1]at q;cases q⟩
  ·exact⟨o2,e2,λv q=>by rw[d2]at q;cases q⟩
 keep:=λi h h' st r=>by obtain⟨l,Y,⟨a,c,d⟩,h1,h2⟩:=st;exact⟨r z (by simp) _ l,r f (by simp) _ Y,⟨a,c,r m (by simp) _ d⟩,h1.at λo x=>r j (by simp) o x,h2.at λo x=>r g (by simp) o x⟩
 item:=by
  intro X U hw W hc i B' s σ H E I F st S;subst U hw W;obtain⟨l,Y,⟨a,c,d⟩,h1,h2⟩:=st;obtain⟨xs,ys,x,y,C,B,gx,gy⟩:=S;obtain⟨F9,G,p,_⟩:=I.list C;obtain⟨t,n,p2,_⟩:=I.list B;obtain⟨u,hu,ru⟩:=G.get gx;obtain⟨u2,Q,L⟩:=n.get gy;refine wpAny_pyNext_zip_item D l Y d h1 h2 p.isList p2.isList (x:=u) (y:=u2) (by simpa using hu) (by simpa using Q) λh' a1 a2 a3 a4 a5 a6 a7=>?_;refine⟨_,rfl,wpAny_letOwnedTupleGo_zip a1 λZ b1 b2=>?_⟩
  have lz:z<s.heap.objs.size:=A1 l;have lTI:f<s.heap.objs.size:=A1 Y;have lTO:m<s.heap.objs.size:=A1 d;have li1:j<s.heap.objs.size:=by obtain⟨o,e,_⟩:=h1;exact A1 e
  have li2:g<s.heap.objs.size:=by obtain⟨o,e,_⟩:=h2;exact A1 e
  have I1:C' X B' σ (upd H s.heap.objs.size (.tup [x,y])) {s with heap:=Z,toks:=s.toks}:=I.CU (ch:=[z,f,m,j,g]) F (λb o J q=>by simp only[x_,GB,IL,LU]at J;exact(b2.2 b J.1).trans (a7 b o J.1 J.2.2.1 J.2.2.2.1 J.2.2.2.2 q)) (v_ _) ⟨by show 2<=f_;decide,[u,u2],.cons ru (.cons L .nil),⟨_,(b2.2 _ (JN lz)).trans a5,rfl,0,rfl⟩⟩
  refine⟨.ref s.heap.objs.size,_,I1,rfl,⟨s.heap.objs.size,x,y,I.hok.fresh (v_ _),rfl,rfl,λzs R=>by rw[I.pR R C];exact gx,λzs R=>by rw[I.pR R B];exact gy⟩,
   ⟨b1,(b2.2 _ D.TIz).trans (a7 f _ D.TIz D.TITO D.TIi1 D.TIi2 Y),⟨_,_,(b2.2 _ D.TOz).trans a2⟩,a3.at λo q=>(b2.2 _ D.i1z).trans q,a4.at λo q=>(b2.2 _ D.i2z).trans q⟩,λb J=>?_⟩
  have T:=(F b J).1;have:b≠s.heap.objs.size:=by simp only[x_,GB,IL]at J;rcases J with rfl|rfl|rfl|rfl|rfl<;>exact Ga (by assumption)
  rw[aq this];exact T
 done:=by
  intro X U hw W hc i B' s σ H E I F st S;subst U hw W;obtain⟨l,Y,⟨a,c,d⟩,h1,h2⟩:=st;obtain⟨xs,ys,C,B,A⟩:=S;obtain⟨F9,G,p,_⟩:=I.list C;obtain⟨t,n,p2,_⟩:=I.list B;have e1:=G.length;have e2:=n.length;refine wpAny_pyNext_zip_end (I.ok.hd hc) D l Y d h1 h2 p.isList p2.isList ?_ λh' hk=>⟨rfl,I.CV (t':=s.toks) (ch:=[z,f,m,j,g]) F λb o J q=>?_⟩
  ·rcases A with z|z
   ·exact .inl (LL (by simp;omega))
   ·exact .inr (LL (by simp;omega))
  ·simp only[x_,GB,IL,LU]at J;exact hk b o J.1 J.2.2.1 J.2.2.2.1 J.2.2.2.2 q
 self:=λ_ _ _ _ _ st h=>N_ st.1 h
theorem A5:∀(ds es:List A') (i:Nat),(px ds es)[i]?=(ds[i]?).bind λd=>(es[i]?).map λe=>.tup [d,e]
 |[],es,i=>by simp[px]|d::ds,[],i=>by cases h:(d::ds)[i]?<;>simp[px]
 |d::ds,e::es,0=>by simp[px]|d::ds,e::es,i+1=>by rw[px,ID,A5 ds es i,ID,ID]
theorem uh:∀(ds es:List A'),(px ds es).length=min ds.length es.length
 |[],es=>by simp[px]|d::ds,[]=>by simp[px]|d::ds,e::es=>by rw[px,FV,uh ds es,FV,FV];omega
theorem iter_zip{xs ys:List V}{ds es:List A'}(t:SqL K F a xs)(z:az K F ds xs)(t2:SqL K F b ys)(e:az K F es ys):yo K F (Itz K a b) (px ds es) where
 go:=λi F' H' J I hi=>by rw[uh]at hi;exact⟨xs,ys,xs[i]'(by rw[z.length];omega),ys[i]'(by rw[e.length];omega),I.lst (J.lst t),I.lst (J.lst t2),Ge _,Ge _⟩
 yl:=λi F' H' x H2 d J I hd k=>by
  obtain⟨T,h,f,g,ex,l,h1,h2⟩:=k;subst ex l;rw[A5]at hd;cases Y:ds[i]? with
  |none=>rw[Y]at hd;cases hd|some d1=>
   cases c:es[i]? with
   |none=>rw[Y,c]at hd;cases hd|some d2=>
    rw[Y,c]at hd;simp at hd;subst hd;obtain⟨v,e1,q⟩:=z.get Y;obtain⟨m,e2,j⟩:=e.get c;have e3:=h1 xs (I.lst (J.lst t));have e4:=h2 ys (I.lst (J.lst t2));rw[e1]at e3;rw[e2]at e4;cases e3;cases e4;refine⟨upd F' T (.tup [h,f]),C6.lay I g,T,_,rfl,SqT.of ao,?_⟩
    exact⟨h,[f],rfl,(q.mono J).mono (aF.upd (I.free g)),f,[],rfl,(j.mono J).mono (aF.upd (I.free g)),rfl⟩
 st:=λF' H' J I=>⟨xs,ys,I.lst (J.lst t),I.lst (J.lst t2),by rw[z.length,e.length,uh];omega⟩
section
variable{W:eI}{a b:GO} 
def iZip(K:Pn)(ta tb:TE):TI:=λσ H R=>ta σ H λx H1=>tb σ H1 λy H2=>∃a b,x=.ref a/\y=.ref b/\(∃xs,SqL K H2 a xs)/\(∃ys,SqL K H2 b ys)/\R (Itz K a b) H2
theorem pi_zip{k:Nat}(K:Gl X "zip")(F:X.mg "zip"=c_)(L:PE X a ta)(g:PE X b tb)(z:h_ [a,b] X.env=[(b_,FR a X.env),(b_,FR b X.env)])(Y:h_ [b] X.env=[(b_,FR b X.env)]):
  PI X (.Tuple elts k q) (.Call (.Name "zip" p) [a,b] [] pos) (iZip X.K ta tb):=by
 intro B' s σ H R I h;have N:PA X [a,b] (aM ta (aM tb dS)):=av L (av g aK Y) (by rw[z,Y]);refine Call_ (tI I K F boot_zip (IS (HH (N pos B' s σ H (λvs H1=>match vs with
  |[x,y]=>∃a b,x=.ref a/\y=.ref b/\(∃xs,SqL X.K H1 a xs)/\(∃ys,SqL X.K H1 b ys)/\R (Itz X.K a b) H1
  |_=>False) I h) λus J hp=>?_) (by rw[z,Y]) (by rw[Y];rfl)))
 obtain⟨vs,H1,f,j,C⟩:=hp
 rcases vs with _|⟨x,_|⟨y,_|⟨_,_⟩⟩⟩
 ·exact GA C
 ·exact GA C
 rotate_left
 ·exact GA C
 ·obtain⟨l,D,e1,e2,⟨xs,E⟩,⟨ys,m⟩,q⟩:=C
  subst e1 e2;obtain⟨u,Q,rfl,B,i⟩:=j.two;cases B;cases i;obtain⟨F9,S,pl,_⟩:=f.list E;obtain⟨v,A,c,_⟩:=f.list m;have a1:l<J.heap.objs.size:=by obtain⟨_,e,_⟩:=pl.isList;exact A1 e
  have O:D<J.heap.objs.size:=by obtain⟨_,e,_⟩:=c.isList;exact A1 e
  refine call_zip_2 pl.isList c.isList λh' w t r o n hsz G=>?_;have P:C' X B' σ H1 {J with heap:=h'}:=f.kept (t':=J.toks) G;refine N_ w ?_;refine⟨J.heap.objs.size+4,[J.heap.objs.size+4,J.heap.objs.size+2,J.heap.objs.size+3,J.heap.objs.size,J.heap.objs.size+1],_,_,H1,rfl,P,turn_zip (zipApart_new a1 O),⟨w,t,⟨_,_,r⟩,o,n⟩,λb g=>?_,q⟩
  have d:J.heap.objs.size<=b:=by
   simp only[x_,GB,IL]at g;rcases g with rfl|rfl|rfl|rfl|rfl
   ·exact JH _ 4
   ·exact JH _ 2
   ·exact JH _ 3
   ·exact v_ _
   ·exact JH _ 1
  exact f.fpOk d (f.hok.fresh d)
theorem ri_zip{R:It->Hp->Prop}(h:iD K W (CJ fa fb) σ H R):iZip K (tD K W b_ fa) (tD K W b_ fb) σ H R:=by
 obtain⟨F,ρ,r,s,p⟩:=h;refine aO r s (λe a=>?_) λd hd v F1 H1 J i=>?_
 ·have z:CJ fa fb ρ=.error e:=by unfold CJ;rw[a];rfl
  rw[z]at p;exact p
 ·refine aO (r.mono J.ff) J.fh (λe a=>?_) λd2 c j F2 H2 I g=>?_
  ·have z:CJ fa fb ρ=.error e:=by unfold CJ;rw[hd,aj,a];rfl
   rw[z]at p;exact W.mono p J
  ·have z:CJ fa fb ρ=(nv d).bind λds=>(nv d2).bind λes=>.ok (px ds es):=by unfold CJ;rw[hd,aj,c,aj]
   rw[z]at p;cases d with
   |lst ds=>
    cases d2 with
    |lst es=>obtain⟨b,xs,e,t,f⟩:=i;obtain⟨b2,ys,e2,t2,Y⟩:=g;have t':=I.ff.lst t;exact⟨b,b2,e,e2,⟨xs,I.fh.lst t'⟩,⟨ys,I.fh.lst t2⟩,p _ F2 H2 (J.trans I) (iter_zip t' (f.mono I.ff) t2 Y)⟩
    |_=>exact(W.ns p).elim
   |_=>exact(W.ns p).elim
theorem EX{k:Nat}(Y:X.mg "zip"=c_)(e:DE K W b_ X a fa)(d:DE K W b_ X b fb)(c: ~~~(Gl X "zip"))(J: ~~~(h_ [a,b] X.env=[(b_,FR a X.env),(b_,FR b X.env)]))(I: ~~~(h_ [b] X.env=[(b_,FR b X.env)]))(f: ~~~(X.K=K)):
  DI K W X (.Tuple elts k q) (.Call (.Name "zip" p) [a,b] [] pos) (CJ fa fb):=by
 subst f;exact(pi_zip c Y e d J I).imp λ_ _ _=>ri_zip
end
theorem AF{n:Nat}:∀{ds:List A'} {d:A'},lD ds n=d_->d∈ds->I' d n=d_
 |[],d,_,h=>by simp at h|a::ds,d,h,hd=>by
  unfold lD at h;simp only[o_]at h;rcases x_.mp hd with e|e
  ·rw[e];exact h.1
  ·exact AF h.2 e
section
variable{W:eI}{own:Bool}
open Classical in
theorem has_D(I:C' X B' σ H s)(hF:aF F H){ds:List A'}{xs:List V}{F9:List Value}{a:A'}{x:V}(od:lD ds 40=true)(oa:I' a 40=true)(qs:az X.K F ds xs)(rv:Hn xs F9)(qa:aR X.K F a x)(ra:Hh x u)(hu:A.units+40<cLine):
  ∃e:Value->Bool,(∀y,y∈F9.toArray->SeqAt.EqAt A s y u (e y))/\F9.toArray.any e=ds.any λd=>eqD d a:=by
 have each:∀(i:Nat) (y:Value),F9[i]?=some y->∃d,ds[i]?=some d/\SeqAt.EqAt A s y u (eqD d a):=λi y hy=>by
  have hi:i<F9.length:=(List.getElem?_eq_some_iff.mp hy).1;have h1:i<xs.length:=by rw[rv.length];exact hi
  have h2:i<ds.length:=by rw[<- qs.length];exact h1
  obtain⟨v,e1,q1⟩:=qs.get (List.getElem?_eq_getElem h2);obtain⟨w,e2,r2⟩:=rv.get e1;rw[hy]at e2;cases e2;exact⟨_,List.getElem?_eq_getElem h2,ED I hF _ a (AF od (List.getElem_mem h2)) oa q1 qa r2 ra hu⟩
 refine⟨λy=>decide (∃(i:Nat) (d:A'),F9[i]?=some y/\ds[i]?=some d/\eqD d a=true),λy hy=>?_,?_⟩
 ·by_cases h:∃(i:Nat) (d:A'),F9[i]?=some y/\ds[i]?=some d/\eqD d a=true
  ·obtain⟨i,d,h1,h2,h3⟩:=h;obtain⟨d',h4,h5⟩:=each i y h1;rw[h2]at h4;cases h4;rw[h3]at h5;have:decide (∃(i:Nat) (d:A'),F9[i]?=some y/\ds[i]?=some d/\eqD d a=true)=true:=decide_eq_true ⟨i,d,h1,h2,h3⟩;show SeqAt.EqAt A s y u (decide _);rw[this];exact h5
  ·have hm:y∈F9:=by simpa using hy
   obtain⟨i,hi⟩:=List.getElem?_of_mem hm;obtain⟨d,h4,h5⟩:=each i y hi;have h6:eqD d a=false:=by
    cases hq:eqD d a with
    |false=>rfl|true=>exact absurd ⟨i,d,hi,h4,hq⟩ h
   rw[h6]at h5;show SeqAt.EqAt A s y u (decide _);rw[decide_eq_false h];exact h5
 ·rw[Bool.eq_iff_iff];simp only[List.any_toArray,List.any_eq_true,decide_eq_true_eq];constructor
  ·rintro⟨y,hy,i,d,h1,h2,h3⟩;exact⟨d,List.mem_of_getElem? h2,h3⟩
  ·rintro⟨d,hd,h3⟩;obtain⟨i,hi⟩:=List.getElem?_of_mem hd;have h2:i<ds.length:=(List.getElem?_eq_some_iff.mp hi).1;have h4:i<F9.length:=by rw[<- rv.length,qs.length];exact h2
   exact⟨F9[i],List.getElem_mem h4,i,d,List.getElem?_eq_getElem h4,hi,h3⟩
theorem o_in(r:X.A.units+64<G5)(q: ~~~(X.K=K)):Op2 K W own X (FU .In) inM:=by
 subst q;intro B' s σ H x y v u Q I m k h;obtain⟨F,a,b,c,o,n,p⟩:=h;have f:X.A.in1.units+40<G5:=by show X.A.units+1+40<G5;omega
 cases b with
 |lst ds=>
  obtain⟨l,xs,e,t,z⟩:=n;subst e;cases k;have Y:aJ X.K W own F H (if (I' a 40&&lD ds 40)=d_ then .ok (.bl (ds.any λd=>eqD d a))else stk) Q:=p;by_cases J:(I' a 40&&lD ds 40)=d_
  ·rw[g_ J]at Y;simp only[o_]at J;obtain⟨F9,g,pl,_⟩:=I.list (c.lst t);obtain⟨e,i,j⟩:=has_D (A:=X.A.in1) I c J.2 J.1 z g o m f;refine SeqAt.in_listAt e pl.isList i ?_;rw[j];exact Y.blS c I
  ·rw[l_ J]at Y;exact Y.stuck
 |tup ds=>
  obtain⟨l,xs,e,t,z⟩:=n;subst e;cases k;have Y:aJ X.K W own F H (if (I' a 40&&lD ds 40)=d_ then .ok (.bl (ds.any λd=>eqD d a))else stk) Q:=p;by_cases J:(I' a 40&&lD ds 40)=d_
  ·rw[g_ J]at Y;simp only[o_]at J;obtain⟨F9,g,pl,_⟩:=I.tuple (c.tup t);obtain⟨e,i,j⟩:=has_D (A:=X.A.in1) I c J.2 J.1 z g o m f;refine SeqAt.in_tupleAt e (show s.heap.IsTuple l F9.toArray from pl) i ?_;rw[j];exact Y.blS c I
  ·rw[l_ J]at Y;exact Y.stuck
 |_=>exact aJ.stuck p
theorem kg(r:X.A.units+64<G5)(q: ~~~(X.K=K)):Op2 K W own X (FU .NotIn) ip:=by
 subst q;intro B' s σ H x y v u Q I m k h;obtain⟨F,a,b,c,o,n,p⟩:=h;have f:X.A.in1.units+40<G5:=by show X.A.units+1+40<G5;omega
 cases b with
 |lst ds=>
  obtain⟨l,xs,e,t,z⟩:=n;subst e;cases k;have Y:aJ X.K W own F H (if (I' a 40&&lD ds 40)=d_ then .ok (.bl (!ds.any λd=>eqD d a))else stk) Q:=p;by_cases J:(I' a 40&&lD ds 40)=d_
  ·rw[g_ J]at Y;simp only[o_]at J;obtain⟨F9,g,pl,_⟩:=I.list (c.lst t);obtain⟨e,i,j⟩:=has_D (A:=X.A.in1) I c J.2 J.1 z g o m f;refine SeqAt.notIn_listAt e pl.isList i ?_;rw[j];exact Y.blS c I
  ·rw[l_ J]at Y;exact Y.stuck
 |tup ds=>
  obtain⟨l,xs,e,t,z⟩:=n;subst e;cases k;have Y:aJ X.K W own F H (if (I' a 40&&lD ds 40)=d_ then .ok (.bl (!ds.any λd=>eqD d a))else stk) Q:=p;by_cases J:(I' a 40&&lD ds 40)=d_
  ·rw[g_ J]at Y;simp only[o_]at J;obtain⟨F9,g,pl,_⟩:=I.tuple (c.tup t);obtain⟨e,i,j⟩:=has_D (A:=X.A.in1) I c J.2 J.1 z g o m f;refine SeqAt.notIn_tupleAt e (show s.heap.IsTuple l F9.toArray from pl) i ?_;rw[j];exact Y.blS c I
  ·rw[l_ J]at Y;exact Y.stuck
 |_=>exact aJ.stuck p
end
abbrev ZRec(h:Gv)(z p q:i_)(m k:j_):Prop:=h.get? z=a_ {cls:=.type "zip",dict:=c_,data:=.fields #[m,k,.bool b_,.ref p,.ref q],slots:=#[]}
structure Zs(z p q u v l m:i_)(r k a b:j_)(i j:Nat)(xs ys:Array j_)(h:Gv):Prop where
 me:ZRec h z p q r k
 F9:IsPair h p (.ref u) (.ref v)
 own:IsPair h q a b
 one:h.IsListIter u l i
 two:h.IsListIter v m j
 xl:h.IsList l xs
 yl:h.IsList m ys
def Off(z q u v:i_)(h h':Gv):Prop:=∀c o,c≠z->c≠q->c≠u->c≠v->h.get? c=a_ o->h'.get? c=a_ o
section
variable{z q u v:i_}{a b:j_}{g:Gv}
theorem Off.then(A:Off z q u v h h')(B:Off z q u v h' g):Off z q u v h g:=λc o a b d e x=>B c o a b d e (A c o a b d e x)
end
theorem C6.stays{o:HO}(s:C6 F H F' H')(n:F a=c_)(h:H a=a_ o):F' a=c_:=by
 cases e:F' a with
 |none=>rfl|some u=>
  rcases s.nw a u e with z|z
  ·rw[n]at z;cases z
  ·rw[h]at z;cases z
structure nU(K:Pn)(F G H:Hp)(ds:List A')(vs:List V):Prop where
 len:vs.length=ds.length
 get:∀(k:Nat) (d:A'),ds[k]?=a_ d->∃a xs es,vs[k]?=a_ (.ref a)/\d=.lst es/\H a=a_ (.lst xs)/\F a=c_/\G a=c_/\az K F es xs
 ap:∀(j k:Nat) (a:i_),vs[j]?=a_ (.ref a)->vs[k]?=a_ (.ref a)->j=k
section
variable{ds:List A'} 
theorem nU.nil:nU K F G H [] []:=⟨rfl,λk d e=>by simp at e,λj k a e=>by simp at e⟩
theorem nU.step(o:nU K F G H ds vs)(s:C6 F H F' H'):nU K F' G H' ds vs where
 len:=o.len
 get:=λk d e=>by obtain⟨a,xs,es,h1,h2,I,b,Y,J⟩:=o.get k d e;exact⟨a,xs,es,h1,h2,s.hh _ _ I,s.stays b I,Y,J.mono s.ff⟩
 ap:=o.ap
theorem nU.back(o:nU K F G H ds vs)(s:aF G' G):nU K F G' H ds vs where
 len:=o.len
 get:=λk d e=>by obtain⟨a,xs,es,h1,h2,b,Y,J,I⟩:=o.get k d e;exact⟨a,xs,es,h1,h2,b,Y,s.free J,I⟩
 ap:=o.ap
theorem nU.at(o:nU K F G H ds vs){k:Nat}{a:i_}(h:vs[k]?=a_ (.ref a)):∃xs es,ds[k]?=a_ (.lst es)/\H a=a_ (.lst xs)/\F a=c_/\G a=c_/\az K F es xs:=by
 have I:k<ds.length:=by rw[<- o.len];exact(w_.mp h).1
 obtain⟨b,xs,es,h1,h2,d,c,Y,J⟩:=o.get k ds[k] (by simp[I]);rw[h]at h1;cases h1;exact⟨xs,es,by rw[<- h2];simp[I],d,c,Y,J⟩
theorem nU.add(o:nU K F G H ds vs){es:List A'}{xs:List V}(I:∀k:Nat,vs[k]?≠a_ (.ref a))(h:H a=a_ (.lst xs))(g:F a=c_)(f:G a=c_)(c:az K F es xs):nU K F G H (ds++[.lst es]) (vs++[.ref a]) where
 len:=by simp[o.len]
 get:=λk d e=>by
  rcases Na k ds.length with z|z|z
  ·rw[GF z]at e;obtain⟨b,ys,fs,i,g2⟩:=o.get k d e;exact⟨b,ys,fs,by rw[GF (by rw[o.len];exact z)];exact i,g2⟩
  ·subst z;simp at e;refine⟨a,xs,es,?_,e.symm,h,g,f,c⟩
   rw[<- o.len];simp
  ·have:=(w_.mp e).1;simp at this;omega
 ap:=λj k b e1 e2=>by
  have key:∀m,(vs++[V.ref a])[m]?=a_ (.ref b)->(m<vs.length/\vs[m]?=a_ (.ref b))\/(m=vs.length/\b=a):=λm e=>by
   rcases Na m vs.length with z|z|z
   ·rw[GF z]at e;exact .inl ⟨z,e⟩
   ·subst z;simp at e;exact .inr ⟨rfl,e.symm⟩
   ·have:=(w_.mp e).1;simp at this;omega
  rcases key j e1 with⟨_,J⟩|⟨J,Y⟩<;>rcases key k e2 with⟨_,w1⟩|⟨w1,w2⟩
  ·exact o.ap j k b J w1
  ·subst w2;exact FJ J (I j)
  ·subst Y;exact FJ w1 (I k)
  ·omega
end
section
variable{W:eI} 
theorem rd_turns{p:Pat}{R:List V->Hp->Prop}(r:cP K F σ ρ)(s:aF F H)(hL:∀ρ d,fe ρ=.ok d->∃es,d=.lst es)(E:∀e,cn fi ix p ft fe ρ=.error e->W.p e F H)(T:∀rs,cn fi ix p ft fe ρ=.ok (.lst rs)->∀ys F2 H2,C6 F H F2 H2->nU K F2 H H2 rs ys->R ys H2):iD K W fi σ H λJ H1=>kC J ix (gP K p) (tDT K W ft) (tD K W d_ fe) σ R H1:=by
 refine⟨F,ρ,r,s,?_⟩
 cases S:fi ρ with
 |error e=>exact E e (by unfold cn;rw[S];rfl)|ok ds=>
  intro J F1 H1 A it;have e0:cn fi ix p ft fe ρ=if ds.length<=f_ then(aS p ft fe (gj ix ρ) ds).bind λr=>.ok (.lst r)else .error .stuck:=by unfold cn;rw[S];rfl
  by_cases Q:ds.length<=f_
  ·rw[g_ Q]at e0;rw[e0]at E T;refine⟨λi m ys H2=>m=ds.length-i/\i<=ds.length/\∃F2 I,C6 F1 H1 F2 H2/\nU K F2 H1 H2 I ys/\I.length<=i /\
    (match aS p ft fe (gj ix ρ) (ds.drop i)with
     |.ok Y=>aS p ft fe (gj ix ρ) ds=.ok (I++Y)|.error e=>W.p e F H),⟨ds.length,by omega,G7 _,F1,[],C6.refl A.fh,nU.nil,G7 _,?_⟩,?_⟩
   ·rw[IJ];cases e:aS p ft fe (gj ix ρ) ds with
    |ok Y=>rfl|error x=>exact E x (by rw[e];rfl)
   ·rintro i m ys H2 ⟨rfl,hi,F2,I,g,G,ly,t⟩;have B:ys.length<=f_:=by rw[G.len];omega
    by_cases h:i<ds.length
    ·have ed:ds.drop i=ds[i]::ds.drop (i+1):=G8 h;rw[ed]at t;refine .inr ⟨it.go i F2 H2 g.ff g.fh h,B,λu H'=>(i+1<=ds.length/\∃F2 I,C6 F1 H1 F2 H'/\nU K F2 H1 H' I u/\I.length<=i+1 /\
      (match aS p ft fe (gj ix ρ) (ds.drop (i+1))with
       |.ok Y=>aS p ft fe (gj ix ρ) ds=.ok (I++Y)|.error e=>W.p e F H)),λu H' n=>⟨ds.length-(i+1),by omega,rfl,n⟩,λx H' y=>?_⟩
     obtain⟨F3,l,q3⟩:=it.yl i F2 H2 x H' ds[i] g.ff g.fh (by simp[h]) y;have r3:cP K F3 (Lake.inS ix σ) (gj ix ρ):=(r.mono (A.trans (g.trans l)).ff).inS ix;have w:C6 F H F3 H':=A.trans (g.trans l);have ec:aS p ft fe (gj ix ρ) (ds[i]::ds.drop (i+1))=(jj p ds[i] (gj ix ρ)).bind λc=>(ft c).bind λb=>if b=d_ then(fe c).bind λy=>(aS p ft fe (gj ix ρ) (ds.drop (i+1))).bind λr=>.ok (y::r)else aS p ft fe (gj ix ρ) (ds.drop (i+1)):=by rw[aS]
     rw[ec]at t;cases D:jj p ds[i] (gj ix ρ)with
     |error e=>rw[D]at t;have:=nQ D;subst this;exact(W.ns t).elim|ok c=>
      rw[D]at t;refine gP_run r3 l.fh q3 D λσ2 P=>?_;have j:match ((ft c).bind λb=>if b=d_ then(fe c).bind λy=>(aS p ft fe (gj ix ρ) (ds.drop (i+1))).bind λr=>.ok (y::r)else aS p ft fe (gj ix ρ) (ds.drop (i+1)))with
       |.ok Y=>aS p ft fe (gj ix ρ) ds=.ok (I++Y)|.error e=>W.p e F H:=t
      refine eZ P l.fh (λe L=>by rw[L]at j;exact W.mono j w) λb N F5 H5 q=>?_;rw[N]at j;cases b with
      |false=>
       have f:match aS p ft fe (gj ix ρ) (ds.drop (i+1))with
        |.ok Y=>aS p ft fe (gj ix ρ) ds=.ok (I++Y)|.error e=>W.p e F H:=j
       exact⟨h,F5,I,g.trans (l.trans q),G.step (l.trans q),by omega,f⟩
      |true=>
       have f:match ((fe c).bind λy=>(aS p ft fe (gj ix ρ) (ds.drop (i+1))).bind λr=>.ok (y::r))with
        |.ok Y=>aS p ft fe (gj ix ρ) ds=.ok (I++Y)|.error e=>W.p e F H:=j
       refine aO (P.mono q.ff) q.fh (λe L=>by rw[L]at f;exact W.mono f (w.trans q)) λd hd v F6 H6 O q6=>?_;rw[hd]at f;obtain⟨es,rfl⟩:=hL _ _ hd;obtain⟨a,xs,ev,g1,g2,U,g4⟩:=q6;subst ev;have Z:=G.step (l.trans q);refine⟨h,F6,I++[.lst es],g.trans (l.trans (q.trans O)),(Z.step O).add (λk hk=>?_) g1 g2 ((g.trans (l.trans q)).hh.free U) g4,by simp;omega,?_⟩
       ·obtain⟨_,_,_,z,_⟩:=Z.at hk;rw[U]at z;cases z
       ·have o:match ((aS p ft fe (gj ix ρ) (ds.drop (i+1))).bind λr=>.ok (A'.lst es::r):M (List A'))with
         |.ok Y=>aS p ft fe (gj ix ρ) ds=.ok (I++Y)|.error e=>W.p e F H:=f
        cases X:aS p ft fe (gj ix ρ) (ds.drop (i+1))with
        |ok Y=>rw[X]at o;show _=FN ((I++[A'.lst es])++Y);rw[Hl];exact o|error x=>rw[X]at o;exact o
    ·have:i=ds.length:=by omega
     subst this;rw[KG]at t;have C:aS p ft fe (gj ix ρ) ds=.ok (I++[]):=t;rw[HF]at C;exact .inl ⟨it.st F2 H2 g.ff g.fh,B,T I (by rw[C];rfl) ys F2 H2 (A.trans g) (G.back A.hh)⟩
  ·rw[l_ Q]at e0;exact(W.ns (E .stuck e0)).elim
end
noncomputable def lstOf:A'->M (List A')
 |.lst ds=>.ok ds|_=>.error .stuck
def rowAt(rs:List A')(a:Int):M (Nat×List A'):=match ixN rs.length a with
 |some j=>(match rs[j]? with
  |some (.lst es)=>.ok (j,es)|_=>.error .stuck)
 |none=>.error .stuck
def setRow(rs:List A')(I:Nat×List A')(b:Int)(x:A'):M (List A'):=match ixN I.2.length b with
 |some k=>.ok (rs.set I.1 (.lst (I.2.set k x)))|none=>.error .stuck
def rows3(i:Nat)(rs:List A')(x:A')(J:Nat×List A')(Y:ah->M A')(ρ:ah):M H9:=(Y (ρ.set i c_)).bind λb=>(asI b).bind λb=>(setRow rs J b x).bind λI=>.ok (.nx (ρ.set i (a_ (.lst I))))
def rows2(i:Nat)(rs:List A')(x:A')(Y J:ah->M A')(ρ:ah):M H9:=(Y (ρ.set i c_)).bind λa=>(asI a).bind λa=>(rowAt rs a).bind λI=>rows3 i rs x I J ρ
theorem Eg{fr:ah->M (List A')}:∀ρ d,fL nj fr ρ=.ok d->∃es,d=.lst es:=λρ d h=>by
 unfold fL at h;cases e:fr ρ with
 |error x=>rw[e]at h;cases h|ok ds=>
  rw[e]at h;have h:nj ds=.ok d:=h;unfold nj at h;split at h
  all_goals first
   |(cases h;done)
   |(split at h<;>first|(cases h;done)|(cases h;exact⟨_,rfl⟩))
   |(cases h;exact⟨_,rfl⟩)
structure RepR(K:Pn)(F0 H0 FB:Hp)(i:Nat)(a:i_)(ys:List V)(rs:List A')(F H:Hp)(σ:St)(ρ:ah):Prop where
 r:Rep K F0 H0 FB [] F H σ ρ
 sl:σ[i]?=a_ (a_ (.ref a))
 hp:H a=a_ (.lst ys)
 fa:F a=c_
 ha:H0 a=c_
 nm:∀m:Nat,ys[m]?≠a_ (.ref a)
 ow:nU K F H0 H rs ys
section
variable{ys:List V}{rs:List A'} 
theorem RepR.step(h:RepR K F0 H0 FB i a ys rs F H σ ρ)(s:C6 F H F1 H1):RepR K F0 H0 FB i a ys rs F1 H1 σ ρ:=
 ⟨h.r.step s,h.sl,s.hh _ _ h.hp,s.stays h.fa h.hp,h.ha,h.nm,h.ow.step s⟩
theorem RepR.base{I:Hp}(h:RepR K F0 H0 FB i a ys rs F H σ ρ)(s:aF I FB):RepR K F0 H0 I i a ys rs F H σ ρ:=⟨h.r.base s,h.sl,h.hp,h.fa,h.ha,h.nm,h.ow⟩
end
section
variable{κ:Type}[Ni κ]
noncomputable def vK(D':List (κ×V))(k:κ):Option V:=(D'.find? λI=>q_ (I.1=k)).map (·.2)
noncomputable def putK(D':List (κ×V))(k:κ)(v:V):List (κ×V):=
 if (D'.any λI=>q_ (I.1=k))=d_ then D'.map (λI=>if I.1=k then(I.1,v)else I)else D'++[(k,v)]
noncomputable def dropK(D':List (κ×V))(k:κ):List (κ×V):=D'.filter λI=>q_ (I.1≠k)
theorem A8{k:κ}:vK ([]:List (κ×V)) k=c_:=rfl
theorem mM{p:κ×V}{r:List (κ×V)}{k:κ}(e:p.1=k):vK (p::r) k=a_ p.2:=by simp[vK,GN,e]
theorem mO{p:κ×V}{r:List (κ×V)}{k:κ}(e:¬p.1=k):vK (p::r) k=vK r k:=by simp[vK,GN,e]
theorem pK(k:κ):∀D':List (κ×V),(D'.any λI=>q_ (I.1=k))=(vK D' k).isSome
 |[]=>rfl|p::r=>by
  rw[Ly];by_cases e:p.1=k
  ·simp only[mM e,s_ e,Bool.true_or,Mi]
  ·rw[mO e,m_ e,Bool.false_or];exact pK k r
theorem mh(D':List (κ×V))(k:κ)(v:V):(putK D' k v).length<=D'.length+1:=by
 unfold putK;split
 ·rw[t_];omega
 ·rw[FG,FV,KR];omega
theorem Az{D':List (κ×V)}{k:κ}(v:V)(h:vK D' k=c_):putK D' k v=D'++[(k,v)]:=by unfold putK;rw[pK,h];exact l_ (by decide)
theorem qe.xA{o:Option V}{u:Option j_}(r:qe o u):o.isSome=u.isSome:=by
 cases o with
 |none=>cases u with
  |none=>rfl|some _=>exact(show False from r).elim
 |some _=>cases u with
  |none=>exact(show False from r).elim|some _=>rfl
theorem qe.getD{o:Option V}{u:Option j_}{d:V}{d':j_}(r:qe o u)(I:Hh d d'):Hh (o.getD d) (u.getD d'):=by
 cases o with
 |none=>cases u with
  |none=>exact I|some _=>exact(show False from r).elim
 |some _=>cases u with
  |none=>exact(show False from r).elim|some _=>exact r
theorem KV.val{D':List (κ×V)}{vs:List (κ×j_)}(r:KV D' vs)(k:κ):qe (vK D' k) (KW vs k):=by
 unfold KV at r
 induction r with
 |nil=>exact GS|@cons p q ps I h t Y=>
  obtain⟨h1,h2⟩:=h;by_cases e:p.1=k
  ·have J:q.1=k:=h1.symm.trans e;have b:KW (q::I) k=a_ q.2:=by simp[KW,GN,J]
   rw[mM e,b];exact h2
  ·have J:¬q.1=k:=λz=>e (h1.trans z);have b:KW (q::I) k=KW I k:=by simp[KW,GN,J]
   rw[mO e,b];exact Y
theorem KV.any{D':List (κ×V)}{vs:List (κ×j_)}(r:KV D' vs)(k:κ):(D'.any λI=>q_ (I.1=k))=vs.any λI=>q_ (I.1=k):=by
 unfold KV at r
 induction r with
 |nil=>rfl|cons h t J=>rw[Ly,Ly,J,h.1]
theorem KV.repl{D':List (κ×V)}{vs:List (κ×j_)}(r:KV D' vs)(k:κ)(J:Hh y u):
  KV (D'.map λI=>if I.1=k then(I.1,y)else I) (vs.map λI=>if I.1=k then(I.1,u)else I):=by
 unfold KV at r ⊢
 induction r with
 |nil=>exact .nil|@cons p q ps a h t Y=>
  rw[C_,C_];refine .cons ?_ Y;obtain⟨h1,h2⟩:=h;by_cases e:p.1=k
  ·rw[g_ e,g_ (h1.symm.trans e)];exact⟨h1,J⟩
  ·rw[l_ e,l_ (λz=>e (h1.trans z))];exact⟨h1,h2⟩
theorem KV.put{D':List (κ×V)}{vs:List (κ×j_)}(r:KV D' vs)(k:κ)(I:Hh y u):KV (putK D' k y) (stored vs k u):=by
 unfold putK stored;rw[r.any k];by_cases e:(vs.any λJ=>q_ (J.1=k))=d_
 ·rw[g_ e,g_ e];exact r.repl k I
 ·rw[l_ e,l_ e];exact LO r ⟨rfl,I⟩
theorem KV.drop{D':List (κ×V)}{vs:List (κ×j_)}(r:KV D' vs)(k:κ):KV (dropK D' k) (without vs k):=by
 unfold KV at r ⊢;unfold dropK without
 induction r with
 |nil=>exact .nil|@cons p q ps Y h t I=>
  obtain⟨h1,h2⟩:=h;rw[Nf,Nf];by_cases e:p.1=k
  ·have a:¬q_ (p.1≠k)=d_:=by simp[e]
   have b:¬q_ (q.1≠k)=d_:=by simp[h1.symm.trans e]
   rw[l_ a,l_ b];exact I
  ·have J:¬q.1=k:=λz=>e (h1.trans z);have a:q_ (p.1≠k)=d_:=by simp[e]
   have b:q_ (q.1≠k)=d_:=by simp[J]
   rw[g_ a,g_ b];exact .cons ⟨h1,h2⟩ I
theorem KV.length{D':List (κ×V)}{vs:List (κ×j_)}(r:KV D' vs):D'.length=vs.length:=Jt r
end
theorem Em{k:Key}(r:Hh (kV k) u):(cV P w).is k u=d_:=by
 cases k with
 |inl i=>obtain⟨t,e⟩:=(show ∃t,u=Jg i t from r);subst e;exact zu P w i t
 |inr x=>obtain⟨t,e⟩:=(show ∃t,u=Ha x t from r);subst e;exact zt P w x t
theorem xx{P:GH}{w:GV}:∀{ks:List Key} {us:List j_},Hn (ks.map kV) us->ItemsAre (cV P w) ks us
 |[],_,r=>by rw[HI]at r;cases r;exact .nil|k::ks,_,r=>by
  rw[C_]at r;cases r with
  |cons h t=>exact .cons (Em h) (xx t)
abbrev KT(H:Hp):List (List Key×V)->List (List Key×i_×j_)->Prop:=I9 λp q=>p.1=q.1/\H q.2.1=a_ (.tup (p.1.map kV))/\Hh p.2 q.2.2
theorem KT.val{xs:List (List Key×i_×j_)}(r:KT H D' xs)(k:List Key):qe (vK D' k) ((J5 xs k).map (·.2)):=by
 induction r with
 |nil=>exact GS|@cons p q ps I h t Y=>
  obtain⟨h1,_,h2⟩:=h;by_cases e:p.1=k
  ·have J:q.1=k:=h1.symm.trans e;have b:J5 (q::I) k=a_ q.2:=by simp[J5,GN,J]
   rw[mM e,b];exact h2
  ·have J:¬q.1=k:=λz=>e (h1.trans z);have b:J5 (q::I) k=J5 I k:=by simp[J5,GN,J]
   rw[mO e,b];exact Y
theorem KT.repl{xs:List (List Key×i_×j_)}(r:KT H D' xs)(k:List Key)(J:Hh y u):
  KT H (D'.map λI=>if I.1=k then(I.1,y)else I) (xs.map (putAt k u)):=by
 induction r with
 |nil=>exact .nil|@cons p q ps b h t Y=>
  rw[C_,C_];refine .cons ?_ Y;obtain⟨h1,h2,a⟩:=h;unfold putAt;by_cases e:p.1=k
  ·rw[g_ e,g_ (h1.symm.trans e)];exact⟨h1,h2,J⟩
  ·rw[l_ e,l_ (λz=>e (h1.trans z))];exact⟨h1,h2,a⟩
theorem KT.put{xs:List (List Key×i_×j_)}(r:KT H D' xs)(k:List Key)(Y:H b=a_ (.tup (k.map kV)))(I:Hh y u):
  KT H (putK D' k y) (NS xs k b u):=by
 have e:(D'.any λJ=>q_ (J.1=k))=(J5 xs k).isSome:=by rw[pK,(r.val k).xA,IF]
 unfold putK NS;rw[e];by_cases q:(J5 xs k).isSome=d_
 ·rw[g_ q,g_ q];exact r.repl k I
 ·rw[l_ q,l_ q];exact LO r ⟨rfl,Y,I⟩
theorem KT.keeps{xs:List (List Key×i_×j_)}(r:KT H D' xs)(I:∀b ys,H b=a_ (.tup ys)->H' b=a_ (.tup ys)):KT H' D' xs:=
 Paired.mapP r λ_ _ z=>⟨z.1,I _ _ z.2.1,z.2.2⟩
theorem rd_of{u:HO}(I:HOk P w H h)(e:Rd H a u):cQ P w H h a u:=e.ok I
theorem ES{D':List (Key×V)}(I:HOk P w H h)(e:Rd H a (.dK D')):D'.length<=f_/\(a==GR)=b_/\∃vs,KV D' vs/\h.DictOf (cV P w) a vs:=
 show cQ P w H h a (.dK D')from rd_of I e
theorem dk_of{D':List (Key×V)}(I:HOk P w H h)(e:H a=a_ (.dK D')):D'.length<=f_/\(a==GR)=b_/\∃vs,KV D' vs/\h.DictOf (cV P w) a vs:=ES I (.inl e)
theorem AN{ks:List Key}(I:HOk P w H h)(e:H a=a_ (.tup (ks.map kV))):(JQ (cV P w)).is h ks a:=by
 obtain⟨_,F9,r,o,h1,h2,n,J⟩:=(show cQ P w H h a (.tup (ks.map kV))from I a _ e)
 exact⟨o,F9.toArray,n,h1,h2,J,by simpa using xx r⟩
theorem EL(Y:HOk P w H h)(e:Rd H a (.dT D')):D'.length<=f_/\(a==GR)=b_ /\
  ∃xs,KT H D' xs/\h.DictOfH (JQ (cV P w)) a xs:=by
 obtain⟨z,y,xs,r,o,es,ep,h1,h2,g,f,d⟩:=(show cQ P w H h a (.dT D')from rd_of Y e)
 refine⟨z,y,xs,r,o,es,ep,h1,h2,g,f,λx I=>?_,d⟩
 have J:∀{l:List (List Key×V)} {m:List (List Key×i_×j_)},KT H l m->∀x∈m,(JQ (cV P w)).is h x.1 x.2.1:=by
  intro l m q
  induction q with
  |nil=>intro x I;exact nomatch I
  |@cons p q ps i b t c=>
   intro x I;rcases x_.mp I with e|I
   ·subst e;exact AN Y (by rw[<- b.1];exact b.2.1)
   ·exact c x I
 exact J r x I
theorem dt_of(I:HOk P w H h)(e:H a=a_ (.dT D')):D'.length<=f_/\(a==GR)=b_ /\
  ∃xs,KT H D' xs/\h.DictOfH (JQ (cV P w)) a xs:=EL I (.inl e)
def yq(H:Hp)(a:i_)(y:V)(r:Option V):Prop:=
 (∃D' k,Rd H a (.dK D')/\y=kV k/\r=vK D' k)\/∃D' k b,Rd H a (.dT D')/\y=.ref b/\H b=a_ (.tup (k.map kV))/\r=vK D' k
def DPut(H:Hp)(a:i_)(y v:V)(H':Hp):Prop:=
 (∃D' k,H a=a_ (.dK D')/\y=kV k/\D'.length<f_/\H'=upd H a (.dK (putK D' k v))) \/
 ∃D' k b,H a=a_ (.dT D')/\y=.ref b/\H b=a_ (.tup (k.map kV))/\D'.length<f_/\H'=upd H a (.dT (putK D' k v))
theorem yq.k{H:Hp}{a:i_}{D':List (Key×V)}{k:Key}(e:H a=a_ (.dK D')):yq H a (kV k) (vK D' k):=.inl ⟨D',k,.inl e,rfl,rfl⟩
theorem yq.t{k:List Key}(e:H a=a_ (.dT D'))(I:H b=a_ (.tup (k.map kV))):yq H a (.ref b) (vK D' k):=.inr ⟨D',k,b,.inl e,rfl,I,rfl⟩
theorem DPut.t{k:List Key}(e:H a=a_ (.dT D'))(J:H b=a_ (.tup (k.map kV)))(I:D'.length<f_):
  DPut H a (.ref b) v (upd H a (.dT (putK D' k v))):=.inr ⟨D',k,b,e,rfl,J,I,rfl⟩
section
variable{r:j_}{o:Option V}{E:Mq}
theorem C'.big(I:C' X B' σ H s):GR<s.heap.objs.size:=by have h:Gj<s.heap.objs.size:=(I.mod.glob.keeps I.bk).lt;exact JO (by decide) h
theorem Fe{Q:Mq}(j:A.units+1<G5)(I:C' X B' σ H s)(g:yq H a y (a_ v))(i:Hh y u)(h:∀c s',C' X B' σ H s'->Hh v c->Q c s'):
  D_ (FE X.prog X.w) A (Kr (.ref a) u) Q E s:=by
 rcases g with⟨D',k,e,f,l⟩|⟨D',k,b,e,f,n,l⟩
 ·subst f;obtain⟨z,hd,vs,Y,dd⟩:=ES I.hok e;obtain⟨c,hw,J⟩:=qe.some_of (v:=v) (o:=KW vs k) (by rw[l];exact Y.val k);exact wpAny_getItem_of (Em i) dd.mapOf hw (h c _ (I.tok _) J)
 ·subst f;cases(show u=FF b from i);obtain⟨z,hd,xs,Y,dd⟩:=EL I.hok e;obtain⟨c,hw,J⟩:=qe.some_of (v:=v) (o:=(J5 xs k).map (·.2)) (by rw[l];exact Y.val k);obtain⟨p,m,d⟩:=Lw.mp hw;refine wpAny_getItem_heap (IP j) (AN I.hok n) dd m ?_;rw[d];exact h c _ (I.tok _) J
theorem zM{t':Nat}{J:HO}(I:C' X B' σ H s)(c:Mut (H a))(d:Jh a s.heap h')(f:∃q,h'.get? a=a_ q)(Y:cQ X.prog X.w (upd H a J) h' a J):
  C' X B' σ (upd H a J) {s with heap:=h',toks:=t'}:=
 I.write (x:=a) (e:=a) c (.inl rfl) (λb q g z=>(d.2 b g).trans z) f Y
theorem dk_new{D':List (Key×V)}{vs:List (Key×j_)}(z:D'.length<=f_)(hd:(a==GR)=b_)(I:KV D' vs)(dd:h'.DictOf (cV P w) a vs):
  cQ P w H' h' a (.dK D'):=⟨z,hd,vs,I,dd⟩
theorem Fc{Q:Unit->y_->Prop}(x:A.units+1<G5)(I:C' X B' σ H s)(g:DPut H a y v H')(o:Hh y u)(p:Hh v r)(h:∀s',C' X B' σ H' s'->Q () s'):
  D_ (FE X.prog X.w) A (NV (.ref a) u r) Q E s:=by
 rcases g with⟨D',k,e,m,l,n⟩|⟨D',k,b,e,m,w,l,n⟩
 ·subst m n;obtain⟨z,hd,vs,J,dd⟩:=dk_of I.hok e;have f:vs.length<=f_:=by rw[<- J.length];exact z
  have j:(putK D' k v).length<=f_:=by have:=mh D' k v;omega
  refine wpAny_setItem_pairs (hsz:=f) (Em o) dd λh' Y i=>h _ ?_;have B:∃q,h'.get? a=a_ q:=let ⟨q,_,_,d,_⟩:=Y;⟨q,d⟩;exact zM I (by rw[e];exact GS) i B (dk_new j hd (J.put k p) Y)
 ·subst m n;cases(show u=FF b from o);obtain⟨z,hd,xs,J,dd⟩:=dt_of I.hok e;have f:xs.length<=f_:=by rw[<- Jt J];exact z
  have j:(putK D' k v).length<=f_:=by have:=mh D' k v;omega
  refine Ny (hsz:=f) (IP x) (AN I.hok w) dd λh' Y i=>h _ ?_;obtain⟨q,es,ep,d,h2,F,D,_,C⟩:=Y;refine zM I (by rw[e];exact GS) i ⟨q,d⟩ ⟨j,hd,_,(J.put k w p).keeps λc ys t=>?_,q,es,ep,d,h2,F,D,C⟩;rw[aq (ne_of t e (λz=>nomatch z))];exact t
end
def NoSl(i:GO):Prop:=∀I J,Lo i b_ I J=operate [I,J] (Kr I J)
theorem subD_of{E:Mq}{I:GO}{id:String}{Q:Mq}(g:NB (.type T) "__getitem__"=GZ (a_ (.builtin id)))(f:NoSl I)(h:D_ (FE prog w) A (FR value env) (λo b=>D_ (FE prog w) A (FR I env) (λi J=>J.TypeIs o T/\D_ (FE prog w) A (Kr o i) Q E J) E b) E s):
  D_ (FE prog w) A (FR (.Subscript value I pos) env) Q E s:=by
 refine NI (Gx h (λo b d=>Gx d (λi J Y=>?_) λ_ _ x=>x) λ_ _ x=>x);obtain⟨e,Y⟩:=Y;unfold Mz;refine k_ ?_;rw[getitemInPython_of_ne e.not_modules];refine k_ (wpAny_specialOf e g ?_);have fin:D_ (FE prog w) A (Lo I b_ o i) (λr a=>D_ (FE prog w) A (letTemporaryGo value o r >>=λ_=>GZ r) Q E a) E J:=by rw[f o i];exact wpAny_operating (Gx Y (λr a c=>k_ (wpAny_letTemporaryGo (B_ c))) λ_ _ x=>x)
 first
  |exact B_ (k_ fin)
  |exact wpAny_bind (wpAny_pure (wpAny_bind fin))
  |exact wpAny_bind fin
theorem zK{o:Option V}(I:C' X B' σ H s)(g:yq H a y o):s.TypeIs (.ref a) "dict":=by
 rcases g with⟨D',k,e,_,_⟩|⟨D',k,b,e,_,_,_⟩
 ·obtain⟨_,_,vs,_,dd⟩:=ES I.hok e;exact dd.typeIs
 ·obtain⟨_,_,xs,_,dd⟩:=EL I.hok e;exact dd.typeIs
def tDGet(td ty:TE):TE:=λσ H Q=>td σ H λx H1=>ty σ H1 λy H2=>∃a v,x=.ref a/\yq H2 a y (a_ v)/\Q v H2
def sDPut(td ty tv:TE):TS:=λD σ H=>tv σ H λv H1=>td σ H1 λx H2=>ty σ H2 λy J=>∃a I,x=.ref a/\DPut J a y v I/\D.nx σ I
section
variable{i:GO}{ty:TE}
theorem ze(k:X.A.units+1<G5)(m:PE X o td)(hi:PE X i ty)(l:NoSl i):PE X (.Subscript o i pos) (tDGet td ty):=by intro B' s σ H Q I h;refine subD_of PySem.F.slot_dict_getitem.lookup l (HH (m B' s σ H _ I h) λu c Y=>?_);obtain⟨x,H1,p,e,j⟩:=Y;refine HH (hi B' c σ H1 _ p j) λw t Y=>?_;obtain⟨y,H2,b,d,a,v,ex,g,f⟩:=Y;subst ex;obtain rfl:u=FF a:=e;exact⟨zK b g,Fe k b g d λq r n J=>⟨v,H2,n,J,f⟩⟩
theorem ps_dput(l:X.A.units+1<G5)(n:PE X o td)(hi:PE X i ty)(hv:PE X value tv)(m:G0 value (a_ (.Subscript o i pos')) pos.line X.env=GZ b_):
  PS X (.Assign [.Subscript o i pos'] value pos) (sDPut td ty tv):=by
 intro B' s σ H D I h;refine MT (HH (hv B' s σ H _ I h) λr b J=>?_) m;obtain⟨v,H1,w,e,k⟩:=J;refine HH (n B' b σ H1 _ w k) λu Y J=>?_;obtain⟨x,H2,t,d,j⟩:=J;refine HH (hi B' Y σ H2 _ t j) λC B J=>?_;obtain⟨y,E,q,c,a,z,ex,g,f⟩:=J;subst ex;obtain rfl:u=FF a:=d;exact Fc l q g c e λA p=>⟨σ,z,p,f⟩
end
theorem dk_empty(h:Gv)(I:GR<h.objs.size):cQ P w H (h.push {cls:=.type "dict",data:=.dict #[]}) h.objs.size (.dK []):=
 ⟨G7 _,Hj.mpr (FZ (Ga I)),[],.nil,Heap.DictOf.new h⟩
theorem dt_empty(h:Gv)(I:GR<h.objs.size):cQ P w H (h.push {cls:=.type "dict",data:=.dict #[]}) h.objs.size (.dT []):=
 ⟨G7 _,Hj.mpr (FZ (Ga I)),[],.nil,_,#[],0,FK _ rfl,⟨rfl,rfl,rfl⟩,rfl,rfl,JT⟩
def Ah:TE:=λ_ H Q=>∀p,H p=c_->Q (.ref p) (upd H p (.dT []))
theorem uM:PE X (.Dict [] [] pos) Ah:=λB' s σ H Q I h=>Oe ⟨.ref s.heap.objs.size,_,I.laid (a:=s.heap.objs.size) (o:=.dT []) (t':=s.toks) (λ_ _ q=>r_ _ q) (v_ _) (dt_empty s.heap I.big),rfl,h _ (I.hok.fresh (v_ _))⟩
def D6:List (TE×TE)->St->Hp->(List (V×V)->Hp->Prop)->Prop
 |[],_,H,Q=>Q [] H|(tk,tv)::r,σ,H,Q=>tk σ H λx H1=>tv σ H1 λy H2=>D6 r σ H2 λps I=>Q ((x,y)::ps) I
abbrev VV:List (V×V)->List (j_×j_)->Prop:=I9 λp q=>Hh p.1 q.1/\Hh p.2 q.2
def PPs(X:Cx)(pos:Np)(J:List (Option GO))(I:List GO)(trs:List (TE×TE)):Prop:=
 ∀(B':Vp) (s:y_) (σ:St) (H:Hp) (Q:List (V×V)->Hp->Prop),C' X B' σ H s->D6 trs σ H Q ->
  D_ (FE X.prog X.w) X.A (evalPairs (pairTrees J I X.env pos)) (λvs s'=>∃ps H',C' X B' σ H' s'/\VV ps vs/\Q ps H') X.xe s
theorem pps_nil:PPs X pos [] [] []:=λB' s σ H Q I h=>pairTrees_nil_walk ⟨[],H,I,.nil,h⟩
theorem AD{k v:GO}{ks:List (Option GO)}{vs:List GO}{tk:TE}(i:PE X k tk)(hv:PE X v tv)(g:PPs X pos ks vs trs):
  PPs X pos (a_ k::ks) (v::vs) ((tk,tv)::trs):=λB' s σ H Q I h=>
 pairTrees_cons_walk (HH (i B' s σ H _ I h) λu a ⟨x,H1,m,c,f⟩=>HH (hv B' a σ H1 _ m f) λw2 Y ⟨y,H2,l,b,e⟩=>HH (g B' Y σ H2 _ l e) λws o ⟨ps,n,j,J,d⟩=>⟨(x,y)::ps,n,j,.cons ⟨c,b⟩ J,d⟩)
def oP(D' I:List (Key×V)):List (Key×V):=I.foldl (λJ Y=>putK J Y.1 Y.2) D'
theorem KV.merge:∀{I:List (Key×V)} {rs:List (Key×j_)} {D':List (Key×V)} {vs:List (Key×j_)},KV I rs->KV D' vs->KV (oP D' I) (merged vs rs):=by
 intro I rs D' vs r;unfold KV at r
 induction r generalizing D' vs with
 |nil=>intro q;exact q|@cons p q ps a h t Y=>
  intro J;have e:KV (putK D' p.1 p.2) (stored vs q.1 q.2):=by have:=J.put p.1 h.2;rw[<- h.1];exact this
  exact Y e
theorem nq:∀(I D':List (Key×V)),(oP D' I).length<=D'.length+I.length
 |[],D'=>by show D'.length<=D'.length+0;omega|p::r,D'=>by have h1:=nq r (putK D' p.1 p.2);have h2:=mh D' p.1 p.2;show(oP (putK D' p.1 p.2) r).length<=_;rw[FV];omega
theorem uc{P:GH}{w:GV}:∀{D':List (Key×V)} {ws:List (j_×j_)},VV (D'.map λI=>(kV I.1,I.2)) ws->∃rs,Carries (cV P w) ws rs/\KV D' rs
 |[],_,r=>by rw[HI]at r;cases r;exact⟨[],GS,.nil⟩|p::D',_,r=>by
  rw[C_]at r;cases r with
  |@cons a b as bs h t=>obtain⟨rs,c,q⟩:=uc (P:=P) (w:=w) t;obtain⟨b1,b2⟩:=b;exact⟨(p.1,b2)::rs,⟨Em h.1,rfl,c⟩,.cons ⟨rfl,h.2⟩ q⟩
def tDisp(trs:List (TE×TE)):TE:=λσ H Q=>∀p,H p=c_->D6 trs σ (upd H p (.dK [])) λps H2=>H2 p=a_ (.dK [])/\∃D':List (Key×V),ps=D'.map (λI=>(kV I.1,I.2))/\D'.length<=15/\Q (.ref p) (upd H2 p (.dK (oP [] D')))
theorem pe_disp{J:List (Option GO)}{Y:List GO}(h:PPs X pos J Y trs)(b:J.all (·.isSome)=d_)(v:J.length=Y.length)(y:J≠[])(g:J.length<=15):PE X (.Dict J Y pos) (tDisp trs):=by
 intro B' s σ H Q I q;have u:=I.hok.fresh (v_ s.heap.objs.size);have A:=I.laid (a:=s.heap.objs.size) (o:=.dK []) (h':=s.heap.push {cls:=.type "dict",data:=.dict #[]}) (t':=s.toks) (λ_ _ q=>r_ _ q) (v_ _) (dk_empty s.heap I.big);refine wpAny_Dict_walk (knd:=cV X.prog X.w) b v y g (HH (h B' _ σ _ _ A (q _ u)) λws B t=>?_);obtain⟨ps,H2,i,f,e,D',ep,C,m⟩:=t;subst ep;obtain⟨rs,c,k⟩:=uc (P:=X.prog) (w:=X.w) f;obtain⟨z,hd,j,l,dd⟩:=dk_of i.hok e;cases l;refine⟨rs,c,dd,λh' d p=>⟨.ref s.heap.objs.size,_,?_,rfl,m⟩⟩
 have n:(oP [] D').length<=f_:=by have h1:=nq D' [];rw[KR]at h1;rw[FO];omega
 have x:∃q,h'.get? s.heap.objs.size=a_ q:=let ⟨q,_,_,r,_⟩:=d;⟨q,r⟩;exact zM i (by rw[e];exact GS) p x (dk_new n hd (k.merge .nil) d)
structure M2(X:Cx)(o:GO)(m:p_)(apos:Np)(e f:GO)(cpos:Np):Prop where
 base:GQ o m X.env (FR o X.env)=FR o X.env
 few:((Gh cpos (h_ [e,f] X.env)).all (λx=> !x.1)&&(Ho cpos (GJ [] X.env)).all (λx=>x.1.isSome)
  &&q_ (([e,f]:List GO).length+([]:List Hk).length+(if ([]:List Hk).isEmpty then 0 else 1)<30))=d_
 line:(apos.endLine==cpos.line)=d_
 trees:Gh cpos (h_ [e,f] X.env)=[(b_,FR e X.env),(b_,FR f X.env)]
def IsD(H:Hp)(a:i_):Prop:=(∃D',Rd H a (.dK D'))\/∃D',Rd H a (.dT D')
theorem isD_at(I:C' X B' σ H s)(d:IsD H a):
  s.TypeIs (.ref a) "dict"/\(∀b,FF a=.ref b->∃J,s.heap.get? b=a_ J/\J.dict=c_)/\(a==GR)=b_:=by
 rcases d with⟨D',e⟩|⟨D',e⟩
 ·obtain⟨_,hd,vs,_,dd⟩:=ES I.hok e;refine⟨dd.typeIs,λb q=>?_,hd⟩
  cases q;obtain⟨J,_,_,h1,h2,_⟩:=dd;exact⟨J,h1,h2.2.1⟩
 ·obtain⟨_,hd,xs,_,dd⟩:=EL I.hok e;refine⟨dd.typeIs,λb q=>?_,hd⟩
  cases q;obtain⟨J,_,_,h1,h2,_⟩:=dd;exact⟨J,h1,h2.2.1⟩
section
variable{d:V}{r:j_}{o:Option V}{E:Mq}
theorem d_get2{Q:Mq}(j:A.units+1<G5)(I:C' X B' σ H s)(g:yq H a y o)(f:Hh y u)(i:Hh d r)(h:∀c s',C' X B' σ H s'->Hh (o.getD d) c->Q c s'):
  D_ (FE X.prog X.w) A (Ja (.builtin "dict.get") [.ref a,u,r]) Q E s:=by
 rcases g with⟨D',k,e,Y,l⟩|⟨D',k,b,e,Y,m,l⟩
 ·subst Y;obtain⟨z,hd,vs,J,dd⟩:=ES I.hok e;refine MX Ia dd.typeIs JB (Jx _ _ _) (meets_dict_get_default (cV X.prog X.w) a (Em f) hd r) ⟨_,dd.mapOf,h _ _ (I.tok _) ?_⟩;rw[l];exact(J.val k).getD i
 ·subst Y;cases(show u=FF b from f);obtain⟨z,hd,xs,J,dd⟩:=EL I.hok e;refine MX Ia dd.typeIs JB (Jx _ _ _) (MF (JQ (cV X.prog X.w)) a b hd r) ⟨IP j,k,xs,AN I.hok m,dd,h _ _ (I.tok _) ?_⟩;rw[l];exact(J.val k).getD i
end
def tDGet2(td ty tx:TE):TE:=λσ H Q=>td σ H λx H1=>∃a,x=.ref a/\IsD H1 a/\ty σ H1 λy H2=>tx σ H2 λz I=>∃o,yq I a y o/\Q (o.getD z) I
section
variable{f:GO}{ty tx:TE}
theorem pe_dget2(q:X.A.units+1<G5)(t:PE X o td)(w:PE X e ty)(v:PE X f tx)(m:M2 X o "get" apos e f cpos):PE X (.Call (.Attribute o "get" apos) [e,f] [] cpos) (tDGet2 td ty tx):=by
 intro B' s σ H Q I h;refine NP m.base m.few m.line K8 Ia Lr (HH (t B' s σ H _ I h) λu c r=>?_);obtain⟨x,H1,Y,k,a,ex,d,p⟩:=r;subst ex;obtain rfl:u=FF a:=k;obtain⟨t1,t2,_⟩:=isD_at Y d;refine⟨t1,t2,?_⟩
 rw[m.trees];refine JF rfl (JS (HW (HH (w B' c σ H1 _ Y p) λL b ⟨y,H2,C,j,n⟩=>HW (HH (v B' b σ H2 _ C n) λN G ⟨z,D,B,i,K,g,l⟩=>Ju ?_))))
 exact d_get2 q B g j i λE F A J=>⟨_,D,A,J,l⟩
end
noncomputable def keysI(ks:List Int):List (Key×V):=ks.map λk=>(J0 k,.bl d_)
structure RepK(K:Pn)(F0 H0 FB:Hp)(i:Nat)(a:i_)(ks:List Int)(F H:Hp)(σ:St)(ρ:ah):Prop where
 r:Rep K F0 H0 FB [] F H σ ρ
 sl:σ[i]?=a_ (a_ (.ref a))
 hp:H a=a_ (.dK (keysI ks))
 fa:F a=c_
 ha:H0 a=c_
section
variable{ks:List Int} 
theorem RepK.step(h:RepK K F0 H0 FB i a ks F H σ ρ)(s:C6 F H F1 H1):RepK K F0 H0 FB i a ks F1 H1 σ ρ:=
 ⟨h.r.step s,h.sl,s.hh _ _ h.hp,s.stays h.fa h.hp,h.ha⟩
end
structure ExA(h:Gv)(e:i_)(C:j_)(dx hd:Option i_):Prop where
 ob:∃oe vs,h.get? e=a_ oe/\oe.cls=C/\oe.dict=dx/\oe.data=.fields vs/\vs[1]?=a_ (hd.elim Ip FF)
 tb:∀T,hd=a_ T->T≠e/\∃oT ts,h.get? T=a_ oT/\oT.data=.fields ts/\ts[3]?=a_ .none
theorem dictMapF(f:Array j_->Array j_)(o:JJ):(o.mapFields f).dict=o.dict:=by obtain⟨c,d,I,J⟩:=o;cases I<;>rfl
theorem size3{l:List j_}(h:3<l.length):3<l.toArray.size:=by rw[A_];exact h
section
variable{M:KA}{E:Mq} 
theorem mkEntry{Y I:j_}{pl:List j_}{Q:Mq}(J:IsPlace pl)(h:∀(o:JJ) (ts:Array j_),o.data=.fields ts->3<ts.size->o.isFreed=b_->Q (.ref s.heap.objs.size) {s with heap:=s.heap.push o}):
  D_ M A (JL hv Y .none I .none pl) Q E s:=by
 unfold JL newFields;refine KU (h _ _ rfl (size3 ?_) ?_) (J.sizeOk5 _ _ _ _ _)
 ·simp
 ·exact IV rfl
structure Left(fs:List i_)(e:i_)(hd:Option i_)(h h':Gv):Prop where
 keep:∀b o,h.get? b=a_ o->b∉fs->b≠e->(∀T,hd=a_ T->b≠T)->h'.get? b=a_ o
 slot:∀b o,h.get? b=a_ o->b∈fs->∃sl,h'.get? b=a_ {o with slots:=sl}
 size:h.objs.size<=h'.objs.size
theorem entry_at{base:Gv}{e:i_}{C:j_}{vs:Array j_}{Q:Unit->y_->Prop}(l:A.frames=a_ (env::outer))(B:s.heap.FunFrames base (env::outer))(P:env.frame=a_ L)(D:s.heap.get? e=a_ oe)(R:oe.cls=C)(p:oe.dict=dx)(hd:oe.data=.fields vs)(j:1<vs.size)(h:∀h' T,ExA h' e C dx (a_ T)->s.heap.objs.size<=T->Left (frs (env::outer)) e c_ s.heap h'->Q () {s with heap:=h'}):
  D_ M A (frameOf env >>=λa=>entryPlaceOf L bn >>=λpl=>JL hv a .none (KJ L) .none pl >>=λb=>setField (.ref e) 1 b) (λ_ s'=>D_ M A (Kp (.ref e) c_) Q E s') E s:=by
 have c:∀b o,b∈frs (env::outer)->s.heap.get? b=a_ o->∀vs,o.data≠.fields vs:=λb o k q=>by obtain⟨_,o',J,n⟩:=B.mem k;rw[q]at J;cases J;exact n
 have Y:e∉frs (env::outer):=λk=>c e oe k D vs hd;refine k_ (wpAny_frameOf_fun l B P λh1 K=>?_);obtain⟨w,v,H⟩:=K;refine k_ (wpAny_entryPlaceOf λpl O=>?_);refine k_ (mkEntry O λo ts y F m=>?_);have e1:h1.get? e=a_ oe:=by rw[v e Y];exact D
 have i:h1.objs.size≠e:=λz=>FJ (A1 e1) (by rw[z];exact GP _);have e2:(h1.push o).get? e=a_ oe:=r_ o e1;have t2:(h1.push o).get? h1.objs.size=a_ o:=FK h1 m;refine Kh e2 hd j ?_;have u:=Km hd (·.setIfInBounds 1 (FF h1.objs.size));have e3:=Ih (h:=h1.push o) (Kd (·.setIfInBounds 1 (FF h1.objs.size))) e2 (IV u);have t3:((h1.push o).update e (Kd (·.setIfInBounds 1 (FF h1.objs.size)))).get? h1.objs.size=a_ o:=by rw[Gd _ _ (FZ i)];exact t2
 unfold Kp;refine k_ (IQ e3 u (x:=.ref h1.objs.size) (by simp[j]) ?_);rw[g_ (by simp)];refine Kh t3 y F ?_;have G:=Km y (·.setIfInBounds 3 ((c_:Option i_).elim Ip λf=>KJ f));refine h _ h1.objs.size ⟨⟨_,_,by rw[Gd _ _ i];exact e3,by rw[Obj.cls_mapFields];exact R,by rw[dictMapF];exact p,u,by simp[j]⟩,λT S=>?_⟩ (by rw[w];exact v_ _) ⟨λb o' q t r _=>?_,λb o' q t=>?_,?_⟩
 ·cases S;exact⟨i,_,_,Ih _ t3 (IV G),G,by simp[F]⟩
 ·have I:h1.get? b=a_ o':=by rw[v b t];exact q
  have g:h1.objs.size≠b:=λz=>FJ (A1 I) (by rw[z];exact GP _);rw[Gd _ _ g,Gd _ _ (FZ r)];exact r_ o I
 ·obtain⟨N,I⟩:=H b o' q;have g:h1.objs.size≠b:=λz=>FJ (A1 I) (by rw[z];exact GP _);have d:e≠b:=λz=>Y (z▸t);refine⟨N,?_⟩
  rw[Gd _ _ g,Gd _ _ d];exact r_ o I
 ·rw[IW,IW,G2,w];exact Gk _
theorem leave2{base:Gv}{e:i_}{C:j_}{hd:Option i_}{Q:Unit->y_->Prop}(i:A.frames=a_ (env::outer))(p:s.heap.FunFrames base (env::outer))(r:env.frame=a_ L)(x:ExA s.heap e C dx hd)(h:∀h' T,ExA h' e C dx (a_ T)->s.heap.objs.size<=T->Left (frs (env::outer)) e hd s.heap h'->Q () {s with heap:=h'}):D_ M A (ME (.ref e) env) (λ_ s'=>D_ M A (Kp (.ref e) c_) Q E s') E s:=by
 obtain⟨oe,vs,k,B,j,J,h1⟩:=x.ob;have y:1<vs.size:=(Jm.mp h1).1;unfold ME;simp only[r];cases hd with
 |none=>refine k_ (IQ k J h1 ?_);rw[l_ (by decide)];exact entry_at i p r k B j J y λh' T a b c=>h h' T a b c
 |some T=>
  obtain⟨l,G,ts,v,Y,D⟩:=x.tb T rfl;have m:3<ts.size:=(Jm.mp D).1;refine k_ (IQ k J h1 ?_);rw[g_ (by simp)];refine k_ (IQ (x:=.none) v Y D ?_);rw[l_ (by simp[KJ])];refine k_ (Kh v Y m ?_);have I:∀b,b≠T->(s.heap.update T (Kd (·.setIfInBounds 3 Ip))).get? b=s.heap.get? b:=λb d=>Gd _ _ (FZ d);have w:∀b o,s.heap.get? b=a_ o->(∀vs,o.data≠.fields vs)->b≠T:=λb o q n z=>by subst z;rw[v]at q;cases q;exact n ts Y
  refine entry_at i (p.of_keeps λb o q n=>⟨o,by rw[I b (w b o q n)];exact q,rfl⟩) r (by rw[I e (FZ l)];exact k) B j J y λh' F a b c=>?_;refine h h' F a (by rw[IW]at b;exact b) ⟨λf o q d t u=>c.keep f o (by rw[I f (u T rfl)];exact q) d t (λ_ z=>nomatch z),λf o q d=>?_,?_⟩
  ·obtain⟨_,o',g,n⟩:=p.mem d;rw[q]at g;cases g;exact c.slot f o (by rw[I f (w f o q n)];exact q) d
  ·have:=c.size;rw[IW]at this;exact this
theorem leave_at{base:Gv}{e:i_}{C:j_}{hd:Option i_}{Q:Unit->y_->Prop}(I:A.frames=a_ (env::outer))(J:s.heap.FunFrames base (env::outer))(Y:env.frame=a_ L)(x:ExA s.heap e C dx hd)(h:∀h' T,ExA h' e C dx (a_ T)->s.heap.objs.size<=T->Left (frs (env::outer)) e hd s.heap h'->Q () {s with heap:=h'}):D_ M A (NX env (.ref e)) Q E s:=by unfold NX;exact k_ (leave2 I J Y x h)
end
structure CXs(P:GH)(w:GV)(outer:List Ll)(H:Hp)(s:y_)(E:XK)(a T:i_)(C:j_)(dx:Option i_)(H':Hp)(s':y_):Prop where
 ex:ExA s'.heap a C dx (a_ T)
 na:s.heap.get? a=c_
 nT:s.heap.get? T=c_
 fa:H' a=c_
 fT:H' T=c_
 os:s'.os=s.os
 bare:JM s'.gens
 un:Un (frs outer) [] H H' s.heap s'.heap
 hok:HOk P w H' s'.heap
 want:E C dx H'
def CXd(P:GH)(w:GV):CXT:=λouter H s E e s'=>∃(a T:i_) (C:j_) (dx:Option i_) (H':Hp),e=.ref a/\CXs P w outer H s E a T C dx H' s'
theorem get_none(z:h.objs.size<=a):h.get? a=c_:=by
 cases e:h.get? a with
 |none=>rfl|some o=>exact FJ (A1 e) (Lm.mpr z)
theorem C'.A7(I:C' X B' σ H s)(J:X.ex=[])(e:s.heap.get? a=c_):X.s₀.heap.get? a=c_:=by
 cases q:X.s₀.heap.get? a with
 |none=>rfl|some o=>obtain⟨o',z⟩:=I.base.there a o q (by rw[J];exact λz=>nomatch z);rw[e]at z;cases z
theorem cQ.is{o:HO}(x:cQ P w H h a o):∃u,h.get? a=a_ u:=by
 cases o with
 |lst xs=>obtain⟨_,_,_,_,e⟩:=x;exact⟨_,e⟩
 |tup xs=>obtain⟨_,_,_,I,e,_⟩:=x;exact⟨_,e⟩
 |dK D'=>obtain⟨_,_,_,_,o,_,_,e,_⟩:=x;exact⟨_,e⟩
 |dT D'=>obtain⟨_,_,_,_,o,_,_,e,_⟩:=x;exact⟨_,e⟩
 |set S n=>obtain⟨o,_,_,_,e,_⟩:=x;exact⟨_,e⟩
 |ins C dx fs=>obtain⟨_,_,_,e,_⟩:=x;exact⟨_,e⟩
 |own y=>exact x|xd fs=>obtain⟨_,⟨_,_,_,e,_⟩,_⟩:=x;exact⟨_,e⟩
 |rng lo hi=>obtain⟨_,_,_,e⟩:=x;exact⟨_,e⟩
 |frz I u=>obtain⟨e,_⟩:=x;exact⟨_,e⟩
 |tbl ps=>exact⟨_,show h.get? a=a_ _ from x⟩|met f y=>exact⟨_,show h.get? a=a_ _ from x⟩|ext J=>obtain⟨_,e,_⟩:=x;exact e
section
variable{base:Gv} 
theorem xe_of{s':y_}{C:j_}{hd:Option i_}(J:C' (zU (CXd P w) P w K mg base N qual scope f cd A outer s H E) B' σ H' s')(x:ExA s'.heap a C dx hd)(r:s.heap.get? a=c_)(F:∀T,hd=a_ T->s.heap.get? T=c_/\H' T=c_)(fa:H' a=c_)(q:E C dx H'):(zU (CXd P w) P w K mg base N qual scope f cd A outer s H E).xe (.ref a) s':=by
 have e0:=J.env0;have y:∀b∈frs (Ik qual scope s.heap.objs.size f cd::outer),H' b=c_:=e0.frf;have p:∀b o,s.heap.get? b=a_ o->b≠a/\(∀T,hd=a_ T->b≠T)/\b<s.heap.objs.size:=λb o e=>by have Y:=A1 e;exact⟨λz=>(by subst z;rw[e]at r;cases r),λT i z=>(by subst z;have:=(F _ i).1;rw[e]at this;cases this),Y⟩
 have j:∀b,b<s.heap.objs.size->b∈frs (Ik qual scope s.heap.objs.size f cd::outer)->b∈frs outer:=λb Y t=>by
  rcases HY.mp t with⟨v,hv,e⟩
  rcases x_.mp hv with z|z
  ·subst z;have:s.heap.objs.size=b:=by simpa[Ik] using e
   omega
  ·exact HY.mpr ⟨v,z,e⟩
 have d:∀b,b∈frs outer->b∈frs (Ik qual scope s.heap.objs.size f cd::outer):=λb t=>by
  rcases HY.mp t with⟨v,hv,e⟩
  exact HY.mpr ⟨v,FH _ hv,e⟩
 have I:Un (frs outer) [] H H' s.heap s'.heap:=J.base;show D_ (FE P w) (A.deeper (Ik qual scope s.heap.objs.size f cd)) (NX (Ik qual scope s.heap.objs.size f cd) (.ref a)) (λ_ g=>CXd P w outer H s E (.ref a) g) (λB g=>CXd P w outer H s E B g) s';refine leave_at (base:=base) e0.frames e0.xG rfl x λh' T Q i l=>⟨a,T,C,dx,H',rfl,Q,r,get_none (Gb (show s.heap.objs.size<=s'.heap.objs.size from J.sz) i),fa,?_,J.os,J.bare,?_,?_,q⟩
 ·exact J.hok.fresh i
 ·have D:∀b o,s.heap.get? b=a_ o->∀o',s'.heap.get? b=a_ o'->b∉frs outer->h'.get? b=a_ o':=λb o e o' B Y=>by
   obtain⟨O,L,G⟩:=p b o e;exact l.keep b o' B (λz=>Y (j b G z)) O L
  refine⟨λb o e n Y k=>D b o e o (I.keep b o e n Y k) Y,λb o e n Y k=>?_,I.free,λb o e k=>?_,I.tups,I.frzs,I.tbls⟩
  ·obtain⟨R,e1⟩:=I.slot b o e n Y k;obtain⟨m,e2⟩:=l.slot b _ e1 (d b Y);exact⟨m,e2⟩
  ·obtain⟨o',e1⟩:=I.there b o e k;by_cases Y:b∈frs outer
   ·obtain⟨R,e2⟩:=l.slot b o' e1 (d b Y);exact⟨_,e2⟩
   ·exact⟨o',D b o e o' e1 Y⟩
 ·intro b o e;refine(J.hok b o e).yE (λc u S e1=>?_) (λ_ z=>z) λ_ _ z=>z;have h:H' c≠c_:=by
   rcases S with z|z
   ·rw[z,e];exact λz=>nomatch z
   ·rw[z];exact λz=>nomatch z
  exact l.keep c u e1 (λz=>h (y c z)) (λz=>h (by rw[z];exact fa)) λT i z=>h (by rw[z];exact(F T i).2)
end
noncomputable def WE(K:Pn)(E:XK):eI where
 p:=λe F H=>match e with
  |.stuck=>False|.exc C fs=>∀F' H',C6 F H F' H'->match fs with
   |[]=>E (.ref C) c_ H'|fs=>∀d gs,F' d=a_ (.xd gs)->jt K F' fs gs->E (.ref C) (a_ d) H'
 mono:=λ{e F H F' H'} h s=>by
  cases e with
  |stuck=>exact h|exc C fs=>exact λF2 H2 I=>h F2 H2 (s.trans I)
 ns:=λh=>h
noncomputable def noX{α:Type}:M α->M α
 |.ok d=>.ok d|.error _=>.error .stuck
@[simp] theorem noX_ok{α:Type}(d:α):noX (.ok d:M α)=.ok d:=id rfl
noncomputable def fNoX(f:ah->M α):ah->M α:=λρ=>noX (f ρ)
section
variable{W:eI} 
theorem dss_lift{st:List GK}{g:ah->M H9}(h:DSs K J3 ro X.nox OL O O' st g):DSs K W ro X OL O O' st (fNoX g):=λF0 H0=>PSs.imp (PSs.nox (h F0 H0)) λD σ H ⟨FB,F,ρ,r,p⟩=>by
 refine⟨FB,F,ρ,r,?_⟩
 have p:gR K W ro F0 H0 FB OL O' D (noX (g ρ)):=p;unfold gR at p ⊢;cases e:g ρ with
 |ok fl=>rw[e]at p;cases fl<;>exact p
 |error x=>rw[e]at p;exact(W.ns p).elim
end
def spX(K:Pn)(ro:Bool)(g:List A'->M A')(n:Nat):Sp:=λvs H Q E=>∃F ds,aF F H/\az K F ds vs/\ds.length=n/\aJ K (WE K E) ro F H (g ds) Q
section
variable{base:Gv}
theorem fn_X{k:Nat}(F:Fun K x qual st f fd)(S:gE N ps (aE st))(ro:Bool)(g:ah->M H9)(m:∀(cdv:j_) (A:HE) (outer:List Ll) (s:y_) (H:Hp) (E:XK),iJ k (A.deeper (Ik qual (aE st) s.heap.objs.size f cdv)) ->
   DSs K (WE K E) ro (zU (CXd P w) P w K mg base N qual (aE st) f cdv A outer s H E) [] [] O' (bO st) g):iL P w K mg base (CXd P w) (k+1) f fd ps (spX K ro (bR N.length ps.length g) ps.length):=by
 obtain⟨oc,od,kV,doc,pm,an,cdv,ct,osl,rfl,Y,I⟩:=F.ex;refine fn_of Y I S (λvs H Q E ⟨F,ds,s,q,l,p⟩=>by rw[q.length,l]) λA outer s H vs Q E b c=>?_;obtain⟨F1,ds,J,q,l,p⟩:=c;refine⟨_,m cdv A outer s H E b F1 H,F1,F1,ds.map a_++GY (N.length-ds.length) c_,?_,?_⟩
 ·refine⟨C6.refl J,aF.refl _,?_,λi d e _=>w9 q e,(λi d e h=>nomatch h),(λi j ds es a h=>nomatch h)⟩
  unfold start;rw[FG,FG,t_,t_,G_,G_,q.length]
 ·have e1:bR N.length ps.length g ds=(g (ds.map a_++GY (N.length-ds.length) c_)).bind λfl=>match fl with
   |.nx _=>.ok .non|.rt d=>.ok d|_=>stk:=by unfold bR;exact g_ l
  rw[e1]at p;cases e2:g (ds.map a_++GY (N.length-ds.length) c_)with
  |error z=>rw[e2]at p;exact p|ok fl=>
   rw[e2]at p;cases fl with
   |nx ρ=>exact λσ F H r=>p .non F H r.st (by cases ro<;>rfl)
   |rt d=>exact λv F H st q=>p v F H st q|bk ρ=>exact aJ.stuck p|ct ρ=>exact aJ.stuck p
end
section
variable{C:j_}{hd:Option i_}
structure Apart(X:Cx)(B':Vp)(H:Hp)(s:y_)(a:i_)(hd:Option i_):Prop where
 na:X.s₀.heap.get? a=c_
 fa:H a=c_
 pa:∀p∈X.pn++B',p.1≠a
 nT:∀T,hd=a_ T->X.s₀.heap.get? T=c_/\H T=c_/\∀p∈X.pn++B',p.1≠T
theorem C'.left(I:C' X B' σ H s)(hx:X.ex=[])(x:ExA s.heap a C dx hd)(h:Apart X B' H s a hd)(d:Left (frs X.stack) a hd s.heap h'):C' X B' σ H {s with heap:=h'}:=by
 have e0:=I.env0;obtain⟨oe,vs,U,_,_,G,_⟩:=x.ob;have E:∀b o,s.heap.get? b=a_ o->(∀vs,o.data≠.fields vs)->b≠a/\∀T,hd=a_ T->b≠T:=λb o e n=>by
  refine⟨λz=>?_,λT g z=>?_⟩
  ·subst z;rw[U]at e;cases e;exact n vs G
  ·subst z;obtain⟨_,oT,ts,h1,h2,_⟩:=x.tb _ g;rw[h1]at e;cases e;exact n ts h2
 have D:∀b∈frs X.stack,H b=c_:=e0.frf;have B:∀b o,s.heap.get? b=a_ o->(∀vs,o.data≠.fields vs)->∃t,h'.get? b=a_ {o with slots:=t}:=λb o e n=>by
  obtain⟨k,j⟩:=E b o e n;by_cases Y:b∈frs X.stack
  ·exact d.slot b o e Y
  ·exact⟨o.slots,d.keep b o e Y k j⟩
 have w:∀b o,X.s₀.heap.get? b=a_ o->b≠a/\∀T,hd=a_ T->b≠T:=λb o e=>⟨λz=>(by subst z;rw[h.na]at e;cases e),λT g z=>(by subst z;rw[(h.nT _ g).1]at e;cases e)⟩
 have O:s.heap.UpToSlots h':=B;have y:X.s₀.heap.get? X.env.locals=c_:=get_none I.ok.above;have out:∀b,b≠X.env.locals->b∉X.fs->b∉frs X.stack:=λb h1 h2 Z=>by
  rcases x_.mp (I.tf b Z)with z|z
  ·exact h1 z
  ·exact h2 z
 have A:∀c v,s.heap.IsCell c v->h'.IsCell c v:=λc v ⟨o,h1,h2⟩=>by obtain⟨t,z⟩:=B c o h1 (λvs q=>by rw[h2]at q;cases q);exact⟨_,z,h2⟩
 refine⟨I.ok,I.os,I.bare,?_,?_,λx c e=>?_,I.free,I.freeC,λp F=>?_,?_,I.len⟩
 ·have L:∀b o,X.s₀.heap.get? b=a_ o->∀o',s.heap.get? b=a_ o'->∃t,h'.get? b=a_ {o' with slots:=t}:=λb o e o' N=>by
   obtain⟨k,j⟩:=w b o e;by_cases Y:b∈frs X.stack
   ·exact d.slot b o' N Y
   ·exact⟨o'.slots,d.keep b o' N Y k j⟩
  refine⟨λb o e n Y J=>?_,λb o e n Y J=>?_,I.base.free,λb o e J=>?_,I.base.tups,I.base.frzs,I.base.tbls⟩
  ·obtain⟨k,j⟩:=w b o e;exact d.keep b o (I.base.keep b o e n Y J) (out b (λz=>by rw[z,y]at e;cases e) Y) k j
  ·obtain⟨t,e1⟩:=I.base.slot b o e n Y J;obtain⟨l,e2⟩:=L b o e _ e1;exact⟨l,e2⟩
  ·obtain⟨o',e1⟩:=I.base.there b o e J;obtain⟨l,e2⟩:=L b o e _ e1;exact⟨_,e2⟩
 ·obtain⟨m,R,S⟩:=I.loc;refine⟨m,O.ns R,λi x v e1 e2 e3=>?_⟩
  obtain⟨u,r,Q⟩:=S i x v e1 e2 e3;refine⟨u,r,?_⟩
  rcases Q with z|⟨z,c,c1,c2⟩
  ·exact .inl z
  ·exact .inr ⟨z,c,c1,A c _ c2⟩
 ·obtain⟨v,z⟩:=I.cell x c e;exact⟨v,A c v z⟩
 ·obtain⟨p1,p2,p3,K,P⟩:=I.pin p F;exact⟨d.keep p.1 p.2 p1 (out p.1 p3 K) (h.pa p F) λT g=>(h.nT T g).2.2 p F,p2,p3,K,P⟩
 ·intro b o e;refine(I.hok b o e).yE (λc u W e1=>?_) (λ_ z=>z) λ_ _ z=>z;have f:H c≠c_:=by
   rcases W with z|z
   ·rw[z,e];exact λz=>nomatch z
   ·rw[z];exact λz=>nomatch z
  exact d.keep c u e1 (λz=>f (D c z)) (λz=>f (by rw[z];exact h.fa)) λT g z=>f (by rw[z];exact(h.nT T g).2.1)
end
def PEat(X:Cx)(B':Vp)(σ:St)(e:GO)(t:TE):Prop:=∀(s:y_) (H:Hp) (Q:VK),C' X B' σ H s->t σ H Q->D_ (FE X.prog X.w) X.A (FR e X.env) (EP X B' σ Q) X.xe s
def PSat(X:Cx)(B':Vp)(σ:St)(st:GK)(t:TS):Prop:=∀(s:y_) (H:Hp) (D:Ends),C' X B' σ H s->t D σ H->D_ (FE X.prog X.w) X.A (exec st X.env) (SP X B' D) X.xe s
def PSsAt(X:Cx)(B':Vp)(σ:St)(st:List GK)(t:TS):Prop:=∀(s:y_) (H:Hp) (D:Ends),C' X B' σ H s->t D σ H->D_ (FE X.prog X.w) X.A (execs st X.env) (SP X B' D) X.xe s
def l7(CX:CXT)(X:Cx)(B':Vp)(σ:St)(E:XK):Prop:=∀(H:Hp) (s:y_) (e:j_) (s':y_),C' X B' σ H s->CX X.stack H s E e s'->X.xe e s'
section
variable{t:TS} 
theorem at_one(h:PSat X B' σ st t):PSsAt X B' σ [st] t:=λs H D I q=>by
 refine K_ (HH (h s H D I q) λf J z=>?_);cases f with
 |next=>exact II z|_=>exact z
theorem at_set(f:X.N.Nodup)(hi:X.N[i]?=a_ x)(a:Loc X.env.scope x)(d:PEat X B' σ e te)(b: ~~~(G0 e (a_ (.Name x pos')) pos.line X.env=GZ b_))(c:autoParam (X.fn x=d_\/X.env.scope.names.lookup x=a_ .local) Jq3):
  PSat X B' σ (.Assign [.Name x pos'] e pos) (oK te (bU i)):=λs H D I q=>
 NQ (HH (d s H _ I q) λv k ⟨y,H1,h,J,Y⟩=>mT h f hi a J (λj g=>⟨_,H1,g,Y⟩) c) b
end
section
variable{k:Nat}{ds:List j_}{t:TA}
theorem at_run(F:iL X.prog X.w X.K X.mg X.base CX k f fd ps sp)(b:iJ k X.A)(c:Binds X.K fd ps ds)(hd:Hn dvs ds)(a:l7 CX X B' σ E)(I:C' X B' σ H s)(r:Hn vs us)(h:sp (vs++dvs) H Q E):D_ (FE X.prog X.w) X.A (Ja (.ref f) us) (EP X B' σ Q) X.xe s:=by
 have Y:=r.append hd;refine JV (HK (F.run _ _ s H ⟨us,[]⟩ _ _ Q E b I.env0 (c s us I.kIn (Y.length.symm.trans (F.len _ _ _ _ h))) Y h) λz s' J=>?_);cases z with
 |error e=>exact a H s e s' I J|ok fl=>
  cases fl with
  |ret u=>exact I.after J|_=>exact GA J
theorem at_call(F:iL X.prog X.w X.K X.mg X.base CX k f fd ps sp)(c:l7 CX X B' σ E)(d:iJ k X.A)(g:X.mg x=a_ (.ref f))(h:H_ X.K (.ref f)=d_)(l:Binds X.K fd ps ds)(hd:Hn dvs ds)(m:PA X (e::es) t)(i: ~~~(Gl X x))(Y:((x==("__debug__":p_))=b_)⁻¹)(j: ~~~(h_ (e::es) X.env=(b_,FR e X.env)::h_ es X.env))(J: ~~~((Gh pos (h_ es X.env)).any (·.1)=b_)):
  PEat X B' σ (.Call (.Name x p) (e::es) [] pos) (hZ sp dvs E t):=λs H Q I q=>
 Hg (jF I i g (KL (h₀:=X.base) I.ok.mod.kin h (HH (m pos B' s σ H _ I q) λus n ⟨vs,H1,a,r,b⟩=>⟨a.kIn,at_run F d l hd c a r b⟩) j J) Y)
end
theorem C'.names{m:Ld}(I:C' X B' σ H s)(t:h'.Ns X.env.locals m)(Y:Jh X.env.locals s.heap h')(w:σ'.length=X.N.length)(hv:∀(i:Nat) (x:p_) (v:V),X.N[i]?=a_ x->σ'[i]?=a_ (a_ v)->Vis X.env.scope x->∃u,Hh v u/\Look X.env s.heap m x u):C' X B' σ' H {s with heap:=h'}:=by
 have J:∀b o,X.s₀.heap.get? b=a_ o->b≠X.env.locals:=λb o e z=>by subst z;exact FJ (A1 e) (Lm.mpr I.ok.above)
 have d:∀x c v,X.env.cells.lookup x=a_ c->s.heap.IsCell c v->h'.IsCell c v:=λx c v e z=>z.sameBut Y (I.cne x c e);refine⟨I.ok,I.os,I.bare,⟨λb o e n f a=>?_,λb o e n f a=>?_,I.base.free,λb o e a=>?_,I.base.tups,I.base.frzs,I.base.tbls⟩,⟨m,t,λi x v e1 e2 e3=>?_⟩,λx c e=>?_,I.free,I.freeC,λp q=>?_,λb o e=>?_,w⟩
 ·show h'.get? b=_;rw[Y.2 b (J b o e)];exact I.base.keep b o e n f a
 ·obtain⟨h,z⟩:=I.base.slot b o e n f a;refine⟨h,?_⟩
  show h'.get? b=_;rw[Y.2 b (J b o e)];exact z
 ·obtain⟨o',z⟩:=I.base.there b o e a;refine⟨o',?_⟩
  show h'.get? b=_;rw[Y.2 b (J b o e)];exact z
 ·obtain⟨u,r,l⟩:=hv i x v e1 e2 e3;refine⟨u,r,?_⟩
  rcases l with z|⟨z,c,g,B⟩
  ·exact .inl z
  ·exact .inr ⟨z,c,g,d x c _ g B⟩
 ·obtain⟨v,z⟩:=I.cell x c e;exact⟨v,d x c v e z⟩
 ·obtain⟨p1,p2,p3,k,j⟩:=I.pin p q;refine⟨?_,p2,p3,k,j⟩
  show h'.get? p.1=_;rw[Y.2 p.1 p3];exact p1
 ·refine(I.hok b o e).yE (λc u A e1=>?_) (λ_ z=>z) λ_ _ z=>z;show h'.get? c=_;rw[Y.2 c λz=>?_]
  ·exact e1
  ·rcases A with y|y
   ·rw[<- y,z,I.free]at e;cases e
   ·rw[z,I.free]at y;cases y
theorem vh{M:KA}{E:Mq}{Q:Unit->y_->Prop}(I:C' X B' σ H s)(l:X.N.Nodup)(hi:X.N[i]?=a_ x)(Y:X.env.scope.names.lookup x=a_ .local)(h:∀s',C' X B' (σ.set i c_) H s'->Q () s'):D_ M A (do bindName X.env x .none;Nj X.env x pos) Q E s:=by
 have b:(X.env.scope.kind==.class||(X.env.scope.kind==.module&&X.env.locals != X.env.globals))=b_:=by rw[I.ok.kind];rfl
 have a:i<σ.length:=by rw[I.len];exact(w_.mp hi).1
 refine k_ (wpAny_bindName (mT I l hi (.inl Y) (v:=.non) rfl (λC n=>?_) (.inr Y)));unfold Nj;refine wpAny_onRaise ?_;obtain⟨m,t,k⟩:=id n.loc;obtain⟨u,_,c⟩:=k i x .non hi (by rw[u_ a]) (.inl Y);have f:m x=a_ u:=by
  rcases c with z|⟨z,_⟩
  ·exact z.2
  ·have g:X.env.kindOf x=a_ .local:=Y;rw[g]at z;rcases z with z|z<;>cases z
 refine wpAny_unbindName_local Y t f b λh' B e q=>h _ (n.names e q (by rw[Cb];exact I.len) λj y v e1 e2 e3=>?_);have J:i≠j:=λz=>by subst z;rw[u_ a]at e2;cases e2
 rw[n_ J]at e2;obtain⟨w,r,c⟩:=k j y v e1 (by rw[n_ J];exact e2) e3;refine⟨w,r,?_⟩
 rcases c with⟨p,o⟩|z
 ·have d:y≠x:=λz=>J (uV l hi (z▸e1));exact .inl ⟨p,by simp[d,o]⟩
 ·exact .inr z
def yn(K:Pn)(C:i_)(bmB:List j_):Prop:=∀h:Gv,K.In h->∃tl N nm I bs hdct sn sub ab col dd k0 k1 k2 k3 k5 newId,h.get? C=a_ (Ki nm I C N bs tl hdct sn sub ab col dd k0 k1 k2 k3 k5 newId)/\N3 h bmB tl
noncomputable abbrev Cx.hand(X:Cx)(a:i_)(oe:JJ):Cx:={X with A:=X.A.mark (a_ (.ref a)),calm:=b_,xe:=λ_ _=>False,pn:=(a,oe)::X.pn}
section
variable{T:i_}{C:j_} 
theorem C'.hand{vs:Array j_}(I:C' X B' σ H s)(Y:s.heap.get? a=a_ oe)(hd:oe.data=.fields vs)(b:X.s₀.heap.get? a=c_)(fa:H a=c_):C' (X.hand a oe) B' σ H s:=by
 have J:=I.ok;refine⟨⟨J.mod,J.kind,J.glob,J.blt,J.above,J.inj,J.has,J.cab,(λz=>nomatch z),J.frames,J.stk,J.exf,J.bs,J.bsz,J.noex,J.exfs,J.xG,J.frf⟩,I.os,I.bare,I.base,I.loc,I.cell,I.free,I.freeC,λp c=>?_,I.hok,I.len⟩
 rcases x_.mp (show p∈(a,oe)::(X.pn++B')from c)with z|z
 ·subst z;refine⟨Y,fa,λz=>?_,λd=>?_,λv z=>?_⟩
  ·obtain⟨m,⟨o,es,ep,h1,h2,_⟩,_⟩:=I.loc;have z:a=X.env.locals:=z;rw[<- z,Y]at h1;cases h1;rw[hd]at h2;cases h2
  ·obtain⟨_,o,h1,_⟩:=J.xG.mem d;have h1:X.s₀.heap.get? a=a_ o:=h1;rw[b]at h1;cases h1
  ·have z:oe.data=.cell v:=z;rw[hd]at z;cases z
 ·exact I.pin p z
theorem C'.A9(J:C' (X.hand a oe) B' σ H s)(I:X.Ok):C' X B' σ H s:=
 ⟨I,J.os,J.bare,J.base,J.loc,J.cell,J.free,J.freeC,λp Y=>J.pin p (FH _ Y),J.hok,J.len⟩
theorem Ez{M:KA}{E:Mq}{base:Gv}{l:List Ll}{Q:Unit->y_->Prop}(t:s.heap.FunFrames base l)(x:ExA s.heap a C dx (a_ T))(h:∀h',ExA h' a C dx (a_ T)->Left (frs l) a (a_ T) s.heap h'->h'.get? a=s.heap.get? a->Q () {s with heap:=h'}):D_ M A (Kp (.ref a) c_) Q E s:=by
 obtain⟨o,vs,p,u,i,d,h1⟩:=x.ob;obtain⟨g,w,ts,m,J,v⟩:=x.tb T rfl;have Y:3<ts.size:=(Jm.mp v).1;unfold Kp;refine k_ (IQ p d (x:=.ref T) h1 ?_);rw[g_ (by simp)];refine Kh m J Y ?_;have I:∀b,b≠T->(s.heap.update T (Kd (·.setIfInBounds 3 ((c_:Option i_).elim Ip λf=>KJ f)))).get? b=s.heap.get? b:=λb e=>Gd _ _ (FZ e);have r:=Km J (·.setIfInBounds 3 ((c_:Option i_).elim Ip λf=>KJ f));refine h _ ⟨⟨o,vs,by rw[I a (FZ g)];exact p,u,i,d,h1⟩,λB k=>?_⟩ ⟨λb o' q _ _ e=>by rw[I b (e T rfl)];exact q,λb o' q e=>?_,?_⟩ (I a (FZ g))
 ·cases k;exact⟨g,_,_,Ih _ m (IV r),r,by simp[Y]⟩
 ·obtain⟨_,y,c,n⟩:=t.mem e;have j:b≠T:=λz=>by
   subst z;rw[m]at c;cases c;exact n ts J
  exact⟨o'.slots,by rw[I b j];exact q⟩
 ·rw[IW];exact v_ _
end
noncomputable def Ends.less(D:Ends)(i:Nat):Ends:={nx:=λσ H=>D.nx (σ.set i c_) H,rt:=D.rt,bk:=λσ H=>D.bk (σ.set i c_) H,ct:=λσ H=>D.ct (σ.set i c_) H}
section
variable{T:i_}{c n:p_}{ts:TS}{D:Ends} 
theorem Fu(I:C' X B' σ H s)(x:ExA s.heap a (.ref C) dx (a_ T))(m:Apart X B' H s a (a_ T))(p:X.ex=[])(P:yn X.K C bmB)(Q:bmB.contains (.type "BaseException")=d_)(O:Gl X c)(L:X.mg c=a_ (.ref C))(k:X.N.Nodup)(hi:X.N[i]?=a_ n)(h:X.env.scope.names.lookup n=a_ .local)(K:∀oe:JJ,oe.cls=.ref C->oe.dict=dx->(∃vs,oe.data=.fields vs)->PSs (X.hand a oe) (b₀::suite) ts)(q:ts (D.less i) (σ.set i (a_ (.ref a))) H)(A:((c==("__debug__":p_))=b_)⁻¹):
  D_ (FE X.prog X.w) X.A (handleBy (.ref a) X.env [.ExceptHandler (a_ (.Name c np)) (a_ n) (b₀::suite) pos]) (SP X B' D) X.xe s:=by
 obtain⟨oe,vs,w,j,y,b,h1⟩:=x.ob;have J:=I.hand w b m.na m.fa;refine wpAny_handleBy_cons (codeAny_handlers_test (jF (X:=X.hand a oe) J O L ?_ A)) (by intro z;cases z);obtain⟨tl,N,nm,qn,bs,hdct,sn,sub,ab,col,dd,k0,k1,k2,k3,k5,newId,F,E⟩:=P _ I.kIn;have e0:=I.env0;obtain⟨hh,gg,d,tk,os⟩:=s;refine wpAny_excMatches_sub_self F w j (E.hasType Q) (codeAny_handlers_suite_as ?_);refine Ez (base:=X.base) (l:=X.stack) e0.xG x λh' W G ea=>?_;have U:=I.left p x m G;have t:h'.get? a=a_ oe:=by rw[ea];exact w
 have S:=U.hand t b m.na m.fa;refine mT (X:=X.hand a oe) S k hi (.inl h) (v:=.ref a) rfl (λB R=>?_) (.inr h);refine Gx (K oe j y ⟨vs,b⟩ B' B _ H (D.less i) R q) (λf Z z=>?_) λ_ _ z=>z.elim;cases f with
 |next=>obtain⟨σ',H',e,Y⟩:=z;exact vh (e.A9 I.ok) k hi h λo g=>⟨_,H',g,Y⟩
 |brk=>obtain⟨σ',H',e,Y⟩:=z;exact vh (e.A9 I.ok) k hi h λo g=>⟨_,H',g,Y⟩
 |cont=>obtain⟨σ',H',e,Y⟩:=z;exact vh (e.A9 I.ok) k hi h λo g=>⟨_,H',g,Y⟩
 |ret u=>obtain⟨v,σ',H',e,r,Y⟩:=z;exact vh (e.A9 I.ok) k hi h λo g=>⟨v,_,H',g,r,Y⟩
end
def EH(i:Nat)(C:i_)(ts:i_->Option i_->TS)(D:Ends)(σ:St):XK:=λI dx H'=>I=.ref C/\∀a,H' a=c_->ts a dx (D.less i) (σ.set i (a_ (.ref a))) H'
def tTry(tb:XK->TS)(i:Nat)(C:i_)(ts:i_->Option i_->TS):TS:=λD σ H=>tb (EH i C ts D σ) D σ H
section
variable{c n:p_}{tb:XK->TS} 
theorem ps_try(Q:∀(B':Vp) (σ:St) (E:XK) (B:Mq),l7 (CXd X.prog X.w) (X.vR B) B' σ E->PSsAt (X.vR B) B' σ body (tb E))(L:∀(a:i_) (oe:JJ),oe.cls=.ref C->(∃vs,oe.data=.fields vs)->PSs (X.hand a oe) (b₀::suite) (ts a oe.dict))(S:yn X.K C bmB)(U:bmB.contains (.type "BaseException")=d_)(N:X.mg c=a_ (.ref C))(R:X.N.Nodup)(hi: ~~~(X.N[i]?=a_ n))(O: ~~~(X.env.scope.names.lookup n=a_ .local))(P: ~~~(Gl X c))(Y: ~~~(X.ex=[]))(d: ~~~(X.stack=X.env::X.outer))(u: ~~~(X.env.frame=a_ X.env.locals))(v:((c==("__debug__":p_))=b_)⁻¹):
  PS X (.Try body [.ExceptHandler (a_ (.Name c np)) (a_ n) (b₀::suite) hpos] [] [] pos) (tTry tb i C ts):=by
 intro B' s σ H D I h;refine wpAny_Try_except (HH (Q B' σ (EH i C ts D σ) (λe k=>D_ (FE X.prog X.w) X.A (ME e X.env) (λ_ j=>D_ (FE X.prog X.w) X.A (Kp e c_) (λ_ g=>D_ (FE X.prog X.w) X.A (handleBy e X.env [.ExceptHandler (a_ (.Name c np)) (a_ n) (b₀::suite) hpos]) (SP X B' D) X.xe g) X.xe j) X.xe k) ?_ s H D (I.vR _) h) λf F z=>?_)
 ·rintro H1 F e s' A ⟨a,T,Cv,dx,H',rfl,z⟩;have r:=A.lr;obtain⟨rfl,q⟩:=z.want;have J:C' X B' σ H' s':=r.call' z.os z.un z.hok z.bare (λ_ h=>nomatch h);have l:∀b,F.heap.get? b=c_->∀p∈X.pn++B',p.1≠b:=λb e p t w=>by
   have:=(r.pin p t).1;rw[w,e]at this;cases this
  have o:Apart X B' H' s' a (a_ T):=⟨r.A7 Y z.na,z.fa,l a z.na,λT' m=>by cases m;exact⟨r.A7 Y z.nT,z.fT,l T z.nT⟩⟩
  have e0:=J.env0;have f1:=e0.frames;have f2:=e0.xG;rw[d]at f1 f2;refine leave2 (base:=X.base) f1 f2 u z.ex λh' Z K m G=>?_;rw[<- d]at G;have I2:=J.left Y z.ex o G;have y:Apart X B' H' {s' with heap:=h'} a (a_ Z):=⟨o.na,o.fa,o.pa,λT' x=>by
   cases x;refine⟨get_none (Gb J.sz m),J.hok.fresh m,λp t w=>?_⟩
   have:=A1 (J.pin p t).1;rw[w]at this;exact FJ this (Lm.mpr m)⟩
  exact Fu I2 K y Y S U P N R hi O (λoe h1 h2 W=>by rw[<- h2];exact L a oe h1 W) (q a z.fa) v
 ·have z:=SP.lr z;cases f with
  |next=>exact II z|_=>exact z
end
section
open PySem.W
variable{E:Mq}{g:Array GenState}{d:Drawn}{t:Nat}{od:Option JJ}{K:NF} 
theorem xcls_by{Q:Mq}(FB:JK B bmB)(J:K.In h)(I:HV h a oe C od)(e1:FQ K (.ref C) "__getattribute__"=a_ (a_ (.builtin "BaseException.__getattribute__")))(e3:FQ K (.ref C) "__getattr__"=a_ c_)(b:∀R:M1->y_->Prop,R (.ok (.ret (.ref C))) ⟨h,g,d,t,os⟩->IZ (FE prog w) A (.call (.builtin "BaseException.__getattribute__") ⟨[.ref a,.str "__class__" tk],[]⟩) R ⟨h,g,d,t,os⟩)(q:Q (.ref C) ⟨h,g,d,t,os⟩):
  D_ (FE prog w) A (Oh (.ref a) (.str "__class__" tk) b_) Q E ⟨h,g,d,t,os⟩:=by
 have Y:=I.type (M:=FE prog w);have m1:=IA (M:=FE prog w) J e1;have c:=IA (M:=FE prog w) J e3;have b3:=FB.ga.bind (.ref a);have e:(IU "BaseException.__getattribute__"==IU "object.__getattribute__")=b_:=by decide +kernel
 unfold Oh
 repeat (any_goals (first|assumption|with_reducible refine Y.at ?_|with_reducible refine m1.at ?_|with_reducible refine c.at ?_|wp_step))
 all_goals (refine b _ ?_)
 repeat (any_goals (first|wp_step|assumption))
theorem sY{M:KA}{J:j_}{Q:Unit->y_->Prop}(c:K.In h)(I:HV h a oe C od)(i:HZ K C (.type "BaseException")=a_ d_)(f:Q () ⟨h,g,d,t,os⟩):
  D_ M A (Le "BaseException.__getattribute__" ⟨[.ref a,J],[]⟩) Q E ⟨h,g,d,t,os⟩:=by
 have b:builtinKind "BaseException.__getattribute__"=a_ .slot:=by decide +kernel
 have e:splitId "BaseException.__getattribute__"=a_ ("BaseException","__getattribute__"):=by decide +kernel
 have Y:=I.type (M:=M);have m1:=looks_mroIn (M:=M) c i;have j:=F.args_bexc_ga (.ref a) J;simp only[Le,e,b];refine k_ ?_;unfold NC
 repeat (first|with_reducible refine Y.at ?_|with_reducible refine m1.at ?_|wp_step)
 exact f
theorem Bg{Q:Fin->y_->Prop}(J:K.In h)(I:HV h a oe C od)(e2:FQ K (.ref C) "__class__"=a_ (a_ (.builtin "object.__class__")))(b:HZ K C (.type "object")=a_ d_)(i:Q (.done (.ret (.ref C))) ⟨h,g,d,t,os⟩):
  D_ (FE prog w) A (Builtin.«object.__getattribute__» ⟨[.ref a,.str "__class__" tk],[]⟩) Q E ⟨h,g,d,t,os⟩:=by
 have tc:Shared.TypeIs ⟨h,g,d,t,os⟩ (.builtin "object.__class__") "getset_descriptor":=MN;have Y:=I.type (M:=FE prog w);have m1:=IA (M:=FE prog w) J e2;have f:=MN;have e:=F.slot_gs_get.lookup;have c:=F.slot_gs_set.lookup
 repeat (any_goals (first|assumption|with_reducible refine Y.at ?_|with_reducible refine m1.at ?_|wp_step))
 refine W.class_get (s:=⟨h,g,d,t,os⟩) J I b ?_
 repeat (any_goals (first|wp_step|assumption))
theorem CM{Q:Option j_->y_->Prop}(FB:JK B bmB)(J:K.In h)(I:HV h a oe C od)(e1:FQ K (.ref C) "__getattribute__"=a_ (a_ (.builtin "BaseException.__getattribute__")))(e2:FQ K (.ref C) "__class__"=a_ (a_ (.builtin "object.__class__")))(e3:FQ K (.ref C) "__getattr__"=a_ c_)(c:HZ K C (.type "BaseException")=a_ d_)(b:HZ K C (.type "object")=a_ d_)(Y:Q (a_ (.ref C)) ⟨h,g,d,t+1,os⟩):D_ (FE prog w) A (getAttr? (.ref a) "__class__") Q E ⟨h,g,d,t,os⟩:=by unfold getAttr? getAttrBy?;refine k_ (wpAny_mkText (k_ (wpAny_attempt (xcls_by FB J I e1 e3 (λR e=>Iw FB.ga.plain N6 (sY J I c (Bg J I e2 b e))) ?_))));exact B_ Y
structure XIsi(K:NF)(C:i_):Prop where
 ga:FQ K (.ref C) "__getattribute__"=a_ (a_ (.builtin "BaseException.__getattribute__"))
 cl:FQ K (.ref C) "__class__"=a_ (a_ (.builtin "object.__class__"))
 gt:FQ K (.ref C) "__getattr__"=a_ c_
 bs:HZ K C (.type "BaseException")=a_ d_
 ob:HZ K C (.type "object")=a_ d_
 is:∃cd,Lh K C=a_ cd
theorem AM(FB:JK B bmB)(Z:XIsi K C):KitX K (.ref a) (.ref C) (λh=>HV h a oe C od) where
 ty:=λ_ _ _ I=>I.type
 it:=λ_ _ X _=>by
  obtain⟨cd,J⟩:=Z.is;unfold Lh at J;split at J
  ·next b=>intro l j E' s' k q;unfold isType loadHead;refine k_ (LV (k C _ (X C _ b)) ?_);exact B_ q
  ·cases J
 ne:=λhh c d1 is i f X Y=>by
  obtain⟨cd,J⟩:=Z.is;refine Bool.eq_false_iff.mpr (λq=>?_);have e:C=c:=Value.ref.inj (HC.mp q);subst e;unfold Lh at J;split at J
  ·next b=>cases(X C _ b).symm.trans Y
  ·cases J
 ca:=λ{_ _ _ _ _ s} X I k=>by obtain⟨h,g,d,t,os⟩:=s;exact CM FB X I Z.ga Z.cl Z.gt Z.bs Z.ob k
end
theorem Aw:∀{ys:List i_} {F9:List j_},Hn (ys.map V.ref) F9->F9=ys.map FF
 |[],_,.nil=>rfl|y::ys,_,.cons r rs=>by rw[Aw rs,show _=FF y from r];rfl
def tRefs(ys:List i_):TA:=λ_ H Q=>Q (ys.map V.ref) H
section
variable{D:i_}{y:p_}{ys:List i_} 
theorem pa_refs0:PA X [] (tRefs []):=aK
theorem lZ(Y:PA X es (tRefs ys))(b:X.mg y=a_ (.ref D))(a: ~~~(Gl X y))(hd:((y==("__debug__":p_))=b_)⁻¹)(J: ~~~(h_ (.Name y p::es) X.env=(b_,FR (.Name y p) X.env)::h_ es X.env)):PA X (.Name y p::es) (tRefs (D::ys)):=
 λps B' s σ H Q I h=>av (uL (v:=.ref D) a b rfl hd) Y J ps B' s σ H Q I h
end
def DEat(K:Pn)(E:XK)(own:Bool)(X:Cx)(B':Vp)(σ:St)(e:GO)(f:ah->M A'):Prop:=PEat X B' σ e (tD K (WE K E) own f)
def DSat(K:Pn)(E:XK)(ro:Bool)(X:Cx)(OL O O':List Nat)(B':Vp)(σ:St)(st:List GK)(g:ah->M H9):Prop:=∀F0 H0,PSsAt X B' σ st (tS K (WE K E) ro F0 H0 OL O O' g)
theorem PEat.imp{t u:TE}(h:PEat X B' σ e t)(k:∀H Q,u σ H Q->t σ H Q):PEat X B' σ e u:=λs H Q I q=>h s H Q I (k H Q q)
theorem PSat.imp{t u:TS}(h:PSat X B' σ st t)(k:∀D H,u D σ H->t D σ H):PSat X B' σ st u:=λs H D I q=>h s H D I (k D H q)
section
variable{fr:ah->M (List A')} 
theorem dea_call{k:Nat}{g:ah->M H9}(F:iL X.prog X.w X.K X.mg X.base CX k fad fd ps (spX K ro (bR nN n g) n))(f:l7 CX X B' σ E)(i:iJ k X.A)(j:X.mg x=a_ (.ref fad))(l:H_ X.K (.ref fad)=d_)(o:Binds X.K fd ps [])(t:DA K (WE K E) X (e::es) fr)(m: ~~~(Gl X x))(a:((x==("__debug__":p_))=b_)⁻¹)(J: ~~~(h_ (e::es) X.env=(b_,FR e X.env)::h_ es X.env))(Y: ~~~((Gh pos (h_ es X.env)).any (·.1)=b_)):
  DEat K E ro X B' σ (.Call (.Name x p) (e::es) [] pos) (fL (bR nN n g) fr):=by
 refine PEat.imp (at_call F f i j l o .nil t m a J Y) λH Q h=>?_;obtain⟨F,ρ,r,s,p⟩:=rd_L h;refine⟨F,ρ,r,s,?_⟩
 cases e1:fr ρ with
 |error z=>rw[e1]at p;exact p|ok ds=>
  rw[e1]at p;intro vs F' H' st q;obtain⟨F1,I,c,d,z⟩:=p vs F' H' st q;show spX K ro (bR nN n g) n (vs++[]) H' Q E;rw[HF];by_cases b:I.length=n
  ·exact⟨F1,I,c,d,b,z⟩
  ·rw[uG b]at z;exact aJ.stuck z
end
section
variable{own:Bool}{f:ah->M A'} 
theorem dsa_set(a:X.N.Nodup)(h:DEat K E own X B' σ e f)(hi: ~~~(X.N[i]?=a_ x))(I:autoParam (Loc X.env.scope x) Jq6)(J: ~~~(G0 e (a_ (.Name x pos')) pos.line X.env=GZ b_))(Y:autoParam (X.fn x=d_\/X.env.scope.names.lookup x=a_ .local) Jq3):
  DSat K E ro X OL O (aft own i O) B' σ [.Assign [.Name x pos'] e pos] (bw O i f):=λF0 H0=>at_one (PSat.imp (at_set a hi I h J Y) λD H z=>yQ z)
end
theorem Rep.back{K:Pn}{F0 H0 F1 H1 FB F H:Hp}{O:List Nat}{σ:St}{ρ:ah}(r:Rep K F1 H1 FB O F H σ ρ)(s:C6 F0 H0 F1 H1):Rep K F0 H0 FB O F H σ ρ:=
 ⟨s.trans r.st,r.fb,r.len,r.fz,λi d e h=>let ⟨v,z,q⟩:=r.ow i d e h;⟨v,z,q.back s.hh⟩,r.ap⟩
noncomputable abbrev xArgs(vs:List j_):JJ:={cls:=.type "tuple",data:=.seq vs.toArray}
noncomputable abbrev CO(C t:i_):JJ:={cls:=.ref C,data:=.fields #[.ref t,.none,.none,.none,.bool b_,.none]}
abbrev ui(h:Gv)(C:i_)(vs:List j_):Gv:=(h.push (xArgs vs)).push (CO C h.objs.size)
section
variable{E:Mq} 
variable{g:Array GenState}{d:Drawn}{t:Nat} 
variable{q:p_}{N:i_}{bs:List j_}{k1:Option j_}{mN:Ld}{oI:JJ}
theorem qi{o:JJ}(e:h.get? b=a_ o):(ui h C us).get? b=a_ o:=r_ _ (r_ _ e)
theorem vO:(ui h C us).get? (h.objs.size+1)=a_ (CO C h.objs.size):=by
 have z:=FK (h.push (xArgs us)) (o:=CO C h.objs.size) rfl
 rwa [G2]at z
theorem x_type(F:JZ B newId initId bmB)(T:N3 h bmB tl)(I:h.get? C=a_ (Ki nm q C N bs tl hdct sn sub ab col dd k0 k1 k2 k3 k5 newId))(a:h.Ns N mN)(hi:mN "__init__"=a_ (.ref fI))(i:h.get? fI=a_ oI)(J:oI.cls=.type "function")(j:us.length<=f_){Q:Fin->y_->Prop}(z:D_ (FE prog w) A (Ja (.ref fI) (.ref (h.objs.size+1)::us)) (λr s'=>r=.none/\Q (.done (.ret (.ref (h.objs.size+1)))) s') E ⟨ui h C us,g,d,t,os⟩):
  D_ (FE prog w) A (Builtin.«type.__call__» ⟨.ref C::us,[]⟩) Q E ⟨h,g,d,t,os⟩:=by
 have k:∀b o,h.get? b=a_ o->(ui h C us).get? b=a_ o:=λb o e=>qi e;have Y:=k _ _ I;have f:(FF C::tl).contains (.ref C)=d_:=by simp
 have c:(ui h C us).get? (h.objs.size+1)=a_ (CO C h.objs.size):=vO
 repeat (first|with_reducible refine wpAny_madeBy_exc I ?_|with_reducible refine IY I ?_|wp_step)
 refine codeAny_call_builtin_code (Ke _ F.quiet) (wpAny_check_new_subT F T I (codeAny_exc_new_subT F T I ?_ j));show D_ _ _ _ _ _ (⟨ui h C us,g,d,t,os⟩:y_);unfold NC
 repeat (first|(with_reducible refine Nr Y ?_;rw[f])|with_reducible refine IY c ?_|wp_step)
 refine wpAny_typeLookup_tail Y (a.keeps k) (T.keeps k) F.mroIs F.init.lookup ?_;rw[hi];unfold bindSpecial;refine IH (k_ (k_ (wpAny_typeOf (T:="function") ⟨_,k _ _ i,J⟩ ?_)));rw[g_ (by decide)];refine B_ (k_ (HH z λr s' y=>?_));obtain⟨e,y⟩:=y;subst e
 wp_walk
 exact y
theorem x_call(F:JZ B newId initId bmB)(T:N3 h bmB tl)(I:h.get? C=a_ (Ki nm q C N bs tl hdct sn sub ab col dd k0 k1 k2 k3 k5 newId))(Y:h.Ns N mN)(hi:mN "__init__"=a_ (.ref fI))(a:h.get? fI=a_ oI)(J:oI.cls=.type "function")(b:us.length<=f_){Q:Mq}(z:D_ (FE prog w) (A.under (.builtin "type.__call__" ⟨.ref C::us,[]⟩)) (Ja (.ref fI) (.ref (h.objs.size+1)::us)) (λr s'=>r=.none/\Q (.ref (h.objs.size+1)) s') E ⟨ui h C us,g,d,t,os⟩):
  D_ (FE prog w) A (Ja (.ref C) us) Q E ⟨h,g,d,t,os⟩:=by
 have e:=tc_lookup;have c:=tc_bind (.ref C);have ty:(⟨h,g,d,t,os⟩:y_).TypeIs (.ref C) "type":=⟨_,I,rfl⟩
 refine JV (codeAny_of_tree ?_);show D_ _ _ (callAny (.ref C) _) _ _ _
 (repeat (any_goals (first|assumption|with_reducible refine IY I ?_|wp_step)));exact⟨rfl,codeAny_call_builtin_at (Ke _ (by decide +kernel)) entry_typeCall (wpAny_check_type_call_sub I (x_type F T I Y hi a J b z))⟩
end
theorem ns_some{N:i_}{m:Ld}{n:p_}{v:j_}(X:K.In h)(G:h.Ns N m)(e:Nn K N n=a_ (a_ v)):m n=a_ v:=by
 obtain⟨o,es,ep,J,g2,_,I⟩:=G;unfold Nn at e;cases q:K.lookup N with
 |none=>rw[q]at e;exact nomatch e
 |some b=>
  have z:=X _ _ q;rw[J]at z;cases z;obtain⟨c,d,Y,a⟩:=o;cases(show Y=.dict es ep from g2);rw[q]at e;dsimp only at e;cases f:es.toList.find? (·.key.isStr n)with
  |none=>rw[f]at e;dsimp only at e;split at e<;>cases e
  |some g=>rw[f]at e;cases e;rw[<- I];unfold nsFind findBy;rw[<- MD,f];rfl
noncomputable def Kzc:Data->Option ClassData
 |.cls c=>a_ c|_=>c_
theorem Kzd{d:Data}{c:ClassData}(h:Kzc d=a_ c):d=.cls c:=by cases d<;>cases h;rfl
def pe(K:Pn)(C:i_)(bmB:List j_)(newId:String)(f:i_):Bool:=(K.lookup C).any λo=>(Kzc o.data).any λc=>c.mro.head? ==a_ (.ref C)&&(o.cls==.type "type"&&(!c.hasDel&&(PySem.W.nsOkIn K c.ns&&(PySem.W.tailIn K bmB c.mro.tail&&(Nn K c.ns "__init__"==a_ (a_ (.ref f))&&(o.slots.toList.length==6&&o.slots.toList[4]?==a_ (a_ (.builtin newId))))))))
theorem Kz6{l:List α}{x:α}(h:l.length=6)(I:l[4]?=a_ x):∃a b c d e,l=[a,b,c,d,x,e]:=by obtain⟨k0,l,rfl⟩:=Gw (n:=5) h;obtain⟨k1,l,rfl⟩:=Gw (n:=4) (GX h);obtain⟨k2,l,rfl⟩:=Gw (n:=3) (GX (GX h));obtain⟨k3,l,rfl⟩:=Gw (n:=2) (GX (GX (GX h)));have b:=GX (GX (GX (GX h)));obtain⟨J,l,rfl⟩:=Gw (n:=1) b;obtain⟨k5,l,rfl⟩:=Gw (n:=0) (GX b);cases I;rw[List.eq_nil_of_length_eq_zero (GX (GX b))];exact⟨_,_,_,_,_,rfl⟩
theorem vm(X:K.In h)(q:pe K C bmB newId f=d_):
  ∃tl N nm Y bs hdct sn sub ab col dd k0 k1 k2 k3 k5 mN,h.get? C=a_ (Ki nm Y C N bs tl hdct sn sub ab col dd k0 k1 k2 k3 k5 newId)/\h.Ns N mN/\mN "__init__"=a_ (.ref f)/\N3 h bmB tl:=by
 obtain⟨⟨oc,dd,u,⟨l⟩⟩,d,q⟩:=(Mj _ _).mp q;obtain⟨⟨o,n,a,m,k,j,i,g,c,I,b⟩,e,q⟩:=(Mj _ _).mp q;cases Kzd e;simp only[o_,HC,Kv]at q;obtain⟨a1,rfl,rfl,J,t,s,r,p⟩:=q;obtain⟨tl,rfl⟩:=List.head?_eq_some_iff.mp a1;obtain⟨k0,k1,k2,k3,k5,rfl⟩:=Kz6 r p;exact⟨tl,m,o,k,n,j,i,g,c,I,dd,k0,k1,k2,k3,k5,_,X _ _ d,.of_isNs (L7 X J),ns_some X (.of_isNs (L7 X J)) s,PySem.W.tail_of_in X t⟩
theorem xnamed2(q:pe K C bmB newId f=d_):yn K C bmB:=λ_ X=>by obtain⟨tl,N,nm,I,bs,hdct,sn,sub,ab,col,dd,k0,k1,k2,k3,k5,mN,Y,b,a,J⟩:=vm X q;exact⟨tl,N,nm,I,bs,hdct,sn,sub,ab,col,dd,k0,k1,k2,k3,k5,newId,Y,J⟩
noncomputable def Ozi:j_->Bool
 |.ref _=>d_|_=>b_
def vT(l:List j_):Bool:=l.dropWhile Ozi==[.type "ValueError",.type "Exception",.type "BaseException",.type "object"]
theorem Ozj{P:List j_->Prop}(J:P [.type "ValueError",.type "Exception",.type "BaseException",.type "object"])(h1:∀a l,P l->P (.ref a::l)):∀l:List j_,vT l=d_->P l:=λl=>by
 induction l with
 |nil=>exact λe=>nomatch (HC.mp e:([]:List j_)=_)
 |cons v r I=>
  intro e;unfold vT at e;rw[List.dropWhile_cons]at e;cases v with
  |ref a=>exact h1 a r (I e)|_=>rw[show(_::r)=_ from HC.mp e];exact J
theorem ve_pass(I:j_){l:List j_}:vT l=d_->refuseLoop I "__setattr__" l=GZ ():=Ozj (P:=λl=>refuseLoop I "__setattr__" l=GZ ()) (PySem.F.store_ValueError.passes I) (λ_ _ h=>by rw[refuseLoop_ref];exact h) l
theorem ve_obj{l:List j_}:vT l=d_->l.contains (.type "object")=d_:=Ozj (P:=λl=>l.contains (.type "object")=d_) (by decide +kernel) (λ_ _ h=>by rw[MQ,h,LS]) l
structure Fv(K:Pn)(C:i_)(f:p_):Prop where
 sa:FQ K (.ref C) "__setattr__"
   =a_ (a_ (.builtin "object.__setattr__"))
 no:FQ K (.ref C) f=a_ c_
 cd:((Lh K C).any λcd=>vT cd.mro&&cd.hasDict)=d_
section
open PySem.W
variable{E:Mq}{od:Option JJ}{K:NF}{f:p_}{v:j_}
theorem x_open{R:M1->y_->Prop}(X:K.In s.heap)(I:HV s.heap a oe C od)(Z:Fv K C f)(z:∀b,D_ (FE prog w) A.in1 (M_ (.ref a) (.ref C) (.str f tk) f v b)
   (λc s'=>match c with|.done y=>R (.ok y) s'|.again g=>g.quiet=d_/\IZ (FE prog w) A g R s') (λe s'=>R (.error e) s') s):
  IZ (FE prog w) A (.call (.builtin "object.__setattr__") ⟨[.ref a,.str f tk,v],[]⟩) R s:=by
 have Y:=PySem.F.store_object;obtain⟨cd,d,J⟩:=LB Z.cd;rw[o_]at J;have i:cd.mro.isEmpty=b_:=by cases q:cd.mro with|nil=>rw[q]at J;cases J.1|cons _ _=>rfl
 have h:Looks (FE prog w) s.heap (NC (.ref a) (.type "object")) d_:=I.type.andThen (looks_mroIn X (by unfold HZ;rw[d,Option.bind_some,l_ (by rw[i];decide),ve_obj J.1]));refine Iw Y.slot.plain Y.entry (@check_slot (FE prog w) _ _ s "object.__setattr__" "object" "__setattr__" (.ref a) [.str f tk,v] [] _ Y.kind Y.split h (Y.args (.ref a) (.str f tk) v) ?_);rw[osa_eq,refuse_eq];have j:Looks (FE prog w) s.heap (mroOf (.ref C)) cd.mro:=(LA X d).andThen .now;refine k_ (k_ (I.type.here (k_ (j.here ?_))));rw[ve_pass _ J.1];exact B_ (k_ (I.type.here (k_ ((IA X Z.no).here (k_ (B_ (z _)))))))
theorem x_set1{vs:Array j_}{Q:Unit->y_->Prop}(X:K.In s.heap)(Z:Fv K C f)(J:s.heap.get? a=a_ ⟨.ref C,c_,.fields vs,#[]⟩)(z:∀h',h'.get? a=a_ ⟨.ref C,a_ s.heap.objs.size,.fields vs,#[]⟩->h'.Ns1 s.heap.objs.size (λy=>if y=f then a_ v else c_)->(∀b o,b≠a->s.heap.get? b=a_ o->h'.get? b=a_ o)->Q () {s with heap:=h',toks:=s.toks+2}):
  D_ (FE prog w) A (NW (.ref a) f v) Q E s:=by
 have I:HV s.heap a ⟨.ref C,c_,.fields vs,#[]⟩ C c_:=⟨J,rfl,rfl,trivial⟩
 refine N0 X I Z.sa (x_open (s:={s with toks:=s.toks+1}) X I Z λb=>?_);obtain⟨cd,h,g⟩:=LB Z.cd;rw[o_]at g;refine k_ (B_ (k_ (k_ (LV J (k_ (Mx (s:={s with toks:=s.toks+1}) (LA X h) ?_))))));rw[g.2];have c:a≠s.heap.objs.size:=Ga (A1 J);have h1:(s.heap.push GI).get? a=a_ ⟨.ref C,c_,.fields vs,#[]⟩:=r_ _ J;refine k_ (wpAny_alloc' (k_ (wpAny_update' h1 (B_ ?_))));have h2:((s.heap.push GI).update a λo=>{o with dict:=a_ s.heap.objs.size}).get? s.heap.objs.size=a_ GI:=by rw[Gd _ _ c];exact FK s.heap rfl
 have j:((s.heap.push GI).update a λo=>{o with dict:=a_ s.heap.objs.size}).get? a=a_ ⟨.ref C,a_ s.heap.objs.size,.fields vs,#[]⟩:=Ih _ h1 rfl;refine k_ (B_ (k_ (wpAny_nsSet1 (m:=λ_=>c_) (L_ ⟨GI,#[],_,h2,rfl,(λe J=>FJ J (by simp)),λ_=>rfl⟩) λh' d Y=>?_)));obtain⟨t,k,l,r,p,n⟩:=d.count (Mt f v Within.nil);refine k_ (Ob r (by rw[p];exact Og (Gb n (by rw[FV,KR,FO];omega))) (B_ ?_));exact z h' ((Y.2 a c).trans j) d λb o i q=>(Y.2 b (Ga (A1 q))).trans (by rw[Gd _ _ (FZ i)];exact r_ _ q)
end
section
open PySem.W
variable{E:Mq}{od:JJ}{K:NF}{f:p_}{v:j_} 
theorem Fv.hd(Z:Fv K C f):Ie K C=d_:=by obtain⟨cd,J,I⟩:=LB Z.cd;rw[o_]at I;unfold Ie;rw[J];exact I.2
theorem x_ga{Q:Fin->y_->Prop}(X:K.In s.heap)(I:HV s.heap a oe C (a_ od))(Y:Fv K C f)(b:Jq f od=a_ (a_ v))(q:Q (.done (.ret v)) s):
  D_ (FE prog w) A (Builtin.«object.__getattribute__» ⟨[.ref a,.str f tk],[]⟩) Q E s:=by
 have J:=I.type (M:=FE prog w);have m1:=looks_find (M:=FE prog w) X I (Nt Y.hd Y.no rfl b);unfold Builtin.«object.__getattribute__»;exact k_ (B_ (k_ (B_ (k_ (J.here (k_ (m1.here (B_ q))))))))
theorem x_get{ex:Bool}{Q:Mq}(FB:JK B bmB)(X:K.In s.heap)(I:HV s.heap a oe C (a_ od))(Z:XIsi K C)(Y:Fv K C f)(i:Jq f od=a_ (a_ v))(hh:Lf v=d_)(q:Q v {s with toks:=s.toks+1}):
  D_ (FE prog w) A (MW (.ref a) f ex) Q E s:=by
 obtain⟨h,g,d,t,os⟩:=s;have e:=I.type (M:=FE prog w);have m1:=IA (M:=FE prog w) X Z.ga;have c:=IA (M:=FE prog w) X Z.gt;have b3:=FB.ga.bind (.ref a);have k:(IU "BaseException.__getattribute__"==IU "object.__getattribute__")=b_:=by decide +kernel
 have J:∀{b:HE} (R:M1->y_->Prop),R (.ok (.ret v)) ⟨h,g,d,t+1,os⟩->IZ (FE prog w) b (.call (.builtin "BaseException.__getattribute__") ⟨[.ref a,.str f t],[]⟩) R ⟨h,g,d,t+1,os⟩:=λ{b} R j=>Iw FB.ga.plain N6 (sY X I Z.bs (x_ga (s:=⟨h,g,d,t+1,os⟩) X I Y i j))
 have ho:=handedOut_of hh;unfold MW Oh;refine k_ (wpAny_mkText ?_);repeat (any_goals (first|assumption|with_reducible refine e.at ?_|with_reducible refine m1.at ?_|with_reducible refine c.at ?_|wp_step))
 rw[show(ex&&onTheHeap (IU "BaseException.__getattribute__"))=b_ by rw[show onTheHeap (IU "BaseException.__getattribute__")=b_ from rfl,HL],l_ Gu]
 repeat (any_goals (first|wp_step|assumption))
 all_goals (refine J _ ?_)
 repeat (any_goals (first|wp_step|assumption))
 all_goals (first|(rw[ho];exact wpAny_pure q)|exact q)
end
noncomputable def XO(a C:i_)(dx:Option i_):HO:=.ext λh=>∃vs:Array j_,vs[1]?=a_ .none/\h.get? a=a_ ⟨.ref C,dx,.fields vs,#[]⟩
noncomputable def XD(d:i_)(fs:List (p_×V)):HO:=.ext λh=>∃mA,h.Ns1 d mA/\(∀f,qe (fs.lookup f) (mA f))/\Jd mA (fs.map (·.1))
section
variable{d:i_}{fs:List (p_×V)}
theorem xo_ok{vs:Array j_}(h1:vs[1]?=a_ .none)(e:h.get? a=a_ ⟨.ref C,dx,.fields vs,#[]⟩):cQ P w H h a (XO a C dx):=⟨⟨vs,h1,e⟩,⟨_,e⟩,λ_ _ ⟨vs,q,e⟩ k=>⟨vs,q,k _ e⟩⟩
theorem xd_ok{mA:Ld}(n:h.Ns1 d mA)(r:∀f,qe (fs.lookup f) (mA f))(wi:Jd mA (fs.map (·.1))):cQ P w H h d (XD d fs):=
 ⟨⟨mA,n,r,wi⟩,(let ⟨o,_,_,e,_⟩:=n;⟨o,e⟩),λ_ _ ⟨m,q,z⟩ k=>⟨m,q.at k,z⟩⟩
theorem xo_get(x:cQ P w H h a (XO a C dx)):∃vs:Array j_,vs[1]?=a_ .none/\h.get? a=a_ ⟨.ref C,dx,.fields vs,#[]⟩:=x.1
theorem xd_get(x:cQ P w H h d (XD d fs)):∃mA,h.Ns1 d mA/\(∀f,qe (fs.lookup f) (mA f))/\Jd mA (fs.map (·.1)):=x.1
end
theorem C'.turn{t':Nat}(I:C' X B' σ H s)(S:i_->Prop)(k:∀b o,¬S b->s.heap.get? b=a_ o->h'.get? b=a_ o)(J:∀b,¬S b->H' b=H b)(Y:∀b,S b->(∃f,H b=a_ (.ext f))\/s.heap.get? b=c_)(a:∀b o,S b->s.heap.get? b=a_ o->∃o',h'.get? b=a_ o')(g:∀b o,S b->H' b=a_ o->cQ X.prog X.w H' h' b o):
  C' X B' σ H' {s with heap:=h',toks:=t'}:=by
 have out:∀b u,H b=a_ u->(∀f,u≠.ext f)->¬S b:=λb u e n z=>by
  rcases Y b z with⟨f,q⟩|q
  ·rw[e]at q;cases q;exact n f rfl
  ·obtain⟨o,r⟩:=(I.hok b u e).is;rw[r]at q;cases q
 have d:∀b o,s.heap.get? b=a_ o->H b=c_->¬S b:=λb o e n z=>by
  rcases Y b z with⟨f,q⟩|q
  ·rw[n]at q;cases q
  ·rw[e]at q;cases q
 refine I.un ⟨λb o e n _ _=>k b o (d b o e n) e,λb o e n _ _=>⟨o.slots,k b o (d b o e n) e⟩,λb o e n _=>by rw[J b (d b o e n)];exact n,λb o e _=>?_,λb xs e=>?_,λb o u e=>?_,λb ps e=>?_⟩ λb u e=>?_
 ·by_cases z:S b
  ·exact a b o z e
  ·exact⟨o,k b o z e⟩
 ·rw[J b (out b _ e λ_ z=>nomatch z)];exact e
 ·rw[J b (out b _ e λ_ z=>nomatch z)];exact e
 ·exact⟨#[],by rw[J b (out b _ e λ_ z=>nomatch z),Array.append_empty];exact e⟩
 ·by_cases z:S b
  ·exact g b u z e
  ·rw[J b z]at e;refine(I.hok b u e).yE (λc v h q=>k c v ?_ q) (λc q=>?_) λc xs q=>?_
   ·rcases h with rfl|h
    ·exact z
    ·exact out c _ h λ_ z=>nomatch z
   ·rw[J c (out c _ q λ_ z=>nomatch z)];exact q
   ·rw[J c (out c _ q λ_ z=>nomatch z)];exact q
section
variable{E:Mq}{d:i_}{f:p_} 
theorem xset1_ok{Q:Unit->y_->Prop}(I:C' X B' σ H s)(e:H a=a_ (XO a C c_))(Z:Fv X.K C f)(i:Hh y u)(z:∀d s',H d=c_->d≠a->C' X B' σ (upd (upd H d (XD d [(f,y)])) a (XO a C (a_ d))) s'->Q () s'):D_ (FE X.prog X.w) A (NW (.ref a) f u) Q E s:=by
 obtain⟨vs,v1,m⟩:=xo_get (I.hok a _ e);have fr:=I.hok.fresh (v_ s.heap.objs.size);have h:s.heap.objs.size≠a:=λq=>by rw[q,e]at fr;cases fr
 refine x_set1 I.kIn Z m λh' e1 j k=>z s.heap.objs.size _ fr h ?_;refine I.turn (λb=>b=a\/b=s.heap.objs.size) (λb o c q=>k b o (λr=>c (.inl r)) q) (λb c=>by rw[aq λr=>c (.inl r),aq λr=>c (.inr r)]) (λb Y=>?_) (λb o Y q=>?_) λb o Y q=>?_
 ·rcases Y with rfl|rfl
  ·exact .inl ⟨_,e⟩
  ·exact .inr (get_none (v_ _))
 ·rcases Y with rfl|rfl
  ·exact⟨_,e1⟩
  ·rw[get_none (v_ _)]at q;cases q
 ·rcases Y with rfl|rfl
  ·rw[ao]at q;cases q;exact xo_ok v1 e1
  ·rw[aq h,ao]at q;cases q;refine xd_ok j (λg=>?_) λg l=>?_
   ·show qe (Gq g [(f,y)]) (if g=f then a_ u else c_);rw[z_];by_cases J:g=f
    ·rw[g_ J,show(g==f)=d_ from HC.mpr J];exact i
    ·rw[l_ J,show(g==f)=b_ from Hj.mpr J];trivial
   ·by_cases J:g=f
    ·exact x_.mpr (.inl J)
    ·exact FJ (show(if g=f then a_ u else c_)=c_ from l_ J) l
end
def sX1(C:i_)(ta tv:TE)(f:p_):TS:=λD σ H=>tv σ H λy H1=>ta σ H1 λx H2=>∃a,x=.ref a/\H2 a=a_ (XO a C c_)/\∀d,H2 d=c_->d≠a->D.nx σ (upd (upd H2 d (XD d [(f,y)])) a (XO a C (a_ d)))
section
variable{f:p_} 
theorem ps_x1(j:PE X o ta)(hv:PE X value tv)(Z:Fv X.K C f)(i: ~~~(G0 value (a_ (.Attribute o f pos')) pos.line X.env=GZ b_)):PS X (.Assign [.Attribute o f pos'] value pos) (sX1 C ta tv f):=by intro B' s σ H D I h;refine K6 (HH (hv B' s σ H _ I h) λu Y J=>?_) i;obtain⟨y,H1,m,b,q⟩:=J;refine HH (j B' Y σ H1 _ m q) λg p J=>?_;obtain⟨x,H2,l,c,a,ex,ea,e⟩:=J;subst ex;cases(show g=FF a from c);exact xset1_ok l ea Z b λd n h1 h2 k=>⟨σ,_,k,e d h1 h2⟩
end
theorem upd_low{d:i_}{x y z:HO}:upd (upd (upd H a x) d y) a z=upd (upd H d y) a z:=by
 funext b
 by_cases I:b=a
 ·subst I;rw[ao,ao]
 ·rw[aq I,aq I];by_cases hd:b=d
  ·subst hd;rw[ao,ao]
  ·rw[aq hd,aq hd,aq I]
theorem fn_at(X:K.In h)(e:L0 K (.ref f)=a_ (.type "function")):∃o,h.get? f=a_ o/\o.cls=.type "function":=by
 unfold L0 at e;cases q:K.lookup f with
 |none=>simp only[q]at e;cases e|some o=>simp only[q]at e;exact⟨o,X _ _ q,by simpa using e⟩
theorem yy{M:KA}{E:Mq}{q:p_}{N:i_}{bs:List j_}{k1:Option j_}{x:N2 j_}{Q:Flow->y_->Prop}(j:tl.contains (.type "BaseException")=d_)(hh:A.handled=c_)(z:D_ M A x (λv I=>∃e oe,v=.ref e/\I.heap.get? C=a_ (Ki nm q C N bs tl hdct sn sub ab col dd k0 k1 k2 k3 k5 newId)/\I.heap.get? e=a_ oe/\oe.cls=.ref C/\(∃vs,oe.data=.fields vs/\vs[1]?=a_ .none)/\E (.ref e) I) E s):
  D_ M A
    (raiseStmt env (a_ x) c_) Q E s:=by
 have k:(FF C::tl).contains (.type "BaseException")=d_:=by rw[MQ,j,LS]
 unfold raiseStmt;refine k_ (HH z λv I J=>?_);obtain⟨e,oe,rfl,b,h,a,⟨vs,hd,Y⟩,i⟩:=J;obtain⟨oc,c,f,osl⟩:=oe;dsimp only at a hd;subst a hd;obtain⟨l,g,d,tk,os⟩:=I;repeat (first|(with_reducible refine Nr b ?_;rw[k])|with_reducible refine IY h ?_|with_reducible refine IY b ?_|wp_step)
 rw[Y];refine B_ ?_;rw[l_ (by decide)];exact B_ (wpAny_raiseNew_none hh i)
def XEq2(X:Cx)(E:XK)(C:i_):Prop:=∀(B':Vp) (σ:St) (H:Hp) (s':y_) (a d:i_),C' X B' σ H s'->ExA s'.heap a (.ref C) (a_ d) c_->X.s₀.heap.get? a=c_->H a=c_->E (.ref C) (a_ d) H->X.xe (.ref a) s'
section
variable{base:Gv} 
theorem xeqD2:XEq2 (zU (CXd P w) P w K mg base N qual scope f cd A outer s H E) E C:=λ_ _ _ _ _ _ J x I fa q=>xe_of J x I (λT Y=>nomatch Y) fa q
end
def tFldX(i:Nat)(a d:i_)(f:p_):TE:=λσ H Q=>σ[i]?=a_ (a_ (.ref a))/\∃gs v,H d=a_ (.xd gs)/\gs.lookup f=a_ v/\Q v H
section
variable{d:i_}{n f:p_} 
theorem pe_xfld(FB:JK B bmB)(Z:XIsi X.K C)(Y:Fv X.K C f)(F:oe.cls=.ref C)(hd:∃vs,oe.data=.fields vs)(w:oe.dict=a_ d)(K: ~~~(X.N[i]?=a_ n))(hv:autoParam (Vis X.env.scope n) Jq4)(j:((n==("__debug__":p_))=b_)⁻¹)(g:((n==("__classdict__":p_))=b_)⁻¹)(G: ~~~(GQ (.Name n p1) f X.env (FR (.Name n p1) X.env)=FR (.Name n p1) X.env)):PE (X.hand a oe) (.Attribute (.Name n p1) f pos) (tFldX i a d f):=by
 intro B' s σ H Q I h;obtain⟨e1,gs,v,E,D,q⟩:=h;refine Ft (env:=(X.hand a oe).env) G (HH (pv (X:=X.hand a oe) i K hv j g B' s σ H (λx H1=>x=.ref a/\H1=H) I ⟨.ref a,e1,rfl,rfl⟩) λu k z=>?_);obtain⟨x,H1,b,m,ex,L⟩:=z;subst ex L;cases(show u=FF a from m);have p:=(b.pin (a,oe) (Gp ..)).1;obtain⟨mA,t,r⟩:=(show cQ X.prog X.w H1 k.heap d (.xd gs)from b.hok d _ E)
 obtain⟨od,A,c⟩:=xo t;obtain⟨N,y,l⟩:=qe.some_of (v:=v) (o:=mA f) (by rw[<- D];exact r f);obtain⟨vs,e⟩:=hd;have J:HV k.heap a oe C (a_ od):=⟨p,F,by unfold MY;rw[e],by rw[w];exact A⟩
 exact x_get FB b.kIn J Z Y (by rw[c,y]) (xB l) ⟨v,H1,b.tok _,l,q⟩
end
def qB(O:List Nat)(C:i_)(fb:ah->M H9)(fx:List (p_×A')->ah->M ah):ah->M H9:=λρ=>match fb (erase O ρ)with
 |.ok fl=>.ok fl|.error (.exc I (f::fs))=>if I=C then(fx (f::fs) ρ).bind λρ'=>.ok (.nx ρ')else .error .stuck
 |.error _=>.error .stuck
theorem xN{fb:ah->M H9}{fl:H9}(h:fb (erase O ρ)=.ok fl):qB O C fb fx ρ=.ok fl:=by unfold qB;rw[h]
theorem tV{fb:ah->M H9}{f:p_×A'}{fs:List (p_×A')}(h:fb (erase O ρ)=.error (.exc C (f::fs))):qB O C fb fx ρ=(fx (f::fs) ρ).bind λρ'=>.ok (.nx ρ'):=by unfold qB;rw[h];exact g_ rfl
section
variable{D:Ends}{fb:ah->M H9} 
theorem rs_tryF(Y:∀(a d:i_) (gs:List (p_×V)) (fs:List (p_×A')) (FB F H:Hp) (ρ:ah),Rep K F0 H0 FB O F H σ ρ->F d=a_ (.xd gs)->jt K F fs gs->gR K J3 ro F0 H0 FB OL O D ((fx fs ρ).bind λρ'=>.ok (.nx ρ'))->ts a (a_ d) (D.less i) (σ.set i (a_ (.ref a))) H)(t:tS K J3 ro F0 H0 OL O O (qB O C fb fx) D σ H):tTry (λE D σ H=>∃F1 H1,tS K (WE K E) ro F1 H1 OL [] O fb D σ H) i C ts D σ H:=by
 obtain⟨FB,F,ρ,r,p⟩:=t;have I:=r.jw;refine⟨F,H,FB,F,erase O ρ,⟨C6.refl r.st.fh,r.fb,I.len,λm d e _=>I.sl m d e,(λm d e h=>nomatch h),(λm n d1 d2 c h=>nomatch h)⟩,?_⟩
 cases e:fb (erase O ρ)with
 |ok fl=>
  rw[xN e]at p;cases fl with
  |nx ρ'=>exact λσ' F' H' r'=>p σ' F' H' (r'.back r.st)|rt d=>exact λv F' H' s' q=>p v F' H' (r.st.trans s') (q.back r.st.hh)|bk ρ'=>exact λσ' F' H' r'=>p σ' F' H' (r'.back r.st)|ct ρ'=>exact λσ' F' H' r'=>p σ' F' H' (r'.back r.st)
 |error x=>
  cases x with
  |stuck=>exact p.stuck (by unfold qB;rw[e])|exc g fs=>
   cases fs with
   |nil=>exact p.stuck (by unfold qB;rw[e])|cons f fs=>
    by_cases J:g=C
    ·subst J;rw[tV e]at p;exact λF' H' s' d gs hd b=>⟨rfl,λa _=>Y a d gs _ FB F' H' ρ (r.step s') hd b p⟩
    ·exact p.stuck (by unfold qB;rw[e];exact l_ J)
end
section
variable{c n:p_}{fb:ah->M H9} 
theorem ds_tryF(m:∀(B':Vp) (σ:St) (E:XK) (Y:Mq),l7 (CXd X.prog X.w) (X.vR Y) B' σ E->DSat K E ro (X.vR Y) OL [] O B' σ body fb)(g:∀(a:i_) (oe:JJ),oe.cls=.ref C->(∃vs,oe.data=.fields vs)->PSs (X.hand a oe) (b₀::suite) (ts a oe.dict))(o:∀(F0 H0:Hp) (D:Ends) (σ:St) (a d:i_) (gs:List (p_×V)) (fs:List (p_×A')) (FB F H:Hp) (ρ:ah),σ.length=X.N.length->Rep K F0 H0 FB O F H σ ρ->F d=a_ (.xd gs)->jt K F fs gs->gR K J3 ro F0 H0 FB OL O D ((fx fs ρ).bind λρ'=>.ok (.nx ρ'))->ts a (a_ d) (D.less i) (σ.set i (a_ (.ref a))) H)(u:yn X.K C bmB)(v:bmB.contains (.type "BaseException")=d_)(j:X.mg c=a_ (.ref C))(t:X.N.Nodup)(hi: ~~~(X.N[i]?=a_ n))(k: ~~~(X.env.scope.names.lookup n=a_ .local))(l: ~~~(Gl X c))(e: ~~~(X.ex=[]))(J: ~~~(X.stack=X.env::X.outer))(b: ~~~(X.env.frame=a_ X.env.locals))(f:((c==("__debug__":p_))=b_)⁻¹):
  DS K J3 ro X OL O O (.Try body [.ExceptHandler (a_ (.Name c np)) (a_ n) (b₀::suite) hpos] [] [] pos) (qB O C fb fx):=λF0 H0 B' s σ H D I z=>
 ps_try (tb:=λE D σ H=>∃F1 H1,tS K (WE K E) ro F1 H1 OL [] O fb D σ H) (λB' σ E Y h s H D I ⟨F1,H1,q⟩=>m B' σ E Y h F1 H1 s H D I q) g u v j t hi k l e J b f B' s σ H D I (rs_tryF (λa d gs fs FB F H ρ r h1 h2 p=>o F0 H0 D σ a d gs fs FB F H ρ I.len r h1 h2 p) z)
end
structure XMk(K:Pn)(mg:Ld)(x:p_)(C f:i_):Prop where
 mg:mg x=a_ (.ref C)
 ex:pe K C [.type "ValueError",.type "Exception",.type "BaseException",.type "object"] "ValueError.__new__" f=d_
 fn:L0 K (.ref f)=a_ (.type "function")
 kp:H_ K (.ref C)
   =d_
structure XTry(K:Pn)(mg:Ld)(x:p_)(C:i_):Prop where
 mg:mg x=a_ (.ref C)
 nm:yn K C [.type "ValueError",.type "Exception",.type "BaseException",.type "object"]
 isi:XIsi K C
def rIsi(K:Pn)(C a:i_)(R:Hp->Prop):List V->Hp->VK->Prop:=λxs H Q=>R H/\∃v b,xs=[.ref a,v] /\
  ((∃c,Hh v c/\(∀u,Hh v u->u=c)/\Gs K (.ref C) c=a_ b)\/∃(I:i_) (ys:List i_),v=.ref I/\H I=a_ (.tup (ys.map V.ref))/\kitAny K (.ref C) (ys.map FF)=a_ b)/\Q (.bl b) H
def XDk(d:i_):Hp->Prop:=λH=>∃gs,H d=a_ (.xd gs)
noncomputable def tIsiR(i:Nat)(a:i_)(R:Hp->Prop)(b:Bool):TE:=λσ H Q=>σ[i]?=a_ (a_ (.ref a))/\R H/\Q (.bl b) H
def tIsiTR(i:Nat)(a:i_)(R:Hp->Prop)(ys:List i_)(b:Bool):TE:=λσ H Q=>σ[i]?=a_ (a_ (.ref a))/\∀p,H p=c_->R (upd H p (.tup (ys.map V.ref)))/\Q (.bl b) (upd H p (.tup (ys.map V.ref)))
section
variable{d:i_} 
theorem Fq(FB:JK B bmB)(Z:XIsi X.K C)(O:oe.cls=.ref C)(hd:∃vs,oe.data=.fields vs)(G:oe.dict=a_ d):g7 (X.hand a oe) (.builtin "isinstance") (rIsi X.K C a (XDk d)):=by
 intro B' s σ H xs us Q I r h;obtain⟨⟨gs,N⟩,v,b,rfl,h1,q⟩:=h;obtain⟨u,w,rfl,A,f⟩:=r.two;cases(show u=FF a from A);have D:=(I.pin (a,oe) (Gp ..)).1;obtain⟨vs,k⟩:=hd;obtain⟨mA,⟨od,es,ep,L,j⟩,_⟩:=(show cQ X.prog X.w H s.heap d (.xd gs)from I.hok d _ N)
 have J:HV s.heap a oe C (a_ od):=⟨D,O,by unfold MY;rw[k],by rw[G];exact L⟩
 rcases h1 with⟨c,R,Y,e⟩|⟨g,ys,rfl,K,e⟩
 ·cases Y w f;exact HX (AM FB Z) I.kIn J e (λz=>nomatch z) λtk=>⟨.bl b,H,I.tok tk,rfl,q⟩
 ·cases(show w=FF g from f);obtain⟨_,F9,y,F,x,t⟩:=(show cQ X.prog X.w H s.heap g (.tup (ys.map V.ref))from I.hok g _ K)
  obtain⟨p,n,o⟩:=t;have P:F9=ys.map FF:=Aw y;subst P;obtain⟨oc,E,i,osl⟩:=F;have m:oc=Io "tuple":=p;have l:i=.seq (ys.map FF).toArray n:=o;subst m l;exact PySem.W.kia_tup (AM FB Z) I.kIn J x e (λz=>nomatch z) λtk=>⟨.bl b,H,I.tok tk,rfl,q⟩
end
section
variable{D:i_}{R:Hp->Prop}{n y:p_}{b:Bool}{ys:List i_} 
theorem pe_isO(j:g7 (X.hand a oe) (.builtin "isinstance") (rIsi X.K C a R))(m:X.mg "isinstance"=c_)(w:X.mg y=a_ (.ref D))(r:Gs X.K (.ref C) (.ref D)=a_ b)(v: ~~~(X.N[i]?=a_ n))(hv:autoParam (Vis X.env.scope n) Jq4)(g:((n==("__debug__":p_))=b_)⁻¹)(f:((n==("__classdict__":p_))=b_)⁻¹)(o: ~~~(Gl (X.hand a oe) "isinstance"))(d: ~~~(Gl (X.hand a oe) y))(e:((y==("__debug__":p_))=b_)⁻¹)(Y: ~~~(h_ [.Name n p1,.Name y p2] X.env=[(b_,FR (.Name n p1) X.env),(b_,FR (.Name y p2) X.env)]))(J: ~~~(h_ [.Name y p2] X.env=[(b_,FR (.Name y p2) X.env)]))(c: ~~~((Gh pos (h_ [.Name y p2] X.env)).any (·.1)=b_)):
  PE (X.hand a oe) (.Call (.Name "isinstance" p) [.Name n p1,.Name y p2] [] pos) (tIsiR i a R b):=by
 have k:PE (X.hand a oe) (.Name y p2) (tC (.ref D)):=λB' s σ H Q I h=>jF I d w ⟨.ref D,H,I,rfl,h⟩ e;refine PE.imp (iP (X:=X.hand a oe) j o m Js (av (pv i v hv g f) (av k aK J) (by rw[Y,J])) (by decide) (by decide) (by rw[Y,J]) c) λσ H Q h=>?_;obtain⟨e1,t,q⟩:=h;exact⟨.ref a,e1,t,.ref D,b,rfl,.inl ⟨.ref D,rfl,λu l=>l,r⟩,q⟩
theorem pe_isB(k:g7 (X.hand a oe) (.builtin "isinstance") (rIsi X.K C a R))(o:X.mg "isinstance"=c_)(d:X.mg y=c_)(Y:Hx y=a_ (.type T))(s:Gs X.K (.ref C) (.type T)=a_ b)(v: ~~~(X.N[i]?=a_ n))(hv:autoParam (Vis X.env.scope n) Jq4)(j:((n==("__debug__":p_))=b_)⁻¹)(g:((n==("__classdict__":p_))=b_)⁻¹)(r: ~~~(Gl (X.hand a oe) "isinstance"))(e: ~~~(Gl (X.hand a oe) y))(l:(y≠"__name__")⁻¹)(f:((y==("__debug__":p_))=b_)⁻¹)(J: ~~~(h_ [.Name n p1,.Name y p2] X.env=[(b_,FR (.Name n p1) X.env),(b_,FR (.Name y p2) X.env)]))(I: ~~~(h_ [.Name y p2] X.env=[(b_,FR (.Name y p2) X.env)]))(c: ~~~((Gh pos (h_ [.Name y p2] X.env)).any (·.1)=b_)):
  PE (X.hand a oe) (.Call (.Name "isinstance" p) [.Name n p1,.Name y p2] [] pos) (tIsiR i a R b):=by
 refine PE.imp (iP (X:=X.hand a oe) k r o Js (av (pv i v hv j g) (av (pe_tyN (X:=X.hand a oe) (pos:=p2) e d Y l f) aK I) (by rw[J,I])) (by decide) (by decide) (by rw[J,I]) c) λσ H Q h=>?_;obtain⟨e1,t,q⟩:=h;exact⟨.ref a,e1,t,.ty T,b,rfl,.inl ⟨.type T,rfl,λu m=>m,s⟩,q⟩
theorem pe_isT{j}(g:g7 (X.hand a oe) (.builtin "isinstance") (rIsi X.K C a R))(k:X.mg "isinstance"=c_)(r:PA (X.hand a oe) es (tRefs ys))(l:ys.length<=f_)(o:kitAny X.K (.ref C) (ys.map FF)=a_ b)(s: ~~~(X.N[i]?=a_ n))(hv:autoParam (Vis X.env.scope n) Jq4)(f:((n==("__debug__":p_))=b_)⁻¹)(e:((n==("__classdict__":p_))=b_)⁻¹)(m: ~~~(Gl (X.hand a oe) "isinstance"))(Y: ~~~(h_ [.Name n p1,.Tuple es j p2] X.env=[(b_,FR (.Name n p1) X.env),(b_,FR (.Tuple es j p2) X.env)]))(I: ~~~(h_ [.Tuple es j p2] X.env=[(b_,FR (.Tuple es j p2) X.env)]))(d: ~~~((Gh pos (h_ [.Tuple es j p2] X.env)).any (·.1)=b_)):
  PE (X.hand a oe) (.Call (.Name "isinstance" p) [.Name n p1,.Tuple es j p2] [] pos) (tIsiTR i a R ys b):=by
 refine PE.imp (iP (X:=X.hand a oe) g m k Js (av (pv i s hv f e) (av (wV r) aK I) (by rw[Y,I])) (by decide) (by decide) (by rw[Y,I]) d) λσ H Q h=>?_;obtain⟨e1,q⟩:=h;exact⟨.ref a,e1,by rw[t_];exact l,λc J=>⟨(q c J).1,.ref c,b,rfl,.inr ⟨c,ys,rfl,ao,o⟩,(q c J).2⟩⟩
end
section
variable{j:Nat} 
theorem Rep.toldG{ds:List A'}(r:Rep K F0 H0 FB O F H σ ρ)(p:i≠j)(hi:i<σ.length)(g:j<σ.length)(b:i∉O)(Y:j∉O)(st:C6 F H (upd F l (.lst vs)) H')(o:F l=c_)(s:az K F ds vs):
  Rep K F0 H0 FB O (upd F l (.lst vs)) H' (((σ.set i (a_ (.ref a))).set j (a_ (.ref l))).set i c_) ((ρ.set j (a_ (.lst ds))).set i c_):=by
 have q:aF F (upd F l (.lst vs)):=aF.upd o;have r2:=r.step st;have out:∀m,m≠i->m≠j->(((σ.set i (a_ (.ref a))).set j (a_ (.ref l))).set i c_)[m]?=σ[m]?:=λm h1 h2=>by rw[n_ (FZ h1),n_ (FZ h2),n_ (FZ h1)]
 have I:∀m,m≠i->m≠j->((ρ.set j (a_ (.lst ds))).set i c_)[m]?=ρ[m]?:=λm h1 h2=>by rw[n_ (FZ h1),n_ (FZ h2)]
 have d:∀dd,((ρ.set j (a_ (.lst ds))).set i c_)[i]?≠a_ (a_ dd):=λdd e=>by rw[u_ (by rw[Cb,r.len];exact hi)]at e;cases e
 refine⟨r2.st,r2.fb,by simp only[Cb];exact r.len,λm dd e J=>?_,λm dd e J=>?_,λm n d1 d2 c J f e1 e2 e3 e4=>?_⟩
 ·by_cases h1:m=i
  ·subst h1;exact(d _ e).elim
  ·by_cases h2:m=j
   ·subst h2;rw[n_ (FZ h1),u_ (by rw[r.len];exact g)]at e;cases e;refine⟨.ref l,by rw[n_ (FZ h1),u_ (by rw[Cb];exact g)],l,vs,rfl,SqL.of ao,az.mono q s⟩
   ·rw[I m h1 h2]at e;rw[out m h1 h2];exact r2.fz m dd e J
 ·have h1:m≠i:=λz=>b (z▸J);have h2:m≠j:=λz=>Y (z▸J);rw[I m h1 h2]at e;rw[out m h1 h2];exact r2.ow m dd e J
 ·have h1:m≠i:=λz=>b (z▸J);have h2:m≠j:=λz=>Y (z▸J);have k:n≠i:=λz=>b (z▸f);have h:n≠j:=λz=>Y (z▸f);rw[I m h1 h2]at e1;rw[I n k h]at e2;rw[out m h1 h2]at e3;rw[out n k h]at e4;exact r2.ap m n d1 d2 c J f e1 e2 e3 e4
theorem step_app{p:i_}{xs:List V}{Y:HO}(a:aF F H)(J:H l=c_)(b:H p=c_)(d:p≠l):C6 F H (upd F l (.lst (xs++[y]))) (upd (upd (upd H l (.lst xs)) p Y) l (.lst (xs++[y]))):=by
 have hh:aF H (upd (upd (upd H l (.lst xs)) p Y) l (.lst (xs++[y]))):=λc o e=>by rw[aq (aN e J),aq (aN e b),aq (aN e J)];exact e
 refine⟨aF.upd (a.free J),hh,λc o e=>?_,λc o e=>?_⟩
 ·by_cases I:c=l
  ·subst I;rw[ao]at e ⊢;exact e
  ·rw[aq I]at e;exact hh c o (a c o e)
 ·by_cases I:c=l
  ·subst I;exact .inr J
  ·rw[aq I]at e;exact .inl e
end
structure Yd(P:GH)(w:GV)(K:Pn)(mg:Ld)(base:Gv)(CX:CXT)(k:Nat)(x:p_)(st:GK)(ps:List p_)(sp:Sp)(f:i_)(fd:Hv):Prop where
 d:Def K mg x st ps f fd
 o:iL P w K mg base CX k f fd ps sp
section
open PySem.W
end
section
open PySem.W
end
section
open PySem.SetTable
end
section
open PySem
end
section
open PySem
end
section
open PySem
end
section
open PySem
end
section
open PySem
end
section
open PySem
end
section
open PySem
end
section
open PySem.W
end
structure Abt(p:i_)(F H F' H':Hp):Prop where
 ff:aF F F'
 fh:aF F' H'
 fp:F' p=c_
 nw:∀b o,F' b=a_ o->F b=a_ o\/H b=c_
 hh:∀c o,H c=a_ o->c≠p->H' c=a_ o
theorem Abt.step{x dx:i_}(Y:H x=c_)(I:H dx=c_)(z:Abt x F (upd (upd H dx (.own x)) x (.ins C dx [])) F' H'):C6 F H F' H' where
 ff:=z.ff
 hh:=λc o e=>by
  have J:c≠x:=λh=>by rw[h,Y]at e;cases e
  have hd:c≠dx:=λh=>by rw[h,I]at e;cases e
  exact z.hh c o (by rw[aq J,aq hd];exact e) J
 fh:=z.fh
 nw:=λc o e=>by
  rcases z.nw c o e with q|q
  ·exact .inl q
  ·refine .inr ?_;by_cases J:c=x
   ·subst J;exact Y
   ·by_cases hd:c=dx
    ·subst hd;exact I
    ·rw[aq J,aq hd]at q;exact q
def isiC(tb:List (i_×Bool)):A'->M A'
 |.ins C _=>match tb.lookup C with
  |some b=>.ok (.bl b)|none=>stk
 |_=>stk
section
variable{W:eI}{own:Bool}{a:GO}{y:p_}{D:i_}{tb:List (i_×Bool)}
theorem c_isiC(g:∀C b,tb.lookup C=a_ b->(∃x,Kls K X.mg x C)/\Gs K (.ref C) (.ref D)=a_ b)(i: ~~~(X.K=K)):g7 X (.builtin "isinstance") (λxs H Q=>∃v,xs=[v,.ref D]/\rD1 K W own (isiC tb) v H Q):=by
 subst i;intro B' s σ H xs us Q I r h;obtain⟨v,rfl,F,d,a,q,p⟩:=h;obtain⟨u,w,rfl,c,J⟩:=r.two;cases(show w=FF D from J);cases d with
 |ins C fs=>
  cases Y:tb.lookup C with
  |none=>
   have p:aJ X.K W own F H (match tb.lookup C with
    |some b=>.ok (.bl b)|none=>stk) Q:=p
   rw[Y]at p;exact aJ.stuck p
  |some b=>
   have p:aJ X.K W own F H (match tb.lookup C with
    |some b=>.ok (.bl b)|none=>stk) Q:=p
   rw[Y]at p;obtain⟨⟨x,e⟩,f⟩:=g C b Y;obtain⟨l,dx,gs,e1,ea,j⟩:=q;subst e1;exact Eo I c (e.ty (a _ _ ea)) f λtk=>⟨.bl b,H,I.tok tk,rfl,aJ.bl (own:=own) p a⟩
 |_=>exact aJ.stuck p
theorem EZ(i:∀C b,tb.lookup C=a_ b->(∃x,Kls K X.mg x C)/\Gs K (.ref C) (.ref D)=a_ b)(e:X.mg "isinstance"=c_)(k:X.mg y=a_ (.ref D))(g:DE K W b_ X a fa)(j: ~~~(X.K=K))(f: ~~~(Gl X "isinstance"))(c: ~~~(Gl X y))(hd:((y==("__debug__":p_))=b_)⁻¹)(J: ~~~(h_ [a,.Name y p2] X.env=[(b_,FR a X.env),(b_,FR (.Name y p2) X.env)]))(I: ~~~(h_ [.Name y p2] X.env=[(b_,FR (.Name y p2) X.env)]))(Y: ~~~((Gh pos (h_ [.Name y p2] X.env)).any (·.1)=b_)):
  DE K W own X (.Call (.Name "isinstance" p) [a,.Name y p2] [] pos) (f1 (isiC tb) fa):=
 (iP (c_isiC i j) f e Js (av g (av (uL (v:=.ref D) (pos:=p2) c k rfl hd) aK I) (by rw[J,I])) (by decide) (by decide) (by rw[J,I]) Y).imp λσ H Q h=>by
  obtain⟨F,ρ,r,s,q⟩:=rd_1 h;refine⟨F,ρ,r,s,?_⟩
  cases e1:fa ρ with
  |error z=>rw[e1]at q;exact q|ok d=>rw[e1]at q;exact λv F' H' st z=>⟨v,rfl,q v F' H' st z⟩
theorem isi2{P:i_->Bool->Prop}(h1:P C1 b1)(h2:P C2 b2):∀C b,Gq C [(C1,b1),(C2,b2)]=a_ b->P C b:=λC b h=>by
 rw[z_]at h;cases e:C==C1 with
 |true=>rw[e]at h;cases h;rw[HC.mp e];exact h1|false=>
  rw[e]at h;have h:Gq C [(C2,b2)]=a_ b:=h;rw[z_]at h;cases e2:C==C2 with
  |true=>rw[e2]at h;cases h;rw[HC.mp e2];exact h2|false=>rw[e2]at h;cases h
end
noncomputable abbrev tKind(P:GH)(w:GV):HeapKind P w (List Int):=JQ (KZ P w)
theorem vZ{P:GH}{w:GV}:∀{k:List Int} {us:List j_},Hn (k.map V.int) us->ItemsAre (KZ P w) k us
 |[],_,.nil=>.nil|i::k,_,.cons r t=>by
  obtain⟨t',rfl⟩:=(show ∃t,_=Jg i t from r)
  exact .cons (by simp[KZ,L8]) (vZ t)
theorem oG.at{xs:List nV}(z:oG h a xs ep)(e:∀o,h.get? a=a_ o->h'.get? a=a_ o):oG h' a xs ep:=
 let ⟨vs,r,hd,J,I,o,es,h1,h2⟩:=z;⟨vs,r,hd,J,I,o,es,e o h1,h2⟩
theorem EU{xs:List nV}(z:oG h a xs ep):cQ P w H h a (yp a xs ep):=
 ⟨z,let ⟨_,_,_,_,_,o,_,e,_⟩:=z;⟨o,e⟩,λ_ _ z e=>z.at e⟩
def rZ(K:Pn)(H:Hp)(xs:List nV):Prop:=∀x∈xs,SqT K H x.2.1 (x.1.map V.int)
theorem rZ.mono{xs:List nV}(z:rZ K H xs)(s:aF H H'):rZ K H' xs:=λx I=>s.tup (z x I)
theorem cZ.key{K:Pn}{F:Hp}:∀{ks:List (List Int×A')} {xs:List nV},cZ K F ks xs->rZ K F xs
 |[],_,h,x,I=>by rw[show _=[]from h]at I;cases I|(k,d)::ks,_,⟨b,v,r,e,t,q,z⟩,x,I=>by
  subst e;rcases x_.mp I with rfl|I
  ·exact t
  ·exact cZ.key z x I
theorem cZ.length{K:Pn}{F:Hp}:∀{ks:List (List Int×A')} {xs:List nV},cZ K F ks xs->xs.length=ks.length
 |[],_,h=>by rw[show _=[]from h];rfl|(k,d)::ks,_,⟨b,v,r,e,t,q,z⟩=>by rw[e,FV,FV,cZ.length z]
noncomputable def CI(ks:List (List Int×A'))(k:List Int):Option A':=(ks.find? λp=>q_ (p.1=k)).map (·.2)
noncomputable def Eu(xs:List nV)(k:List Int):Option V:=(xs.find? λp=>q_ (p.1=k)).map (·.2.2)
def BC(ks:List (List Int×A'))(k:List Int)(d:A'):List (List Int×A'):=if (CI ks k).isSome=d_ then ks.map (λp=>if p.1=k then(p.1,d)else p)else ks++[(k,d)]
noncomputable def putR(xs:List nV)(k:List Int)(b:i_)(v:V):List nV:=if (Eu xs k).isSome=d_ then xs.map (λx=>if x.1=k then(x.1,x.2.1,v)else x)else xs++[(k,b,v)]
theorem zx(xs:List nV)(k:List Int)(b:i_)(v:V):(putR xs k b v).length<=xs.length+1:=by
 unfold putR;split
 ·rw[t_];omega
 ·rw[FG];exact v_ _
theorem uH{k:List Int}:∀{xs:List nV} {vs:List (List Int×i_×j_)},I9 nS xs vs->qe (Eu xs k) ((J5 vs k).map (·.2))
 |_,_,.nil=>GS|x::xs,q::vs,.cons h t=>by
  obtain⟨h1,h2,J⟩:=h;by_cases e:x.1=k
  ·have I:q.1=k:=h1.symm.trans e;simp only[Eu,J5,GN,e,I,decide_true,JG];exact J
  ·have I:¬q.1=k:=λz=>e (h1.trans z);have:=uH (k:=k) t;simpa only[Eu,J5,GN,e,I,Mp] using this
theorem cZ.at{K:Pn}{F:Hp}{k:List Int}:∀{ks:List (List Int×A')} {xs:List nV},cZ K F ks xs->(CI ks k=c_/\Eu xs k=c_)\/∃d v,CI ks k=a_ d/\Eu xs k=a_ v/\aR K F d v
 |[],_,h=>by rw[show _=[]from h];exact .inl ⟨rfl,rfl⟩|(I,d)::ks,_,⟨b,v,r,e,t,q,z⟩=>by
  subst e;by_cases e:I=k
  ·exact .inr ⟨d,v,by simp[CI,e],by simp[Eu,e],q⟩
  ·have:=cZ.at (k:=k) z;simpa only[CI,Eu,GN,e,Mp] using this
theorem cZ.isSome{K:Pn}{F:Hp}{k:List Int}{ks:List (List Int×A')}{xs:List nV}(z:cZ K F ks xs):(Eu xs k).isSome=(CI ks k).isSome:=by rcases z.at (k:=k)with⟨e1,e2⟩|⟨d,v,e1,e2,_⟩<;>rw[e1,e2]<;>rfl
theorem cZ.repl{K:Pn}{F:Hp}{k:List Int}{d:A'}{v:V}(q:aR K F d v):∀{ks:List (List Int×A')} {xs:List nV},cZ K F ks xs->cZ K F (ks.map λp=>if p.1=k then(p.1,d)else p) (xs.map λx=>if x.1=k then(x.1,x.2.1,v)else x)
 |[],_,h=>by rw[show _=[]from h];rfl|(Y,d')::ks,_,⟨b,I,r,e,t,J,z⟩=>by
  subst e;rw[C_,C_];by_cases e:Y=k
  ·rw[g_ e,g_ e];exact⟨b,v,_,rfl,t,q,cZ.repl q z⟩
  ·rw[l_ e,l_ e];exact⟨b,I,_,rfl,t,J,cZ.repl q z⟩
theorem cZ.snoc{K:Pn}{F:Hp}{k:List Int}{b:i_}{d:A'}{v:V}(t:SqT K F b (k.map V.int))(q:aR K F d v):∀{ks:List (List Int×A')} {xs:List nV},cZ K F ks xs->cZ K F (ks++[(k,d)]) (xs++[(k,b,v)])
 |[],_,h=>by rw[show _=[]from h];exact⟨b,v,[],rfl,t,q,rfl⟩|(a,d')::ks,_,⟨Y,I,r,e,t',J,z⟩=>by subst e;exact⟨Y,I,_,rfl,t',J,cZ.snoc t q z⟩
theorem cZ.put{k:List Int}{d:A'}{xs:List nV}(z:cZ K F ks xs)(t:SqT K F b (k.map V.int))(q:aR K F d v):cZ K F (BC ks k d) (putR xs k b v):=by
 unfold BC putR;rw[z.isSome];by_cases h:(CI ks k).isSome=d_
 ·rw[g_ h,g_ h];exact z.repl q
 ·rw[l_ h,l_ h];exact z.snoc t q
theorem wz{k:List Int}{v:V}{u:j_}(I:Hh v u):∀{xs:List nV} {vs:List (List Int×i_×j_)},I9 nS xs vs->I9 nS (xs.map λx=>if x.1=k then(x.1,x.2.1,v)else x) (vs.map (putAt k u))
 |_,_,.nil=>.nil|x::xs,q::vs,.cons h t=>by
  rw[C_,C_];refine .cons ?_ (wz I t);obtain⟨h1,h2,J⟩:=h;unfold putAt;by_cases e:x.1=k
  ·rw[g_ e,g_ (h1.symm.trans e)];exact⟨h1,h2,I⟩
  ·rw[l_ e,l_ (λz=>e (h1.trans z))];exact⟨h1,h2,J⟩
theorem rows_put{k:List Int}(I:Hh v u){xs:List nV}{vs:List (List Int×i_×j_)}(r:I9 nS xs vs):I9 nS (putR xs k b v) (NS vs k b u):=by
 have e:(Eu xs k).isSome=(J5 vs k).isSome:=by rw[(uH r).xA,IF]
 unfold putR NS;rw[e];by_cases h:(J5 vs k).isSome=d_
 ·rw[g_ h,g_ h];exact wz I r
 ·rw[l_ h,l_ h];exact LO r ⟨rfl,rfl,I⟩
theorem Aq:∀{xs:List nV} {vs:List (List Int×i_×j_)},I9 nS xs vs->∀q∈vs,∃x∈xs,x.1=q.1/\x.2.1=q.2.1
 |_,_,.nil,_,h=>nomatch h
 |x::xs,q::vs,.cons h t,y,I=>by
  rcases x_.mp I with rfl|I
  ·exact⟨x,by simp,h.1,h.2.1⟩
  ·obtain⟨J,h1,h2⟩:=Aq t y I;exact⟨J,by simp[h1],h2⟩
section
variable{xs:List nV}{k:List Int}
theorem yz(I:C' X B' σ H s)(h:SqT X.K H b (k.map V.int)):(tKind X.prog X.w).is s.heap k b:=by obtain⟨F9,r,⟨o,h1,h2,n,J⟩,_⟩:=I.tuple h;exact⟨o,F9.toArray,n,h1,h2,J,by simpa using vZ r⟩
theorem B2(I:C' X B' σ H s)(e:H a=a_ (yp a xs ep)):oG s.heap a xs ep:=(show oG s.heap a xs ep/\_ from I.hok a _ e).1
theorem dic_at(I:C' X B' σ H s)(e:H a=a_ (yp a xs ep))(z:rZ X.K H xs):∃vs,I9 nS xs vs/\(a==GR)=b_/\xs.length<=f_/\s.heap.DictOfH (tKind X.prog X.w) a vs:=by
 obtain⟨vs,r,hd,c,b,o,es,h1,h2,f,d⟩:=B2 I e;refine⟨vs,r,hd,c,o,es,ep,h1,h2,f,d,λq Y=>?_,b⟩
 obtain⟨x,J,e1,e2⟩:=Aq r q Y;rw[<- e1,<- e2];exact yz I (z x J)
theorem dic_ty(I:C' X B' σ H s)(e:H a=a_ (yp a xs ep)):s.TypeIs (.ref a) "dict"/\(∀b,FF a=.ref b->∃J,s.heap.get? b=a_ J/\J.dict=c_):=by obtain⟨_,_,_,_,_,o,_,h1,h2,_⟩:=B2 I e;exact⟨⟨o,h1,h2.1⟩,λc q=>by cases q;exact⟨o,h1,h2.2.1⟩⟩
theorem dicOk_of{vs:List (List Int×i_×j_)}(dd:h.DictOfH (tKind P w) a vs)(r:I9 nS xs vs)(hd:(a==GR)=b_)(I:xs.length<=f_):∃ep,oG h a xs ep:=by obtain⟨o,es,ep,h1,h2,b,Y,_,J⟩:=dd;exact⟨ep,vs,r,hd,I,J,o,es,h1,h2,b,Y⟩
end
def sPut(K:Pn)(td ty tv:TE):TS:=λD σ H=>tv σ H λv H1=>td σ H1 λx H2=>ty σ H2 λy I=>∃a b k xs ep,x=.ref a/\y=.ref b/\I a=a_ (yp a xs ep)/\rZ K I xs/\SqT K I b (k.map V.int)/\xs.length<f_/\∀ep',D.nx σ (upd I a (yp a (putR xs k b v) ep'))
def tGet2(K:Pn)(td ty tx:TE):TE:=λσ H Q=>td σ H λx H1=>∃a xs ep,x=.ref a/\H1 a=a_ (yp a xs ep)/\ty σ H1 λy H2=>tx σ H2 λz I=>∃b k,y=.ref b/\I a=a_ (yp a xs ep)/\rZ K I xs/\SqT K I b (k.map V.int)/\Q ((Eu xs k).getD z) I
def tNewK:TE:=λ_ H Q=>∀p,H p=c_->Q (.ref p) (upd H p (yp p [] 0))
section
variable{i f:GO}{ty tx:TE}
theorem EW(h:Gv)(I:GR<h.objs.size):oG (h.push {cls:=.type "dict",data:=.dict #[]}) h.objs.size [] 0:=
 ⟨[],.nil,Hj.mpr (FZ (Ga I)),G7 _,JT,_,#[],FK _ rfl,⟨rfl,rfl,rfl⟩,rfl,rfl⟩
theorem zc:PE X (.Dict [] [] pos) tNewK:=λB' s σ H Q I h=>Oe ⟨.ref s.heap.objs.size,_,I.laid (a:=s.heap.objs.size) (o:=yp s.heap.objs.size [] 0) (t':=s.toks) (λ_ _ q=>r_ _ q) (v_ _) (EU (EW s.heap I.big)),rfl,h _ (I.hok.fresh (v_ _))⟩
theorem C'.dic{xs ys:List nV}{t':Nat}(I:C' X B' σ H s)(e:H a=a_ (yp a xs ep))(J:Jh a s.heap h')(z:oG h' a ys ep'):C' X B' σ (upd H a (yp a ys ep')) {s with heap:=h',toks:=t'}:=
 I.write (x:=a) (e:=a) (by rw[e];exact GS) (.inl rfl) (λc q Y w=>(J.2 c Y).trans w) (let ⟨_,_,_,_,_,o,_,w,_⟩:=z;⟨o,w⟩) (EU z)
theorem ps_put(C:X.A.units+1<G5)(F:PE X o td)(hi:PE X i ty)(hv:PE X value tv)(E:G0 value (a_ (.Subscript o i pos')) pos.line X.env=GZ b_):PS X (.Assign [.Subscript o i pos'] value pos) (sPut X.K td ty tv):=by
 intro B' s σ H D I h;refine MT (HH (hv B' s σ H _ I h) λr j J=>?_) E;obtain⟨v,H1,N,n,w⟩:=J;refine HH (F B' j σ H1 _ N w) λu g J=>?_;obtain⟨x,H2,L,m,q⟩:=J;refine HH (hi B' g σ H2 _ L q) λA O J=>?_;obtain⟨y,Q,e,l,a,b,k,xs,ep,ex,K,ea,G,t,P,p⟩:=J;subst ex K;cases(show u=FF a from m);cases(show A=FF b from l);obtain⟨vs,f,hd,B,dd⟩:=dic_at e ea G;have Y:vs.length<=f_:=by rw[<- Jt f];exact B
 refine Ny (hsz:=Y) (IP C) (yz e t) dd λh' d c=>?_;obtain⟨ep',z⟩:=dicOk_of d (rows_put n f) hd (by have:=zx xs k b v;omega);exact⟨σ,_,e.dic ea c z,p ep'⟩
theorem pe_get2(w:X.A.units+1<G5)(B:PE X o td)(E:PE X e ty)(D:PE X f tx)(m:M2 X o "get" apos e f cpos):PE X (.Call (.Attribute o "get" apos) [e,f] [] cpos) (tGet2 X.K td ty tx):=by
 intro B' s σ H Q I h;refine NP m.base m.few m.line K8 Ia Lr (HH (B B' s σ H _ I h) λu g A=>?_);obtain⟨x,H1,c,l,a,xs,ep,ex,ea,r⟩:=A;subst ex;cases(show u=FF a from l);obtain⟨t1,t2⟩:=dic_ty c ea;refine⟨t1,t2,?_⟩
 rw[m.trees];refine JF rfl (JS (HW (HH (E B' g σ H1 _ c r) λv d ⟨y,H2,K,j,q⟩=>HW (HH (D B' d σ H2 _ K q) λF N ⟨z,L,Y,i,b,k,G,J,C,t,p⟩=>Ju ?_))))
 subst G;cases(show v=FF b from j);obtain⟨vs,n,hd,O,dd⟩:=dic_at Y J C;exact MX Ia dd.typeIs JB (Jx _ _ _) (MF (tKind X.prog X.w) a b hd F) ⟨IP w,k,vs,yz Y t,dd,_,L,Y.tok _,(uH n).getD i,p⟩
end
def keyD:A'->M (List Int)
 |.tup ds=>nz ds|_=>stk
noncomputable def isDic:A'->Bool
 |.dic _=>d_|_=>b_
def Ey:A'->A'->A'->M A'
 |.dic ks,I,x=>(keyD I).bind λk=>.ok ((CI ks k).getD x)|_,_,_=>stk
def xH(fd fk fx:ah->M A'):ah->M A':=λρ=>(fd ρ).bind λd=>if isDic d=d_ then(fk ρ).bind λk=>(fx ρ).bind λx=>Ey d k x else stk
theorem keyD_err{d:A'}{e:Err}(h:keyD d=.error e):e=.stuck:=by
 cases d with
 |tup ds=>exact rl h|_=>cases h;rfl
theorem keyD_at{d:A'}{k:List Int}(h:keyD d=.ok k)(q:aR K F d v):∃b,v=.ref b/\SqT K F b (k.map V.int):=by
 cases d with
 |tup ds=>obtain⟨b,xs,e,t,z⟩:=q;have:=rj z h;subst this;exact⟨b,e,t⟩
 |_=>cases h
section
variable{W:eI}{fd fx:ah->M A'} 
theorem rd_getD(h:tD K W b_ (xH fd fk fx) σ H Q):tGet2 K (tD K W b_ fd) (tD K W b_ fk) (tD K W b_ fx) σ H Q:=by
 obtain⟨F,ρ,r,s,p⟩:=h;refine aO r s (λe i=>p.err (by unfold xH;rw[i];rfl)) λd hd x F1 H1 f B=>?_;have E:xH fd fk fx ρ=if isDic d=d_ then(fk ρ).bind λk=>(fx ρ).bind λx=>Ey d k x else stk:=by unfold xH;rw[hd];rfl
 rw[E]at p;cases d with
 |dic ks=>
  have p:aJ K W b_ F H ((fk ρ).bind λk=>(fx ρ).bind λx=>Ey (.dic ks) k x) Q:=p;obtain⟨a,xs,e,⟨ep,n⟩,z⟩:=B;refine⟨a,xs,ep,e,f.fh _ _ n,?_⟩
  refine aO (r.mono f.ff) f.fh (λe i=>(p.step f).err (by rw[i];rfl)) λl C y F2 H2 j A=>?_;rw[C]at p;have p:aJ K W b_ F H ((fx ρ).bind λx=>Ey (.dic ks) l x) Q:=p;have I:=f.trans j;refine aO (r.mono I.ff) I.fh (λe i=>(p.step I).err (by rw[i];rfl)) λc D w o G Y u=>?_;rw[D]at p;have p:aJ K W b_ F H ((keyD l).bind λk=>.ok ((CI ks k).getD c)) Q:=p;cases J:keyD l with
  |error e=>rw[J]at p;have:=keyD_err J;subst this;exact aJ.stuck p|ok k=>
   rw[J]at p;obtain⟨b,rfl,t⟩:=keyD_at J A;have g:=I.trans Y;have m:=(z.mono j.ff).mono Y.ff;refine⟨b,k,rfl,Y.hh _ _ (j.hh _ _ (f.fh _ _ n)),m.key.mono Y.fh,Y.fh.tup (Y.ff.tup t),p _ o G g ?_⟩
   show aR K o _ _;rcases m.at (k:=k)with⟨e1,e2⟩|⟨d,v,e1,e2,q⟩
   ·rw[e1,e2];exact u
   ·rw[e1,e2];exact q
 |_=>exact aJ.stuck p
end
section
variable{W:eI}{ek ex:GO}{fd fx:ah->M A'} 
theorem de_newK:DE K W d_ X (.Dict [] [] pos) (fC (.dic [])):=zc.imp λσ H Q h=>by obtain⟨F,ρ,r,s,q⟩:=h;exact λa I=>q (.ref a) F _ (C6.grow s I) ⟨a,[],rfl,⟨0,ao⟩,s.free I,I,rfl⟩
theorem de_getD(e:X.A.units+64<G5)(J:DE K W b_ X o fd)(b:DE K W b_ X ek fk)(a:DE K W b_ X ex fx)(d: ~~~(X.K=K))(c: ~~~(GQ o "get" X.env (FR o X.env)=FR o X.env))(hw: ~~~(((Gh cpos (h_ [ek,ex] X.env)).all (λx=> !x.1)&&(Ho cpos (GJ [] X.env)).all (λx=>x.1.isSome)&&q_ (([ek,ex]:List GO).length+([]:List Hk).length+(if ([]:List Hk).isEmpty then 0 else 1)<30))=d_))(Y: ~~~((apos.endLine==cpos.line)=d_))(I: ~~~(Gh cpos (h_ [ek,ex] X.env)=[(b_,FR ek X.env),(b_,FR ex X.env)])):DE K W b_ X (.Call (.Attribute o "get" apos) [ek,ex] [] cpos) (xH fd fk fx):=by subst d;exact(pe_get2 (by omega) J b a ⟨c,hw,Y,I⟩).imp λ_ _ _=>rd_getD
end
section
open PySem
end
section
open PySem
end
section
open PySem
end
theorem EV(z:oG h l [] ep):(l==GR)=b_/\h.DictOf (KZ P w) l []:=by obtain⟨vs,r,hd,a,Y,o,es,h1,h2,J,I⟩:=z;cases r;obtain⟨es⟩:=es;cases(show es=[]from I);exact⟨hd,o,_,ep,h1,h2,J,λi hi=>FJ hi (by simp),.nil,.nil⟩
section
open PySem.W hiding kindOf
end
section
open PySem.W hiding kindOf
variable{key:Nat->Int}
def Srt(key:Nat->Int)(l:List Nat):Prop:=l.Pairwise λx y=>key x<=key y
def ug(st I:Mb):Prop:=∃g,I=SortSt.mk' (kindOf st) (arrOf st) (Je st) g (failedOf st)
theorem ug.trans{a b c:Mb}(h:ug a b)(k:ug b c):ug a c:=by obtain⟨g,rfl⟩:=h;obtain⟨g',rfl⟩:=k;exact⟨g',rfl⟩
theorem ug.kind{a b:Mb}(h:ug a b):kindOf b=kindOf a:=by obtain⟨g,rfl⟩:=h;rfl
end
section
open PySem.W hiding kindOf
end
section
open PySem.W hiding kindOf
end
section
open PySem.W hiding kindOf
variable{f:Nat->Keyed} 
structure SS(κ:SortKind)(f:Nat->Keyed)(n:Nat)(st:Mb)(p:List Nat):Prop where
 kind:kindOf st=κ
 ok:failedOf st=c_
 arr:arrOf st=(p.map f).toArray
 perm:p.Perm (GU n)
end
section
open PySem.W hiding kindOf
variable{key:Nat->Int}
noncomputable def kG(key:Nat->Int)(p:List Nat)(i:Nat):Int:=key (p.getD i 0)
def Sg(key:Nat->Int)(p:List Nat)(lo hi:Nat):Prop:=∀i j,lo<=i->i<=j->j<hi->kG key p i<=kG key p j
def Dg(key:Nat->Int)(p:List Nat)(lo hi:Nat):Prop:=∀i j,lo<=i->i<=j->j<hi->kG key p j<=kG key p i
def Fx(lo:Nat)(p I:List Nat):Prop:=∀i,i<lo->I.getD i 0=p.getD i 0
theorem Fx.trans{lo:Nat}{p q r:List Nat}(h:Fx lo p q)(k:Fx lo q r):Fx lo p r:=λi hi=>(k i hi).trans (h i hi)
theorem Sg.step{p:List Nat}{m:Nat}(h:Sg key p lo (lo+m))(h1:1<=m)(b:¬kG key p (lo+m)<kG key p (lo+m-1)):Sg key p lo (lo+(m+1)):=λi j hi J c=>by
 by_cases I:j<lo+m
 ·exact h i j hi J I
 ·have a:j=lo+m:=by omega
  subst a;by_cases Y:i=lo+m
  ·subst Y;exact MC _
  ·have:=h i (lo+m-1) hi (by omega) (by omega);omega
theorem Dg.step{p:List Nat}{m:Nat}(h:Dg key p lo (lo+m))(h1:1<=m)(b:kG key p (lo+m)<=kG key p (lo+m-1)):Dg key p lo (lo+(m+1)):=λi j hi J c=>by
 by_cases I:j<lo+m
 ·exact h i j hi J I
 ·have a:j=lo+m:=by omega
  subst a;by_cases Y:i=lo+m
  ·subst Y;exact MC _
  ·have:=h i (lo+m-1) hi (by omega) (by omega);omega
end
section
open PySem.W hiding kindOf
end
section
open PySem.W hiding kindOf
variable{f:Nat->Keyed}{key:Nat->Int} 
noncomputable def mkP:Nat->List (List Nat×Nat)->List (Nat×Nat×Nat)
 |_,[]=>[]|a,(l,w)::r=>(a,l.length,w)::mkP (a+l.length) r
noncomputable def flt(gs:List (List Nat×Nat)):List Nat:=(gs.map Prod.fst).flatten
theorem flt_cons(g:List Nat×Nat)(y:List (List Nat×Nat)):flt (g::y)=g.1++flt y:=by simp[flt]
theorem zr:∀(x:List (List Nat×Nat)) (a:Nat) (y:List (List Nat×Nat)),mkP a (x++y)=mkP a x++mkP (a+(flt x).length) y
 |[],a,y=>by simp[mkP,flt]|(l,w)::x,a,y=>by
  show(a,l.length,w)::mkP (a+l.length) (x++y)=(a,l.length,w)::(mkP (a+l.length) x++_)
  rw[zr x,flt_cons,FG,N9]
theorem zq:∀(x:List (List Nat×Nat)) (a:Nat),(mkP a x).length=x.length
 |[],_=>rfl|(l,w)::x,a=>by simp[mkP,zq x]
structure RI(κ:SortKind)(f:Nat->Keyed)(key:Nat->Int)(n:Nat)(st:Mb)(gs:List (List Nat×Nat))(rest:List Nat):Prop where
 ss:SS κ f n st (flt gs++rest)
 pd:Je st=(mkP 0 gs).toArray
 ok:∀g∈gs,Srt key g.1/\0<g.1.length
theorem RI.size{st:Mb}{gs:List (List Nat×Nat)}{rest:List Nat}(h:RI κ f key n st gs rest):(Je st).size=gs.length:=by rw[h.pd];simp[zq]
noncomputable def rePw(I:Nat):Nat×Nat×Nat->Nat×Nat×Nat
 |(s,l,_)=>(s,l,I)
theorem RI.last{st:Mb}{gs:List (List Nat×Nat)}{rest:List Nat}{Y:Nat}(h:RI κ f key n st gs rest):∃J,J.length=gs.length/\flt J=flt gs/\RI κ f key n (setPending st ((Je st).modify ((Je st).size-1) (rePw Y))) J rest:=by
 by_cases e:gs=[]
 ·subst e;refine⟨[],rfl,rfl,⟨h.ss.kind,h.ss.ok,h.ss.arr,h.ss.perm⟩,?_,h.ok⟩
  show(Je st).modify ((Je st).size-1) (rePw Y)=_;rw[h.pd];rfl
 ·obtain⟨I,b,m⟩:∃I b,gs=I++[b]:=⟨gs.dropLast,gs.getLast e,(KS e).symm⟩
  subst m;obtain⟨b,j⟩:=b;have a:flt (I++[(b,Y)])=flt (I++[(b,j)]):=by simp[flt]
  refine⟨I++[(b,Y)],by simp,a,⟨h.ss.kind,h.ss.ok,?_,?_⟩,?_,λg l=>?_⟩
  ·rw[a];exact h.ss.arr
  ·rw[a];exact h.ss.perm
  ·show(Je st).modify ((Je st).size-1) (rePw Y)=_;rw[h.size,h.pd,zr,zr];have k:=zq I 0;apply Array.ext_getElem?;intro i;rw[Array.getElem?_modify];simp only[FG,Ii,Nat.add_sub_cancel,Mc,mkP];by_cases c:I.length=i
   ·subst c;rw[g_ rfl,<- k,Iu (v_ _),Iu (v_ _),Nat.sub_self];rfl
   ·rw[l_ c];rcases Nat.lt_or_ge i I.length with d|d
    ·rw[GF (by omega),GF (by omega)]
    ·rw[Ij (by simp;omega),Ij (by simp;omega)]
  ·rcases Gn.mp l with e|e
   ·exact h.ok g (JU _ e)
   ·have:=F_.mp e;subst this;exact h.ok (b,j) (by simp)
end
section
open PySem.W hiding kindOf
end
section
open PySem.W hiding kindOf
end
noncomputable def hkT(k:List Int):Int:=LW (Hw (k.map NY))
noncomputable def goodT(t:SetTable)(n:Nat):Bool:=t.fits n&&(t.mask%2==1)&&q_ (t.place.toList.Pairwise (·<·))&&t.plain&&q_ (n<4096)
def Bc(st:SetTable×List (List Int))(k:List Int):Option (SetTable×List (List Int)):=
 match st.1.probe (λi=>((st.2.map hkT)[i]?).getD 0) (hkT k) (st.1.probeStart (hkT k))with
 |some (.empty j c_)=>if goodT (st.1.put j).1 (st.2.length+1)=d_ then
   (if (st.1.put j).1.tooFull=d_ then match (st.1.put j).1.relaid ((st.2.take (st.1.put j).2++k::st.2.drop (st.1.put j).2).map hkT).toArray (ML (st.2.length+1))with
    |some (t,o)=>if (goodT t (st.2.length+1)&&o.toList.isPerm (GU (st.2.length+1))&&q_ (SetTable.sizeAbove (ML (st.2.length+1))<=f_))=d_ then a_ (t,o.toList.filterMap λi=>(st.2.take (st.1.put j).2++k::st.2.drop (st.1.put j).2)[i]?)else c_
    |none=>c_
   else a_ ((st.1.put j).1,st.2.take (st.1.put j).2++k::st.2.drop (st.1.put j).2))else c_
 |some (.candidate _ i _)=>if st.2[i]?=a_ k then a_ st else c_
 |_=>c_
section
open PySem SetTable
end
section
open PySem
end
section
open PySem
end
section
open PySem
end
section
open PySem SetTable
end
section
open PySem.W
end
section
open PySem
structure IK(prog:GH)(w:GV)(κ:Type)[Ni κ] where
 is:Gv->κ->j_->Prop
 hash:κ->Int
 draws:κ->Nat
 up:Nat
 fuel:Nat
 inj:∀{h:Gv} {v:j_} {x y:κ},is h x v->is h y v->x=y
 keeps:∀{h h':Gv} {k:κ} {v:j_},is h k v->(∀(a:i_) (o:JJ) (us:Array j_) (n:Nat),h.get? a=a_ o->o.data=.seq us n->h'.get? a=a_ o)->is h' k v
 pyHash:∀{A:HE} {E:Mq} {s:y_} {k:κ} {v:j_} {Q:Int->y_->Prop},A.units+up<G5->is s.heap k v->Q (hash k) {s with toks:=s.toks+draws k}->D_ (FE prog w) A (PySem.pyHash v) Q E s
 eqBool:∀{A:HE} {E:Mq} {s:y_} {x y:κ} {u v:j_} {Q:Bool->y_->Prop},A.units+up<G5->is s.heap x u->is s.heap y v->Q (q_ (x=y)) s->D_ (FE prog w) A (PySem.eqBool u v) Q E s
 quiet:∀{A:HE} {E:Mq} {s:y_} {k:κ} {v:j_} {Q:Bool->y_->Prop} (n:Nat),fuel<=n->is s.heap k v->Q d_ s->D_ (FE prog w) A (eqIsQuiet n v) Q E s
end
section
open PySem
variable{κ μ:Type}[Ni κ][Ni μ]
end
section
open PySem
end
section
open PySem.W
end
section
open PySem PySem.W
end
section
open PySem PySem.W
end
mutual
noncomputable def qL:A'->Bool
 |.tup ds=>qK ds|.lst ds=>qK ds|.ins _ _=>b_|.dic _=>b_|.dil _=>b_|_=>d_
noncomputable def qK:List A'->Bool
 |[]=>d_|d::ds=>qL d&&qK ds
end
mutual
theorem aR.plain{K:Pn}{F F':Hp}(s:∀a xs,SqT K F a xs->SqT K F' a xs)(t:∀a xs,SqL K F a xs->SqL K F' a xs):∀{d:A'} {v:V},qL d=d_->aR K F d v->aR K F' d v
 |.non,_,_,h=>h|.bl _,_,_,h=>h|.int _,_,_,h=>h|.str _,_,_,h=>h|.tup ds,_,f,⟨a,xs,e,q,r⟩=>⟨a,xs,e,s _ _ q,az.plain s t (by simpa[qL] using f) r⟩|.lst ds,_,f,⟨a,xs,e,q,r⟩=>⟨a,xs,e,t _ _ q,az.plain s t (by simpa[qL] using f) r⟩|.ins _ _,_,f,_=>by simp[qL]at f|.dic _,_,f,_=>by simp[qL]at f|.dil _,_,f,_=>by simp[qL]at f
theorem az.plain{K:Pn}{F F':Hp}(s:∀a xs,SqT K F a xs->SqT K F' a xs)(t:∀a xs,SqL K F a xs->SqL K F' a xs):∀{ds:List A'} {xs:List V},qK ds=d_->az K F ds xs->az K F' ds xs
 |[],_,_,h=>h|d::ds,_,f,⟨v,vs,e,q,r⟩=>by simp only[qK,o_]at f;exact⟨v,vs,e,aR.plain s t f.1 q,az.plain s t f.2 r⟩
end
section
open PySem PySem.W
end
structure B7 where
 f:i_
 c:j_
 A:HE
 o:List Ll
 s:y_
 H:Hp
 E:XK
section
variable{base:Gv}{q:p_}{k:Nat}{g:ah->M H9}
def YO(_:∃f fd,Def K mg x st ps f fd)(P:GH)(w:GV)(base:Gv)(k:Nat)(ro:Bool)(m:List A'->M A'):Prop:=∃f fd,Yd P w K mg base CX0 k x st ps (spF K ro m ps.length) f fd
def YX(_:∃f fd,Def K mg x st ps f fd)(P:GH)(w:GV)(base:Gv)(k:Nat)(ro:Bool)(m:List A'->M A'):Prop:=∃f fd,Yd P w K mg base (CXd P w) k x st ps (spX K ro m ps.length) f fd
def YM(_:∃f fd,Mth K C x q st ps f fd)(P:GH)(w:GV)(mg:Ld)(base:Gv)(k:Nat)(ro:Bool)(m:List A'->M A'):Prop:=∃f fd,Mth K C x q st ps f fd/\iL P w K mg base CX0 k f fd ps (spF K ro m ps.length)
theorem fY(N:List p_){h:∃f fd,Def K mg x st ps f fd}(J:∀z:B7,N.Nodup->iJ k (z.A.deeper (Ik x (aE st) z.s.heap.objs.size z.f z.c))->DSs K J3 ro (zU CX0 P w K mg base N x (aE st) z.f z.c z.A z.o z.s z.H z.E).nox [] [] [] (bO st) g)(S:autoParam (gE N ps (aE st)) Jq9):YO h P w base (k+1) ro (bR N.length ps.length g):=
 let ⟨f,fd,D⟩:=h
 ⟨f,fd,D,fn_D D.fn S ro g λc A o s H E I=>J ⟨f,c,A,o,s,H,E⟩ S.nd I⟩
theorem fX(N:List p_){h:∃f fd,Def K mg x st ps f fd}(J:∀z:B7,N.Nodup->iJ k (z.A.deeper (Ik x (aE st) z.s.heap.objs.size z.f z.c))->DSs K (WE K z.E) ro (zU (CXd P w) P w K mg base N x (aE st) z.f z.c z.A z.o z.s z.H z.E) [] [] [] (bO st) g)(S:autoParam (gE N ps (aE st)) Jq9):YX h P w base (k+1) ro (bR N.length ps.length g):=
 let ⟨f,fd,D⟩:=h
 ⟨f,fd,D,fn_X D.fn S ro g λc A o s H E I=>J ⟨f,c,A,o,s,H,E⟩ S.nd I⟩
theorem fM(N:List p_){h:∃f fd,Mth K C x q st ps f fd}(J:∀z:B7,N.Nodup->iJ k (z.A.deeper (Ik q (aE st) z.s.heap.objs.size z.f z.c))->DSs K J3 ro (zU CX0 P w K mg base N q (aE st) z.f z.c z.A z.o z.s z.H z.E).nox [] [] [] (bO st) g)(S:autoParam (gE N ps (aE st)) Jq9):YM h P w mg base (k+1) ro (bR N.length ps.length g):=
 let ⟨f,fd,D⟩:=h
 ⟨f,fd,D,fn_D D.fn S ro g λc A o s H E I=>J ⟨f,c,A,o,s,H,E⟩ S.nd I⟩
end
section
variable{W:eI}{a b d:GO}{f:ah->M A'}{fr:ah->M (List A')}
theorem dY{j k:Nat}{g:ah->M H9}(Y:∃f fd,Yd X.prog X.w X.K X.mg X.base CX0 k x st ps (spF K ro (bR nN n g) n) f fd)(b:iJ j X.A)(h:DA K J3 X (e::es) fr)(c:(k<=j)⁻¹)(d: ~~~(Gl X x))(a:((x==("__debug__":p_))=b_)⁻¹)(I: ~~~(h_ (e::es) X.env=(b_,FR e X.env)::h_ es X.env))(J: ~~~((Gh pos (h_ es X.env)).any (·.1)=b_)):
  DE K J3 ro X (.Call (.Name x p) (e::es) [] pos) (fL (bR nN n g) fr):=let ⟨_,_,Y⟩:=Y;de_call Y.o (b.mono c) Y.d.mg Y.d.fn.kp Y.d.bd h d a I J
theorem da1(J:DE K W b_ X a fa)(I: ~~~(h_ [a] X.env=[(b_,FR a X.env)])):DA K W X [a] (aa fa aC):=cC J eQ I
theorem da2(c:DE K W b_ X a fa)(Y:DE K W b_ X b fb)(J: ~~~(h_ [a,b] X.env=[(b_,FR a X.env),(b_,FR b X.env)]))(I: ~~~(h_ [b] X.env=[(b_,FR b X.env)])):DA K W X [a,b] (aa fa (aa fb aC)):=cC c (da1 Y I) (by rw[J,I])
theorem da3{f1 f2:ah->M A'}(h1:DE K W b_ X e1 f1)(h2:DE K W b_ X e2 f2)(a:DE K W b_ X e3 f3)(Y: ~~~(h_ [e1,e2,e3] X.env=(b_,FR e1 X.env)::h_ [e2,e3] X.env))(J: ~~~(h_ [e2,e3] X.env=(b_,FR e2 X.env)::h_ [e3] X.env))(I: ~~~(h_ [e3] X.env=(b_,FR e3 X.env)::h_ [] X.env)):DA K W X [e1,e2,e3] (aa f1 (aa f2 (aa f3 aC))):=(cC h1 (cC h2 (cC a eQ I) J) Y)
theorem da4{f1 f2 f4:ah->M A'}(h1:DE K W b_ X e1 f1)(h2:DE K W b_ X e2 f2)(c:DE K W b_ X e3 f3)(b:DE K W b_ X e4 f4)(a: ~~~(h_ [e1,e2,e3,e4] X.env=(b_,FR e1 X.env)::h_ [e2,e3,e4] X.env))(Y: ~~~(h_ [e2,e3,e4] X.env=(b_,FR e2 X.env)::h_ [e3,e4] X.env))(J: ~~~(h_ [e3,e4] X.env=(b_,FR e3 X.env)::h_ [e4] X.env))(I: ~~~(h_ [e4] X.env=(b_,FR e4 X.env)::h_ [] X.env)):DA K W X [e1,e2,e3,e4] (aa f1 (aa f2 (aa f3 (aa f4 aC)))):=(cC h1 (cC h2 (cC c (cC b eQ I) J) Y) a)
theorem da5{f1 f2 f4:ah->M A'}(h1:DE K W b_ X e1 f1)(h2:DE K W b_ X e2 f2)(e:DE K W b_ X e3 f3)(d:DE K W b_ X e4 f4)(c:DE K W b_ X e5 f5)(b: ~~~(h_ [e1,e2,e3,e4,e5] X.env=(b_,FR e1 X.env)::h_ [e2,e3,e4,e5] X.env))(a: ~~~(h_ [e2,e3,e4,e5] X.env=(b_,FR e2 X.env)::h_ [e3,e4,e5] X.env))(Y: ~~~(h_ [e3,e4,e5] X.env=(b_,FR e3 X.env)::h_ [e4,e5] X.env))(J: ~~~(h_ [e4,e5] X.env=(b_,FR e4 X.env)::h_ [e5] X.env))(I: ~~~(h_ [e5] X.env=(b_,FR e5 X.env)::h_ [] X.env)):DA K W X [e1,e2,e3,e4,e5] (aa f1 (aa f2 (aa f3 (aa f4 (aa f5 aC))))):=(cC h1 (cC h2 (cC e (cC d (cC c eQ I) J) Y) a) b)
theorem da6{I:GO}{f1 f2 f4 J:ah->M A'}(h1:DE K W b_ X e1 f1)(h2:DE K W b_ X e2 f2)(i:DE K W b_ X e3 f3)(h:DE K W b_ X e4 f4)(g:DE K W b_ X e5 f5)(f:DE K W b_ X I J)(e: ~~~(h_ [e1,e2,e3,e4,e5,I] X.env=(b_,FR e1 X.env)::h_ [e2,e3,e4,e5,I] X.env))(d: ~~~(h_ [e2,e3,e4,e5,I] X.env=(b_,FR e2 X.env)::h_ [e3,e4,e5,I] X.env))(c: ~~~(h_ [e3,e4,e5,I] X.env=(b_,FR e3 X.env)::h_ [e4,e5,I] X.env))(b: ~~~(h_ [e4,e5,I] X.env=(b_,FR e4 X.env)::h_ [e5,I] X.env))(a: ~~~(h_ [e5,I] X.env=(b_,FR e5 X.env)::h_ [I] X.env))(Y: ~~~(h_ [I] X.env=(b_,FR I X.env)::h_ [] X.env)):DA K W X [e1,e2,e3,e4,e5,I] (aa f1 (aa f2 (aa f3 (aa f4 (aa f5 (aa J aC)))))):=(cC h1 (cC h2 (cC i (cC h (cC g (cC f eQ Y) a) b) c) d) e)
theorem eh(b:X.N.Nodup)(a:DE K W b_ X e f)(hi: ~~~(X.N[i]?=a_ x))(I:autoParam (Loc X.env.scope x) Jq6)(J: ~~~(G0 e (a_ (.Name x pos')) pos.line X.env=GZ b_))(Y:autoParam (X.fn x=d_\/X.env.scope.names.lookup x=a_ .local) Jq3):
  DS K W ro X OL O (aft b_ i O) (.Assign [.Name x pos'] e pos) (bw O i f):=EM b a hi I J Y
theorem EN(b:X.N.Nodup)(a:DE K W d_ X e f)(hi: ~~~(X.N[i]?=a_ x))(I:autoParam (Loc X.env.scope x) Jq6)(J: ~~~(G0 e (a_ (.Name x pos')) pos.line X.env=GZ b_))(Y:autoParam (X.fn x=d_\/X.env.scope.names.lookup x=a_ .local) Jq3):
  DS K W ro X OL O (aft d_ i O) (.Assign [.Name x pos'] e pos) (bw O i f):=EM b a hi I J Y
end
section
variable{q:p_}{kV:j_}
theorem dF(J:K.In h)(G:h.Ns Gj mg)(a:autoParam (Nn K Gj x=a_ (a_ (.ref f))) Jq2)(l:autoParam (K.lookup f=a_ ⟨oc,od,.func (Kw x x (dU st) (bO st) (aE st) .none kV doc pm an cdv ct),osl⟩) Jq2)(c:autoParam (Lg K cdv x=d_) Jq2)(k:autoParam (H_ K (.ref f)=d_) Jq2)(I:autoParam (∀(kV doc pm:j_) (an:Option i_) (cdv ct:j_) (us:List j_),us.length=ps.length->Kj (Kw x x (dU st) (bO st) (aE st) .none kV doc pm an cdv ct) ⟨us,[]⟩=GZ (ps.zip us)) Jq12):∃f fd,Def K mg x st ps f fd:=⟨_,_,def_of J G a l c k I⟩
theorem mF(a:autoParam (FQ K (.ref C) x=a_ (a_ (.ref f))) Jq2)(i:autoParam (isFn K (.ref f)=d_) Jq2)(l:autoParam (K.lookup f=a_ ⟨oc,od,.func (Kw x q (dU st) (bO st) (aE st) .none kV doc pm an cdv ct),osl⟩) Jq2)(c:autoParam (Lg K cdv q=d_) Jq2)(k:autoParam (H_ K (.ref f)=d_) Jq2)(I:autoParam (∀(kV doc pm:j_) (an:Option i_) (cdv ct:j_) (us:List j_),us.length=ps.length->Kj (Kw x q (dU st) (bO st) (aE st) .none kV doc pm an cdv ct) ⟨us,[]⟩=GZ (ps.zip us)) Jq12):∃f fd,Mth K C x q st ps f fd:=⟨_,_,mth_of a i l c k I⟩
theorem kF(g:K.In h)(G:h.Ns Gj mg)(a:autoParam (Nn K Gj x=a_ (a_ (.ref C))) Jq2)(Y:autoParam (K2 K C HQ=d_) Jq2)(hd:autoParam (Ie K C=d_) Jq2)(J:autoParam (MJ K C=d_) Jq2)(I:autoParam (FQ K (.ref C) "__setattr__"=a_ (a_ (.builtin "object.__setattr__"))) Jq2)(mk:autoParam (MZ K C=d_) Jq2)(b:autoParam (H_ K (.ref C)=d_) Jq2)(f:autoParam (FQ K (.ref C) "__class__"=a_ (a_ (.builtin "object.__class__"))) Jq2)(e:autoParam (Ks K (.builtin "object.__class__") "__get__"=a_ (a_ (.builtin "getset_descriptor.__get__"))) Jq2)(d:autoParam (NZ K (.builtin "object.__class__")=a_ d_) Jq2)(c:autoParam (HZ K C (.type "object")=a_ d_) Jq2):Kls K mg x C:=kls_of g G a Y hd J I mk b f e d c
theorem xF(c:K.In h)(G:h.Ns Gj mg)(a:autoParam (Nn K Gj x=a_ (a_ (.ref C))) Jq2)(i:autoParam (FQ K (.ref C) "__init__"=a_ (a_ (.ref f))) Jq2)(ex:autoParam (pe K C [.type "ValueError",.type "Exception",.type "BaseException",.type "object"] "ValueError.__new__" f=d_) Jq8)(Y:autoParam (FQ K (.ref C) "__getattribute__"=a_ (a_ (.builtin "BaseException.__getattribute__"))) Jq2)(b:autoParam (FQ K (.ref C) "__class__"=a_ (a_ (.builtin "object.__class__"))) Jq2)(J:autoParam (FQ K (.ref C) "__getattr__"=a_ c_) Jq2)(bs:autoParam (HZ K C (.type "BaseException")=a_ d_) Jq2)(I:autoParam (HZ K C (.type "object")=a_ d_) Jq2)(is:autoParam ((Lh K C).isSome=d_) Jq8):XTry K mg x C:=
 ⟨mg_of c G a,xnamed2 ex,⟨Y,b,J,bs,I,HG.mp is⟩⟩
theorem xM(J:K.In h)(G:h.Ns Gj mg)(N:∃f fd,Mth K C "__init__" q st ps f fd)(a:autoParam (Nn K Gj x=a_ (a_ (.ref C))) Jq2)(i:autoParam (FQ K (.ref C) "__init__"=a_ (a_ (.ref f))) Jq2)(ex:autoParam (pe K C [.type "ValueError",.type "Exception",.type "BaseException",.type "object"] "ValueError.__new__" f=d_) Jq8)(fn:autoParam (isFn K (.ref f)=d_) Jq2)(I:autoParam (H_ K (.ref C)=d_) Jq2):∃f fd,Mth K C "__init__" q st ps f fd/\XMk K mg x C f:=by obtain⟨Y,fd,M⟩:=N;have e:=M.mt.1.symm.trans i;cases e;exact⟨_,fd,M,mg_of J G a,ex,HC.mp fn,I⟩
theorem lF{y:p_}(Y:K.In h)(G:h.Ns Gj mg)(a:autoParam (Nn K Gj x=a_ (a_ (.ref f))) Jq2)(l:autoParam (K.lookup f=a_ ⟨oc,od,.func (Kw x x (dU st) (bO st) (aE st) .none kV doc pm an cdv ct),osl⟩) Jq2)(c:autoParam (Lg K cdv x=d_) Jq2)(k:autoParam (H_ K (.ref f)=d_) Jq2)(I:∀(kV doc pm:j_) (an:Option i_) (cdv ct:j_) (v:j_),Kj (Kw x x (dU st) (bO st) (aE st) .none kV doc pm an cdv ct) ⟨[v],[]⟩=GZ [(y,v)]:=by intros;rfl):∃f fd,Def K mg x st [y] f fd/\∀(s:y_) (v:j_),Kt s fd ⟨[v],[]⟩ [(y,v)]:=
 ⟨_,_,def_of Y G a l c k λ_ _ _ _ _ _ us J=>match us,J with|[_],_=>I ..,λ_ _=>.of_eq (I ..)⟩
theorem Fun.uniq{fd':Hv}(a:Fun K x q st f fd)(b:Fun K x q st f fd'):fd=fd':=by obtain⟨oc,od,kV,doc,pm,an,cdv,ct,osl,rfl,i,_⟩:=a.ex;obtain⟨h,g,j,Y,d,l,c,k,J,rfl,I,_⟩:=b.ex;have e:=i.symm.trans I;cases e;rfl
theorem rS(N:∃f fd,Mth K C x q st ps f fd)(a:autoParam (FQ K (.ref C) x=a_ (a_ (.ref f))) Jq2)(b:autoParam (Ks K (.ref C) "__getattribute__"=a_ (a_ (.builtin "type.__getattribute__"))) Jq8)(Y:autoParam (MI K C mc=d_) Jq8)(J:autoParam (MK K (.ref C) mc x=a_ (.val (.ref f))) Jq8)(I:autoParam (H_ K (.ref f)=d_) Jq2):∃f fd,Mth K C x q st ps f fd/\Stat K C mc x f:=by obtain⟨c,fd,M⟩:=N;have e:=M.mt.1.symm.trans a;cases e;exact⟨_,fd,M,b,Y,J,I⟩
end
def gV:List A'->M (List p_)
 |[]=>.ok []|.str x::ds=>(gV ds).bind λr=>.ok (x::r)|_::_=>stk
@[simp] theorem e_strs0:gV []=.ok []:=id rfl
@[simp] theorem e_strs1(x:p_)(ds:List A'):gV (.str x::ds)=(gV ds).bind λr=>.ok (x::r):=id rfl
noncomputable def isS:A'->Bool
 |.str _=>d_|_=>b_
def rg:A'->A'->M A'
 |.str I,.lst ds=>(gV ds).bind λxs=>if (xs.map (·.length)).sum+xs.length*I.length<=f_ then .ok (.str (G4 I xs))else stk
 |_,_=>stk
@[simp] theorem rD(I:p_)(ds:List A'):rg (.str I) (.lst ds)=(gV ds).bind λxs=>if (xs.map (·.length)).sum+xs.length*I.length<=f_ then .ok (.str (G4 I xs))else stk:=id rfl
def fSM(g:A'->A'->M A')(fo fe:ah->M A'):ah->M A':=λρ=>(fo ρ).bind λa=>if isS a=d_ then(fe ρ).bind λb=>g a b else stk
@[simp] theorem e_fSM(g:A'->A'->M A')(fo fe:ah->M A')(ρ:ah):fSM g fo fe ρ=(fo ρ).bind λa=>if isS a=d_ then(fe ρ).bind λb=>g a b else stk:=id rfl
@[simp] theorem e_isS(x:p_):isS (.str x)=d_:=id rfl
def rSM(K:Pn)(W:eI)(own:Bool)(g:A'->A'->M A'):V->List V->Hp->VK->Prop:=λx vs H Q=>∃F z b y,aF F H/\x=.str z/\vs=[y]/\aR K F b y/\aJ K W own F H (g (.str z) b) Q
theorem tL{M:KA}{A:HE}{E:Mq}{Q R:p_->y_->Prop}:∀{ps:List (N2 j_)} {I:p_} {s:y_},Joins M A E ps I Q s->(∀z s,Q z s->R z s)->Joins M A E ps I R s
 |[],I,s,h,k=>k _ _ h|x::ps,I,s,h,k=>Gx h (λv J ⟨y,t,e,l,q⟩=>⟨y,t,e,l,tL q k⟩) λ_ _ z=>z
section
variable{W:eI}{own:Bool}{name:p_}{id:String} 
theorem rJ(t:MtR X id (rSM X.K W own g))(c:Slot "str" name id)(j:typeOf (.builtin id)=GZ (.type "method_descriptor"))(q:DE K W b_ X o fo)(f:DE K W b_ X e fe)(w: ~~~(X.K=K))(Y: ~~~(GQ o name X.env (FR o X.env)=FR o X.env))(d: ~~~(((Gh cpos (h_ [e] X.env)).all (λx=> !x.1)&&(Ho cpos (GJ [] X.env)).all (λx=>x.1.isSome)&&q_ ([e].length+([]:List Hk).length+(if ([]:List Hk).isEmpty then 0 else 1)<30))=d_))(J: ~~~((apos.endLine==cpos.line)=d_))(l: ~~~(h_ [e] X.env=(b_,FR e X.env)::h_ [] X.env))(I: ~~~((Gh cpos (h_ [] X.env)).any (·.1)=b_)):
  DE K W own X (.Call (.Attribute o name apos) [e] [] cpos) (fSM g fo fe):=by
 subst w;refine PE.imp (lY PySem.F.plainAttrs_str c j t q (av f aK (by rw[l])) Y d J l I) λσ H Q h=>?_;obtain⟨F,ρ,r,s,p⟩:=h;refine aO r s (λe f=>p.err (by unfold fSM;rw[f];rfl)) λa v x F1 H1 i n=>?_;have A:fSM g fo fe ρ=if isS a=d_ then(fe ρ).bind λb=>g a b else stk:=by unfold fSM;rw[v];rfl
 rw[A]at p;have p:=p.step i;cases a with
 |str z=>
  have p:aJ X.K W own F1 H1 ((fe ρ).bind λb=>g (.str z) b) Q:=p;cases(show x=V.str z from n);refine⟨rfl,?_⟩
  refine aO (r.mono i.ff) i.fh (λe f=>p.err (by rw[f];rfl)) λb u y F2 H2 k m=>?_;rw[u]at p;exact⟨F2,z,b,y,k.fh,rfl,rfl,m,p.step k⟩
 |_=>exact aJ.stuck p
theorem qq{F:Hp}:∀{ds:List A'} {xs:List V} {I:List p_},az K F ds xs->gV ds=.ok I->xs=I.map V.str
 |[],_,_,q,e=>by cases e;exact q|d::ds,_,I,⟨v,vs,e1,q,r⟩,e=>by
  cases d with
  |str z=>
   cases e2:gV ds with
   |error x=>rw[gV,e2]at e;cases e|ok r2=>rw[gV,e2]at e;cases e;rw[e1,qq r e2,show v=.str z from q];rfl
  |_=>cases e
theorem qu:∀{ds:List A'} {e:Err},gV ds=.error e->e=.stuck
 |[],_,h=>by cases h|d::ds,e,h=>by
  cases d with
  |str z=>
   cases e2:gV ds with
   |error x=>rw[gV,e2]at h;cases h;exact qu e2|ok r2=>rw[gV,e2]at h;cases h
  |_=>cases h;rfl
theorem qj:∀{I:List p_} {us:List j_},Hn (I.map V.str) us->∃l:List (p_×Nv),us=Ir l/\l.map (·.1)=I
 |[],_,.nil=>⟨[],rfl,rfl⟩|x::I,_,.cons r rs=>by
  obtain⟨t,rfl⟩:=(show ∃t,_=Ha x t from r)
  obtain⟨l,rfl,e⟩:=qj rs;exact⟨(x,t)::l,rfl,by rw[C_,e]⟩
theorem oo:MtR X "str.join" (rSM X.K W own rg):=by
 intro B' s σ H x vs v us Q I g i h;obtain⟨F,J,b,y,f,rfl,rfl,k,p⟩:=h;obtain⟨u,rfl,j⟩:=i.one;obtain⟨t,rfl⟩:=(show ∃t,v=Ha J t from g)
 cases b with
 |lst ds=>
  obtain⟨l,xs,rfl,q,z⟩:=k;cases j;cases e1:gV ds with
  |error e=>rw[rg,e1]at p;rw[qu e1]at p;exact aJ.stuck p|ok c=>
   rw[rg,e1]at p;have p:aJ X.K W own F H (if (c.map (·.length)).sum+c.length*J.length<=f_ then .ok (.str (G4 J c))else stk) Q:=p;have m:=qq z e1;subst m;obtain⟨F9,r,pl,n⟩:=I.list (f.lst q);obtain⟨L,rfl,rfl⟩:=qj r;by_cases d:((L.map (·.1)).map (·.length)).sum+(L.map (·.1)).length*J.length<=f_
   ·rw[g_ d]at p;have Y:=p.str f;refine JX G6 (JW _ _ _) PySem.F.entry_str_join (PySem.F.args_str_join_2 _ _) (meets_str_join_list J t l L (by rw[StrLaws.joinTotal];exact m_ (Lm.mpr d))) ⟨pl.isList,?_⟩;have a:(Builtin.Str.glued J (L.map (·.1))).length<=f_:=by
     rw[size_glued];have:=Nat.mul_le_mul_right J.length (Nat.sub_le (L.map (·.1)).length 1);omega
    have e:=StrLaws.glued_eq_join J (L.map (·.1))
    match L,Y,a,e with
    |[],Y,a,e=>exact⟨a,.str _,H,I.tok _,⟨_,rfl⟩,by rw[e];exact Y⟩|[p],Y,_,_=>exact⟨.str _,H,I,⟨_,rfl⟩,Y⟩|p1::p2::L,Y,a,e=>exact⟨a,.str _,H,I.tok _,⟨_,rfl⟩,by rw[e];exact Y⟩
   ·rw[l_ d]at p;exact aJ.stuck p
 |_=>exact aJ.stuck p
noncomputable def iw(i:Int):p_:=toString i
def strD:List A'->M A'
 |[.int i]=>if i.natAbs.log2<1920 then .ok (.str (iw i))else stk
 |_=>stk
@[simp] theorem EJ(i:Int):strD [.int i]=if i.natAbs.log2<1920 then .ok (.str (iw i))else stk:=id rfl
theorem Cw:sX K W own X (.type "str") strD:=yf.imp λxs H Q h=>by
 obtain⟨F,d,x,s,e,q,p⟩:=oi (λds=>by match ds with|[d]=>exact .inl ⟨d,rfl⟩|[]=>exact .inr rfl|a::b::c=>exact .inr (by cases a<;>rfl)) h;cases d with
 |int i=>
  have p:aJ K W own F H (if i.natAbs.log2<1920 then .ok (.str (iw i))else stk) Q:=p;by_cases I:i.natAbs.log2<1920
  ·rw[g_ I]at p;exact⟨i,by rw[e,show x=.int i from q],I,p.str s⟩
  ·rw[l_ I]at p;exact aJ.stuck p
 |_=>exact aJ.stuck p
def zA:A'->A'->M A'
 |.str z,.int i=>if z.length<=f_ then(match atI z.cps.toList i with
  |some c=>.ok (.str ⟨#[c]⟩)|none=>stk)else stk
 |_,_=>stk
theorem qh:IxR X (rD2 K W own zA):=ix_str.imp λx y H Q h=>by
 obtain⟨F,a,b,s,d,Y,p⟩:=h;cases a with
 |str z=>cases b with
  |int i=>
   have p:aJ K W own F H (if z.length<=f_ then(match atI z.cps.toList i with
    |some c=>.ok (.str ⟨#[c]⟩)|none=>stk)else stk) Q:=p
   by_cases I:z.length<=f_
   ·rw[g_ I]at p;cases J:atI z.cps.toList i with
    |none=>rw[J]at p;exact aJ.stuck p|some c=>rw[J]at p;exact⟨z,i,c,d,Y,I,J,p.str s⟩
   ·rw[l_ I]at p;exact aJ.stuck p
  |_=>exact aJ.stuck p
 |_=>exact aJ.stuck p
def oz:A'->M A'
 |.int i=>if i.natAbs.log2<1920 then .ok (.str (iw i))else stk
 |.str z=>if z.length<=f_ then .ok (.str z)else stk
 |_=>stk
@[simp] theorem e_fmtI(i:Int):oz (.int i)=if i.natAbs.log2<1920 then .ok (.str (iw i))else stk:=id rfl
@[simp] theorem e_fmtS(z:p_):oz (.str z)=if z.length<=f_ then .ok (.str z)else stk:=id rfl
theorem rN(Y:DE K W b_ X e fe):DE K W own X (.FormattedValue e (-1) c_ pos) (f1 oz fe):=by
 intro B' s σ H Q I h;obtain⟨F,ρ,r,j,p⟩:=h;refine wpAny_FormattedValue_plain (HH (Y B' s σ H (λv H1=>∃a F1,fe ρ=.ok a/\C6 F H F1 H1/\aR K F1 a v) I (aO r j (λe Y=>p.err (by show(fe ρ).bind oz=_;rw[Y];rfl)) λa b v F1 H1 d k=>⟨a,F1,b,d,k⟩)) λv d l=>?_);obtain⟨x,H1,c,f,a,F1,b,st,q⟩:=l;have p:aJ K W own F H (oz a) Q:=by have p:aJ K W own F H ((fe ρ).bind oz) Q:=p;rw[b]at p;exact p
 have p:=p.step st;cases a with
 |int i=>
  have p:aJ K W own F1 H1 (if i.natAbs.log2<1920 then .ok (.str (iw i))else stk) Q:=p;cases(show x=V.int i from q);obtain⟨t,rfl⟩:=(show ∃t,v=Jg i t from f)
  by_cases J:i.natAbs.log2<1920
  ·rw[g_ J]at p;exact wpAny_formatField_int J ⟨.str (iw i),H1,(c.tok _).tok _,⟨_,rfl⟩,p.str st.fh⟩
  ·rw[l_ J]at p;exact aJ.stuck p
 |str z=>
  have p:aJ K W own F1 H1 (if z.length<=f_ then .ok (.str z)else stk) Q:=p;cases(show x=V.str z from q);obtain⟨t,rfl⟩:=(show ∃t,v=Ha z t from f)
  by_cases J:z.length<=f_
  ·rw[g_ J]at p;have g:=p.str st.fh;exact wpAny_formatField_str ⟨.str z,H1,c,⟨_,rfl⟩,g⟩ ⟨.str z,H1,c.tok _,⟨_,rfl⟩,g⟩ J
  ·rw[l_ J]at p;exact aJ.stuck p
 |_=>exact aJ.stuck p
def pH(fs:List (ah->M A'))(ρ:ah):p_->M p_:=match fs with
 |[]=>λI=>.ok I|f::fs=>λI=>(f ρ).bind λd=>match d with
  |.str z=>if (I++z).length<=f_ then pH fs ρ (I++z)else stk
  |_=>stk
def fJ(fs:List (ah->M A')):ah->M A':=λρ=>(pH fs ρ HQ).bind λz=>.ok (.str z)
def tJ(K:Pn)(W:eI)(fs:List (ah->M A'))(I:p_)(σ:St)(H:Hp)(Q:p_->Hp->Prop):Prop:=∃F ρ,cP K F σ ρ/\aF F H/\(match pH fs ρ I with
 |.ok z=>∀F' H',C6 F H F' H'->Q z H'|.error e=>W.p e F H)
def DJ(K:Pn)(W:eI)(X:Cx)(es:List GO)(fs:List (ah->M A')):Prop:=∀(B':Vp) (s:y_) (σ:St) (H:Hp) (I:p_) (Q:p_->Hp->Prop),I.length<=f_->C' X B' σ H s->tJ K W fs I σ H Q ->
 Joins (FE X.prog X.w) X.A X.xe (Nl es X.env) I (λout J=>out.length<=f_/\∃H1,C' X B' σ H1 J/\Q out H1) s
theorem ET(Y: ~~~(Nl [] X.env=[])):DJ K W X [] []:=λB' s σ H b Q a I ⟨F,ρ,r,J,p⟩=>by rw[Y];exact⟨a,H,I,p F H (C6.refl J)⟩
theorem gB{fs:List (ah->M A')}(c:DE K W b_ X e fe)(k:DJ K W X es fs)(j: ~~~(Nl (e::es) X.env=FR e X.env::Nl es X.env)):DJ K W X (e::es) (fe::fs):=λB' s σ H J Q f I ⟨F,ρ,r,g,p⟩=>by
 rw[j];have p:(match (fe ρ).bind (λd=>match d with
  |.str z=>if (J++z).length<=f_ then pH fs ρ (J++z)else stk
  |_=>stk)with
  |.ok z=>∀F' H',C6 F H F' H'->Q z H'|.error e=>W.p e F H):=p
 refine HH (c B' s σ H (λv H1=>∃a F1,fe ρ=.ok a/\C6 F H F1 H1/\aR K F1 a v) I (aO r g (λe c=>by rw[c]at p;exact p) λa f v F1 H1 b i=>⟨a,F1,f,b,i⟩)) λv b l=>?_;obtain⟨x,H1,m,h,a,F1,ea,st,q⟩:=l;rw[ea]at p;cases a with
 |str z=>
  cases(show x=V.str z from q);obtain⟨t,rfl⟩:=(show ∃t,v=Ha z t from h)
  have p:(match (if (J++z).length<=f_ then pH fs ρ (J++z)else stk)with
   |.ok z=>∀F' H',C6 F H F' H'->Q z H'|.error e=>W.p e F H):=p
  by_cases Y:(J++z).length<=f_
  ·rw[g_ Y]at p;refine⟨z,t,rfl,Y,k B' b σ H1 (J++z) Q Y m ⟨F1,ρ,r.mono st.ff,st.fh,?_⟩⟩
   cases e1:pH fs ρ (J++z)with
   |ok y=>rw[e1]at p;exact λF' H' s'=>p F' H' (st.trans s')|error e=>rw[e1]at p;exact W.mono p st
  ·rw[l_ Y]at p;exact(W.ns p).elim
 |_=>exact(W.ns p).elim
theorem zL{fs:List (ah->M A')}(h:DJ K W X (e1::e2::es) fs):DE K W own X (.JoinedStr (e1::e2::es) pos) (fJ fs):=by
 intro B' s σ H Q I ⟨F,ρ,r,J,p⟩;have p:aJ K W own F H ((pH fs ρ HQ).bind λz=>.ok (.str z)) Q:=p;refine wpAny_JoinedStr ?_;refine tL (h B' s σ H HQ (λz H1=>Q (.str z) H1) (by decide) I ⟨F,ρ,r,J,?_⟩) λout b ⟨Y,H1,a,q⟩=>⟨Y,.str out,H1,a.tok _,⟨_,rfl⟩,q⟩
 cases e1:pH fs ρ HQ with
 |ok z=>rw[e1]at p;exact λF' H' s'=>(p.step s').str s'.fh|error e=>rw[e1]at p;exact p
end
def newS(C:i_)(g:List A'->M A'):List A'->M A'
 |[.lst Y,I,.lst d1,.lst d2,.lst J]=>(g [.lst Y,I,.lst d1,.lst d2,.lst J]).bind λt=>match t with
  |.str z=>.ok (.ins C [("kinds",.lst Y),("rules",I),("names",.lst d1),("flights",.lst d2),("closed",.lst J),("text",.str z)])|_=>stk
 |_=>stk
def spIS(K:Pn)(C:i_)(g:List A'->M A'):Sp:=λvs H Q _=>∃(p dx l b1 b2 b3:i_) (b:V) (a Y J I:List V) (F:Hp) (k d1 d2 j:List A') (i:A') (z:p_),
 vs=[.ref p,.ref l,b,.ref b1,.ref b2,.ref b3]/\H p=a_ (.ins C dx [])/\F p=c_/\aF F H/\(SqL K F l a/\az K F k a)/\aR K F i b/\(SqL K F b1 Y/\az K F d1 Y)/\(SqL K F b2 J/\az K F d2 J)/\(SqL K F b3 I/\az K F j I) /\
 g [.lst k,i,.lst d1,.lst d2,.lst j]=.ok (.str z)/\∀(h f e d:i_) (H':Hp),(∀c o,H c=a_ o->c≠p->H' c=a_ o)->H h=c_->H f=c_->H e=c_->H d=c_->H' h=a_ (.lst a)->H' f=a_ (.lst Y)->H' e=a_ (.lst J)->H' d=a_ (.lst I) ->
  H' p=a_ (.ins C dx [("kinds",.ref h),("rules",b),("names",.ref f),("flights",.ref e),("closed",.ref d),("text",.str z)])->Q .non H'
theorem C6.own(s:C6 F H F1 H1){o:HO}(J:H l=c_)(h1:H1 l=a_ o):C6 F H (upd F1 l o) H1 where
 ff:=λb u e=>by
  by_cases I:b=l
  ·subst I;rw[ao,<- h1,s.fh _ _ (s.ff _ _ e)]
  ·rw[aq I];exact s.ff _ _ e
 hh:=s.hh
 fh:=λb u e=>by
  by_cases I:b=l
  ·subst I;rw[ao]at e;rw[h1];exact e
  ·rw[aq I]at e;exact s.fh _ _ e
 nw:=λb u e=>by
  by_cases I:b=l
  ·subst I;exact .inr J
  ·rw[aq I]at e;exact s.nw _ _ e
theorem C6.qP(s:C6 F H F1 H1){o:HO}(h1:H1 l=a_ o):aF F1 (upd F1 l o):=λb u e=>by
 by_cases I:b=l
 ·subst I;rw[ao,<- h1,s.fh _ _ e]
 ·rw[aq I];exact e
theorem born_S{x dx b m1 a Y:i_}{q:V}{j i g f:List V}{y d1 d2 w:List A'}{v:A'}{t:p_}(B:aF F H1)(r:H1 x=c_)(k:H1 dx=c_)(T:az K F y j)(L:aR K F v q)(S:az K F d1 i)(R:az K F d2 g)(Q:az K F w f)(k0:∀c o,upd (upd H1 dx (.own x)) x (.ins C dx []) c=a_ o->c≠x->H' c=a_ o)(P:upd (upd H1 dx (.own x)) x (.ins C dx []) b=c_)(O:upd (upd H1 dx (.own x)) x (.ins C dx []) m1=c_)(n2:upd (upd H1 dx (.own x)) x (.ins C dx []) a=c_)(N:upd (upd H1 dx (.own x)) x (.ins C dx []) Y=c_)(k1:H' b=a_ (.lst j))(k2:H' m1=a_ (.lst i))(k3:H' a=a_ (.lst g))(n:H' Y=a_ (.lst f))(k5:H' x=a_ (.ins C dx [("kinds",.ref b),("rules",q),("names",.ref m1),("flights",.ref a),("closed",.ref Y),("text",.str t)])):
  ∃G,C6 F H1 G H'/\aR K G (.ins C [("kinds",.lst y),("rules",v),("names",.lst d1),("flights",.lst d2),("closed",.lst w),("text",.str t)]) (.ref x):=by
 have I:∀{c:i_},upd (upd H1 dx (.own x)) x (.ins C dx []) c=c_->H1 c=c_:=λ{c} h=>by
  cases m:H1 c with
  |none=>rfl|some o=>
   have h1:c≠x:=λh=>by rw[h,r]at m;cases m
   have h2:c≠dx:=λh=>by rw[h,k]at m;cases m
   rw[aq h1,aq h2,m]at h;cases h
 have u:aF H1 H':=λc o e=>by
  have h1:c≠x:=λh=>by rw[h,r]at e;cases e
  have h2:c≠dx:=λh=>by rw[h,k]at e;cases e
  exact k0 c o (by rw[aq h1,aq h2];exact e) h1
 have U:C6 F H1 F H':=⟨aF.refl _,u,B.trans u,λ_ _ h=>.inl h⟩
 have A:=U.own (I P) k1;have s:=A.own (I O) k2;have p:=s.own (I n2) k3;have z:=p.own (I N) n;have d:=z.own r k5;have J:∀{l:i_} {o:HO},upd (upd (upd (upd F b (.lst j)) m1 (.lst i)) a (.lst g)) Y (.lst f) l=a_ o->upd (upd (upd (upd (upd F b (.lst j)) m1 (.lst i)) a (.lst g)) Y (.lst f)) x (.ins C dx [("kinds",.ref b),("rules",q),("names",.ref m1),("flights",.ref a),("closed",.ref Y),("text",.str t)]) l=a_ o:=λ{l o} h=>z.qP k5 l o h;have H:=J (p.qP n _ _ (s.qP k3 _ _ (A.qP k2 b _ ao)));have E:=J (p.qP n _ _ (s.qP k3 m1 _ ao));have r2:=J (p.qP n a _ ao);have D:=J (l:=Y) ao;exact⟨_,d,x,dx,_,rfl,ao,_,_,rfl,⟨b,j,rfl,SqL.of H,az.mono d.ff T⟩,_,_,rfl,aR.mono d.ff L,_,_,rfl,⟨m1,i,rfl,SqL.of E,az.mono d.ff S⟩,_,_,rfl,⟨a,g,rfl,SqL.of r2,az.mono d.ff R⟩,_,_,rfl,⟨Y,f,rfl,SqL.of D,az.mono d.ff Q⟩,_,_,rfl,rfl,rfl⟩
section
variable{e0:GO}{fr:ah->M (List A')}
theorem de_newS{k:Nat}{g:List A'->M A'}(m:Mk X.K C fI)(FI:iL X.prog X.w X.K X.mg X.base CX0 k fI fdI ps (spIS K C g))(hr:iJ (k+1) X.A)(hm:X.mg x=a_ (.ref C))(hb:Binds X.K fdI ps [])(ha:DA K J3 X [e0,e1,e2,e3,e4] fr)(hg: ~~~(Gl X x))(l:((x==("__debug__":p_))=b_)⁻¹)(i: ~~~(h_ [e0,e1,e2,e3,e4] X.env=(b_,FR e0 X.env)::h_ [e1,e2,e3,e4] X.env))(j: ~~~((Gh pos (h_ [e1,e2,e3,e4] X.env)).any (·.1)=b_)):
  DE K J3 b_ X (.Call (.Name x p) [e0,e1,e2,e3,e4] [] pos) (fL (newS C g) fr):=by
 refine PE.imp (zd m FI hr hg hm hb .nil qO ha l i j) λσ H Q h=>?_;obtain⟨F,ρ,r,s,p⟩:=rd_L h;refine⟨F,ρ,r,s,?_⟩
 cases e1:fr ρ with
 |error z=>rw[e1]at p;exact p|ok ds=>
  rw[e1]at p;intro vs F1 H1 st q;obtain⟨F2,es1,J,N,z⟩:=p vs F1 H1 st q;unfold newS at z;split at z
  ·rename_i d a d1 d2 b;obtain⟨_,_,rfl,⟨b0,E,rfl,Z,y⟩,L,_,rfl,n,_,_,rfl,⟨b1,D,rfl,W,w⟩,_,_,rfl,⟨b2,B,rfl,U,v⟩,_,_,rfl,⟨b3,A,rfl,T,u⟩,hn⟩:=N;cases hn;have z:aJ K J3 b_ F2 H1 ((g [.lst d,a,.lst d1,.lst d2,.lst b]).bind λt=>match t with
    |.str z=>.ok (.ins C [("kinds",.lst d),("rules",a),("names",.lst d1),("flights",.lst d2),("closed",.lst b),("text",.str z)])|_=>stk) Q:=z
   cases I:g [.lst d,a,.lst d1,.lst d2,.lst b]with
   |error e=>rw[I]at z;exact GA z|ok t=>
    rw[I]at z;cases t with
    |str t=>
     intro x dx f Y hne;refine⟨x,dx,b0,b1,b2,b3,L,E,D,B,A,F2,d,d1,d2,b,a,t,rfl,ao,J.free f,λc o e=>?_,⟨Z,y⟩,n,⟨W,w⟩,⟨U,v⟩,⟨T,u⟩,I,?_⟩
     ·have hc:c≠x:=λh=>by rw[h,J.free f]at e;cases e
      have hd:c≠dx:=λh=>by rw[h,J.free Y]at e;cases e
      rw[aq hc,aq hd];exact J _ _ e
     ·intro m0 m1 m2 m3 H' k0 R P n2 O k1 k2 k3 k4 k5;obtain⟨G,S,q⟩:=born_S J f Y y n w v u k0 R P n2 O k1 k2 k3 k4 k5;exact⟨rfl,z (.ref x) G H' S q⟩
    |_=>exact aJ.stuck z
  ·exact aJ.stuck z
end
def RLst(K:Pn):List V->Hp->VK->Prop:=λxs H Q=>∃p ys,xs=[.ref p]/\(SqL K H p ys\/SqT K H p ys)/\∀l,H l=c_->Q (.ref l) (upd H l (.lst ys))
theorem mZ(f:p_)(v:V):∀fs:List (p_×V),f∉fs.map (·.1)->tF f v fs=fs++[(f,v)]
 |[],_=>rfl|(g,x)::r,h=>by have h1:¬g=f:=λe=>h (by simp[e]);have h2:f∉r.map (·.1):=λe=>h (by simp at e ⊢;exact .inr e);show(if g=f then _ else _)=_;rw[l_ h1,mZ f v r h2];rfl
structure Cu(F H Hc:Hp)(p C dx:i_)(fs:List (p_×V)):Prop where
 f0:F p=c_
 sf:aF F Hc
 kp:∀c o,H c=a_ o->c≠p->Hc c=a_ o
 ob:Hc p=a_ (.ins C dx fs)
section
variable{p dx:i_}{fs:List (p_×V)}{f:p_}{D:Ends} 
theorem Cu.put(c:Cu F H Hc p C dx fs)(f:p_)(v:V):Cu F H (upd Hc p (.ins C dx (fs++[(f,v)]))) p C dx (fs++[(f,v)]) where
 f0:=c.f0
 sf:=λb u e=>by
  have:b≠p:=λz=>by rw[z,c.f0]at e;cases e
  rw[aq this];exact c.sf _ _ e
 kp:=λb o e I=>by rw[aq I];exact c.kp b o e I
 ob:=ao
theorem Cu.lay(c:Cu F H Hc p C dx fs){o:HO}(I:Hc l=c_):Cu F H (upd Hc l o) p C dx fs where
 f0:=c.f0
 sf:=λb u e=>by
  have:b≠l:=λz=>by rw[z,c.sf.free I]at e;cases e
  rw[aq this];exact c.sf _ _ e
 kp:=λb u e J=>by
  have h1:=c.kp b u e J;have:b≠l:=λz=>by rw[z,I]at h1;cases h1
  rw[aq this];exact h1
 ob:=by
  have:p≠l:=λz=>by have h:=c.ob;rw[z,I]at h;cases h
  rw[aq this];exact c.ob
theorem Cu.new(c:Cu F H Hc p C dx fs)(I:Hc l=c_):H l=c_:=by
 cases h:H l with
 |none=>rfl|some o=>
  have:l≠p:=λz=>by have h:=c.ob;rw[<- z,I]at h;cases h
  rw[c.kp l o h this]at I;cases I
theorem Cu.list(c:Cu F H Hc p C dx fs)(r:Cls K C)(d:bp K C f)(g:f∉fs.map (·.1))(k:fs.length<1000)(n:σ[0]?=a_ (a_ (.ref p))){y:List V}(hi:σ[i]?=a_ (a_ (.ref b)))(q:SqL K F b y)(I:∀l Y,H l=c_->Cu F H Y p C dx (fs++[(f,.ref l)])->Y l=a_ (.lst y)->(∀m o,Hc m=a_ o->m≠p->Y m=a_ o)->D.nx σ Y):An K (bG 0) (tCB (RLst K) (aM (bG i) dS)) f D σ Hc:=by
 refine⟨.ref b,hi,b,y,rfl,.inl (c.sf.lst q),λl J=>⟨.ref p,n,p,C,dx,fs,rfl,(c.lay J).ob,r,d,k,?_⟩⟩
 rw[mZ f _ fs g];have a:l≠p:=λz=>by have h:=c.ob;rw[<- z,J]at h;cases h
 refine I l _ (c.new J) ((c.lay J).put f (.ref l)) (by rw[aq a,ao]) λm o e j=>?_
 have:m≠l:=λz=>by rw[z,J]at e;cases e
 rw[aq j,aq this];exact e
end
theorem rs_initS{g:List A'->M A'}(b:Cls K C)(Y:∀y∈(["kinds","rules","names","flights","closed","text"]:List p_),bp K C y)(h:spIS K C g vs H Q E):
  cR (An K (bG 0) (tCB (RLst K) (aM (bG 1) dS)) "kinds") (cR (An K (bG 0) (bG 2) "rules") (cR (An K (bG 0) (tCB (RLst K) (aM (bG 3) dS)) "names") (cR (An K (bG 0) (tCB (RLst K) (aM (bG 4) dS)) "flights")
   (cR (An K (bG 0) (tCB (RLst K) (aM (bG 5) dS)) "closed") (An K (bG 0) (hZ (spF K b_ g 5) [] E' (aM (bG 1) (aM (bG 2) (aM (bG 3) (aM (bG 4) (aM (bG 5) dS)))))) "text")))))
   {nx:=λ_ H'=>Q .non H',rt:=Q} (start ["self","kinds","rules","names","flights","closed"] vs) H:=by
 obtain⟨p,dx,G,b1,b2,b3,J,P,O,N,L,F,Z,d1,d2,X,W,z,rfl,B,U,R,⟨s,c0⟩,S,⟨r,c1⟩,⟨n,c2⟩,⟨k,c3⟩,T,q⟩:=h;have C0:Cu F H H p C dx []:=⟨U,R,λ_ _ e _=>e,B⟩
 refine C0.list b (Y _ (by simp)) (by simp) (by decide) rfl rfl s λf H1 a C1 a0 k1=>?_;refine⟨J,rfl,.ref p,rfl,p,C,dx,_,rfl,C1.ob,b,Y _ (by simp),by simp,?_⟩
 rw[mZ _ J _ (by show("rules":p_)∉(["kinds"]:List p_);decide +kernel)];have C2:=C1.put "rules" J;have e0:∀{l:i_},H l=c_->l≠p:=λ{l} h z=>by rw[z,B]at h;cases h
 have k2:∀m o,H1 m=a_ o->m≠p->upd H1 p (.ins C dx ((([]:List (p_×V))++[(("kinds":p_),V.ref f)])++[(("rules":p_),J)])) m=a_ o:=λm o e i=>by rw[aq i];exact e
 refine C2.list b (Y _ (by simp)) (by show("names":p_)∉(["kinds","rules"]:List p_);decide +kernel) (by simp) rfl rfl r λx H3 d C3 a1 k3=>?_;refine C3.list b (Y _ (by simp)) (by show("flights":p_)∉(["kinds","rules","names"]:List p_);decide +kernel) (by simp) rfl rfl n λw H4 n2 C4 a2 A=>?_;refine C4.list b (Y _ (by simp)) (by show("closed":p_)∉(["kinds","rules","names","flights"]:List p_);decide +kernel) (by simp) rfl rfl k λu H5 t j a3 k5=>?_;refine⟨.ref G,rfl,J,rfl,.ref b1,rfl,.ref b2,rfl,.ref b3,rfl,F,[.lst Z,W,.lst d1,.lst d2,.lst X],j.sf,⟨_,_,rfl,⟨G,P,rfl,s,c0⟩,_,_,rfl,S,_,_,rfl,⟨b1,O,rfl,r,c1⟩,_,_,rfl,⟨b2,N,rfl,n,c2⟩,_,_,rfl,⟨b3,L,rfl,k,c3⟩,rfl⟩,rfl,?_⟩
 rw[T];intro v F' H' st hv;cases(show v=.str z from hv);refine⟨.ref p,rfl,p,C,dx,_,rfl,st.hh _ _ j.ob,b,Y _ (by simp),by simp,?_⟩
 rw[mZ _ _ _ (by show("text":p_)∉(["kinds","rules","names","flights","closed"]:List p_);decide +kernel)];have I:∀m o,H5 m=a_ o->m≠p->upd H' p (.ins C dx (((((([]:List (p_×V))++[(("kinds":p_),V.ref f)])++[(("rules":p_),J)])++[(("names":p_),V.ref x)])++[(("flights":p_),V.ref w)])++[(("closed":p_),V.ref u)]++[(("text":p_),V.str z)])) m=a_ o:=λm o e i=>by rw[aq i];exact st.hh _ _ e
 exact q f x w u _ (λc o e D=>I c o (j.kp c o e D) D) a d n2 t (I _ _ (k5 _ _ (A _ _ (k3 _ _ (k2 _ _ a0 (e0 a)) (e0 a)) (e0 a)) (e0 a)) (e0 a)) (I _ _ (k5 _ _ (A _ _ a1 (e0 d)) (e0 d)) (e0 d)) (I _ _ (k5 _ _ a2 (e0 n2)) (e0 n2)) (I _ _ a3 (e0 t)) ao
theorem isi1{P:i_->Bool->Prop}(h1:P C1 b1):∀C b,Gq C [(C1,b1)]=a_ b->P C b:=λC b h=>by
 rw[z_]at h;cases e:C==C1 with
 |true=>rw[e]at h;cases h;rw[HC.mp e];exact h1|false=>rw[e]at h;cases h
structure Lent(K:Pn)(H0 G H:Hp)(hh:i_)(bs:List i_)(ys:List (List V))(ds:List (List A')):Prop where
 sg:aF G H
 s0:aF H0 H
 top:H hh=a_ (.lst (bs.map .ref))
 gh:G hh=c_
 h0:H0 hh=c_
 nt:hh∉bs
 own:∀(j:Nat) (b:i_),bs[j]?=a_ b->G b=c_/\H0 b=c_/\∃y d,ys[j]?=a_ y/\ds[j]?=a_ d/\H b=a_ (.lst y)/\az K G d y
section
variable{hh:i_}{bs:List i_}{ys:List (List V)}{ds:List (List A')}
theorem Lent.step(l:Lent K H0 G H hh bs ys ds)(s:C6 G H G' H'):Lent K H0 G' H' hh bs ys ds where
 sg:=s.fh
 s0:=l.s0.trans s.hh
 top:=s.hh _ _ l.top
 gh:=by
  cases e:G' hh with
  |none=>rfl|some o=>
   rcases s.nw _ _ e with z|z
   ·rw[l.gh]at z;cases z
   ·rw[l.top]at z;cases z
 h0:=l.h0
 nt:=l.nt
 own:=λj b e=>by
  obtain⟨h1,h2,y,d,a,Y,I,J⟩:=l.own j b e;refine⟨?_,h2,y,d,a,Y,s.hh _ _ I,az.mono s.ff J⟩
  cases e:G' b with
  |none=>rfl|some o=>
   rcases s.nw _ _ e with z|z
   ·rw[h1]at z;cases z
   ·rw[I]at z;cases z
open Classical in
end
theorem cP.hide(r:cP K F σ ρ)(i:Nat)(v:Option V):cP K F (σ.set i v) (ρ.set i c_):=
 ⟨by rw[Cb,Cb,r.len],λj d e=>by
  by_cases I:i=j
  ·subst I;by_cases hi:i<ρ.length
   ·rw[u_ hi]at e;cases e
   ·rw[Ij (by rw[Cb];omega)]at e;cases e
  ·rw[n_ I]at e;obtain⟨v,h1,h2⟩:=r.sl j d e;exact⟨v,by rw[n_ I];exact h1,h2⟩⟩
theorem cP.tell(r:cP K F σ ρ){d:A'}(e:σ[i]?=a_ (a_ v))(q:aR K F d v):cP K F σ (ρ.set i (a_ d)):=
 ⟨by rw[Cb,r.len],λj d' I=>by
  by_cases J:i=j
  ·subst J;by_cases hi:i<ρ.length
   ·rw[u_ hi]at I;cases I;exact⟨v,e,q⟩
   ·rw[Ij (by rw[Cb];omega)]at I;cases I
  ·rw[n_ J]at I;exact r.sl j d' I⟩
theorem cP.but(r:cP K F σ ρ)(J:σ'.length=σ.length)(h:∀j,j≠i->σ'[j]?=σ[j]?):cP K F σ' (ρ.set i c_):=
 ⟨by rw[Cb,r.len,J],λj d e=>by
  by_cases I:i=j
  ·subst I;by_cases hi:i<ρ.length
   ·rw[u_ hi]at e;cases e
   ·rw[Ij (by rw[Cb];omega)]at e;cases e
  ·rw[n_ I]at e;obtain⟨v,h1,h2⟩:=r.sl j d e;exact⟨v,by rw[h j (FZ I)];exact h1,h2⟩⟩
noncomputable def unF:HO->HO
 |.frz _ u=>u|o=>o
open Classical in
theorem Rep.ofE(r:cP K F σ ρ)(st:C6 F0 H0 F H)(fb:aF FB F):Rep K F0 H0 FB [] F H σ ρ:=
 ⟨st,fb,r.len,λi d e _=>r.sl i d e,(λ_ _ _ h=>nomatch h),(λ_ _ _ _ _ h=>nomatch h)⟩
def oM:A'->A'->M A'
 |.str x,.str y=>if (q_ (y.length=1)&&q_ (x.length+2<=f_))=d_ then .ok (.lst ((HP x y).map .str))else stk
 |_,_=>stk
@[simp] theorem e_splitD(x y:p_):oM (.str x) (.str y)=if (q_ (y.length=1)&&q_ (x.length+2<=f_))=d_ then .ok (.lst ((HP x y).map .str))else stk:=id rfl
def nZ:A'->A'->M A'
 |.str x,.str y=>.ok (.bl (G3 x y))|_,_=>stk
@[simp] theorem e_startsD(x y:p_):nZ (.str x) (.str y)=.ok (.bl (G3 x y)):=id rfl
noncomputable def Aj:A'->M (List A')
 |.str x=>.ok (x.cps.toList.map λc=>.str ⟨#[c]⟩)|_=>.error .stuck
def fItS(fa:ah->M A'):ah->M (List A'):=λρ=>(fa ρ).bind Aj
@[simp] theorem e_fItS(fa:ah->M A')(ρ:ah):fItS fa ρ=(fa ρ).bind Aj:=id rfl
@[simp] theorem e_signsD(x:p_):Aj (.str x)=.ok (x.cps.toList.map λc=>.str ⟨#[c]⟩):=id rfl
def inSD:A'->A'->M A'
 |.str a,.str b=>.ok (.bl (!(Gg b a 0 b.length 1).isEmpty))|_,_=>stk
def ki:A'->A'->M A'
 |.str a,.str b=>.ok (.bl (!(!(Gg b a 0 b.length 1).isEmpty)))|_,_=>stk
@[simp] theorem e_inSD(c:Nat)(b:p_):inSD (.str ⟨#[c]⟩) (.str b)=.ok (.bl (q_ (c∈b.cps.toList))):=by show FN (A'.bl (!(Gg b ⟨#[c]⟩ 0 b.length 1).isEmpty))=_;rw[Mg]
@[simp] theorem e_notInSD(c:Nat)(b:p_):ki (.str ⟨#[c]⟩) (.str b)=.ok (.bl (!decide (c∈b.cps.toList))):=by show FN (A'.bl (!(!(Gg b ⟨#[c]⟩ 0 b.length 1).isEmpty)))=_;rw[Mg]
def Er:List A'->M A'
 |[.str x]=>if x.length<=640 then(match Im x with
  |some n=>.ok (.int n)|none=>stk)else stk
 |_=>stk
@[simp] theorem e_intSD(x:p_):Er [.str x]=if x.length<=640 then(match Im x with
  |some n=>.ok (.int n)|none=>stk)else stk:=id rfl
def xr:List A'->M A'
 |[.str z]=>if z.length<=f_ then .ok (.int z.length)else stk
 |_=>stk
@[simp] theorem e_lenSD(z:p_):xr [.str z]=if z.length<=f_ then .ok (.int z.length)else stk:=id rfl
noncomputable def Its(x:p_):It:=⟨λi _=>i<x.cps.size,λi H v H'=>H'=H/\∃c,x.cps[i]?=a_ c/\v=.str ⟨#[c]⟩,λi _=>i=x.cps.size⟩
theorem turn_str{nm:String}(j:nm="str_ascii_iterator"\/nm="str_iterator")(x:p_)(t:Nv)(it:i_):Turn P w K tg (Its x) [it] it (λi h=>h.IsStrIter it nm x t i):=by
 have W:∀A:HE,A.handled=c_->Walks P w A it [it] [it] x.cps.size (SignAt x) (λi h=>h.IsStrIter it nm x t i):=λA p=>by
  rcases j with rfl|rfl
  ·exact Walks.strAscii p it x t
  ·exact Walks.strWide p it x t
 have q:["enumerate","zip","dict_itemiterator","dict_reverseitemiterator","odict_iterator","itertools.zip_longest","itertools.pairwise"].contains nm=b_:=by rcases j with rfl|rfl<;>decide
 refine⟨by simp,λi h st b J=>?_,λi h h' st k=>?_,?_,?_,λA i s Q E st h=>?_⟩
 ·obtain rfl:b=it:=by simpa using J
  obtain⟨o,e,c,d⟩:=st;exact⟨o,e,λv z=>by rw[d]at z;cases z⟩
 ·obtain⟨o,e,r⟩:=st;exact⟨o,k it (by simp) o e,r⟩
 ·intro X m hw n l i B' s σ H E I f st a;subst m hw n;obtain⟨f0,f1,_,f3,f4,f5⟩:=f it (by simp);refine(W X.A (I.ok.hd l)).item i s _ _ a st λv h' tk B Y g=>?_;obtain⟨c,u,y,C⟩:=B;have F:C' X B' σ H {s with heap:=h',toks:=tk}:=I.turned (λb o J e=>g b o (by simpa using J) e) f0 f1 f3 f4 f5;obtain⟨o,e,D,d⟩:=id Y;exact⟨v,rfl,go_of (s:={s with heap:=h',toks:=tk}) e D d q ⟨.str ⟨#[c]⟩,H,F,⟨u,C⟩,⟨rfl,c,y,rfl⟩,Y,λb J=>(f b J).1⟩⟩
 ·intro X m hw n l i B' s σ H E I f st a;subst m hw n;obtain⟨f0,f1,_,f3,f4,f5⟩:=f it (by simp);have a:i=x.cps.size:=a;subst a;exact(W X.A (I.ok.hd l)).done s _ _ st λh' tk g=>⟨rfl,I.turned (λb o J e=>g b o (by simpa using J) e) f0 f1 f3 f4 f5⟩
 ·rcases j with rfl|rfl
  ·exact wpAny_pyIter_striter_ascii st h
  ·exact wpAny_pyIter_striter_wide st h
theorem iter_str(x:p_):yo K F (Its x) (x.cps.toList.map λc=>.str ⟨#[c]⟩) where
 go:=λi F' H' _ _ hi=>by show i<x.cps.size;simpa using hi
 yl:=λi F' H' v H2 d b J hd Y=>by
  obtain⟨rfl,c,a,rfl⟩:=Y;have I:x.cps.toList[i]?=a_ c:=by simpa using a
  rw[GD,I]at hd;cases hd;exact⟨F',C6.refl J,rfl⟩
 st:=λF' H' _ _=>by show _=_;simp
section
variable{W:eI}{own:Bool} 
theorem B3(l:DE K W b_ X e fa)(u: ~~~(X.K=K)):DI K W X tg e (fItS fa):=by
 subst u;intro B' s σ H R I ⟨F,ρ,r,g,p⟩;have p:(match (fa ρ).bind Aj with
  |.ok ds=>∀J F1 H1,C6 F H F1 H1->yo X.K F1 J ds->R J H1|.error e=>W.p e F H):=p
 refine HH (l B' s σ H (λv H1=>∃a F1,fa ρ=.ok a/\C6 F H F1 H1/\aR X.K F1 a v) I (aO r g (λe m=>by rw[m]at p;exact p) λa d v F1 H1 Y i=>⟨a,F1,d,Y,i⟩)) λv Y j=>?_;obtain⟨y,H1,f,h,a,F1,ea,st,q⟩:=j;rw[ea]at p;cases a with
 |str z=>
  cases(show y=V.str z from q);obtain⟨t,rfl⟩:=(show ∃t,v=Ha z t from h)
  have c:∀nm,(nm="str_ascii_iterator"\/nm="str_iterator")->PIE X B' σ tg R (.ref Y.heap.objs.size) {Y with heap:=Y.heap.push {cls:=.type nm,data:=.fields #[.str z t,.int 0 0]}}:=λnm k=>by
   refine⟨Y.heap.objs.size,[Y.heap.objs.size],_,_,H1,rfl,f.kept (t':=Y.toks) λb o e=>r_ _ e,turn_str k z t _,⟨_,FK _ rfl,rfl,rfl⟩,λb n=>?_,p (Its z) F1 H1 st (iter_str z)⟩
   obtain rfl:b=Y.heap.objs.size:=by simpa using n
   exact f.fpOk (v_ _) (f.hok.fresh (v_ _))
  cases d:z.cps.all (·<128)
  ·exact wpAny_pyIter_wide d (c _ (.inr rfl))
  ·exact wpAny_pyIter_ascii d (c _ (.inl rfl))
 |_=>exact(W.ns p).elim
theorem pP:MtR X "str.split" (rSM X.K W d_ oM):=by
 intro B' s σ H x vs v us Q I r w h;obtain⟨F,z,b,y,j,rfl,rfl,B,p⟩:=h;obtain⟨u,rfl,A⟩:=w.one;obtain⟨t,rfl⟩:=(show ∃t,v=Ha z t from r)
 cases b with
 |str J=>
  cases(show y=V.str J from B);obtain⟨t2,rfl⟩:=(show ∃t,u=Ha J t from A)
  have p:aJ X.K W d_ F H (if (q_ (J.length=1)&&q_ (z.length+2<=f_))=d_ then .ok (.lst ((HP z J).map .str))else stk) Q:=p;by_cases e:(q_ (J.length=1)&&q_ (z.length+2<=f_))=d_
  ·rw[g_ e]at p;rw[o_,FT,FT]at e;have G:=split_le z J;have i:∀l:List p_,az X.K F (l.map .str) (l.map V.str):=λl=>by
    induction l with
    |nil=>rfl|cons a l f=>exact⟨.str a,_,rfl,rfl,f⟩
   have vs:∀l:List (p_×Nv),Hn ((l.map (·.1)).map V.str) (Ir l):=λl=>by
    induction l with
    |nil=>exact .nil|cons a l f=>exact .cons ⟨a.2,rfl⟩ f
   have c:∀(l:List (p_×Nv)) (k:Nat),l.map (·.1)=HP z J->EP X B' σ Q (.ref s.heap.objs.size) {s with toks:=k,heap:=s.heap.push {cls:=.type "list",data:=.seq (Ir l).toArray}}:=λl k D=>by
    have d:((HP z J).map V.str).length<=f_:=by rw[t_];omega
    refine⟨.ref s.heap.objs.size,_,I.laid (t':=k) (o:=.lst ((HP z J).map V.str)) (λ_ _ q=>r_ _ q) (v_ _) ⟨d,Ir l,0,by rw[<- D];exact vs l,FK _ rfl⟩,rfl,?_⟩
    have Y:=I.hok.fresh (v_ s.heap.objs.size);exact p (.ref s.heap.objs.size) F _ (C6.grow j Y) ⟨_,_,rfl,ao,j.free Y,Y,i _⟩
   have n:(J.length==0)=b_:=by rw[e.1];rfl
   have C:(Kx z (Gg z J 0 z.length (z.length+1)) J.length).length<=f_:=by have:=StrLaws.occ_length_le z J 0 z.length (z.length+1);rw[length_partsBetween];omega
   have g:∀{S:PySem.Spec},Meets (Builtin.«str.split» ⟨[.str z t,.str J t2],[]⟩) S->S X.A (wants (EP X B' σ Q) X.xe) s->D_ (FE X.prog X.w) X.A (Ja (.builtin "str.split") [.str z t,.str J t2]) (EP X B' σ Q) X.xe s:=λm E=>JX HR (JW _ _ _) PySem.F.entry_str_split (PySem.F.args_str_split_2 _ _) m E;cases h1:(q_ (z.length<J.length)||q_ (K9 z<K9 J))
   ·cases Y:(Gg z J 0 z.length (z.length+1)).isEmpty
    ·refine g (meets_str_split_sep z J t t2 h1 n Y (by omega) C) ?_;show wants _ _ _ {s with toks:=_,heap:=s.heap.push {cls:=.type "list",data:=.seq (strsFrom s.toks (Kx z (Gg z J 0 z.length (z.length+1)) J.length)).toArray}};rw[strsFrom_eq];exact c (numbered s.toks _) _ ((numbered_texts _ _).trans ((l_ (by rw[h1];decide)).trans (l_ (by rw[Y];decide))).symm)
    ·exact g (meets_str_split_not_found z J t t2 h1 n Y) (c [(z,t)] s.toks ((l_ (by rw[h1];decide)).trans (g_ Y)).symm)
   ·exact g (meets_str_split_cannot_occur z J t t2 h1) (c [(z,t)] s.toks (g_ h1).symm)
  ·rw[l_ e]at p;exact aJ.stuck p
 |_=>exact aJ.stuck p
theorem E9:MtR X "str.startswith" (rSM X.K W own nZ):=by
 intro B' s σ H x vs v us Q I a c h;obtain⟨F,z,b,y,Y,rfl,rfl,e,p⟩:=h;obtain⟨u,rfl,d⟩:=c.one;obtain⟨t,rfl⟩:=(show ∃t,v=Ha z t from a)
 cases b with
 |str J=>
  cases(show y=V.str J from e);obtain⟨t2,rfl⟩:=(show ∃t,u=Ha J t from d)
  have p:aJ X.K W own F H (.ok (.bl (G3 z J))) Q:=p;exact call_gives KC (JW _ _ _) PySem.F.entry_str_startswith (PySem.F.args_str_startswith_2 _ _) (gives_str_startswith z J t t2) ⟨.bl _,H,I,rfl,p (.bl _) F H (C6.refl Y) (by cases own<;>rfl)⟩
 |_=>exact aJ.stuck p
theorem o_inS:Op2 K W own X (FU .In) inSD:=OpR.imp DN λx y H Q ⟨F,a,b,s,J,I,p⟩=>by
 cases a with
 |str i=>cases b with
  |str j=>have p:aJ K W own F H (.ok (.bl (!(Gg j i 0 j.length 1).isEmpty))) Q:=p;exact⟨i,j,J,I,p (.bl _) F H (C6.refl s) (by cases own<;>rfl)⟩
  |_=>exact aJ.stuck p
 |_=>exact aJ.stuck p
theorem pO:Op2 K W own X (FU .NotIn) ki:=OpR.imp wX λx y H Q ⟨F,a,b,s,J,I,p⟩=>by
 cases a with
 |str i=>cases b with
  |str j=>have p:aJ K W own F H (.ok (.bl (!(!(Gg j i 0 j.length 1).isEmpty)))) Q:=p;exact⟨i,j,J,I,p (.bl _) F H (C6.refl s) (by cases own<;>rfl)⟩
  |_=>exact aJ.stuck p
 |_=>exact aJ.stuck p
theorem ud:sX K W own X (.builtin "len") xr:=yg.imp λxs H Q h=>by
 obtain⟨F,d,x,s,e,q,p⟩:=oi (λds=>by match ds with|[d]=>exact .inl ⟨d,rfl⟩|[]=>exact .inr rfl|a::b::c=>exact .inr (by cases a<;>rfl)) h;cases d with
 |str z=>
  have p:aJ K W own F H (if z.length<=f_ then .ok (.int z.length)else stk) Q:=p;by_cases I:z.length<=f_
  ·rw[g_ I]at p;exact⟨z,by rw[e,show x=.str z from q],I,p (.int _) F H (C6.refl s) (by cases own<;>rfl)⟩
  ·rw[l_ I]at p;exact aJ.stuck p
 |_=>exact aJ.stuck p
theorem Fn:g7 X (.type "int") (λxs H Q=>∃z n,xs=[.str z]/\z.length<=640/\Im z=a_ n/\Q (.int n) H):=by
 intro B' s σ H xs us Q I r ⟨z,n,e,a,Y,q⟩;subst e;obtain⟨u,rfl,J⟩:=vals1 r;obtain⟨t,rfl⟩:=(show ∃t,u=Ha z t from J)
 exact PySem.W.KIN.call_text Y a ⟨.int n,H,I.tok _,⟨_,rfl⟩,q⟩
theorem Fs:sX K W own X (.type "int") Er:=Fn.imp λxs H Q h=>by
 obtain⟨F,d,x,s,e,q,p⟩:=oi (λds=>by match ds with|[d]=>exact .inl ⟨d,rfl⟩|[]=>exact .inr rfl|a::b::c=>exact .inr (by cases a<;>rfl)) h;cases d with
 |str z=>
  have p:aJ K W own F H (if z.length<=640 then(match Im z with
   |some n=>.ok (.int n)|none=>stk)else stk) Q:=p
  by_cases J:z.length<=640
  ·rw[g_ J]at p;cases I:Im z with
   |none=>rw[I]at p;exact aJ.stuck p|some n=>rw[I]at p;exact⟨z,n,by rw[e,show x=.str z from q],J,I,p (.int _) F H (C6.refl s) (by cases own<;>rfl)⟩
  ·rw[l_ J]at p;exact aJ.stuck p
 |_=>exact aJ.stuck p
theorem vq(I:∃t,X.mg x=a_ (.str z t))(J: ~~~(Gl X x))(hd:((x==("__debug__":p_))=b_)⁻¹):DE K W b_ X (.Name x pos) (fC (.str z)):=by obtain⟨t,e⟩:=I;exact(uL (v:=.str z) J e ⟨t,rfl⟩ hd).imp λ_ _ _=>rd_c λ_=>rfl
end
noncomputable def AS(xs:List p_)(k:p_):Option Nat:=xs.findIdx? (·==k)
def oq:A'->A'->M A'
 |.lst ds,.str k=>(gV ds).bind λxs=>match AS xs k with
  |some j=>.ok (.int j)|none=>stk
 |_,_=>stk
@[simp] theorem e_indexS(ds:List A')(k:p_):oq (.lst ds) (.str k)=(gV ds).bind λxs=>match AS xs k with
  |some j=>.ok (.int j)|none=>stk:=id rfl
def gZ(fo fe:ah->M A'):ah->M A':=λρ=>(fo ρ).bind λa=>if isL a=d_ then(fe ρ).bind λb=>oq a b else stk
@[simp] theorem e_fIndexS(fo fe:ah->M A')(ρ:ah):gZ fo fe ρ=(fo ρ).bind λa=>if isL a=d_ then(fe ρ).bind λb=>oq a b else stk:=id rfl
def rIndexS(K:Pn):V->List V->Hp->VK->Prop:=λx vs H Q=>∃l is k j,x=.ref l/\vs=[.str k]/\SqL K H l (is.map V.str)/\AS is k=a_ j/\Q (.int j) H
noncomputable def isKS(k:p_):j_->Bool
 |.str i _=>i==k|_=>b_
section
variable{W:eI}
theorem Ea(R:X.A.units+64<G5):MtR X "list.index" (rIndexS X.K):=by
 intro B' s σ H x vs v us Q I C D ⟨l,is,k,j,ex,P,O,N,q⟩;subst ex P;cases C;obtain⟨u,rfl,E⟩:=D.one;obtain⟨F9,r,pl,G⟩:=I.list O;obtain⟨⟨oc,d,c,osl⟩,n,e,J,p,Y⟩:=id pl;obtain⟨t,rfl⟩:=(show ∃t,u=Ha k t from E)
 obtain⟨i,o,f⟩:=IG.mp N;obtain⟨L,rfl,rfl⟩:=qj r;have hsz:=FO;have B:(Ir L).length=L.length:=by unfold Ir;rw[t_]
 have a:∀m (b:m<(Ir L).length),(Ir L)[m]=.str ((L.map (·.1))[m]'(by rw[t_];omega)) (L[m]'(by omega)).2:=λm b=>by simp[Ir]
 rw[t_]at i;refine JX K7 ⟨_,e,J⟩ PySem.F.entry_list_index (PySem.F.args_list_index_2 _ _) (SeqAt.list_indexAt l (Ir L).toArray n d osl (.str k t) (isKS k) j (by rw[A_];omega) (by have:=G;rw[t_,t_]at this;omega) ?_ ?_) ⟨?_,λy K=>?_,⟨.int j,H,I.tok _,⟨_,rfl⟩,q⟩⟩
 ·rw[Mn,a j (by omega)];exact o
 ·intro m b h;rw[A_]at b;rw[Mn,a m b];simpa[isKS] using f m h
 ·rw[e];cases(show oc=.type "list" from J);cases(show c=.seq (Ir L).toArray n from Y);rfl
 ·obtain⟨m,g,rfl⟩:=MA (show y∈Ir L by simpa using K);rw[a m g];generalize (L.map (·.1))[m]'(by rw[t_];omega)=z;have w:=ED (F:=H) (x:=.str z) (y:=.str k) (A:=X.A.in1) I (aF.refl H) (.str z) (.str k) rfl rfl rfl rfl ⟨(L[m]'(by omega)).2,rfl⟩ ⟨t,rfl⟩ (by show X.A.units+1+40<G5;omega);have e2:eqD (.str z) (.str k)=isKS k (.str z (L[m]'(by omega)).2):=by simp[eqD,isKS]
  rw[e2]at w;exact w
theorem nM(u:X.A.units+64<G5)(w:DE K W b_ X o fo)(d:DE K W b_ X e fe)(C: ~~~(X.K=K))(Y: ~~~(GQ o "index" X.env (FR o X.env)=FR o X.env))(c: ~~~(((Gh cpos (h_ [e] X.env)).all (λx=> !x.1)&&(Ho cpos (GJ [] X.env)).all (λx=>x.1.isSome)&&q_ ([e].length+([]:List Hk).length+(if ([]:List Hk).isEmpty then 0 else 1)<30))=d_))(J: ~~~((apos.endLine==cpos.line)=d_))(i: ~~~(h_ [e] X.env=(b_,FR e X.env)::h_ [] X.env))(I: ~~~((Gh cpos (h_ [] X.env)).any (·.1)=b_)):
  DE K W b_ X (.Call (.Attribute o "index" apos) [e] [] cpos) (gZ fo fe):=by
 subst C;refine PE.imp (lY FX K7 PySem.F.type_list_index (Ea u) w (av d aK (by rw[i])) Y c J i I) λσ H Q v=>?_;obtain⟨F,ρ,r,s,p⟩:=v;refine aO r s (λe d=>p.err (by unfold gZ;rw[d];rfl)) λa B x F1 H1 g n=>?_;rw[show gZ fo fe ρ=if isL a=d_ then(fe ρ).bind λb=>oq a b else stk by unfold gZ;rw[B];rfl]at p;have p:=p.step g;cases a with
 |lst ds=>
  have p:aJ X.K W b_ F1 H1 ((fe ρ).bind λb=>oq (.lst ds) b) Q:=p;obtain⟨l,xs,rfl,t,z⟩:=id n;refine⟨.inl ⟨rfl,_,g.fh.lst t⟩,aO (r.mono g.ff) g.fh (λe d=>p.err (by rw[d];rfl)) λb A y F2 H2 f m=>?_⟩
  rw[A]at p;have p:aJ X.K W b_ F1 H1 (oq (.lst ds) b) Q:=p;have p:=p.step f;cases b with
  |str k=>
   have p:aJ X.K W b_ F2 H2 ((gV ds).bind λxs=>match AS xs k with
    |some j=>.ok (.int j)|none=>stk) Q:=p
   cases hi:gV ds with
   |error e=>rw[hi]at p;rw[qu hi]at p;exact aJ.stuck p|ok is=>
    rw[hi]at p;have p:aJ X.K W b_ F2 H2 (match AS is k with
     |some j=>.ok (.int j)|none=>stk) Q:=p
    have q:=qq z hi;subst q;cases h:AS is k with
    |none=>rw[h]at p;exact aJ.stuck p|some j=>rw[h]at p;cases(show y=V.str k from m);exact⟨l,is,k,j,rfl,rfl,f.fh.lst (f.ff.lst t),h,p (.int j) F2 H2 (C6.refl f.fh) rfl⟩
  |_=>exact aJ.stuck p
 |_=>exact aJ.stuck p
end
noncomputable abbrev k1(t:Nv):List (p_×j_):=[(e_ "start",.int 1 t)]
theorem lst_it(h:Gv)(l:i_):(h.push {cls:=.type "list_iterator",data:=.fields #[.ref l,.int 0 0]}).objs.size=h.objs.size+1:=G2 ..
theorem DY(l:i_)(I:Array j_)(n:Nat)(t:Nv)(Y:Option i_)(e:Array (Option j_)):
  Meets (Builtin.«enumerate.__new__» ⟨[.type "enumerate",.ref l],k1 t⟩) (λ_ R s=>s.heap.get? l=a_ {cls:=.type "list",dict:=Y,data:=.seq I n,slots:=e} /\
   R (.ok (.ret (.ref (s.heap.objs.size+1)))) {s with heap:=(s.heap.push {cls:=.type "list_iterator",data:=.fields #[.ref l,.int 0 0]}).push {cls:=.type "enumerate",data:=.fields #[.none,.bool b_,.ref s.heap.objs.size,KJ 1,.none,.none]}}):=
 N4 λP w A R s ⟨J,h⟩=>by
  obtain⟨a,g,d,tk,os⟩:=s;rw[<- lst_it a l]at h;have z:=sub_enumerate;have b:Heap.IsList (Shared.heap ⟨a,g,d,tk,os⟩) l I:=⟨_,J,rfl,n,rfl⟩
  wp_walk using Jn J
  refine wpAny_stack_any λst=>B_ ?_;split
  ·rename_i c _ _ _ _ _;cases(c==Io "enumerate")<;>(wp_walk using Jn J,IX b)<;>exact⟨_,rfl,h⟩
  ·wp_walk using Jn J,IX b
   exact⟨_,rfl,h⟩
theorem ini_k1{I a:j_}{t:Nv}(c:NB (.type "enumerate") "__init__"=GZ (a_ (.builtin "object.__init__")))(b:Bind.madeBy (.type "enumerate")=GZ (a_ "enumerate.__new__")):
  Meets (Builtin.«object.__init__» ⟨[I,a],k1 t⟩) (λ_ R s=>s.TypeIs I "enumerate"/\R (.ok (.ret .none)) s):=N4 λP w A R s ⟨d,J⟩=>by
 have Y:(a_ "enumerate.__new__" != a_ "object.__new__")=d_:=by decide
 repeat (any_goals (first|assumption|wp_step))
 exact⟨_,rfl,J⟩
section
variable{E:Mq}{Q:Mq}
theorem Ct{J:Array j_}{t:Nv}(N:s.heap.IsList l J)(h:∀h',IsEnum h' (s.heap.objs.size+1) s.heap.objs.size 1 .none->h'.IsListIter s.heap.objs.size l 0->(∀b o,s.heap.get? b=a_ o->h'.get? b=a_ o)->Q (.ref (s.heap.objs.size+1)) {s with heap:=h'}):
  D_ (FE prog w) A (Ja (.type "enumerate") [.ref l] (k1 t)) Q E s:=by
 obtain⟨⟨c,m,O,z⟩,G,K,n,hd⟩:=N;cases(show c=.type "list" from K);cases(show O=.seq J n from hd);have ft:=F.called_enumerate;obtain⟨c,tl,y⟩:=ft.mro;have a:=ft.made;have u:=ft.sub;have h1:=ft.notType;have h2:=ft.canCreate;have H:checkTypeCall "enumerate" ⟨[.ref l],k1 t⟩=GZ ():=by kernel_rfl
 have k:Le "enumerate.__new__" ⟨[.type "enumerate",.ref l],k1 t⟩=GZ ():=by kernel_rfl
 have g:∀Y,argsOk "object.__init__" ⟨[Y,.ref l],k1 t⟩:=λY=>by unfold argsOk;kernel_rfl
 have D:=lst_it s.heap l;have j:IsEnum ((s.heap.push {cls:=.type "list_iterator",data:=.fields #[.ref l,.int 0 0]}).push {cls:=.type "enumerate",data:=.fields #[.none,.bool b_,.ref s.heap.objs.size,KJ 1,.none,.none]}) (s.heap.objs.size+1) s.heap.objs.size 1 .none:=by rw[<- D];exact FK _ rfl
 refine JV (codeAny_of_tree (show D_ _ _ (callAny (.type "enumerate") _) _ _ _ from B_ ⟨Ke _ (by decide +kernel),codeAny_builtin F.entry_type_call ?_⟩));rw[Around.under_plain (weight_type_call_type "enumerate" [.ref l] (k1 t)) (units_type_call_type "enumerate" [.ref l] (k1 t))]
 repeat (any_goals (first|assumption|wp_step))
 refine HK (Iw ft.plain F.entry_enumerate_new (wpAny_of_eq k (DY l J n t m z prog w A.in1 (wants (λv C=>v=.ref (s.heap.objs.size+1)/\C={s with heap:=(s.heap.push {cls:=.type "list_iterator",data:=.fields #[.ref l,.int 0 0]}).push {cls:=.type "enumerate",data:=.fields #[.none,.bool b_,.ref s.heap.objs.size,KJ 1,.none,.none]}}) E) s ⟨G,rfl,rfl⟩))) λr q f=>?_
 match r,f with
 |.error e,f=>exact f|.ok (.ret Y),f=>
  obtain⟨rfl,rfl⟩:=f;have i:=ft.init.lookup;have L:=ft.init.bind (.ref (s.heap.objs.size+1))
  repeat (any_goals (first|assumption|wp_step))
  refine HK (Iw ft.init.plain F.entry_object_init (ft.init.check _ _ _ _ _ _ _ _ ⟨_,j,rfl⟩ (g _) (ini_k1 i a prog w A.in1 (wants (λr B=>r=.none/\B=_) E) _ ⟨⟨_,j,rfl⟩,rfl,rfl⟩))) λd p I=>?_
  match d,I with
  |.error e,I=>exact I|.ok (.ret r),I=>
   obtain⟨rfl,rfl⟩:=I
   repeat (any_goals (first|assumption|wp_step))
   exact h _ j ⟨_,r_ _ (FK _ rfl),rfl,rfl⟩ λb o x=>r_ _ (r_ _ x)
end
theorem draws1(hh:A.handled=c_)(c:l≠it)(I:Array j_):Draws prog w A it [it,l] (I.size+1) (λk v=>∃j,k=j+1/\I[j]?=a_ v) (λk h=>∃j,k=j+1/\h.IsListIter it l j/\h.IsList l I) where
 live:=λi h ⟨j,_,⟨o,e,_⟩,_⟩=>⟨o,e⟩
 frame:=λi h h' ⟨j,e,⟨o,a1,m⟩,⟨Y,b1,b2⟩⟩ k=>⟨j,e,⟨o,k it (by simp) _ a1,m⟩,⟨Y,k l (by simp) _ b1,b2⟩⟩
 item:=λi s Q E hi ⟨j,e,a,b⟩ f=>by
  subst e;have J:j<I.size:=by omega
  refine wpAny_nextOf_list_item a b (x:=I[j]) (by simp[J]) λh' n d=>f _ h' s.toks ⟨j,rfl,by simp[J]⟩ ⟨j+1,rfl,n,?_⟩ d;obtain⟨Y,b1,b2⟩:=b;exact⟨Y,(d.2 l c).trans b1,b2⟩
 done:=λs Q E ⟨j,e,a,b⟩ g=>by
  have J:j=I.size:=by omega
  subst J;exact wpAny_nextOf_list_end hh a b (by simp) g
noncomputable def Ite1(K:Pn)(a:i_):It:=
 ⟨λi H=>∃xs x,SqL K H a xs/\xs[i]?=a_ x,λi H x H'=>∃T y,H T=c_/\x=.ref T/\H'=upd H T (.tup [.int (i+1:Nat),y])/\∀xs,SqL K H a xs->xs[i]?=a_ y,λi H=>∃xs,SqL K H a xs/\xs.length=i⟩
theorem Bk{k:Nat}(a e it:i_)(n:e≠it):Turn P w K (.Tuple elts k pos) (Ite1 K a) [e,it] e (λi h=>(∃J,IsEnum h e it (i+1:Nat) J)/\h.IsListIter it a i):=by
 have l:∀{i:Nat} {h:Gv} {J:j_} {F9:Array j_},IsEnum h e it (i+1:Nat) J->h.IsListIter it a i->h.IsList a F9->a≠it/\e∉[it,a]:=λ{i h J F9} f Y ⟨ol,h1,r,_⟩=>by
  obtain⟨o,h2,C,_⟩:=Y;refine⟨λz=>?_,λz=>?_⟩
  ·subst z;rw[h1]at h2;cases h2;rw[r]at C;exact FJ C (by decide)
  ·simp only[x_,GB,IL]at z;rcases z with z|z
   ·exact n z
   ·subst z;rw[f]at h1;cases h1;exact FJ (show Io "enumerate"=Io "list" from r) (by decide)
 refine⟨by simp,λi h ⟨⟨J,f⟩,o,e1,c,d⟩ b g=>?_,λi h h' ⟨⟨J,f⟩,Y⟩ W=>⟨⟨J,W e (by simp) _ f⟩,Y.at λo x=>W it (by simp) o x⟩,?_,?_,λ_ _ _ _ _ ⟨⟨J,f⟩,_⟩ h=>NM f h⟩
 ·rcases x_.mp g with rfl|g
  ·exact⟨_,f,λv z=>by cases z⟩
  ·obtain rfl:b=it:=by simpa using g
   exact⟨o,e1,λv z=>by rw[d]at z;cases z⟩
 ·intro X t hw U r i B' s σ H E I G ⟨⟨J,f⟩,Y⟩ ⟨xs,x,F,O⟩;subst t hw U;obtain⟨F9,L,p,hz⟩:=I.list F;obtain⟨u,Z,ru⟩:=L.get O;obtain⟨N,n2⟩:=l f Y p.isList;have hil:i<F9.length:=(w_.mp Z).1;refine wpAny_pyNext_enum_itemD (i:=i+1) (draws1 (A:=X.A.in1) (I.ok.hd r) N F9.toArray) f ⟨i,rfl,Y,p.isList⟩ (by simp;omega) n n2 λv h1 tk R ho Q hT hsz hk=>?_;obtain⟨j,ej,t⟩:=R;obtain⟨j2,ej2,B,_⟩:=Q;obtain rfl:j=i:=by omega
  obtain rfl:j2=j+1:=by omega
  obtain rfl:v=u:=by rw[Mc,Z]at t;exact(FW t).symm
  refine⟨_,rfl,wpAny_letOwnedTupleGo_enum ho λh2 T m=>?_⟩
  have S:e<s.heap.objs.size:=A1 f;have D:s.heap.objs.size≠e:=JN S;have I1:C' X B' σ (upd H s.heap.objs.size (.tup [.int (j+1:Nat),x])) {s with heap:=h2,toks:=tk+1}:=I.CU (ch:=[e,it]) G (λb o g q=>by have h3:=hk b o (λz=>g (by simp[z])) (λz=>g (by simp[z])) q;exact(m.2 b (λz=>g (by simp[z]))).trans h3) (v_ _) ⟨by show 2<=f_;decide,[.int (j+1:Nat) tk,v],.cons ⟨_,rfl⟩ (.cons ru .nil),⟨_,(m.2 _ D).trans hT,rfl,0,rfl⟩⟩
  refine⟨.ref s.heap.objs.size,_,I1,rfl,⟨s.heap.objs.size,x,I.hok.fresh (v_ _),rfl,rfl,λys hy=>by rw[I.pR hy F];exact O⟩,⟨⟨v,by simpa using T⟩,B.at λo y=>(m.2 it n.symm).trans y⟩,λb g=>?_⟩
  have:b≠s.heap.objs.size:=by
   rcases x_.mp g with rfl|g
   ·exact D.symm
   ·obtain rfl:b=it:=by simpa using g
    obtain⟨o,e1,_⟩:=Y;exact Ga (A1 e1)
  rw[aq this];exact(G b g).1
 ·intro X t hw U r i B' s σ H E I G ⟨⟨J,f⟩,Y⟩ ⟨xs,F,O⟩;subst t hw U;obtain⟨F9,L,p,hz⟩:=I.list F;obtain⟨N,n2⟩:=l f Y p.isList;have hl:=L.length;refine wpAny_pyNext_enum_endD (draws1 (A:=X.A.in1) (I.ok.hd r) N F9.toArray) f ⟨i,by simp;omega,Y,p.isList⟩ λh2 eb=>⟨rfl,I.CV (t':=s.toks) (ch:=[e,it]) G λb o g q=>eb b o (λz=>g (by simp[z])) q⟩
section
variable{W:eI}{a:GO} 
theorem yh{M:KA}{E:Mq}{J:List Hk}{Q:Mq}(h:D_ M A (NT (Gh pos (h_ [e] env))) (λvs I=>D_ M A (evalAll ((Ho pos (GJ J env)).map (·.2))) (λD' Y=>D_ M A (Ja (.type T) vs (((Ho pos (GJ J env)).filterMap (·.1)).zip D')) Q E Y) E I) E s)(g:h_ [e] env=[(b_,FR e env)])(c:(Ho pos (GJ J env)).all (·.1.isSome)=d_)(d:(Ho pos (GJ J env)).any (·.1.isNone)=b_):
  D_ M A (LZ pos (.type T) [] (Gh pos (h_ [e] env)) (Ho pos (GJ J env))) Q E s:=by
 have j:(Gh pos (h_ [e] env)).any (·.1)=b_:=by rw[g];rfl
 have f:∃x,Gh pos (h_ [e] env)=[(b_,x)]:=by rw[g];exact⟨_,rfl⟩
 obtain⟨x,f⟩:=f;unfold LZ;refine k_ (IH (Gx (Q:=λa I=>D_ M A (Ja (.type T) ([]++a.pos) a.kw) Q E I) ?_ (λa I b=>k_ (Jf ?_)) λ_ _ z=>z))
 ·rw[f]at h ⊢;exact PyProof.Rows.evalArgs_kwB c h
 ·rw[j,d];exact k_ (B_ (k_ (Gx b (λr Y i=>k_ (IH (wpAny_point (B_ i)))) λ_ _ z=>z)))
def Es(K:Pn)(tl:TE):TI:=λσ H R=>tl σ H λx H1=>∃a,x=.ref a/\(∃xs,SqL K H1 a xs)/\R (Ite1 K a) H1
theorem pi_enum1{k:Nat}{A n:Np}{j}{tl:TE}(G:Gl X "enumerate")(D:X.mg "enumerate"=c_)(E:PE X a tl)(g: ~~~(h_ [a] X.env=[(b_,FR a X.env)])):
  PI X (.Tuple elts k q) (.Call (.Name "enumerate" p) [a] [⟨a_ (e_ "start"),.Constant (.int 1) j n,A⟩] pos) (Es X.K tl):=by
 intro B' s σ H R I h;have K:PA X [a] (aM tl dS):=av E aK g;refine Hg (tI I G D boot_enumerate ?_);refine yh (HH (K pos B' s σ H (λvs H1=>match vs with
  |[x]=>∃a,x=.ref a/\(∃xs,SqL X.K H1 a xs)/\R (Ite1 X.K a) H1
  |_=>False) I h) λus o hp=>?_) g rfl rfl
 obtain⟨vs,H1,N,d,z⟩:=hp
 rcases vs with _|⟨x,_|⟨_,_⟩⟩
 ·exact GA z
 rotate_left
 ·exact GA z
 ·obtain⟨l,e1,⟨xs,B⟩,q⟩:=z
  subst e1;obtain⟨u,rfl,r⟩:=d.one;cases r;refine kws_cons (HH (wW (X:=X) (i:=1) (j:=j) (pos:=n) B' o σ H1 (λv H2=>v=.int 1/\H2=H1) N ⟨rfl,rfl⟩) λw J C=>?_);obtain⟨y,H2,c,r2,e2,e3⟩:=C;refine kws_nil ?_;subst e2 e3;obtain⟨t,rfl⟩:=(show ∃t,w=Jg 1 t from r2)
  obtain⟨F9,O,pl,P⟩:=c.list B;refine Ct pl.isList λh2 m e F=>?_;have L:C' X B' σ H2 {J with heap:=h2}:=c.kept (t':=J.toks) F;refine NM m ⟨J.heap.objs.size+1,[J.heap.objs.size+1,J.heap.objs.size],_,_,H2,rfl,L,Bk l _ _ (Nat.succ_ne_self _),⟨⟨_,m⟩,e⟩,λb f=>?_,q⟩;have Y:J.heap.objs.size<=b:=by
   rcases x_.mp f with rfl|f
   ·exact Gk _
   ·obtain rfl:b=J.heap.objs.size:=by simpa using f
    exact v_ _
  exact c.fpOk Y (c.hok.fresh Y)
end
structure Cells(K:Pn)(F H:Hp)(xs:List i_)(ds:List A'):Prop where
 fh:aF F H
 nd:xs.Nodup
 len:xs.length=ds.length
 own:∀(j:Nat) (x:i_) (d:A'),xs[j]?=a_ x->ds[j]?=a_ d->isO d=d_/\mJ K F (λ_=>c_) H d (.ref x)
structure mH(xs:List i_)(F H F' H':Hp):Prop where
 ff:aF F F'
 hh:∀b o,b∉xs->H b=a_ o->H' b=a_ o
 fh:aF F' H'
 nw:∀b o,F' b=a_ o->F b=a_ o\/H b=c_
section
variable{xs:List i_}{ds:List A'}
theorem C6.toC(s:C6 F H F' H'):mH xs F H F' H':=⟨s.ff,λb o _ h=>s.hh b o h,s.fh,s.nw⟩
theorem mH.trans{F2 H2:Hp}(a:mH xs F H F' H')(b:mH xs F' H' F2 H2)(J:∀x∈xs,∃o,H' x=a_ o):mH xs F H F2 H2:=
 ⟨a.ff.trans b.ff,λc o n h=>b.hh c o n (a.hh c o n h),b.fh,λc o h=>(b.nw c o h).elim (λz=>a.nw c o z) λz=>.inr (by
  cases e:H c with
  |none=>rfl|some u=>
   by_cases I:c∈xs
   ·obtain⟨o',Y⟩:=J c I;rw[Y]at z;cases z
   ·rw[a.hh c u I e]at z;cases z)⟩
theorem Cells.at(c:Cells K F H xs ds){x:i_}(J:x∈xs):F x=c_/\∃o,H x=a_ o/\isMu o=d_:=by
 obtain⟨j,I,rfl⟩:=MA J;have hd:j<ds.length:=by rw[<- c.len];exact I
 obtain⟨h1,h2⟩:=c.own j xs[j] ds[j] (Ge I) (Ge hd);obtain⟨a,o,e,p,m,f,_⟩:=h2.top h1;cases e;exact⟨f,o,p,m⟩
theorem Cells.step(c:Cells K F H xs ds)(s:C6 F H F' H'):Cells K F' H' xs ds:=⟨s.fh,c.nd,c.len,λj x d e1 e2=>by obtain⟨h1,h2⟩:=c.own j x d e1 e2;obtain⟨a,o,e,p,_,f,_⟩:=h2.top h1;cases e;exact⟨h1,h2.re h1 s.ff (s.stays f p) λo h=>s.hh _ _ h⟩⟩
theorem Cells.ff(c:Cells K F H xs ds):aF F (plus F H (·∈xs)):=λb o h=>by
 by_cases I:b∈xs
 ·rw[(c.at I).1]at h;cases h
 ·rw[bW I];exact h
theorem Cells.zh(c:Cells K F H xs ds):aF (plus F H (·∈xs)) H:=λb o h=>by
 by_cases I:b∈xs
 ·rw[gv I]at h;exact h
 ·rw[bW I]at h;exact c.fh b o h
theorem Cells.deep(c:Cells K F H xs ds){j:Nat}{x:i_}{d:A'}(e1:xs[j]?=a_ x)(e2:ds[j]?=a_ d):aR K (plus F H (·∈xs)) d (.ref x):=by obtain⟨h1,h2⟩:=c.own j x d e1 e2;exact h2.give h1 c.ff (gv (Gr e1))
theorem Cells.back(c:Cells K F H xs ds)(s:C6 (plus F H (·∈xs)) H F' H'):C6 F H (minus F' (·∈xs)) H':=by
 refine⟨λb o h=>?_,s.hh,λb o h=>?_,λb o h=>?_⟩
 ·by_cases I:b∈xs
  ·rw[(c.at I).1]at h;cases h
  ·rw[fq I];exact s.ff b o (by rw[bW I];exact h)
 ·by_cases I:b∈xs
  ·rw[pQ I]at h;cases h
  ·rw[fq I]at h;exact s.fh b o h
 ·by_cases I:b∈xs
  ·rw[pQ I]at h;cases h
  ·rw[fq I]at h;exact(s.nw b o h).elim (λz=>by rw[bW I]at z;exact .inl z) .inr
theorem Cells.flat(c:Cells K F H xs ds)(s:C6 (plus F H (·∈xs)) H F' H'){d:A'}{v:V}(f:i7 d=d_)(q:aR K F' d v):aR K (minus F' (·∈xs)) d v:=by
 have key:∀{b:i_} {o:HO},F' b=a_ o->isMu o=b_->minus F' (·∈xs) b=a_ o:=λ{b o} h n=>by
  by_cases I:b∈xs
  ·obtain⟨_,u,e,m⟩:=c.at I;have:=s.ff b u (by rw[gv I];exact e);rw[h]at this;cases this;rw[n]at m;cases m
  ·rw[fq I];exact h
 refine q.flat (λa ys h=>?_) f;rcases h with(h|⟨o,h⟩)|h
 ·exact .inl (.inl (key h rfl))
 ·exact .inl (.inr ⟨o,key h rfl⟩)
 ·exact .inr h
theorem Cells.put(c:Cells K F H xs ds){j:Nat}{x:i_}{u:HO}(e:xs[j]?=a_ x)(hd:isO d'=d_)(q:F x=c_->mJ K F (λ_=>c_) (upd H x u) d' (.ref x)):Cells K F (upd H x u) xs (ds.set j d') where
 fh:=λb o h=>by
  have:b≠x:=λz=>by rw[z,(c.at (Gr e)).1]at h;cases h
  rw[aq this];exact c.fh b o h
 nd:=c.nd
 len:=by rw[Cb,c.len]
 own:=λi y d e1 e2=>by
  by_cases I:j=i
  ·subst I;rw[e]at e1;cases e1;have Y:j<ds.length:=by have:=(w_.mp e2).1;simpa using this
   rw[u_ Y]at e2;cases e2;exact⟨hd,q (c.at (Gr e)).1⟩
  ·rw[n_ I]at e2;obtain⟨h1,h2⟩:=c.own i y d e1 e2;have J:y≠x:=λz=>I ((M7 (w_.mp e).1 c.nd).mp (by rw[e,e1,z]));obtain⟨a,o,ea,p,_,f,_⟩:=h2.top h1;cases ea;exact⟨h1,h2.re h1 (aF.refl _) f λo h=>by rw[aq J];exact h⟩
theorem Cells.lst(c:Cells K F H xs ds){j:Nat}{x:i_}{es:List A'}(e1:xs[j]?=a_ x)(e2:ds[j]?=a_ (.lst es)):∃ys,H x=a_ (.lst ys)/\az K F es ys:=by obtain⟨a,ys,ea,p,_,_,q⟩:=(c.own j x _ e1 e2).2;cases ea;exact⟨ys,p,q⟩
theorem Cells.dic(c:Cells K F H xs ds){j:Nat}{x:i_}{ks:List (List Int×A')}(e1:xs[j]?=a_ x)(e2:ds[j]?=a_ (.dic ks)):∃rs ep,H x=a_ (yp x rs ep)/\cZ K F ks rs:=by obtain⟨a,rs,ea,⟨ep,p⟩,_,_,q⟩:=(c.own j x _ e1 e2).2;cases ea;exact⟨rs,ep,p,q⟩
theorem Cells.app(c:Cells K F H xs ds){j:Nat}{x:i_}{es:List A'}{ys:List V}{d:A'}(e1:xs[j]?=a_ x)(p:H x=a_ (.lst ys))(q:az K F es ys)(I:aR K F d v):Cells K F (upd H x (.lst (ys++[v]))) xs (ds.set j (.lst (es++[d]))):=
 c.put e1 rfl λf=>⟨x,_,rfl,ao,f,rfl,q.append ⟨v,[],rfl,I,rfl⟩⟩
theorem Cells.updC(c:Cells K F H xs ds){x:i_}(u:HO)(I:x∈xs):mH xs F H F (upd H x u):=
 ⟨aF.refl _,λb o n h=>by rw[aq (λz=>n (by rw[z];exact I))];exact h,λb o h=>by
  have:b≠x:=λz=>by rw[z,(c.at I).1]at h;cases h
  rw[aq this];exact c.fh b o h,λ_ _ h=>.inl h⟩
end
noncomputable def fS(xs:List i_):List (p_×V):=(["kinds","gaps","beside","names","flights","closed"]:List p_).zip (xs.map V.ref)
structure Dr(K:Pn)(C:i_)(F H:Hp)(p dx:i_)(xs:List i_)(ds:List A'):Prop where
 c:Cells K F H xs ds
 ob:H p=a_ (.ins C dx (fS xs))
 fp:F p=c_
 np:p∉xs
section
variable{p dx:i_}{xs:List i_}{ds:List A'}
theorem Dr.step(d:Dr K C F H p dx xs ds)(s:C6 F H F' H'):Dr K C F' H' p dx xs ds:=⟨d.c.step s,s.hh _ _ d.ob,s.stays d.fp d.ob,d.np⟩
theorem Dr.put(d:Dr K C F H p dx xs ds){x:i_}{u:HO}(I:x∈xs)(c:Cells K F (upd H x u) xs ds'):Dr K C F (upd H x u) p dx xs ds':=
 ⟨c,by rw[aq (λz=>d.np (by rw[z];exact I))];exact d.ob,d.fp,d.np⟩
end
def mU:Sp:=λvs H Q _=>∃a v,vs=[.ref a,v]/\(v=.non->Q (.bl b_) H)/\(v≠.non->∃ys,H a=a_ (.lst ys)/\ys.length<f_/\Q (.bl d_) (upd H a (.lst (ys++[v]))))
theorem rs_told(h:mU vs H Q E):
  cR (lM (tB (tIsN (bG 1))) (sk (tC (.bl b_))) eY) (cR (lN (tBM K "list" jc (bG 0) (aM (bG 1) dS))) (sk (tC (.bl d_)))) {nx:=λ_ H'=>Q .non H',rt:=Q} (start ["kept","told"] vs) H:=by
 obtain⟨a,v,rfl,h1,h2⟩:=h;refine⟨v,rfl,_,rfl,?_⟩
 by_cases hv:v=.non
 ·rw[s_ hv];exact h1 hv
 ·obtain⟨ys,I,J,h2⟩:=h2 hv;rw[m_ hv];exact⟨.ref a,rfl,gF I,v,rfl,a,ys,v,rfl,rfl,I,J,h2⟩
def yG(K:Pn)(mg:List A'->M A'):Sp:=λvs H Q _=>∃(k g:i_) (vw:V) (F:Hp) (xs:List i_) (ds:List A') (a I:Nat) (Y J:A') (ks:List (List Int×A')),vs=[.ref k,.ref g,vw]/\Cells K F H xs ds/\xs[a]?=a_ k/\ds[a]?=a_ Y/\xs[I]?=a_ g/\ds[I]?=a_ (.dic ks)/\aR K F J vw /\
 ((mg [Y,J]=.ok .non/\∀F' H',C6 F H F' H'->Q (.bl b_) H')\/∃i j v:Int,mg [Y,J]=.ok (.tup [.int i,.int j,.int v])/\ks.length<f_/\∀F' H' u,C6 F H F' H'->Cells K F' (upd H' g u) xs (ds.set I (.dic (BC ks [i,j] (.int v))))->Q (.bl d_) (upd H' g u))
abbrev fk3:ah->M A':=fL jU (aa (f2 ixD (ai 3) (fC (.int 0))) (aa (f2 ixD (ai 3) (fC (.int 1))) aC))
abbrev fv3:ah->M A':=f2 ixD (ai 3) (fC (.int 2))
theorem cP.only{d:A'}(e:σ[i]?=a_ (a_ v))(q:aR K F d v):cP K F σ ((GY σ.length c_).set i (a_ d)):=
 ⟨by rw[Cb,G_],λj d' h=>by
  by_cases I:i=j
  ·subst I;rw[u_ (by rw[G_];exact(w_.mp e).1)]at h;cases h;exact⟨v,e,q⟩
  ·rw[n_ I,JD]at h;split at h<;>cases h⟩
theorem rs_gap{mg:List A'->M A'}(h:yG K mg vs H Q E):
  cR (oK (hZ (spF K b_ mg 2) [] E' (aM (bG 0) (aM (bG 2) dS))) (bU 3)) (cR (lM (tB (tIsN (bG 3))) (sk (tC (.bl b_))) eY) (cR (sPut K (bG 1) (tD K J3 b_ fk3) (tD K J3 b_ fv3)) (sk (tC (.bl d_))))) {nx:=λ_ H'=>Q .non H',rt:=Q} (start ["kinds","gaps","words","told"] vs) H:=by
 obtain⟨k,g,vw,F,xs,ds,N,O,G,D,ks,rfl,c,ek,z,n,hd,t,h⟩:=h;refine⟨.ref k,rfl,vw,rfl,plus F H (·∈xs),[G,D],c.zh,⟨_,_,rfl,c.deep ek z,vw,_,rfl,t.mono c.ff,rfl⟩,rfl,?_⟩
 rcases h with⟨e,h⟩|⟨i,j,v,e,y,h⟩
 ·rw[e];intro w F1 H1 I a;cases(show w=V.non from a);exact⟨.non,rfl,_,rfl,h _ H1 (c.back I)⟩
 ·rw[e];intro w F1 H1 d a;have I:=c.back d;have m:aR K (minus F1 (·∈xs)) (.tup [.int i,.int j,.int v]) w:=c.flat d rfl a;obtain⟨b,ys,rfl,_⟩:=id m;refine⟨.ref b,rfl,_,rfl,?_⟩
  have l:cP K (minus F1 (·∈xs)) ([a_ (.ref k),a_ (.ref g),a_ vw,a_ (.ref b)]:St) [c_,c_,c_,a_ (.tup [.int i,.int j,.int v])]:=cP.only (i:=3) rfl m;refine⟨_,_,l,I.fh,?_⟩
  show aJ K J3 b_ _ H1 (.ok (.int v)) _;intro w2 F2 H2 J x;cases(show w2=V.int v from x);refine⟨.ref g,rfl,F2,_,l.mono J.ff,J.fh,?_⟩
  have B:fk3 [c_,c_,c_,a_ (.tup [.int i,.int j,.int v])]=.ok (.tup [.int i,.int j]):=by show jU [.int i,.int j]=_;unfold jU;rw[g_ (by rw[FO];show 2<=16777216;decide)]
  rw[B];intro r p L s u;obtain⟨b3,q,rfl,t3,_,_,rfl,e4,_,_,rfl,e5,C⟩:=(show aR K p (.tup [.int i,.int j]) r from u)
  cases e4;cases e5;cases C;have st:=(I.trans J).trans s;have o:=c.step st;obtain⟨rs,ep,A,Y⟩:=o.dic n hd;exact⟨g,b3,[i,j],rs,ep,rfl,rfl,A,Y.key.mono st.fh,st.fh.tup t3,by rw[Y.length];exact y,λep'=>h p L _ st (o.put n rfl λf=>⟨g,_,rfl,⟨ep',ao⟩,f,rfl,Y.put (k:=[i,j]) t3 rfl⟩)⟩
def tTr(K:Pn)(ta:TE):TT:=λσ H Q=>ta σ H λx H'=>∃k,TruV K x H' k/\Q k H'
def sW(j:Nat)(ds:List A')(t:A'):M (Bool×List A'):=match t with
 |.non=>.ok (b_,ds)|t=>match ds[j]? with
  |some (.lst es)=>if (i7 t&&q_ (es.length<f_))=d_ then .ok (d_,ds.set j (.lst (es++[t])))else stk
  |_=>stk
def CG(j:Nat)(ds:List A')(t:A'):M (Bool×List A'):=match t with
 |.non=>.ok (b_,ds)|.tup [.int a,.int b,.int v]=>match ds[j]? with
  |some (.dic ks)=>if ks.length<f_ then .ok (d_,ds.set j (.dic (BC ks [a,b] (.int v))))else stk
  |_=>stk
 |_=>stk
def mP(mf:List A'->M A')(ds ws:List A'):M (Bool×List A'):=match ds with
 |[.lst J,.dic Y,.dic c,.lst I,.lst a,.lst b]=>(mf [.lst J,.lst I,.lst ws]).bind λt=>(sW 4 ds t).bind λr=>if r.1=d_ then(ixD (.lst ws) (.int 1)).bind λnm=>match nm with
  |.non=>stk|nm=>sW 3 r.2 nm
  else .ok r
 |_=>stk
def nX(t1 t2 t3 t4 t5:ah->M Bool)(t6:ah->M A')(mk mg ms mf:List A'->M A')(ds ws:List A'):M (Bool×List A'):=match ds with
 |[.lst I,.dic a,.dic e,.lst Y,.lst c,.lst J]=>
  (t1 [c_,a_ (.lst ws)]).bind λb=>if b=d_ then .ok (d_,ds)else
  (t2 [c_,a_ (.lst ws)]).bind λb=>if b=d_ then(mk [.lst I,.lst ws]).bind (sW 0 ds)else
  (t3 [c_,a_ (.lst ws)]).bind λb=>if b=d_ then(mg [.lst I,.lst ws]).bind (CG 1 ds)else
  (t4 [c_,a_ (.lst ws)]).bind λb=>if b=d_ then(mg [.lst I,.lst ws]).bind (CG 2 ds)else
  (t5 [c_,a_ (.lst ws)]).bind λb=>if b=d_ then(ms [.lst J,.lst ws]).bind (sW 5 ds)else
  (t6 [c_,a_ (.lst ws)]).bind λd=>match d with
   |.bl d_=>mP mf ds ws|.bl b_=>.ok (b_,ds)|_=>stk
 |_=>stk
theorem bind_eq{I:Type}{x:M α}{f:α->M I}{r:I}(h:x.bind f=.ok r):∃a,x=.ok a/\f a=.ok r:=by
 cases x with
 |error e=>cases h|ok a=>exact⟨a,rfl,h⟩
theorem aR.nn{t:A'}(q:aR K F t v):v=.non↔t=.non:=by
 cases t with
 |non=>exact⟨λ_=>rfl,λ_=>q⟩|bl b=>cases(show v=.bl b from q);exact⟨λh=>(nomatch h),λh=>(nomatch h)⟩
 |int b=>cases(show v=.int b from q);exact⟨λh=>(nomatch h),λh=>(nomatch h)⟩
 |str b=>cases(show v=.str b from q);exact⟨λh=>(nomatch h),λh=>(nomatch h)⟩
 |tup _=>obtain⟨a,_,rfl,_⟩:=q;exact⟨λh=>(nomatch h),λh=>(nomatch h)⟩
 |lst _=>obtain⟨a,_,rfl,_⟩:=q;exact⟨λh=>(nomatch h),λh=>(nomatch h)⟩
 |ins _ _=>obtain⟨a,_,_,rfl,_⟩:=q;exact⟨λh=>(nomatch h),λh=>(nomatch h)⟩
 |dic _=>obtain⟨a,_,rfl,_⟩:=q;exact⟨λh=>(nomatch h),λh=>(nomatch h)⟩
 |dil _=>obtain⟨a,_,rfl,_⟩:=q;exact⟨λh=>(nomatch h),λh=>(nomatch h)⟩
theorem nR{j:Nat}{ds:List A'}{t:A'}(n:t≠.non)(h:sW j ds t=.ok r):∃es,ds[j]?=a_ (.lst es)/\i7 t=d_/\es.length<f_/\r=(d_,ds.set j (.lst (es++[t]))):=by
 have h:(match ds[j]? with
  |some (.lst es)=>if (i7 t&&q_ (es.length<f_))=d_ then .ok (d_,ds.set j (.lst (es++[t])))else stk
  |_=>stk:M (Bool×List A'))=.ok r:=by
  cases t<;>first|exact FJ rfl n|exact h
 split at h
 ·rename_i es J;split at h
  ·rename_i I;rw[o_,FT]at I;cases h;exact⟨es,J,I.1,I.2,rfl⟩
  ·cases h
 ·cases h
theorem dF0{k g n:i_}:(fS [k,g,b,n,f,c]).lookup ("kinds":p_)=a_ (V.ref k):=by with_unfolding_all rfl
theorem dF1{k g n:i_}:(fS [k,g,b,n,f,c]).lookup ("gaps":p_)=a_ (V.ref g):=by with_unfolding_all rfl
theorem dF2{k g n:i_}:(fS [k,g,b,n,f,c]).lookup ("beside":p_)=a_ (V.ref b):=by with_unfolding_all rfl
theorem dF3{k g n:i_}:(fS [k,g,b,n,f,c]).lookup ("names":p_)=a_ (V.ref n):=by with_unfolding_all rfl
theorem dF4{k g n:i_}:(fS [k,g,b,n,f,c]).lookup ("flights":p_)=a_ (V.ref f):=by with_unfolding_all rfl
theorem dF5{k g n:i_}:(fS [k,g,b,n,f,c]).lookup ("closed":p_)=a_ (V.ref c):=by with_unfolding_all rfl
section
variable{p dx:i_}{xs:List i_}{ds:List A'} 
def FD(K:Pn)(C:i_)(F H:Hp)(p dx:i_)(xs:List i_)(r:Bool×List A')(Q:VK):Prop:=∀F' H',mH xs F H F' H'->Dr K C F' H' p dx xs r.2->Q (.bl r.1) H'
theorem Dr.ex(d:Dr K C F H p dx xs ds):∀x∈xs,∃o,H x=a_ o:=λ_ I=>let ⟨_,o,h,_⟩:=d.c.at I;⟨o,h⟩
theorem FD.step{r:Bool×List A'}(f:FD K C F H p dx xs r Q)(d:Dr K C F H p dx xs ds)(s:C6 F H F' H'):FD K C F' H' p dx xs r Q:=λF2 H2 I d2=>f F2 H2 (s.toC.trans I (d.step s).ex) d2
theorem Dr.tell(d:Dr K C F H p dx xs ds){j:Nat}{x:i_}{t:A'}(E:XK)(ex:xs[j]?=a_ x)(q:aR K F t v)(e:sW j ds t=.ok r)(I:FD K C F H p dx xs r Q):mU [.ref x,v] H Q E:=by
 refine⟨x,v,rfl,λhv=>?_,λhv=>?_⟩
 ·cases q.nn.mp hv;cases e;exact I F H ⟨aF.refl _,λ_ _ _ h=>h,d.c.fh,λ_ _ h=>.inl h⟩ d
 ·obtain⟨es,c,f,b,rfl⟩:=nR (λz=>hv (q.nn.mpr z)) e;obtain⟨ys,Y,J⟩:=d.c.lst ex c;have a:=Gr ex;exact⟨ys,Y,by rw[J.length];exact b,I F _ (d.c.updC _ a) (d.put a (d.c.app ex Y J q))⟩
variable{mg:List A'->M A'} 
theorem lenC{r:List α}(h:r.length=n+1):∃x t,r=x::t/\t.length=n:=by
 cases r with
 |nil=>cases h|cons x t=>exact⟨x,t,rfl,GX h⟩
theorem Dr.len6{h e j l:List A'}{i m:List (List Int×A')}(d:Dr K C F H p dx xs [.lst h,.dic i,.dic m,.lst e,.lst j,.lst l]):∃k g b n f c,xs=[k,g,b,n,f,c]:=by obtain⟨k,t,rfl,h1⟩:=lenC d.c.len;obtain⟨g,t,rfl,h2⟩:=lenC h1;obtain⟨b,t,rfl,a⟩:=lenC h2;obtain⟨n,t,rfl,Y⟩:=lenC a;obtain⟨f,t,rfl,J⟩:=lenC Y;obtain⟨c,t,rfl,I⟩:=lenC J;cases IC.mp I;exact⟨k,g,b,n,f,c,rfl⟩
theorem Ap{fx I:p_}{j jy:Nat}{x y:i_}{Y:A'}(d:Dr K C F H p dx xs ds)(f:Cls K C)(l:bp K C fx)(k:bp K C I)(c:σ[0]?=a_ (a_ (.ref p)))(h1:σ[1]?=a_ (a_ vw))(g:aR K F (.lst ws) vw)(n:(fS xs).lookup fx=a_ (.ref x))(m:(fS xs).lookup I=a_ (.ref y))(ex:xs[j]?=a_ x)(q:xs[jy]?=a_ y)(o:ds[jy]?=a_ Y)(e:(mk [Y,.lst ws]).bind (sW j ds)=.ok r)(J:FD K C F H p dx xs r Q):
  hZ mU [] E1 (aM (uq K (bG 0) fx) (aM (hZ (spF K b_ mk 2) [] E2 (aM (uq K (bG 0) I) (aM (bG 1) dS))) dS)) σ H Q:=by
 obtain⟨t,s,e⟩:=bind_eq e;refine⟨.ref p,c,p,C,dx,_,_,rfl,d.ob,f,l,n,?_⟩
 refine⟨.ref p,c,p,C,dx,_,_,rfl,d.ob,f,k,m,?_⟩
 refine⟨vw,h1,plus F H (·∈xs),[Y,.lst ws],d.c.zh,⟨_,_,rfl,d.c.deep q o,_,_,rfl,g.mono d.c.ff,rfl⟩,rfl,?_⟩
 rw[s];intro v F1 H1 a i;have S:=d.c.back a;have h:aR K (minus F1 (·∈xs)) t v:=d.c.flat a (by
  by_cases b:t=.non
  ·rw[b];rfl
  ·exact(nR b e).choose_spec.2.1) i
 exact(d.step S).tell E1 ex h e (J.step d S)
theorem rs_putD2{fx:p_}{j:Nat}{x k:i_}{J:A'}(d:Dr K C F H p dx xs ds)(g:Cls K C)(i:bp K C fx)(m:bp K C "kinds")(c:σ[0]?=a_ (a_ (.ref p)))(h1:σ[1]?=a_ (a_ vw))(h:aR K F (.lst ws) vw)(o:(fS xs).lookup ("kinds":p_)=a_ (V.ref k))(n:(fS xs).lookup fx=a_ (.ref x))(ek:xs[0]?=a_ k)(w:ds[0]?=a_ J)(ex:xs[j]?=a_ x)(hd:ds[j]?=a_ (.dic ks))(e:(mg [J,.lst ws]).bind (CG j ds)=.ok r)(I:FD K C F H p dx xs r Q):
  hZ (yG K mg) [] E1 (aM (uq K (bG 0) "kinds") (aM (uq K (bG 0) fx) (aM (bG 1) dS))) σ H Q:=by
 obtain⟨t,f,e⟩:=bind_eq e;refine⟨.ref p,c,p,C,dx,_,_,rfl,d.ob,g,m,o,?_⟩
 refine⟨.ref p,c,p,C,dx,_,_,rfl,d.ob,g,i,n,?_⟩
 refine⟨vw,h1,k,x,vw,F,xs,ds,0,j,J,.lst ws,ks,rfl,d.c,ek,w,ex,hd,h,?_⟩
 have Y:=Gr ex;cases t with
 |non=>cases e;exact .inl ⟨f,λF1 H1 s=>I _ H1 s.toC (d.step s)⟩|tup l=>
  unfold CG at e;split at e
  ·rename_i hh;cases hh
  ·rename_i a b v hh;cases hh;rw[hd]at e;dsimp only at e;split at e
   rotate_left
   ·cases e
   rename_i q;cases e;exact .inr ⟨a,b,v,f,q,λF1 H1 u S y=>I _ _ (S.toC.trans ((d.step S).c.updC u Y) (d.step S).ex) ((d.step S).put Y y)⟩
  ·cases e
 |_=>cases e
def uv(K:Pn)(C:i_)(mr:List A'->List A'->M (Bool×List A')):Sp:=λvs H Q _=>∃(p dx:i_) (xs:List i_) (F:Hp) (ds ws:List A') (vw:V) (r:Bool×List A'),vs=[.ref p,vw]/\Dr K C F H p dx xs ds/\aR K F (.lst ws) vw/\mr ds ws=.ok r/\FD K C F H p dx xs r Q
theorem Ds(o:Cls K C)(l:∀y∈(["kinds","gaps","beside","names","flights","closed"]:List p_),bp K C y)(h:uv K C (mP mf) vs H Q E):
  cR (lM (tNot (tTr K (hZ mU [] E1 (aM (uq K (bG 0) "flights") (aM (hZ (spF K b_ mf 3) [] E2 (aM (uq K (bG 0) "kinds") (aM (uq K (bG 0) "names") (aM (bG 1) dS)))) dS))))) (sk (tC (.bl b_))) eY)
   (cR (lN (tBM K "list" jc (uq K (bG 0) "names") (aM (tD K J3 b_ (f2 ixD (ai 1) (fC (.int 1)))) dS))) (sk (tC (.bl d_)))) {nx:=λ_ H'=>Q .non H',rt:=Q} (start ["draft","words"] vs) H:=by
 obtain⟨p,dx,xs,F,ds,ws,vw,r,rfl,d,L,e,a⟩:=h;unfold mP at e;split at e
 rotate_left
 ·cases e
 rename_i dk dg db dn df dc;obtain⟨k,g,b,n,f,c,rfl⟩:=d.len6;obtain⟨t,W,e⟩:=bind_eq e;obtain⟨q,e1,e⟩:=bind_eq e;refine⟨.ref p,rfl,p,C,dx,_,_,rfl,d.ob,o,(l _ (by simp)),dF4,?_⟩
 refine⟨.ref p,rfl,p,C,dx,_,_,rfl,d.ob,o,(l _ (by simp)),dF0,?_⟩
 refine⟨.ref p,rfl,p,C,dx,_,_,rfl,d.ob,o,(l _ (by simp)),dF3,?_⟩
 refine⟨vw,rfl,plus F H (·∈[k,g,b,n,f,c]),[.lst dk,.lst dn,.lst ws],d.c.zh,⟨_,_,rfl,d.c.deep (j:=0) rfl rfl,_,_,rfl,d.c.deep (j:=3) rfl rfl,_,_,rfl,L.mono d.c.ff,rfl⟩,rfl,?_⟩
 rw[W];intro v F1 H1 G T;have S:=d.c.back G;have R:aR K (minus F1 (·∈[k,g,b,n,f,c])) t v:=d.c.flat G (by
  by_cases I:t=.non
  ·rw[I];rfl
  ·exact(nR I e1).choose_spec.2.1) T
 have d1:=d.step S;unfold dS;dsimp only[];show mU [V.ref f,v] H1 _ E1;refine d1.tell E1 (j:=4) rfl R e1 (λF2 H2 D d2=>?_);refine⟨q.1,rfl,?_⟩
 cases u:q.1 with
 |false=>rw[u,l_ (by decide)]at e;cases e;have:=a F2 H2 (S.toC.trans D d1.ex) d2;rw[u]at this;exact this|true=>
  rw[u,g_ rfl]at e;obtain⟨nm,Z,e⟩:=bind_eq e;have Y:nm≠.non:=λz=>by rw[z]at e;cases e
  have e:sW 3 q.2 nm=.ok r:=by cases nm<;>first|exact FJ rfl Y|exact e
  obtain⟨X,B,U,A,rfl⟩:=nR Y e;obtain⟨ys,I,N⟩:=d2.c.lst (j:=3) (x:=n) rfl B;refine⟨.ref p,rfl,p,C,dx,_,_,rfl,d2.ob,o,(l _ (by simp)),dF3,?_⟩
  have s:=(L.mono S.ff).mono D.ff;refine⟨gF I,F2,[c_,a_ (.lst ws)],cP.only (σ:=[a_ (.ref p),a_ vw]) (i:=1) rfl s,d2.c.fh,?_⟩
  rw[show f2 ixD (ai 1) (fC (.int 1)) [c_,a_ (.lst ws)]=.ok nm from Z];intro w F3 H3 J P;have m:=d2.step J;have O:n∈[k,g,b,n,f,c]:=by simp
  refine⟨n,ys,w,rfl,rfl,J.hh _ _ I,by rw[N.length];exact A,?_⟩
  exact a F3 _ (((S.toC.trans D d1.ex).trans J.toC d2.ex).trans (m.c.updC _ O) m.ex) (m.put O (m.c.app (j:=3) rfl (J.hh _ _ I) (N.mono J.ff) P))
end
section
variable{p dx:i_}{xs:List i_}{ds:List A'}{mg ms:List A'->M A'}{E4 E5 E6 E7:XK} 
theorem Dr.ask(d:Dr K C F H p dx xs ds)(c:aR K F (.lst ws) vw){t:ah->M Bool}{f:Bool->M (Bool×List A')}(e:(t [c_,a_ (.lst ws)]).bind f=.ok r)(J:FD K C F H p dx xs r Q){T:TS}{D:Ends}(a:∀F1 H1,Dr K C F1 H1 p dx xs ds->aR K F1 (.lst ws) vw->FD K C F1 H1 p dx xs r Q->f d_=.ok r->T D [a_ (.ref p),a_ vw] H1)(j:∀F1 H1,Dr K C F1 H1 p dx xs ds->aR K F1 (.lst ws) vw->FD K C F1 H1 p dx xs r Q->f b_=.ok r->U D [a_ (.ref p),a_ vw] H1):lM (tDT K J3 t) T U D [a_ (.ref p),a_ vw] H:=by
 obtain⟨b,g,e⟩:=bind_eq e;refine eZ (cP.only (σ:=[a_ (.ref p),a_ vw]) (i:=1) rfl c) d.c.fh (λk h=>?_) λl Y F1 H1 I=>?_
 ·have h:t [c_,a_ (.lst ws)]=.error k:=h;rw[g]at h;cases h
 ·have Y:t [c_,a_ (.lst ws)]=.ok l:=Y;rw[g]at Y;cases Y;cases b with
  |true=>exact a F1 H1 (d.step I) (c.mono I.ff) (J.step d I) e|false=>exact j F1 H1 (d.step I) (c.mono I.ff) (J.step d I) e
theorem rs_row{t6:ah->M A'}(w:Cls K C)(J:∀y∈(["kinds","gaps","beside","names","flights","closed"]:List p_),bp K C y)(h:uv K C (nX t1 t2 t3 t4 t5 t6 mk mg ms mf) vs H Q E):
  cR (lM (tDT K J3 t1) (sk (tC (.bl d_))) eY)
  (cR (lM (tDT K J3 t2) (sk (hZ mU [] E1 (aM (uq K (bG 0) "kinds") (aM (hZ (spF K b_ mk 2) [] E2 (aM (uq K (bG 0) "kinds") (aM (bG 1) dS))) dS)))) eY)
  (cR (lM (tDT K J3 t3) (sk (hZ (yG K mg) [] E3 (aM (uq K (bG 0) "kinds") (aM (uq K (bG 0) "gaps") (aM (bG 1) dS))))) eY)
  (cR (lM (tDT K J3 t4) (sk (hZ (yG K mg) [] E4 (aM (uq K (bG 0) "kinds") (aM (uq K (bG 0) "beside") (aM (bG 1) dS))))) eY)
  (cR (lM (tDT K J3 t5) (sk (hZ mU [] E5 (aM (uq K (bG 0) "closed") (aM (hZ (spF K b_ ms 2) [] E6 (aM (uq K (bG 0) "closed") (aM (bG 1) dS))) dS)))) eY)
   (sk (tAndV (tD K J3 b_ t6) (hZ (uv K C (mP mf)) [] E7 (aM (bG 0) (aM (bG 1) dS))))))))) {nx:=λ_ H'=>Q .non H',rt:=Q} (start ["draft","words"] vs) H:=by
 obtain⟨p,dx,xs,F,ds,ws,vw,r,rfl,d,B,e,I⟩:=h;unfold nX at e;split at e
 rotate_left
 ·cases e
 rename_i l o u m s t;obtain⟨k,g,b,n,f,c,rfl⟩:=d.len6;refine d.ask B e I (λF1 H1 d q I e=>?_) (λF1 H1 d q I e=>?_)
 ·cases e;exact I F1 H1 ⟨aF.refl _,λ_ _ _ h=>h,d.c.fh,λ_ _ h=>.inl h⟩ d
 refine d.ask q e I (λF1 H1 d q I e=>?_) (λF1 H1 d q I e=>?_)
 ·exact Ap d w (J _ (by simp)) (J _ (by simp)) rfl rfl q dF0 dF0 (j:=0) rfl (jy:=0) rfl rfl e I
 have z:∀{j:Nat} {fx:p_} {x:i_} {ks:List (List Int×A')} {E':XK} {F1 H1:Hp},Dr K C F1 H1 p dx [k,g,b,n,f,c] [.lst l,.dic o,.dic u,.lst m,.lst s,.lst t]->aR K F1 (.lst ws) vw->FD K C F1 H1 p dx [k,g,b,n,f,c] r Q->(mg [.lst l,.lst ws]).bind (CG j [.lst l,.dic o,.dic u,.lst m,.lst s,.lst t])=.ok r->bp K C fx->(fS [k,g,b,n,f,c]).lookup fx=a_ (V.ref x)->[k,g,b,n,f,c][j]?=a_ x->([.lst l,.dic o,.dic u,.lst m,.lst s,.lst t]:List A')[j]?=a_ (.dic ks) ->
   hZ (yG K mg) [] E' (aM (uq K (bG 0) "kinds") (aM (uq K (bG 0) fx) (aM (bG 1) dS))) [a_ (.ref p),a_ vw] H1 Q:=λ{j fx x ks E' F1 H1} d q I e nx D ex hd=>rs_putD2 d w nx (J _ (by simp)) rfl rfl q dF0 D rfl rfl ex hd e I
 refine d.ask q e I (λF1 H1 d q I e=>?_) (λF1 H1 d q I e=>?_)
 ·exact z (j:=1) d q I e (J _ (by simp)) dF1 rfl rfl
 refine d.ask q e I (λF1 H1 d q I e=>?_) (λF1 H1 d q I e=>?_)
 ·exact z (j:=2) d q I e (J _ (by simp)) dF2 rfl rfl
 refine d.ask q e I (λF1 H1 d q I e=>?_) (λF1 H1 d q I e=>?_)
 ·exact Ap d w (J _ (by simp)) (J _ (by simp)) rfl rfl q dF5 dF5 (j:=5) rfl (jy:=5) rfl rfl e I
 obtain⟨dd,A,e⟩:=bind_eq e;refine aO (cP.only (σ:=[a_ (.ref p),a_ vw]) (i:=1) rfl q) d.c.fh (λG h=>?_) λd' hd v F1 H1 Y a=>?_
 ·have h:t6 [c_,a_ (.lst ws)]=.error G:=h;rw[A]at h;cases h
 ·have hd:t6 [c_,a_ (.lst ws)]=.ok d':=hd;rw[A]at hd;cases hd
  cases dd with
  |bl c=>
   cases c with
   |true=>cases(show v=V.bl d_ from a);exact⟨d_,rfl,.ref p,rfl,vw,rfl,p,dx,_,F1,_,ws,vw,r,rfl,d.step Y,q.mono Y.ff,e,I.step d Y⟩
   |false=>cases(show v=V.bl b_ from a);cases e;exact⟨b_,rfl,I F1 H1 Y.toC (d.step Y)⟩
  |_=>cases e
end
def spID(C:i_):Sp:=λvs H Q _=>∃(p dx:i_),vs=[.ref p]/\H p=a_ (.ins C dx [])/\∀(k g b n f c:i_) (H':Hp),(∀m o,H m=a_ o->m≠p->H' m=a_ o)->(∀x∈[k,g,b,n,f,c],H x=c_)->[k,g,b,n,f,c].Nodup ->
 H' k=a_ (.lst [])->H' g=a_ (yp g [] 0)->H' b=a_ (yp b [] 0)->H' n=a_ (.lst [])->H' f=a_ (.lst [])->H' c=a_ (.lst [])->H' p=a_ (.ins C dx (fS [k,g,b,n,f,c]))->Q .non H'
section
variable{p dx:i_}{fs:List (p_×V)}{f:p_}{D:Ends} 
theorem Cu.cell(c:Cu F H Hc p C dx fs)(n:Cls K C)(d:bp K C f)(g:f∉fs.map (·.1))(j:fs.length<1000)(k:σ[0]?=a_ (a_ (.ref p))){o:HO}(J:Hc l=c_)(I:∀Y,Cu F H Y p C dx (fs++[(f,.ref l)])->H l=c_->Y l=a_ o->(∀m u,Hc m=a_ u->m≠p->Y m=a_ u)->D.nx σ Y):(bG 0) σ (upd Hc l o) λx H2=>∃a C dx fs,x=.ref a/\H2 a=a_ (.ins C dx fs)/\Cls K C/\bp K C f/\fs.length<1000/\D.nx σ (upd H2 a (.ins C dx (tF f (.ref l) fs))):=by
 refine⟨.ref p,k,p,C,dx,fs,rfl,(c.lay J).ob,n,d,j,?_⟩
 rw[mZ f _ fs g];have b:l≠p:=λz=>by have h:=c.ob;rw[<- z,J]at h;cases h
 refine I _ ((c.lay J).put f (.ref l)) (c.new J) (by rw[aq b,ao]) λm u e i=>?_
 have:m≠l:=λz=>by rw[z,J]at e;cases e
 rw[aq i,aq this];exact e
end
theorem rs_initD(a:Cls K C)(Y:∀y∈(["kinds","gaps","beside","names","flights","closed"]:List p_),bp K C y)(h:spID C vs H Q E):
  cR (An K (bG 0) (Af dS) "kinds") (cR (An K (bG 0) tNewK "gaps") (cR (An K (bG 0) tNewK "beside") (cR (An K (bG 0) (Af dS) "names") (cR (An K (bG 0) (Af dS) "flights") (An K (bG 0) (Af dS) "closed"))))) {nx:=λ_ H'=>Q .non H',rt:=Q} (start ["self"] vs) H:=by
 obtain⟨p,dx,rfl,D,q⟩:=h;have C0:Cu (λ_=>c_) H H p C dx []:=⟨rfl,λ_ _ h=>(nomatch h),λ_ _ e _=>e,D⟩
 have l:(0:Nat)<=f_:=G7 _;refine⟨l,λk Z=>C0.cell a (Y _ (by simp)) (by simp) (by simp) rfl Z λH1 C1 d a1 k1=>?_⟩
 refine λg A=>C1.cell a (Y _ (by simp)) (by show("gaps":p_)∉(["kinds"]:List p_);decide +kernel) (by simp) rfl A λH2 C2 m U k2=>?_;refine λb t=>C2.cell a (Y _ (by simp)) (by show("beside":p_)∉(["kinds","gaps"]:List p_);decide +kernel) (by simp) rfl t λH3 C3 s T k3=>?_;refine⟨l,λn r=>C3.cell a (Y _ (by simp)) (by show("names":p_)∉(["kinds","gaps","beside"]:List p_);decide +kernel) (by simp) rfl r λH4 C4 w S u=>?_⟩
 refine⟨l,λf i=>C4.cell a (Y _ (by simp)) (by show("flights":p_)∉(["kinds","gaps","beside","names"]:List p_);decide +kernel) (by simp) rfl i λH5 C5 X R k5=>?_⟩
 refine⟨l,λc J=>C5.cell a (Y _ (by simp)) (by show("closed":p_)∉(["kinds","gaps","beside","names","flights"]:List p_);decide +kernel) (by simp) rfl J λH6 W o6 a6 j=>?_⟩
 have np:∀{x:i_},H x=c_->x≠p:=λ{x} h z=>by rw[z,D]at h;cases h
 have b1:=k2 _ _ a1 (np d);have b2:=k3 _ _ b1 (np d);have b3:=u _ _ b2 (np d);have P:=k5 _ _ b3 (np d);have g2:=k3 _ _ U (np m);have G:=u _ _ g2 (np m);have F:=k5 _ _ G (np m);have O:=u _ _ T (np s);have N:=k5 _ _ O (np s);have L:=k5 _ _ S (np w);have I:∀{x y:i_} {v:Hp} {o:HO},v x=a_ o->v y=c_->x≠y:=λ{x y v o} h1 h2 z=>by rw[z,h2]at h1;cases h1
 refine q k g b n f c H6 W.kp (λx B=>?_) ?_ (j _ _ P (np d)) (j _ _ F (np m)) (j _ _ N (np s)) (j _ _ L (np w)) (j _ _ R (np X)) a6 W.ob
 ·simp only[x_,GB,IL]at B;rcases B with rfl|rfl|rfl|rfl|rfl|rfl<;>assumption
 ·simp only[Iz,x_,GB,IL,LU,not_false_eq_true,JT,and_true];exact⟨⟨I a1 A,I b1 t,I b2 r,I b3 i,I P J⟩,⟨I U t,I g2 r,I G i,I F J⟩,⟨I T r,I O i,I N J⟩,⟨I S i,I L J⟩,I R J⟩
noncomputable def drD(C:i_)(ds:List A'):A':=.ins C ((["kinds","gaps","beside","names","flights","closed"]:List p_).zip ds)
noncomputable def ds0:List A':=[.lst [],.dic [],.dic [],.lst [],.lst [],.lst []]
section
variable{p dx:i_}{xs:List i_}{ds:List A'}
theorem Dr.frz(d:Dr K C F H p dx xs ds)(n:xs.length=6)(st:C6 F0 H0 F H)(l:∀x∈p::xs,H0 x=c_):∃G,C6 F0 H0 G H/\aF F G/\aR K G (drD C ds) (.ref p):=by
 have J:∀b,(b=p\/b∈xs)->F b=c_:=λb h=>h.elim (λz=>by rw[z];exact d.fp) λz=>(d.c.at z).1;have c:aF F (plus F H λb=>b=p\/b∈xs):=λb o h=>by
  by_cases I:b=p\/b∈xs
  ·rw[J b I]at h;cases h
  ·rw[bW I];exact h
 refine⟨plus F H λb=>b=p\/b∈xs,⟨st.ff.trans c,st.hh,λb o h=>?_,λb o h=>?_⟩,c,p,dx,fS xs,rfl,by rw[gv (.inl rfl)];exact d.ob,?_⟩
 ·by_cases I:b=p\/b∈xs
  ·rw[gv I]at h;exact h
  ·rw[bW I]at h;exact st.fh b o h
 ·by_cases I:b=p\/b∈xs
  ·exact .inr (l b (I.elim (λz=>by rw[z];exact Gp ..) λz=>FH _ z))
  ·rw[bW I]at h;exact st.nw b o h
 ·have:∀(ns:List p_) (ys:List i_) (es:List A'),ys.length=es.length->(∀(j:Nat) y e,ys[j]?=a_ y->es[j]?=a_ e->aR K (plus F H λb=>b=p\/b∈xs) e (.ref y))->jt K (plus F H λb=>b=p\/b∈xs) (ns.zip es) (ns.zip (ys.map V.ref)):=by
   intro ns
   induction ns with
   |nil=>intro _ _ _ _;rfl|cons a ns k=>
    intro ys es Y q
    match ys,es,Y with
    |[],[],_=>rfl|y::ys,e::es,Y=>exact⟨.ref y,_,rfl,q 0 y e rfl rfl,k ys es (by simpa using Y) λj f m h1 h2=>q (j+1) f m (by simpa using h1) (by simpa using h2)⟩
  refine this _ xs ds d.c.len λj y e h1 h2=>?_;obtain⟨i,g⟩:=d.c.own j y e h1 h2;exact g.give i c (gv (.inr (Gr h1)))
end
def eqE:A'->A'->M A'
 |.dic ks,.dic []=>.ok (.bl ks.isEmpty)|a,b=>eqM a b
@[simp] theorem e_eqE(ks:List (List Int×A')):eqE (.dic ks) (.dic [])=.ok (.bl ks.isEmpty):=id rfl
theorem eq_dicE{E:Mq}{Q:Mq}{xs:List nV}(d:oG s.heap a xs ep)(c:oG s.heap b [] ep')(J:A.units<G5)(h:Q (.bool xs.isEmpty) s):D_ (FE prog w) A (FU .Eq (.ref a) (.ref b)) Q E s:=by
 cases xs with
 |nil=>obtain⟨l,d1⟩:=EV (P:=prog) (w:=w) d;obtain⟨n2,d2⟩:=EV (P:=prog) (w:=w) c;exact M0 l n2 d1 d2 J (λ_=>.nil) h
 |cons x xs=>
  obtain⟨vs,e,k,_,_,i,es,h1,h2,n,m⟩:=d;obtain⟨us,f,j,_,_,g,fs,Y,g2,p,o⟩:=c;have ta:s.TypeIs (.ref a) "dict":=⟨i,h1,h2.1⟩
  have tb:s.TypeIs (.ref b) "dict":=⟨g,Y,g2.1⟩
  have I:es.size≠fs.size:=by
   have e1:es.size=vs.length:=by rw[<- Hr,m,t_]
   have e2:fs.size=us.length:=by rw[<- Hr,o,t_]
   have e3:=e.length;have e4:=f.length;rw[e1,e2,<- e3,<- e4];simp
  refine LM (op:=.Eq) ta tb IT (La IT ta Lu ?_ (Lk _ _)) J;refine(show D_ _ _ (Ig "__eq__" ⟨[.ref a,.ref b],[]⟩ >>= _) _ _ s from k_ (by unfold Ig;refine k_ (M8 ta (show D_ _ _ (GZ (FF a,FF b)) _ _ s from B_ (k_ (Oc (T:="dict") tb Ls ?_))));simp only[NK,MR,Nx];refine k_ (B_ (k_ (B_ (k_ ?_))));unfold KD KO;rw[l_ (by rw[k];decide),l_ (by rw[j];decide)];refine k_ (B_ (k_ (B_ (k_ (JI h1 n (k_ (JI Y p ?_)))))));rw[g_ (by simpa using I)];refine k_ (wpAny_rule (B_ (B_ ⟨_,rfl,(λx=>nomatch x),?_⟩)));simpa using h))
section
variable{W:eI}{own:Bool}
theorem o_eqE(j:X.A.units+64<G5)(k: ~~~(X.K=K)):Op2 K W own X (FU .Eq) eqE:=by
 intro B' s σ H x y v u Q I c Y h;obtain⟨F,a,b,J,f,d,p⟩:=h;by_cases g:∃ks,a=.dic ks/\b=.dic []
 ·obtain⟨ks,rfl,rfl⟩:=g;obtain⟨o,xs,rfl,⟨m,h1⟩,i⟩:=f;obtain⟨n,ys,rfl,⟨l,h2⟩,r2⟩:=d;cases c;cases Y;cases(show ys=[]from r2);have e:xs.isEmpty=ks.isEmpty:=by
   have:=i.length;cases xs<;>cases ks<;>simp_all
  refine eq_dicE (B2 I (J _ _ h1)) (B2 I (J _ _ h2)) (by omega) ⟨.bl _,H,I,rfl,?_⟩;rw[e];exact p (.bl _) F H (C6.refl J) (by cases own<;>rfl)
 ·have e:eqE a b=eqM a b:=by
   unfold eqE;split
   ·rename_i ks;exact FJ ⟨ks,rfl,rfl⟩ g
   ·rfl
  rw[e]at p;exact sd j k B' s σ H x y v u Q I c Y ⟨F,a,b,J,f,d,p⟩
end
section
variable{base:Gv}{k:Nat} 
def YR(_:∃f fd,Def K mg x st ps f fd)(P:GH)(w:GV)(base:Gv)(k:Nat)(sp:Sp):Prop:=∃f fd,Yd P w K mg base CX0 k x st ps sp f fd
theorem fR(N:List p_){h:∃f fd,Def K mg x st ps f fd}(I:∀vs H Q E,sp vs H Q E->vs.length=ps.length)(Y:∀z:B7,N.Nodup->iJ k (z.A.deeper (Ik x (aE st) z.s.heap.objs.size z.f z.c))->∀(vs:List V) (Q:VK),sp vs z.H Q z.E->∃t,PSs (zU CX0 P w K mg base N x (aE st) z.f z.c z.A z.o z.s z.H z.E).nox (bO st) t/\t {nx:=λ_ H'=>Q .non H',rt:=Q} (start N vs) z.H)(S:autoParam (gE N ps (aE st)) Jq9):YR h P w base (k+1) sp:=
 let ⟨f,fd,D⟩:=h
 ⟨f,fd,D,D.fn.okX S I λc A o s H vs Q E J h=>Y ⟨f,c,A,o,s,H,E⟩ S.nd J vs Q h⟩
end
section
variable{t:TA} 
theorem pY{j k:Nat}(Y:∃f fd,Yd X.prog X.w X.K X.mg X.base CX0 k x st ps sp f fd)(b:iJ j X.A)(g:PA X (e::es) t)(c:(k<=j)⁻¹)(d: ~~~(Gl X x))(a:((x==("__debug__":p_))=b_)⁻¹)(I: ~~~(h_ (e::es) X.env=(b_,FR e X.env)::h_ es X.env))(J: ~~~((Gh pos (h_ es X.env)).any (·.1)=b_)):PE X (.Call (.Name x p) (e::es) [] pos) (hZ sp [] E0 t):=let ⟨_,_,Y⟩:=Y;qN Y.o (b.mono c) d Y.d.mg Y.d.fn.kp Y.d.bd .nil qO g a I J
theorem hU(h:n+64<G5):n+1<G5:=by omega
end
theorem len_told(h:mU vs H Q E):vs.length=2:=by obtain⟨_,_,rfl,_⟩:=h;rfl
theorem len_gap{mg:List A'->M A'}(h:yG K mg vs H Q E):vs.length=3:=by obtain⟨_,_,_,_,_,_,_,_,_,_,_,rfl,_⟩:=h;rfl
theorem Eh(h:uv K C mr vs H Q E):vs.length=2:=by obtain⟨_,_,_,_,_,_,_,_,rfl,_⟩:=h;rfl
theorem len_ID(h:spID C vs H Q E):vs.length=1:=by obtain⟨_,_,rfl,_⟩:=h;rfl
def ux:A'->Option Int->Option Int->M A'
 |.str z,lo,hi=>if z.length<=f_ then .ok (.str (J6 z lo hi))else stk
 |_,_,_=>stk
@[simp] theorem EK(z:p_)(lo hi:Option Int):ux (.str z) lo hi=if z.length<=f_ then .ok (.str (J6 z lo hi))else stk:=id rfl
section
variable{W:eI}{own:Bool}
theorem x_slS:SlR X (rDS K W own ux):=by
 intro B' s σ H x v b Y lo hi o Q I d j pl f h;obtain⟨F,a,c,e,p⟩:=h;cases a with
 |str z=>
  have p:aJ K W own F H (if z.length<=f_ then .ok (.str (J6 z lo hi))else stk) Q:=p;cases(show x=V.str z from e);obtain⟨t,rfl⟩:=(show ∃t,v=Ha z t from d)
  by_cases J:z.length<=f_
  ·rw[g_ J]at p;obtain⟨l,n,g⟩:∃l,b=partValue l/\lo=l.map (·.1):=by
    cases pl with
    |none=>exact⟨c_,rfl,rfl⟩|int i t=>exact⟨a_ (i,t),rfl,rfl⟩
   obtain⟨r,m,mr⟩:∃l,Y=partValue l/\hi=l.map (·.1):=by
    cases f with
    |none=>exact⟨c_,rfl,rfl⟩|int i t=>exact⟨a_ (i,t),rfl,rfl⟩
   subst n m g mr;refine⟨"str",_,PySem.F.slot_str_getitem.lookup,JW _ _ _,wpAny_getItem_str_slice (l:=l) (u:=r) (st:=c_) j rfl (post_val_or_str ⟨Gb (Txt.slice_le z _ _) J,λt' k=>?_⟩)⟩
   exact⟨.str _,H,I.tok _,⟨_,rfl⟩,p.str c⟩
  ·rw[l_ J]at p;exact aJ.stuck p
 |_=>exact aJ.stuck p
end
section
variable{ds:List A'} 
theorem nU.upd{c:i_}{u:HO}(o:nU K F G H ds vs)(n:∀k:Nat,vs[k]?≠a_ (.ref c)):nU K F G (Lake.upd H c u) ds vs:=⟨o.len,λk d e=>by obtain⟨a,xs,es,h1,h2,J,I⟩:=o.get k d e;exact⟨a,xs,es,h1,h2,by rw[aq (λz=>n k (by rw[<- z];exact h1))];exact J,I⟩,o.ap⟩
theorem nU.write{j:Nat}{es:List A'}{xs:List V}(o:nU K F G H ds vs)(Y:vs[j]?=a_ (.ref b))(q:az K F es xs):nU K F G (Lake.upd H b (.lst xs)) (ds.set j (.lst es)) vs:=by
 obtain⟨f,h,e0,i,fb,a,_⟩:=o.at Y;refine⟨by rw[Cb];exact o.len,λk d e=>?_,o.ap⟩
 by_cases J:j=k
 ·subst J;rw[u_ (w_.mp e0).1]at e;cases e;exact⟨b,xs,es,Y,rfl,ao,fb,a,q⟩
 ·rw[n_ J]at e;obtain⟨c,ws,fs,k1,k2,k3,g⟩:=o.get k d e;have I:c≠b:=λz=>J (o.ap j k b Y (by rw[<- z];exact k1));exact⟨c,ws,fs,k1,k2,by rw[aq I];exact k3,g⟩
theorem pU(l:List α)(j k:Nat):(l.eraseIdx j)[k]?=l[if k<j then k else k+1]?:=by rw[List.getElem?_eraseIdx];split<;>rfl
theorem nU.erase(o:nU K F G H ds vs)(j:Nat):nU K F G H (ds.eraseIdx j) (vs.eraseIdx j):=by
 refine⟨by rw[Ml,Ml,o.len],λk d e=>?_,λi k a e1 e2=>?_⟩
 ·rw[pU]at e ⊢;exact o.get _ d e
 ·rw[pU]at e1 e2;have:=o.ap _ _ a e1 e2;split at this<;>split at this<;>omega
end
structure pk(K:Pn)(F0 H0 F:Hp)(ar al:i_)(H:Hp)(xs ys:List V)(out rs:List A'):Prop where
 st:C6 F0 H0 F H
 hr:H ar=a_ (.lst xs)
 fr:F ar=c_/\H0 ar=c_
 hl:H al=a_ (.lst ys)
 fl:F al=c_/\H0 al=c_
 na:ar≠al
 nl:∀m:Nat,ys[m]?≠a_ (.ref al)
 nr:∀m:Nat,ys[m]?≠a_ (.ref ar)
 ow:nU K F H0 H rs ys
 dq:az K F out xs
def mixA(ar al:i_)(ys:List V)(c:i_):Prop:=c=ar\/c=al\/∃m:Nat,ys[m]?=a_ (.ref c)
section
variable{xs ys:List V}{rs:List A'}
theorem pk.same(h:pk K F0 H0 F ar al H xs ys out rs)(s:aF H H'):pk K F0 H0 F ar al H' xs ys out rs:=
 have t:=C6.same h.st.fh s
 ⟨h.st.trans t,s _ _ h.hr,h.fr,s _ _ h.hl,h.fl,h.na,h.nl,h.nr,h.ow.step t,h.dq⟩
theorem C6.put{u:HO}(s:C6 F0 H0 F H)(f:F c=c_/\H0 c=c_):C6 F0 H0 F (upd H c u):=
 ⟨s.ff,λb o e=>by rw[aq (aN e f.2)];exact s.hh b o e,λb o e=>by rw[aq (aN e f.1)];exact s.fh b o e,s.nw⟩
theorem pk.app(h:pk K F0 H0 F ar al H xs ys out rs){x:A'}(q:aR K F x v):pk K F0 H0 F ar al (upd H ar (.lst (xs++[v]))) (xs++[v]) ys (out++[x]) rs:=
 ⟨h.st.put h.fr,ao,h.fr,by rw[aq (FZ h.na)];exact h.hl,h.fl,h.na,h.nl,h.nr,h.ow.upd h.nr,h.dq.append (.cons q .nil)⟩
theorem pk.pop(h:pk K F0 H0 F ar al H xs ys out rs){j:Nat}{es:List A'}{ws:List V}(I:ys[j]?=a_ (.ref b))(q:az K F es ws):pk K F0 H0 F ar al (upd H b (.lst ws)) xs ys out (rs.set j (.lst es)):=by obtain⟨_,_,_,_,fb,J,_⟩:=h.ow.at I;have Y:ar≠b:=λz=>h.nr j (by rw[z];exact I);have n2:al≠b:=λz=>h.nl j (by rw[z];exact I);exact⟨h.st.put ⟨fb,J⟩,by rw[aq Y];exact h.hr,h.fr,by rw[aq n2];exact h.hl,h.fl,h.na,h.nl,h.nr,h.ow.write I q,h.dq⟩
theorem pk.drop(h:pk K F0 H0 F ar al H xs ys out rs)(j:Nat):pk K F0 H0 F ar al (upd H al (.lst (ys.eraseIdx j))) xs (ys.eraseIdx j) out (rs.eraseIdx j):=
 ⟨h.st.put h.fl,by rw[aq h.na];exact h.hr,h.fr,ao,h.fl,h.na,λm e=>h.nl _ (by rw[pU]at e;exact e),λm e=>h.nr _ (by rw[pU]at e;exact e),(h.ow.upd h.nl).erase j,h.dq⟩
theorem pk.none(h:pk K F0 H0 F ar al H xs ys out rs){c:i_}(I:mixA ar al ys c):F c=c_:=by
 rcases I with rfl|rfl|⟨m,e⟩
 ·exact h.fr.1
 ·exact h.fl.1
 ·obtain⟨_,_,_,_,z,_⟩:=h.ow.at e;exact z
theorem pk.ff(h:pk K F0 H0 F ar al H xs ys out rs):aF F (plus F H (mixA ar al ys)):=λc o z=>by
 by_cases I:mixA ar al ys c
 ·rw[h.none I]at z;cases z
 ·rw[bW I];exact z
theorem pk.fh(h:pk K F0 H0 F ar al H xs ys out rs):aF (plus F H (mixA ar al ys)) H:=λc o z=>by
 by_cases I:mixA ar al ys c
 ·rw[gv I]at z;exact z
 ·rw[bW I]at z;exact h.st.fh c o z
theorem pk.dr(h:pk K F0 H0 F ar al H xs ys out rs):aR K (plus F H (mixA ar al ys)) (.lst out) (.ref ar):=⟨ar,xs,rfl,SqL.of (by rw[gv (.inl rfl)];exact h.hr),h.dq.mono h.ff⟩
theorem pk.dl(h:pk K F0 H0 F ar al H xs ys out rs):aR K (plus F H (mixA ar al ys)) (.lst rs) (.ref al):=by
 refine⟨al,ys,rfl,SqL.of (by rw[gv (.inr (.inl rfl))];exact h.hl),az.of_get h.ow.len λm d u e1 e2=>?_⟩
 obtain⟨c,ws,fs,k1,k2,k3,J,k5,I⟩:=h.ow.get m d e1;rw[k1]at e2;cases e2;subst k2;exact⟨c,ws,rfl,SqL.of (by rw[gv (.inr (.inr ⟨m,k1⟩))];exact k3),I.mono h.ff⟩
end
noncomputable def lJ(ir il:Nat)(ρ:ah)(out rs:List A'):ah:=(ρ.set ir (a_ (.lst out))).set il (a_ (.lst rs))
def yt(ir il ia:Nat)(fc:ah->M Bool)(fa:ah->M A')(t2:ah->M Bool)(ρ:ah):Nat->List A'->List A'->M (List A')
 |0,_,_=>stk|n+1,out,rs=>(fc (lJ ir il ρ out rs)).bind λb=>if b=d_ then
   (fa (lJ ir il ρ out rs)).bind λd=>(asI d).bind λk=>(rowAt rs k).bind λI=>match I.2 with
    |x::es=>if out.length<f_/\rs.length<=f_ then
      (t2 ((lJ ir il ρ (out++[x]) (rs.set I.1 (.lst es))).set ia (a_ (.int k)))).bind λb2=>yt ir il ia fc fa t2 ρ n (out++[x]) (if b2=d_ then(rs.set I.1 (.lst es)).eraseIdx I.1 else rs.set I.1 (.lst es))
     else stk
    |[]=>stk
  else .ok out
noncomputable def gY(ir il ia:Nat)(ρ:ah):ah:=((ρ.set ir c_).set il c_).set ia c_
def sMix(n ir il ia:Nat)(fl:ah->M A')(fc:ah->M Bool)(fa:ah->M A')(t2:ah->M Bool)(g:ah->M H9):ah->M H9:=λρ=>if (q_ (ir<ρ.length)&&q_ (il<ρ.length)&&q_ (ia<ρ.length))=d_ then(jE ρ ir).bind λout=>(fl (ρ.set ir c_)).bind λd=>(lstOf d).bind λrs=>(yt ir il ia fc fa t2 (gY ir il ia ρ) n out rs).bind λI=>g ((gY ir il ia ρ).set ir (a_ (.lst I)))else stk
abbrev tTake(K:Pn)(ir il ia:Nat):TS:=lN (tBM K "list" jc (bG ir) (aM (tBM K "list" Dx (tOp (rIx K) (bG il) (bG ia)) (aM (tC (.int 0)) dS)) dS))
section
variable{D:Ends}{g:ah->M H9}{xs ys:List V}{rs:List A'}{fc:ah->M Bool} 
theorem Bu(h1:ir≠il)(h2:ia≠ir)(S:ia≠il)(m:pk K F0 H0 F ar al H xs ys out rs)(r:cP K F σ (gY ir il ia ρ))(U:σ[ir]?=a_ (a_ (.ref ar)))(W:σ[il]?=a_ (a_ (.ref al)))(hi:ia<σ.length)(hr:ir<σ.length)(fb:aF FB F)(p:gR K J3 ro F0 H0 FB OL O' D ((yt ir il ia fc fa t2 (gY ir il ia ρ) n out rs).bind λI=>g ((gY ir il ia ρ).set ir (a_ (.lst I))))):
  cR (D2 (tDT K J3 fc) (cR (oK (tD K J3 b_ fa) (bU ia)) (cR (tTake K ir il ia) (lM (tDT K J3 t2) (lN (D5 K il (bG ia))) eY)))) (tS K J3 ro F0 H0 OL [ir] O' g) D σ H:=by
 have hb:∀{σ':St},σ'.length=σ.length->(∀j,j≠ia->σ'[j]?=σ[j]?)->cP K F σ' (gY ir il ia ρ):=λ{σ'} l k=>by
  have:=r.but (i:=ia) l k
  rwa [show(gY ir il ia ρ).set ia c_=gY ir il ia ρ by unfold gY;rw[List.set_set]]at this
 refine⟨λn σ' H=>∃xs ys out rs,pk K F0 H0 F ar al H xs ys out rs/\σ'.length=σ.length/\(∀j,j≠ia->σ'[j]?=σ[j]?)/\gR K J3 ro F0 H0 FB OL O' D ((yt ir il ia fc fa t2 (gY ir il ia ρ) n out rs).bind λI=>g ((gY ir il ia ρ).set ir (a_ (.lst I)))),⟨n,xs,ys,out,rs,m,rfl,λ_ _=>rfl,p⟩,?_⟩
 rintro n J H ⟨xs,ys,out,rs,m,s,k1,p⟩;have e1:J[ir]?=a_ (a_ (.ref ar)):=by rw[k1 ir (FZ h2)];exact U
 have e2:J[il]?=a_ (a_ (.ref al)):=by rw[k1 il (FZ S)];exact W
 have Y:∀{σ':St} {H:Hp} {xs ys:List V} {out rs:List A'},pk K F0 H0 F ar al H xs ys out rs->σ'.length=σ.length->(∀j,j≠ia->σ'[j]?=σ[j]?)->cP K (plus F H (mixA ar al ys)) σ' (lJ ir il (gY ir il ia ρ) out rs):=λ{σ' H xs ys out rs} m l k=>(((hb l k).mono m.ff).tell (i:=ir) (by rw[k ir (FZ h2)];exact U) m.dr).tell (i:=il) (by rw[k il (FZ S)];exact W) m.dl
 cases n with
 |zero=>exact p.stuck rfl|succ n=>
 have t1:=Y m s k1;refine eZ t1 m.fh (λe w=>by rw[yt,w]at p;exact p) λb Q F3 H3 s3=>?_;rw[yt,Q]at p;have p:gR K J3 ro F0 H0 FB OL O' D ((if b=d_ then(fa (lJ ir il (gY ir il ia ρ) out rs)).bind (λd=>(asI d).bind λk=>(rowAt rs k).bind λc=>match c.2 with
    |x::es=>if out.length<f_/\rs.length<=f_ then
      (t2 ((lJ ir il (gY ir il ia ρ) (out++[x]) (rs.set c.1 (.lst es))).set ia (a_ (.int k)))).bind λb2=>yt ir il ia fc fa t2 (gY ir il ia ρ) n (out++[x]) (if b2=d_ then(rs.set c.1 (.lst es)).eraseIdx c.1 else rs.set c.1 (.lst es))
     else stk
    |[]=>stk)else .ok out).bind λI=>g ((gY ir il ia ρ).set ir (a_ (.lst I)))):=p
 have o:=m.same s3.hh;cases b with
 |false=>
  rw[l_ (by decide)]at p;rw[l_ (by decide)];have t:=hb s k1;refine⟨FB,F,_,⟨o.st,fb,by rw[Cb];exact t.len,λi d e hn=>?_,λi d e hm=>?_,λi j d e a hi f _ _ _ _=>?_⟩,p⟩
  ·have O:ir≠i:=λz=>hn (by simp[z]);rw[n_ O]at e;exact t.sl i d e
  ·have:=F_.mp hm;subst this;rw[u_ (by rw[t.len,s];exact hr)]at e;cases e;exact⟨.ref ar,e1,ar,xs,rfl,o.hr,o.fr.1,o.fr.2,o.dq⟩
  ·rw[F_.mp hi,F_.mp f]
 |true=>
  rw[g_ rfl]at p;rw[g_ rfl];refine⟨_,λσ' H' z=>⟨n,HS n,z⟩,?_⟩
  refine aO (Y o s k1) o.fh (λe w=>by rw[w]at p;exact p) λd hd v F4 H4 s4 G=>?_;rw[hd,aj]at p;have h:=o.same s4.hh;cases d with
  |int k=>
   have p:gR K J3 ro F0 H0 FB OL O' D (((rowAt rs k).bind λc=>match c.2 with
    |x::es=>if out.length<f_/\rs.length<=f_ then
      (t2 ((lJ ir il (gY ir il ia ρ) (out++[x]) (rs.set c.1 (.lst es))).set ia (a_ (.int k)))).bind λb2=>yt ir il ia fc fa t2 (gY ir il ia ρ) n (out++[x]) (if b2=d_ then(rs.set c.1 (.lst es)).eraseIdx c.1 else rs.set c.1 (.lst es))
     else stk
    |[]=>stk).bind λI=>g ((gY ir il ia ρ).set ir (a_ (.lst I)))):=p
   have G:v=.int k:=G;subst G;cases f:ixN rs.length k with
   |none=>exact p.stuck (by unfold rowAt;rw[f];rfl)|some j=>
    obtain⟨x1,u,x3,x4⟩:=uZ f;obtain⟨b,ws,q,C,g2,g3,g4,g5,g6⟩:=h.ow.get j rs[j] (by simp[u]);have T:rs[j]?=a_ (.lst q):=by rw[<- g2];simp[u]
    have e3:rowAt rs k=.ok (j,q):=by unfold rowAt;rw[f];show(match rs[j]? with|some (.lst es)=>FN (j,es)|_=>HB Err.stuck)=_;rw[T]
    rw[e3,aj]at p;cases q with
    |nil=>exact p.stuck rfl|cons x es=>
     have p:gR K J3 ro F0 H0 FB OL O' D ((if out.length<f_/\rs.length<=f_ then
      (t2 ((lJ ir il (gY ir il ia ρ) (out++[x]) (rs.set j (.lst es))).set ia (a_ (.int k)))).bind λb2=>yt ir il ia fc fa t2 (gY ir il ia ρ) n (out++[x]) (if b2=d_ then(rs.set j (.lst es)).eraseIdx j else rs.set j (.lst es))
      else stk).bind λI=>g ((gY ir il ia ρ).set ir (a_ (.lst I)))):=p
     by_cases P:out.length<f_/\rs.length<=f_
     rotate_left
     ·rw[l_ P]at p;exact p.stuck rfl
     rw[g_ P]at p;obtain⟨y,E,rfl,qy,qw⟩:=g6;have N:(J.set ia (a_ (V.int k))).length=σ.length:=by rw[Cb];exact s
     have k5:∀j,j≠ia->(J.set ia (a_ (V.int k)))[j]?=σ[j]?:=λj f=>by rw[n_ (FZ f)];exact k1 j f
     have X:(J.set ia (a_ (V.int k)))[ia]?=a_ (a_ (.int k)):=u_ (by rw[s];exact hi);have Z:(J.set ia (a_ (V.int k)))[ir]?=a_ (a_ (.ref ar)):=by rw[k5 ir (FZ h2)];exact U
     have A:(J.set ia (a_ (V.int k)))[il]?=a_ (a_ (.ref al)):=by rw[k5 il (FZ S)];exact W
     have hs:=FO;have L:=(h.pop C qw).app qy;refine⟨.ref ar,Z,gF h.hr,.ref al,A,.int k,X,.inl ⟨al,ys,k,.ref b,rfl,rfl,SqL.of h.hl,?_,?_⟩⟩
     ·unfold atI;rw[h.ow.len,f];exact C
     refine⟨gF g3,b,y::E,0,0,y,rfl,rfl,g3,by decide,by decide,(uZ (i:=0) (j:=0) (by unfold ixN;simp)).1,rfl,?_⟩
     refine⟨ar,xs,y,rfl,rfl,(h.pop C qw).hr,by rw[h.dq.length];exact P.1,?_⟩
     have t:=(Y L N k5).tell (i:=ia) (d:=.int k) X rfl;refine eZ t L.fh (λe w=>by rw[w]at p;exact p) λb2 R F6 H6 s6=>?_;rw[R,aj]at p;have B:=L.same s6.hh;cases b2 with
     |false=>rw[l_ (by decide)]at p;rw[l_ (by decide)];exact⟨_,_,_,_,B,N,k5,p⟩|true=>
      rw[g_ rfl]at p;rw[g_ rfl];refine⟨.ref al,A,gF B.hl,.int k,X,al,ys,k,j,.ref b,rfl,rfl,B.hl,by omega,by omega,by rw[h.ow.len];exact x1,C,?_⟩
      exact⟨_,_,_,_,B.drop j,N,k5,p⟩
  |_=>exact p.stuck rfl
end
section
variable{D:Ends}{g:ah->M H9}{fc:ah->M Bool} 
theorem rs_mix{p:Pat}(C:∀ρ d,fe ρ=.ok d->∃es,d=.lst es)(h1:ir≠il)(h2:ia≠ir)(E:ia≠il)(t:tS K J3 ro F0 H0 OL [ir] O' (sMix n ir il ia (cn fi ix p ft fe) fc fa t2 g) D σ H):
  cR (Ae il (iD K J3 fi) ix (gP K p) (tDT K J3 ft) (tD K J3 d_ fe)) (cR (D2 (tDT K J3 fc) (cR (oK (tD K J3 b_ fa) (bU ia)) (cR (tTake K ir il ia) (lM (tDT K J3 t2) (lN (D5 K il (bG ia))) eY)))) (tS K J3 ro F0 H0 OL [ir] O' g)) D σ H:=by
 obtain⟨FB,F,ρ,r,q⟩:=t;unfold sMix at q;by_cases h:(q_ (ir<ρ.length)&&q_ (il<ρ.length)&&q_ (ia<ρ.length))=d_
 rotate_left
 ·rw[l_ h]at q;exact q.stuck rfl
 rw[g_ h]at q;simp only[o_,FT]at h;obtain⟨⟨y,x⟩,u⟩:=h;rw[r.len]at y x u;cases hl:jE ρ ir with
 |error e=>have:=nh hl;subst this;exact q.stuck (by rw[hl];rfl)|ok out=>
 rw[hl,aj]at q;obtain⟨v,L,ar,xs,G,hr,fr,o,dq⟩:=r.ow ir _ (jD hl) (by simp);subst G;have s:cP K F σ (ρ.set ir c_):=r.jw;refine rd_turns s r.st.fh C (λe B=>by rw[B]at q;exact q) λrs l ys F2 H2 Y ow al f=>?_;rw[l,aj]at q;have q:gR K J3 ro F0 H0 FB OL O' D ((yt ir il ia fc fa t2 (gY ir il ia ρ) n out rs).bind λc=>g ((gY ir il ia ρ).set ir (a_ (.lst c)))):=q;have j:C6 F2 H2 F2 (upd H2 al (.lst ys)):=C6.grow Y.fh f;have I:=Y.trans j;have J:=Y.hh _ _ hr;have na:ar≠al:=λz=>by rw[z,f]at J;cases J
 have m:pk K F0 H0 F2 ar al (upd H2 al (.lst ys)) xs ys out rs:={
  st:=r.st.trans I,hr:=j.hh _ _ J,fr:=⟨Y.stays fr hr,o⟩,hl:=ao,fl:=⟨Y.fh.free f,r.st.hh.free (Y.hh.free f)⟩,na:=na
  nl:=λk z=>by obtain⟨_,_,_,w,_⟩:=ow.at z;rw[f]at w;cases w
  nr:=λk z=>by obtain⟨_,_,_,_,_,w,_⟩:=ow.at z;rw[hr]at w;cases w
  ow:=(ow.step j).back r.st.hh,dq:=dq.mono I.ff}
 have A:cP K F2 (σ.set il (a_ (.ref al))) (gY ir il ia ρ):=by have a:=(s.mono I.ff).hide il (a_ (.ref al));have b:=a.but (i:=ia) (σ':=σ.set il (a_ (.ref al))) rfl λ_ _=>rfl;exact b
 exact Bu h1 h2 E m A (by rw[n_ (FZ h1)];exact L) (u_ x) (by rw[Cb];exact u) (by rw[Cb];exact y) (r.fb.trans I.ff) q
end
section
variable{y:p_}{c ea:GO}{p0:Pat}{fc:ah->M Bool}{wpos:Np}{g:ah->M H9}
theorem ds_mix(n:Nat)(N':List p_)(ix:List (Option Nat))(q:X.N.Nodup)(hi:DI K J3 X tg iter fi)(l:∀L cs s H fp,DG K (bg X N' sc L cs s H fp) tg p0)(i:pq ix (gP K p0))(b:∀L cs s H fp,PTs (bg X N' sc L cs s H fp) ifs (tDT K J3 ft))(m:∀L cs s H fp,DE K J3 d_ (bg X N' sc L cs s H fp) elt fe)(r:∀ρ d,fe ρ=.ok d->∃es,d=.lst es)(o:DT K J3 X c fc)(p:PSs X body (cR (oK (tD K J3 b_ fa) (bU ia)) (cR (tTake K ir il ia) (lM (tDT K J3 t2) (lN (D5 K il (bG ia))) eY))))(f:DSs K J3 ro X OL [ir] O' sts g)(h1:(ir≠il)⁻¹)(h2:(ia≠ir)⁻¹)(t:(ia≠il)⁻¹)(h:autoParam (MM (FE X.prog X.w) X.A X.env X.xe) Jq11)(k: ~~~(X.N[il]?=a_ x))(a: ~~~(X.env.scope.names.lookup x=a_ .local))(J: ~~~(X.calm=d_))(I: ~~~(G0 (.ListComp elt [⟨tg,iter,ifs,0⟩] sc pos) (a_ (.Name x py)) spos.line X.env=GZ d_))(Y: ~~~(bF X.N X.env.scope N' sc ix=d_))(j: ~~~(sc.kind=.function))(e:autoParam (∀x,Ht iter X.env x=GZ x) Jq5):
  DSs K J3 ro X OL [ir] O' (.Assign [.Name x py] (.ListComp elt [⟨tg,iter,ifs,0⟩] sc pos) spos::.While c body [] wpos::sts) (sMix n ir il ia (cn fi ix p0 ft fe) fc fa t2 g):=
 λF0 H0=>PSs.imp (ax (o9 N' ix q k a J hi l i b m I Y j e) (ax (ps_while h o p) (f F0 H0))) λ_ _ _=>rs_mix r h1 h2 t
theorem pb_mix{d a c Y k t r C P q s p B O:Np}{b}(hN:X.N.Nodup)(ha:DE K J3 b_ X ea fa)(ht:DT K J3 X e2 t2)(hK: ~~~(X.K=K))(hx: ~~~(X.N[ir]?=a_ x))(Q: ~~~(X.N[il]?=a_ y))(D: ~~~(X.N[ia]?=a_ z))(W:autoParam (Vis X.env.scope x) Jq4)(N:autoParam (Vis X.env.scope y) Jq4)(L:autoParam (Vis X.env.scope z) Jq4)(dx:((x==("__debug__":p_))=b_)⁻¹)(cx:((x==("__classdict__":p_))=b_)⁻¹)(S:((y==("__debug__":p_))=b_)⁻¹)(U:((y==("__classdict__":p_))=b_)⁻¹)(R:((z==("__debug__":p_))=b_)⁻¹)(T:((z==("__classdict__":p_))=b_)⁻¹)(lz:autoParam (Loc X.env.scope z) Jq6)(fz:autoParam (X.fn z=d_\/X.env.scope.names.lookup z=a_ .local) Jq3)(G: ~~~(Ky [.Name z p1] ea p2.line X.env=GZ b_))(E: ~~~(Kz [.Name z p1] ea X.env=GZ c_))(H: ~~~((Hi [.Name z p1] X.env).map (·.2)=[Jp (.Name z p1) X.env]))(w: ~~~(h_ [.Constant (.int 0) b a] X.env=[(b_,FR (.Constant (.int 0) b a) X.env)]))(o: ~~~(GQ (.Subscript (.Name y p3) (.Name z d) c) "pop" X.env (FR (.Subscript (.Name y p3) (.Name z d) c) X.env)=FR (.Subscript (.Name y p3) (.Name z d) c) X.env))(A: ~~~(((Gh Y (h_ [.Constant (.int 0) b a] X.env)).all (λx=> !x.1)&&(Ho Y (GJ [] X.env)).all (λx=>x.1.isSome)&&q_ ([Expr.Constant (.int 0) b a].length+([]:List Hk).length+(if ([]:List Hk).isEmpty then 0 else 1)<30))=d_))(e: ~~~((Gh Y (h_ [] X.env)).any (·.1)=b_))(l: ~~~((k.endLine==Y.line)=d_))(j: ~~~(h_ [.Call (.Attribute (.Subscript (.Name y p3) (.Name z d) c) "pop" k) [.Constant (.int 0) b a] [] Y] X.env=[(b_,FR (.Call (.Attribute (.Subscript (.Name y p3) (.Name z d) c) "pop" k) [.Constant (.int 0) b a] [] Y) X.env)]))(i: ~~~(GQ (.Name x t) "append" X.env (FR (.Name x t) X.env)=FR (.Name x t) X.env))(n: ~~~(((Gh r (h_ [.Call (.Attribute (.Subscript (.Name y p3) (.Name z d) c) "pop" k) [.Constant (.int 0) b a] [] Y] X.env)).all (λx=> !x.1)&&(Ho r (GJ [] X.env)).all (λx=>x.1.isSome)&&q_ ([Expr.Call (.Attribute (.Subscript (.Name y p3) (.Name z d) c) "pop" k) [.Constant (.int 0) b a] [] Y].length+([]:List Hk).length+(if ([]:List Hk).isEmpty then 0 else 1)<30))=d_))(J: ~~~((Gh r (h_ [] X.env)).any (·.1)=b_))(g: ~~~((C.endLine==r.line)=d_))(F: ~~~(G0 (.Call (.Attribute (.Name x t) "append" C) [.Call (.Attribute (.Subscript (.Name y p3) (.Name z d) c) "pop" k) [.Constant (.int 0) b a] [] Y] [] r) c_ P.line X.env=GZ b_))(v: ~~~(h_ [.Name z q] X.env=[(b_,FR (.Name z q) X.env)]))(h: ~~~(GQ (.Name y s) "pop" X.env (FR (.Name y s) X.env)=FR (.Name y s) X.env))(m: ~~~(((Gh p (h_ [.Name z q] X.env)).all (λx=> !x.1)&&(Ho p (GJ [] X.env)).all (λx=>x.1.isSome)&&q_ ([Expr.Name z q].length+([]:List Hk).length+(if ([]:List Hk).isEmpty then 0 else 1)<30))=d_))(I: ~~~((Gh p (h_ [] X.env)).any (·.1)=b_))(f: ~~~((B.endLine==p.line)=d_))(u: ~~~(G0 (.Call (.Attribute (.Name y s) "pop" B) [.Name z q] [] p) c_ O.line X.env=GZ b_)){Z:Np}:
  PSs X [.Assign [.Name z p1] ea p2,.Expr (.Call (.Attribute (.Name x t) "append" C) [.Call (.Attribute (.Subscript (.Name y p3) (.Name z d) c) "pop" k) [.Constant (.int 0) b a] [] Y] [] r) P,.If e2 [.Expr (.Call (.Attribute (.Name y s) "pop" B) [.Name z q] [] p) O] [] Z]
   (cR (oK (tD K J3 b_ fa) (bU ia)) (cR (tTake K ir il ia) (lM (tDT K J3 t2) (lN (D5 K il (bG ia))) eY))):=by
 subst hK;exact ax (wQ ha (cU hN D lz fz) G E H) (ax (gu (lY FX Gf Gm dX (pv ir hx W dx cx) (av (lY FX JY Lq AL (pe_ix ix_seq (pv il Q N S U) (pv ia D L R T) λ_ _=>rfl) (av wW aK w) o A l w e) aK j) i n g j J) F) (aU (gW ht (aU (gu (pe_pop (pv ia D L R T) Q N S U v h m I f) u)) bC)))
end
def Th(F F':Hp):Prop:=∀b o,F b=a_ o->F' b=a_ (unF o)
theorem Th.tup(s:Th F F'){xs:List V}(h:SqT K F a xs):SqT K F' a xs:=by
 rcases h with(h|⟨o,h⟩)|h
 ·exact .inl (.inl (s _ _ h))
 ·exact .inl (.inl (s _ _ h))
 ·exact .inr h
theorem Th.lst(s:Th F F'){xs:List V}(h:SqL K F a xs):SqL K F' a xs:=by
 rcases h with(h|⟨o,h⟩)|h
 ·exact .inl (.inl (s _ _ h))
 ·exact .inl (.inl (s _ _ h))
 ·exact .inr h
mutual
theorem aR.th(s:Th F F'):∀{d:A'} {v:V},aR K F d v->aR K F' d v
 |.non,_,h=>h|.bl _,_,h=>h|.int _,_,h=>h|.str _,_,h=>h|.tup _,_,⟨a,xs,e,q,r⟩=>⟨a,xs,e,s.tup q,az.th s r⟩|.lst _,_,⟨a,xs,e,q,r⟩=>⟨a,xs,e,s.lst q,az.th s r⟩|.ins _ _,_,⟨a,dx,fs,e,q,r⟩=>⟨a,dx,fs,e,s _ _ q,jt.th s r⟩|.dic _,_,⟨a,xs,e,⟨ep,q⟩,r⟩=>⟨a,xs,e,⟨ep,s _ _ q⟩,cZ.th s r⟩|.dil _,_,⟨a,xs,e,⟨ep,q⟩,r,z⟩=>⟨a,xs,e,⟨ep,s _ _ q⟩,r,λx J=>let ⟨r,bs,t1,t2,l,t3⟩:=z x J;⟨r,bs,s.tup t1,s.tup t2,l,λj I c e1 e2=>s.tup (t3 j I c e1 e2)⟩⟩
theorem az.th(s:Th F F'):∀{ds:List A'} {xs:List V},az K F ds xs->az K F' ds xs
 |[],_,h=>h|_::_,_,⟨v,vs,e,q,r⟩=>⟨v,vs,e,aR.th s q,az.th s r⟩
theorem jt.th(s:Th F F'):∀{gs:List (p_×A')} {fs:List (p_×V)},jt K F gs fs->jt K F' gs fs
 |[],_,h=>h|(_,_)::_,_,⟨v,r,e,q,t⟩=>⟨v,r,e,aR.th s q,jt.th s t⟩
theorem cZ.th(s:Th F F'):∀{ks:List (List Int×A')} {xs:List nV},cZ K F ks xs->cZ K F' ks xs
 |[],_,h=>h|(_,_)::_,_,⟨b,v,r,e,t,q,z⟩=>⟨b,v,r,e,s.tup t,aR.th s q,cZ.th s z⟩
end
open Classical in
structure Bent(F0 H0 F:Hp)(p C dx:Addr)(fs:List (Str×V))(bk bf be:Addr)(H:Hp):Prop where
 st:C6 F0 H0 F H
 ob:H p=some (.ins C dx fs)
 k:∃y,H bk=some (.lst y)
 f:∃y,H bf=some (.lst y)
 e:∃y,H be=some (.lst y)/\y.length<sizeLine
 nk:F bk=none/\H0 bk=none
 nf:F bf=none/\H0 bf=none
 ne:F be=none/\H0 be=none
section
variable{p dx:i_}{fs:List (p_×V)}{bk bf be:i_}
theorem Bent.same(b:Bent F0 H0 F p C dx fs bk bf be H)(s:aF H H'):Bent F0 H0 F p C dx fs bk bf be H':=
 ⟨b.st.trans (C6.same b.st.fh s),s _ _ b.ob,b.k.imp λ_ h=>s _ _ h,b.f.imp λ_ h=>s _ _ h,b.e.imp λ_ h=>⟨s _ _ h.1,h.2⟩,b.nk,b.nf,b.ne⟩
end
def spX1(C:i_)(f1:p_):Sp:=λvs H Q _=>∃a v1,vs=[.ref a,v1]/\H a=a_ (XO a C c_)/\∀d,H d=c_->d≠a->Q .non (upd (upd H d (XD d [(f1,v1)])) a (XO a C (a_ d)))
section
variable{k:Nat}{f1:p_}{v1:V} 
theorem new_x1(FB:JZ B newId initId bmB)(D:pe X.K C bmB newId f=d_)(y:L0 X.K (.ref f)=a_ (.type "function"))(F:iL X.prog X.w X.K X.mg X.base CX0 k f fd ps (spX1 C f1))(t:iJ (k+1) X.A)(A:Binds X.K fd ps [])(I:C' X B' σ H s)(r:Hn [v1] us):D_ (FE X.prog X.w) X.A (Ja (.ref C) us) (λv s'=>∃a d,v=.ref a/\s.heap.objs.size<=a/\H a=c_/\H d=c_/\d≠a/\C' X B' σ (upd (upd H d (XD d [(f1,v1)])) a (XO a C (a_ d))) s') X.xe s:=by
 obtain⟨tl,N,nm,O,bs,hdct,sn,sub,ab,col,dd,k0,k1,k2,k3,k5,mN,l,j,i,h⟩:=vm I.kIn D;obtain⟨oI,p,o⟩:=fn_at I.kIn y;obtain⟨hh,gg,K,tk,os⟩:=s;have P:=FO;have x:us.length<=f_:=by rw[<- r.length];show 1<=f_;omega
 refine x_call FB h l j i p o x ?_;have m:(ui hh C us).get? (hh.objs.size+1)=a_ (CO C hh.objs.size):=vO;have J:C' X B' σ (upd H (hh.objs.size+1) (XO (hh.objs.size+1) C c_)) {(⟨hh,gg,K,tk,os⟩:y_)with heap:=ui hh C us,toks:=tk}:=
  I.laid (λb u q=>qi q) (Gk _) (xo_ok (vs:=#[.ref hh.objs.size,.none,.none,.none,.bool b_,.none]) rfl m)
 have fa:H (hh.objs.size+1)=c_:=I.hok.fresh (Gk _);have w:Hn [V.ref (hh.objs.size+1),v1] (FF (hh.objs.size+1)::us++[]):=by rw[HF];exact .cons rfl r
 have q:spX1 C f1 [V.ref (hh.objs.size+1),v1] (upd H (hh.objs.size+1) (XO (hh.objs.size+1) C c_)) (λv H2=>v=.non/\∃d,H d=c_/\d≠hh.objs.size+1/\H2=upd (upd H d (XD d [(f1,v1)])) (hh.objs.size+1) (XO (hh.objs.size+1) C (a_ d))) (λ_ _ _=>False):=
  ⟨_,v1,rfl,ao,λd hd c=>⟨rfl,d,by rw[aq c]at hd;exact hd,c,upd_low⟩⟩
 have n:(FF (hh.objs.size+1)::us++[]).length=ps.length:=w.length.symm.trans (F.len _ _ _ _ q);refine JV (HK (F.run _ X.stack _ _ ⟨.ref (hh.objs.size+1)::us,[]⟩ _ _ _ (λ_ _ _=>False) (t.make C us []) (J.env0.make C us []) (A _ (.ref (hh.objs.size+1)::us) J.kIn n) w q) λz s' Y=>?_);cases z with
 |error e=>exact(show False from Y).elim|ok fl=>
  cases fl with
  |ret u=>obtain⟨v,H',L,g,G,d,h1,h2,E⟩:=J.after Y;subst G E;exact⟨g,_,d,rfl,Gk _,fa,h1,h2,L⟩
  |_=>exact GA Y
end
def yC(t:TA)(C:i_)(f1:p_)(E:XK):TS:=λ_ σ H=>t σ H λvs H1=>∃v1,vs=[v1]/\∀d,H1 d=c_->E (.ref C) (a_ d) (upd H1 d (.xd [(f1,v1)]))
section
variable{t:TA}{k:Nat}{f1:p_} 
theorem wO(FB:JZ B newId initId bmB)(Q:XEq2 X E C)(G:pe X.K C bmB newId f=d_)(Z:L0 X.K (.ref f)=a_ (.type "function"))(U:H_ X.K (.ref C)=d_)(F:iL X.prog X.w X.K X.mg X.base CX0 k f fd ps (spX1 C f1))(y:iJ (k+1) X.A)(c:Binds X.K fd ps [])(S:X.mg x=a_ (.ref C))(ha:PA X [e1] t)(W: ~~~(Gl X x))(p:((x==("__debug__":p_))=b_)⁻¹)(m: ~~~(h_ [e1] X.env=[(b_,FR e1 X.env)])):
  PS X (.Raise (a_ (.Call (.Name x np) [e1] [] cpos)) c_ pos) (yC t C f1 E):=by
 intro B' s σ H D I h;obtain⟨tl,N,nm,K,bs,hdct,sn,sub,ab,col,dd,k0,k1,k2,k3,k5,mN,O,o2,o3,L⟩:=vm I.mod.kin G;rw[arm_exec_Raise];refine k_ (Jf (yy (C:=C) (nm:=nm) (q:=K) (N:=N) (bs:=bs) (tl:=tl) (hdct:=hdct) (sn:=sn) (sub:=sub) (ab:=ab) (col:=col) (dd:=dd) (k0:=k0) (k1:=k1) (k2:=k2) (k3:=k3) (k5:=k5) (newId:=newId) (L.hasType FB.hasBase) y.hd (k_ (HH ?_ λv w Y=>k_ (Jf (B_ Y))))));refine Hg (jF I W S (KL (h₀:=X.base) I.ok.mod.kin U (HH (ha cpos B' s σ H _ I h) λus s1 n=>?_) m rfl) p);obtain⟨vs,H1,u,r,i⟩:=n;refine⟨u.kIn,?_⟩
 obtain⟨v1,rfl,i⟩:=i;refine HH (new_x1 FB G Z F y c u r) λv g n=>?_;obtain⟨a,d,ev,R,fa,fd',j,J⟩:=n;subst ev;obtain⟨vs,w1,A⟩:=xo_get (J.hok a _ ao);have e:upd (upd H1 d (XD d [(f1,v1)])) a (XO a C (a_ d)) d=a_ (XD d [(f1,v1)]):=by rw[aq j];exact ao
 have J2:C' X B' σ (upd H1 d (.xd [(f1,v1)])) {g with heap:=g.heap,toks:=g.toks}:=by
  refine J.turn (λb=>b=a\/b=d) (λb o _ q=>q) (λb l=>?_) (λb c=>?_) (λb o _ q=>⟨o,q⟩) λb o c q=>?_
  ·rw[aq λz=>l (.inr z),aq λz=>l (.inl z),aq λz=>l (.inr z)]
  ·rcases c with rfl|rfl
   ·exact .inl ⟨_,ao⟩
   ·exact .inl ⟨_,e⟩
  ·rcases c with rfl|rfl
   ·rw[aq (FZ j),fa]at q;cases q
   ·rw[ao]at q;cases q;obtain⟨mA,P,n2,_⟩:=xd_get (J.hok _ _ e);exact⟨mA,P,n2⟩
 refine⟨a,_,rfl,J.bk _ _ O,A,rfl,⟨vs,rfl,w1⟩,Q B' σ _ g a d J2 ⟨⟨_,vs,A,rfl,rfl,rfl,w1⟩,λT hT=>nomatch hT⟩ (get_none (Gb u.sz R)) (by rw[aq (FZ j)];exact fa) (i d fd')⟩
end
noncomputable def xRes1(C:i_)(f1:p_):List A'->M H9
 |[a]=>.error (.exc C [(f1,a)])|_=>.error .stuck
noncomputable def Bt(C:i_)(f1:p_)(fr:ah->M (List A')):ah->M H9:=λρ=>(fr ρ).bind (xRes1 C f1)
@[simp] theorem e_sExc1(C:i_)(f1:p_)(fr:ah->M (List A'))(ρ:ah):Bt C f1 fr ρ=(fr ρ).bind (xRes1 C f1):=id rfl
@[simp] theorem e_xRes1(C:i_)(f1:p_)(a:A'):xRes1 C f1 [a]=.error (.exc C [(f1,a)]):=id rfl
section
variable{fr:ah->M (List A')}{k:Nat}{f1:p_} 
theorem EO(FB:JZ B newId initId bmB)(j:XEq2 X E C)(y:pe X.K C bmB newId f=d_)(t:L0 X.K (.ref f)=a_ (.type "function"))(o:H_ X.K (.ref C)=d_)(F:iL X.prog X.w X.K X.mg X.base CX0 k f fd ps (spX1 C f1))(l:iJ (k+1) X.A)(v:Binds X.K fd ps [])(n:X.mg x=a_ (.ref C))(w:DA K (WE K E) X [e1] fr)(s: ~~~(Gl X x))(b:((x==("__debug__":p_))=b_)⁻¹)(Y: ~~~(h_ [e1] X.env=[(b_,FR e1 X.env)])):
  DS K (WE K E) ro X OL O O' (.Raise (a_ (.Call (.Name x np) [e1] [] cpos)) c_ pos) (Bt C f1 fr):=λF0 H0=>PS.imp (wO FB j y t o F l v n w s b Y) λD σ H ⟨A,F,ρ,r,p⟩=>by
 have h:=r.freeze (O2:=[]) (by simp);refine qp r.tu r.lV (λe u=>p.sO h.st (by unfold Bt;rw[u];rfl)) λds hd vs F1 H1 g q=>?_;have z:Bt C f1 fr ρ=xRes1 C f1 ds:=by unfold Bt;rw[hd];rfl
 rw[z]at p;rcases ds with _|⟨a,_|⟨_,_⟩⟩
 ·exact((WE K E).ns p).elim
 rotate_left
 ·exact((WE K E).ns p).elim
 ·obtain⟨w1,J,rfl,i,m⟩:=q;cases(show J=[]from m);refine⟨w1,rfl,λd c=>?_⟩
  have st:=h.st.trans g;have I:C6 F1 H1 (upd F1 d (.xd [(f1,w1)])) (upd H1 d (.xd [(f1,w1)])):=C6.lay g.fh c;exact p _ _ (st.trans I) d _ ao ⟨w1,[],rfl,aR.mono I.ff i,rfl⟩
end
def o7(CN:i_)(f1:p_)(mr:List A'->List A'->M (Bool×List A'))(mw:List A'->M A'):Nat->List A'->List A'->M (List A')
 |_,[],ds=>.ok ds|k,I::rows,ds=>(noX (mw [I])).bind λw=>match w with
  |.lst ws=>(noX (mr ds ws)).bind λr=>if r.1=d_ then o7 CN f1 mr mw (k+1) rows r.2 else .error (.exc CN [(f1,.int (k:Nat))])
  |_=>stk
def qC(C CN:i_)(f1:p_)(mr:List A'->List A'->M (Bool×List A'))(mw:List A'->M A')(di ni ri:Nat)(fs:ah->M A')(g:ah->M H9):ah->M H9:=λρ=>if (q_ (di<ρ.length)&&q_ (ni<ρ.length)&&q_ (ri<ρ.length))=d_ then(noX (fs (ρ.set di c_))).bind λd=>match d with
 |.lst rows=>(o7 CN f1 mr mw 1 rows ds0).bind λds=>g ((((ρ.set di c_).set ni c_).set ri c_).set di (a_ (drD C ds)))|_=>stk
 else stk
section
variable{f1:p_}{D:Ends}{fs:ah->M A'}{gg:ah->M H9} 
theorem Dt(L:di≠ni)(B:di≠ri)(hnr:ni≠ri)(t:tS K (WE K E) b_ F0 H0 OL [] O' (qC C CN f1 mr mw di ni ri fs gg) D σ H):
  cR (oK (tMake C (spID C) [] E1 dS) (bU di)) (cR (tFor (Es K (tD K J3 b_ fs)) (gTup K 2 (lh (bU ni) (lh (bU ri) gNil)))
   (lM (tNot (tTr K (hZ (uv K C mr) [] E2 (aM (bG di) (aM (hZ (spF K b_ mw 1) [] E3 (aM (bG ri) dS)) dS))))) (yC (aM (bG ni) dS) CN f1 E) eY)) (tS K (WE K E) b_ F0 H0 OL [] O' gg)) D σ H:=by
 obtain⟨FB,F,ρ,r,q⟩:=t;unfold qC at q;split at q
 rotate_left
 ·exact q.stuck rfl
 rename_i hc;simp only[o_,FT]at hc;obtain⟨⟨hd,hn⟩,hr⟩:=hc;have rE:=r.repE;have ls:=rE.len;intro p dx O hdx hne;refine⟨p,dx,rfl,ao,λk g b n f c H1 kp U nd ak ag ab an af ac ap=>⟨rfl,?_⟩⟩
 have old:∀{m:i_},upd (upd H dx (.own p)) p (.ins C dx []) m=c_->H m=c_:=λ{m} h=>by
  cases Y:H m with
  |none=>rfl|some o=>
   have h1:m≠p:=λz=>by rw[z,O]at Y;cases Y
   have h2:m≠dx:=λz=>by rw[z,hdx]at Y;cases Y
   rw[aq h1,aq h2,Y]at h;cases h
 have s1:aF H H1:=λm o e=>by
  have h1:m≠p:=λz=>by rw[z,O]at e;cases e
  have h2:m≠dx:=λz=>by rw[z,hdx]at e;cases e
  exact kp m o (by rw[aq h1,aq h2];exact e) h1
 have S1:C6 F H F H1:=C6.same r.st.fh s1;have N:∀x∈p::[k,g,b,n,f,c],H x=c_:=λx N=>(x_.mp N).elim (λz=>by rw[z];exact O) λz=>old (U x z);have h0:∀x∈p::[k,g,b,n,f,c],H0 x=c_:=λx h=>r.st.hh.free (N x h);have cell:∀(j:Nat) (x:i_) (d:A'),[k,g,b,n,f,c][j]?=a_ x->ds0[j]?=a_ d->isO d=d_/\mJ K F (λ_=>c_) H1 d (.ref x):=λj x d e1 e2=>by
  have fx:F x=c_:=r.st.fh.free (N x (FH _ (Gr e1)))
  rcases j with _|_|_|_|_|_|j
  ·cases e1;cases e2;exact⟨rfl,_,[],rfl,ak,fx,rfl,rfl⟩
  ·cases e1;cases e2;exact⟨rfl,_,[],rfl,⟨0,ag⟩,fx,rfl,rfl⟩
  ·cases e1;cases e2;exact⟨rfl,_,[],rfl,⟨0,ab⟩,fx,rfl,rfl⟩
  ·cases e1;cases e2;exact⟨rfl,_,[],rfl,an,fx,rfl,rfl⟩
  ·cases e1;cases e2;exact⟨rfl,_,[],rfl,af,fx,rfl,rfl⟩
  ·cases e1;cases e2;exact⟨rfl,_,[],rfl,ac,fx,rfl,rfl⟩
  ·simp at e1
 have d1:Dr K C F H1 p dx [k,g,b,n,f,c] ds0:=⟨⟨S1.fh,nd,rfl,cell⟩,ap,r.st.fh.free O,λz=>by have:=U p z;rw[ao]at this;cases this⟩
 have hs1:(σ.set di (a_ (.ref p)))[di]?=a_ (a_ (.ref p)):=u_ (by rw[<- ls];exact hd);refine aO (rE.hide di (a_ (.ref p))) S1.fh (λe he=>by rw[he]at q;exact q.stuck rfl) λdl hdl v F2 H2 S q2=>?_;rw[hdl]at q;simp only[noX_ok,aj]at q;cases dl with
 |lst rows=>
  dsimp only at q;obtain⟨a,ys,rfl,sq,qs⟩:=(show aR K F2 (.lst rows) v from q2)
  refine⟨a,rfl,⟨ys,S.fh.lst sq⟩,?_⟩
  have W1:=(r.st.trans S1).trans S;refine⟨λi m σ' H'=>m+i=rows.length/\σ'.length=σ.length/\(∀j,j≠ni->j≠ri->σ'[j]?=(σ.set di (a_ (.ref p)))[j]?)/\∃F' ds',aF F2 F'/\C6 F0 H0 F' H'/\Dr K C F' H' p dx [k,g,b,n,f,c] ds'/\gR K (WE K E) b_ F0 H0 FB OL O' D ((o7 CN f1 mr mw (i+1) (rows.drop i) ds').bind λds=>gg ((((ρ.set di c_).set ni c_).set ri c_).set di (a_ (drD C ds)))),
   ⟨rows.length,rfl,Cb,λ_ _ _=>rfl,F2,ds0,aF.refl _,W1,d1.step S,q⟩,λi m σ' H' hp=>?_⟩
  obtain⟨e1,e2,e3,F',ds',Q,st,d,I⟩:=hp
  have s:SqL K H' a ys:=st.fh.lst (Q.lst sq);by_cases Y:m=0
  ·refine .inl ⟨⟨ys,s,by rw[qs.length];omega⟩,?_⟩;rw[LR (by omega)]at I;have q:gR K (WE K E) b_ F0 H0 FB OL O' D (gg ((((ρ.set di c_).set ni c_).set ri c_).set di (a_ (drD C ds')))):=I;obtain⟨G,sG,fG,qG⟩:=d.frz rfl st h0;refine⟨FB,G,_,Rep.ofE (F:=G) ?_ sG (r.fb.trans ((S1.ff.trans S.ff).trans (Q.trans fG))),q⟩
   have a1:=(rE.mono ((S1.ff.trans S.ff).trans (Q.trans fG))).hide di (a_ (.ref p));have a2:cP K G σ' (((ρ.set di c_).set ni c_).set ri c_):=⟨by rw[Cb,Cb,Cb,e2,ls],λj d' h=>by
    have hj1:ri≠j:=λz=>by rw[z,LG]at h;cases hh:((ρ.set di c_).set ni c_)[j]?<;>rw[hh]at h<;>cases h
    rw[n_ hj1]at h;have hj2:ni≠j:=λz=>by rw[z,LG]at h;cases hh:(ρ.set di c_)[j]?<;>rw[hh]at h<;>cases h
    rw[n_ hj2]at h;obtain⟨v,h1,h2⟩:=a1.sl j d' h;exact⟨v,by rw[e3 j (FZ hj2) (FZ hj1)];exact h1,h2⟩⟩
   exact a2.tell (v:=.ref p) (by rw[e3 di L B];exact hs1) qG
  ·have hi:i<rows.length:=by omega
   have A:i<ys.length:=by rw[qs.length];exact hi
   refine .inr ⟨⟨ys,ys[i],s,by simp[A]⟩,_,λσ2 H2 z=>⟨m-1,by omega,z⟩,λx H3 O=>?_⟩;obtain⟨T,y,hT,ex,eH,hy⟩:=O;subst ex eH;have ey:=hy ys s;rw[Ge A]at ey;cases ey;obtain⟨y',hy',qy⟩:=qs.get (i:=i) (d:=rows[i]) (by simp[hi]);rw[Ge A]at hy';cases hy';have sT:C6 F' H' F' (upd H' T (.tup [.int (i+1:Nat),ys[i]])):=C6.grow st.fh hT;have dT:=d.step sT;rw[G8 hi]at I;cases ew:mw [rows[i]]with
   |error e=>exact I.stuck (by rw[o7,ew];rfl)|ok w=>
   refine⟨T,_,rfl,SqT.of ao,rfl,_,_,rfl,_,_,rfl,rfl,?_⟩
   have Z:((σ'.set ni (a_ (.int (i+1:Nat)))).set ri (a_ ys[i]))[di]?=a_ (a_ (.ref p)):=by rw[n_ (FZ B),n_ (FZ L),e3 di L B];exact hs1
   have W:((σ'.set ni (a_ (.int (i+1:Nat)))).set ri (a_ ys[i]))[ri]?=a_ (a_ ys[i]):=u_ (by rw[Cb,e2,<- ls];exact hr);refine⟨.ref p,Z,ys[i],W,F',[rows[i]],sT.fh,⟨_,_,rfl,qy.mono Q,rfl⟩,rfl,?_⟩
   rw[ew];intro w' F4 H4 s4 q4;cases w with
   |lst ws=>
    cases er:mr ds' ws with
    |error e=>exact I.stuck (by rw[o7,ew];show((noX (mr ds' ws)).bind _).bind _=_;rw[er];rfl)|ok J=>
    have I:gR K (WE K E) b_ F0 H0 FB OL O' D ((if J.1=d_ then o7 CN f1 mr mw (i+1+1) (rows.drop (i+1)) J.2 else .error (.exc CN [(f1,.int (i+1:Nat))])).bind λds=>gg ((((ρ.set di c_).set ni c_).set ri c_).set di (a_ (drD C ds)))):=by
     have e:o7 CN f1 mr mw (i+1) (rows[i]::rows.drop (i+1)) ds'=if J.1=d_ then o7 CN f1 mr mw (i+1+1) (rows.drop (i+1)) J.2 else .error (.exc CN [(f1,.int (i+1:Nat))]):=by rw[o7,ew];show(noX (mr ds' ws)).bind _=_;rw[er];rfl
     rw[<- e];exact I
    have d4:=dT.step s4;unfold dS;dsimp only[];show uv K C mr [V.ref p,w'] H4 _ E2;refine⟨p,dx,_,F4,ds',ws,w',J,rfl,d4,q4,er,λF5 H5 R d5=>⟨J.1,rfl,?_⟩⟩
    have l:C6 F0 H0 F5 H5:=by have z:=(st.trans sT).trans s4;exact⟨z.ff.trans R.ff,λP o h=>R.hh P o (λY=>by rw[h0 P (FH _ Y)]at h;cases h) (z.hh P o h),R.fh,λP o h=>(R.nw P o h).elim (λu=>z.nw P o u) λu=>.inr (z.hh.free u)⟩
    cases hb:J.1 with
    |true=>rw[hb,g_ rfl]at I;exact⟨by omega,by rw[Cb,Cb];exact e2,λj h1 h2=>by rw[n_ (FZ h2),n_ (FZ h1)];exact e3 j h1 h2,F5,J.2,(Q.trans s4.ff).trans R.ff,l,d5,I⟩|false=>
     rw[hb,l_ (by decide)]at I;have X:((σ'.set ni (a_ (.int (i+1:Nat)))).set ri (a_ ys[i]))[ni]?=a_ (a_ (.int (i+1:Nat))):=by rw[n_ (FZ hnr)];exact u_ (by rw[e2,<- ls];exact hn)
     refine⟨_,X,_,rfl,λx N=>?_⟩
     have s6:C6 F5 H5 (upd F5 x (.xd [(f1,.int (i+1:Nat))])) (upd H5 x (.xd [(f1,.int (i+1:Nat))])):=C6.lay l.fh N;have I:(WE K E).p (.exc CN [(f1,.int (i+1:Nat))]) F0 H0:=I;exact I _ _ (l.trans s6) x _ ao ⟨_,[],rfl,rfl,rfl⟩
   |_=>exact I.stuck (by rw[o7,ew];rfl)
 |_=>exact q.stuck rfl
end
theorem ER{J I:GK}{f1:p_}{fs:ah->M A'}{g:ah->M H9}(p1:PS X J (oK (tMake C (spID C) [] E1 dS) (bU di)))(p2:PS X I (tFor (Es K (tD K J3 b_ fs)) (gTup K 2 (lh (bU ni) (lh (bU ri) gNil))) (lM (tNot (tTr K (hZ (uv K C mr) [] E2 (aM (bG di) (aM (hZ (spF K b_ mw 1) [] E3 (aM (bG ri) dS)) dS))))) (yC (aM (bG ni) dS) CN f1 E) eY)))(h:DSs K (WE K E) b_ X OL [] O' sts g)(b:(di≠ni)⁻¹)(a:(di≠ri)⁻¹)(Y:(ni≠ri)⁻¹):DSs K (WE K E) b_ X OL [] O' (J::I::sts) (qC C CN f1 mr mw di ni ri fs g):=λF0 H0=>PSs.imp (ax p1 (ax p2 (h F0 H0))) λ_ _ _=>Dt b a Y
noncomputable def strI(prog:GH)(w:GV):IK prog w p_ where
 is:=λ_ k v=>∃t,v=.str k t
 hash:=hashStr w
 draws:=λ_=>1
 up:=0
 fuel:=0
 inj:=λ⟨t,e⟩ ⟨u,f⟩=>by rw[e]at f;cases f;rfl
 keeps:=λh _=>h
 pyHash:=λ_ ⟨t,e⟩ h=>by subst e;exact Oa h
 eqBool:=λ_ ⟨t,e⟩ ⟨u,f⟩ h=>by subst e f;exact Od h
 quiet:=λn _ ⟨t,e⟩ h=>by subst e;rw[eqIsQuiet_byValue n rfl];exact B_ h
noncomputable def sZ(i j:Nat)(f1:p_)(b1 b2 b3:Bool):List (p_×A')->ah->M ah:=λfs ρ=>match fs.lookup f1 with
 |some (.int k)=>.ok ((ρ.set j (a_ (.lst [.non,.int k,.bl b1,.bl b2,.bl b3]))).set i c_)|_=>.error .stuck
@[simp] theorem e_xToldN(i j:Nat)(f1:p_)(b1 b2 b3:Bool)(k:Int)(fs:List (p_×A'))(ρ:ah):sZ i j f1 b1 b2 b3 ((f1,.int k)::fs) ρ=.ok ((ρ.set j (a_ (.lst [.non,.int k,.bl b1,.bl b2,.bl b3]))).set i c_):=by unfold sZ;rw[z_,MS]
def D3(K:Pn)(i j:Nat)(f1:p_)(b1 b2 b3:Bool)(ys:List i_)(a d:i_):TS:=
 cR (oK (Af (aM (tC .non) (aM (tFldX i a d f1) (aM (tIsiR i a (XDk d) b1) (aM (tIsiR i a (XDk d) b2) dS))))) (bU j)) (lN (tBM K "list" jc (bG j) (aM (tIsiTR i a (XDk d) ys b3) dS)))
def tsToldN(K:Pn)(i j:Nat)(f1:p_)(b1 b2 b3:Bool)(ys:List i_)(a:i_):Option i_->TS
 |none=>tNever|some d=>D3 K i j f1 b1 b2 b3 ys a d
section
variable{D:Ends}{j:Nat}{d:i_}{gs:List (p_×V)}{fs:List (p_×A')}{f1:p_}{ys:List i_}
theorem rs_toldN(r:Rep K F0 H0 FB O F H σ ρ)(hd:F d=a_ (.xd gs))(s:jt K F fs gs)(e:i≠j)(hi:i<σ.length)(m:j<σ.length)(h:i∉O)(g:j∉O)(q:gR K J3 ro F0 H0 FB OL O D ((sZ i j f1 b1 b2 b3 fs ρ).bind λρ'=>.ok (.nx ρ'))):
  D3 K i j f1 b1 b2 b3 ys a d (D.less i) (σ.set i (a_ (.ref a))) H:=by
 have t:=FO;have Y:H d=a_ (.xd gs):=r.st.fh d _ hd;have e1:(σ.set i (a_ (.ref a)))[i]?=a_ (a_ (.ref a)):=by rw[u_ hi]
 unfold sZ at q;cases J:fs.lookup f1 with
 |none=>rw[J]at q;exact(J3.ns q).elim|some b=>
 rw[J]at q;cases b with
 |int k=>
  obtain⟨v,o,n⟩:=s.at.1 _ J;cases(show v=V.int k from n);refine⟨e1,gs,.int k,Y,o,e1,⟨gs,Y⟩,e1,⟨gs,Y⟩,by show 4<=f_;omega,λl J=>?_⟩
  have e2:((σ.set i (a_ (.ref a))).set j (a_ (.ref l)))[j]?=a_ (a_ (.ref l)):=by rw[u_ (by rw[Cb];exact m)]
  have e3:((σ.set i (a_ (.ref a))).set j (a_ (.ref l)))[i]?=a_ (a_ (.ref a)):=by rw[n_ (FZ e)];exact e1
  refine⟨.ref l,e2,gF ao,e3,λp f=>?_⟩
  have I:l≠p:=λz=>by subst z;rw[ao]at f;cases f
  have c:H p=c_:=by rw[aq (FZ I)]at f;exact f
  refine⟨⟨gs,by rw[aq (aN Y c),aq (aN Y J)];exact Y⟩,l,[.non,.int k,.bl b1,.bl b2],.bl b3,rfl,rfl,by rw[aq I];exact ao,by show 4<f_;omega,?_⟩
  exact q _ _ _ (r.toldG e hi m h g (step_app (xs:=[.non,.int k,.bl b1,.bl b2]) r.st.fh J c (FZ I)) (r.st.fh.free J) ⟨_,_,rfl,rfl,_,_,rfl,rfl,_,_,rfl,rfl,_,_,rfl,rfl,_,_,rfl,rfl,rfl⟩)
 |_=>exact(J3.ns q).elim
end
section
variable{c n to:p_}{j:Nat}{fb:ah->M H9}{f1:p_}{ys:List i_}
theorem ds_toldN(u:∀(B':Vp) (σ:St) (E:XK) (h:Mq),l7 (CXd X.prog X.w) (X.vR h) B' σ E->DSat K E ro (X.vR h) OL [] O B' σ body fb)(Z:XTry X.K X.mg c C)(v:X.N.Nodup)(m:∀(a d:i_) (oe:JJ),oe.cls=.ref C->(∃vs,oe.data=.fields vs)->oe.dict=a_ d->PSs (X.hand a oe) (b₀::suite) (D3 K i j f1 b1 b2 b3 ys a d))(Y:(i≠j)⁻¹)(b:(i∉O)⁻¹)(J:(j∉O)⁻¹)(hi: ~~~(X.N[i]?=a_ n))(q: ~~~(X.N[j]?=a_ to))(o: ~~~(X.env.scope.names.lookup n=a_ .local))(s: ~~~(Gl X c))(f: ~~~(X.ex=[]))(I: ~~~(X.stack=X.env::X.outer))(e: ~~~(X.env.frame=a_ X.env.locals))(g:((c==("__debug__":p_))=b_)⁻¹):
  DS K J3 ro X OL O O (.Try body [.ExceptHandler (a_ (.Name c np)) (a_ n) (b₀::suite) hpos] [] [] pos) (qB O C fb (sZ i j f1 b1 b2 b3)):=by
 refine ds_tryF (ts:=λa dx=>tsToldN K i j f1 b1 b2 b3 ys a dx) u (λa oe t hd=>?_) (λF0 H0 D σ a d gs fs FB F H ρ k r h1 h2 p=>rs_toldN r h1 h2 Y ?_ ?_ b J p) Z.nm (by decide +kernel) Z.mg v hi o s f I e g
 ·cases l:oe.dict with
  |none=>exact wN|some d=>exact m a d oe t hd l
 ·rw[k];exact(w_.mp hi).1
 ·rw[k];exact(w_.mp q).1
end
noncomputable abbrev PKs:=List ((p_×p_)×Int)
noncomputable def pE(k:p_×p_):List Key:=[.inr k.1,.inr k.2]
theorem qY{a b:p_×p_}:pE a=pE b↔a=b:=by
 obtain⟨a1,I⟩:=a;obtain⟨b1,b2⟩:=b;constructor
 ·intro h;simp only[pE,Jy,Sum.inr.injEq,and_true]at h;rw[h.1,h.2]
 ·intro h;rw[h]
def pkV(ks:PKs):List (List Key×V):=ks.map λp=>(pE p.1,.int p.2)
noncomputable def yu(ks:PKs)(k:p_×p_):Option Int:=(ks.find? λp=>q_ (p.1=k)).map (·.2)
def qI(ks:PKs)(k:p_×p_)(v:Int):PKs:=if (yu ks k).isSome=d_ then ks.map (λp=>if p.1=k then(p.1,v)else p)else ks++[(k,v)]
theorem za(k:p_×p_):∀ks:PKs,vK (pkV ks) (pE k)=(yu ks k).map V.int
 |[]=>rfl|p::ks=>by
  have I:=za k ks;unfold vK pkV yu at I ⊢;by_cases e:p.1=k
  ·simp only[C_,GN,qY,e,decide_true,JG]
  ·simp only[C_,GN,qY,e,Mp];exact I
theorem DK(ks:PKs)(k:p_×p_)(v:Int):putK (pkV ks) (pE k) (.int v)=pkV (qI ks k v):=by
 unfold putK qI;rw[pK,za];by_cases h:(yu ks k).isSome=d_
 ·rw[g_ (by rw[IF];exact h),g_ h];unfold pkV;rw[FL,FL];refine Hs λp _=>?_;simp only[LJ,qY];by_cases e:p.1=k
  ·rw[g_ e,g_ e]
  ·rw[l_ e,l_ e]
 ·rw[l_ (by rw[IF];exact h),l_ h];unfold pkV;rw[FY];rfl
theorem DL(ks:PKs):(pkV ks).length=ks.length:=t_ ..
structure Jst where
 dk:List A'
 dn:List A'
 df:List A'
 dc:List A'
 g:PKs
 b:PKs
variable{m1:Jst->List A'->M (Bool×Jst)}
noncomputable def Jst.ds(s:Jst):List A':=[.lst s.dk,.lst s.dn,.lst s.df,.lst s.dc]
structure Jad where
 p:i_
 T:i_
 g:i_
 b:i_
 k:i_
 n:i_
 f:i_
 c:i_
noncomputable def Jad.xs(a:Jad):List i_:=[a.k,a.n,a.f,a.c]
def Jad.ys(a:Jad):List i_:=a.g::a.b::a.xs
noncomputable def tabs(a:Jad):List (Key×V):=[(.inr "gap",.ref a.g),(.inr "beside",.ref a.b)]
structure Lj(K:Pn)(F H:Hp)(a:Jad)(s:Jst):Prop where
 c:Cells K F H a.xs s.ds
 tp:H a.p=a_ (.tup [.ref a.k,.ref a.T,.ref a.n,.ref a.f,.ref a.c])
 ot:H a.T=a_ (.dK (tabs a))
 og:H a.g=a_ (.dT (pkV s.g))
 ob:H a.b=a_ (.dT (pkV s.b))
 fg:F a.g=c_
 fb:F a.b=c_
 ng:a.g≠a.b
 xg:a.g∉a.xs
 xb:a.b∉a.xs
section
variable{a:Jad}{s:Jst} 
theorem Lj.step(L:Lj K F H a s)(t:C6 F H F' H'):Lj K F' H' a s:=
 ⟨L.c.step t,t.hh _ _ L.tp,t.hh _ _ L.ot,t.hh _ _ L.og,t.hh _ _ L.ob,t.stays L.fg L.og,t.stays L.fb L.ob,L.ng,L.xg,L.xb⟩
theorem Lj.ex(L:Lj K F H a s):∀x∈a.ys,∃o,H x=a_ o:=λx I=>by
 rcases x_.mp I with rfl|I
 ·exact⟨_,L.og⟩
 rcases x_.mp I with rfl|I
 ·exact⟨_,L.ob⟩
 ·obtain⟨_,o,h,_⟩:=L.c.at I;exact⟨o,h⟩
def FC(K:Pn)(F H:Hp)(a:Jad)(r:Bool×Jst)(Q:VK):Prop:=∀F' H',mH a.ys F H F' H'->Lj K F' H' a r.2->Q (.bl r.1) H'
theorem FC.step{r:Bool×Jst}(f:FC K F H a r Q)(L:Lj K F H a s)(t:C6 F H F' H'):FC K F' H' a r Q:=λF2 H2 t2 I=>f F2 H2 (t.toC.trans t2 (L.step t).ex) I
theorem FC.same{r:Bool×Jst}{b:Bool}(f:FC K F H a r Q)(L:Lj K F H a s)(e:(.ok (b,s):M (Bool×Jst))=.ok r):Q (.bl b) H:=by cases e;exact f F H ⟨aF.refl _,λ_ _ _ h=>h,L.c.fh,λ_ _ h=>.inl h⟩ L
theorem Cells.upd0{xs:List i_}{ds:List A'}(c:Cells K F H xs ds){x:i_}{u:HO}(J:x∉xs)(Y:F x=c_):Cells K F (upd H x u) xs ds where
 fh:=λb o h=>by
  have:b≠x:=λz=>by rw[z,Y]at h;cases h
  rw[aq this];exact c.fh b o h
 nd:=c.nd
 len:=c.len
 own:=λi y d e1 e2=>by obtain⟨h1,h2⟩:=c.own i y d e1 e2;have I:y≠x:=λz=>J (by rw[<- z];exact Gr e1);obtain⟨_,o,ea,p,_,f,_⟩:=h2.top h1;cases ea;exact⟨h1,h2.re h1 (aF.refl _) f λo h=>by rw[aq I];exact h⟩
theorem Lj.app(L:Lj K F H a s){j:Nat}{x:i_}{es:List A'}{d:A'}{v:V}{s':Jst}(e1:a.xs[j]?=a_ x)(e2:s.ds[j]?=a_ (.lst es))(e:aR K F d v)(e3:s'.ds=s.ds.set j (.lst (es++[d])))(i:s'.g=s.g)(k:s'.b=s.b):
  ∃ys,H x=a_ (.lst ys)/\ys.length=es.length/\Lj K F (upd H x (.lst (ys++[v]))) a s'/\mH a.ys F H F (upd H x (.lst (ys++[v]))):=by
 obtain⟨ys,Y,q⟩:=L.c.lst e1 e2;have g:=Gr e1;have f:∀{y:i_} {o:HO},H y=a_ o->(∀J,o≠.lst J)->y≠x:=λ{y o} h n z=>by rw[z,Y]at h;cases h;exact n _ rfl
 have I:∀{y:i_} {o:HO},H y=a_ o->(∀J,o≠.lst J)->upd H x (.lst (ys++[v])) y=a_ o:=λ{y o} h n=>by rw[aq (f h n)];exact h
 have c:=L.c.app (d:=d) (v:=v) e1 Y q e;rw[<- e3]at c;refine⟨ys,Y,q.length,⟨c,I L.tp (λ_ h=>nomatch h),I L.ot (λ_ h=>nomatch h),by rw[i];exact I L.og (λ_ h=>nomatch h),by rw[k];exact I L.ob (λ_ h=>nomatch h),L.fg,L.fb,L.ng,L.xg,L.xb⟩,?_⟩
 have u:=L.c.updC (.lst (ys++[v])) g;exact⟨u.ff,λb o n h=>u.hh b o (λz=>n (FH _ (FH _ z))) h,u.fh,u.nw⟩
theorem Lj.putg(L:Lj K F H a s)(k:p_×p_)(v:Int):Lj K F (upd H a.g (.dT (putK (pkV s.g) (pE k) (.int v)))) a {s with g:=qI s.g k v}/\mH a.ys F H F (upd H a.g (.dT (putK (pkV s.g) (pE k) (.int v)))):=by
 rw[DK];have I:∀{y:i_} {o:HO},H y=a_ o->y≠a.g->upd H a.g (.dT (pkV (qI s.g k v))) y=a_ o:=λ{y o} h n=>by rw[aq n];exact h
 have Y:a.p≠a.g:=λz=>by have h:=L.tp;rw[z,L.og]at h;cases h
 have n2:a.T≠a.g:=λz=>by have h:=L.ot;rw[z,L.og]at h;cases h
 have J:=L.c.upd0 (u:=.dT (pkV (qI s.g k v))) L.xg L.fg;refine⟨⟨J,I L.tp Y,I L.ot n2,ao,I L.ob (FZ L.ng),L.fg,L.fb,L.ng,L.xg,L.xb⟩,aF.refl _,λb o n h=>I h (λz=>n (by rw[z];exact Gp ..)),J.fh,λ_ _ h=>.inl h⟩
theorem Lj.putb(L:Lj K F H a s)(k:p_×p_)(v:Int):Lj K F (upd H a.b (.dT (putK (pkV s.b) (pE k) (.int v)))) a {s with b:=qI s.b k v}/\mH a.ys F H F (upd H a.b (.dT (putK (pkV s.b) (pE k) (.int v)))):=by
 rw[DK];have I:∀{y:i_} {o:HO},H y=a_ o->y≠a.b->upd H a.b (.dT (pkV (qI s.b k v))) y=a_ o:=λ{y o} h n=>by rw[aq n];exact h
 have Y:a.p≠a.b:=λz=>by have h:=L.tp;rw[z,L.ob]at h;cases h
 have n2:a.T≠a.b:=λz=>by have h:=L.ot;rw[z,L.ob]at h;cases h
 have J:=L.c.upd0 (u:=.dT (pkV (qI s.b k v))) L.xb L.fb;refine⟨⟨J,I L.tp Y,I L.ot n2,I L.og L.ng,ao,L.fg,L.fb,L.ng,L.xg,L.xb⟩,aF.refl _,λb o n h=>I h (λz=>n (by rw[z];exact FH _ (Gp ..))),J.fh,λ_ _ h=>.inl h⟩
end
noncomputable def eJ(s:Jst)(ws:List A')(r:List (Option A')):ah:=[c_,a_ (.lst ws),a_ (.lst s.dk),c_,a_ (.lst s.dn),a_ (.lst s.df),a_ (.lst s.dc)]++r
noncomputable def eW(ws:List A')(r:List (Option A')):ah:=[c_,a_ (.lst ws),c_,c_,c_,c_,c_]++r
noncomputable def sJ(a:Jad)(vw:V)(τ:St):St:=[a_ (.ref a.p),a_ vw,a_ (.ref a.k),a_ (.ref a.T),a_ (.ref a.n),a_ (.ref a.f),a_ (.ref a.c)]++τ
def okJ(n:Nat)(x:Bool×Jst):M (Bool×Jst):=if n<f_ then .ok x else stk
def putJ(s:Jst):A'->A'->A'->A'->M (Bool×Jst)
 |.int v,.str w,.str x,.str y=>if w="gap" then okJ s.g.length (d_,{s with g:=qI s.g (x,y) v})else if w="beside" then okJ s.b.length (d_,{s with b:=qI s.b (x,y) v})else stk
 |_,_,_,_=>stk
def oneD(t1 t2 t3 t4 t5 t6 t7 t8 t9 t10:ah->M Bool)(a1 fg w0 w1 w2 fs fe fc fn a9 fl:ah->M A')(s:Jst)(ws:List A'):M (Bool×Jst):=
 let I:List (Option A'):=[c_,c_,c_,c_]
 (t1 (eJ s ws I)).bind λb=>if b=d_ then(t2 (eJ s ws I)).bind λb=>if b=d_ then .ok (b_,s)else(a1 (eW ws I)).bind λd=>okJ s.dk.length (d_,{s with dk:=s.dk++[d]})else
 (t3 (eJ s ws I)).bind λb=>if b=d_ then(fg (eW ws I)).bind λY=>(t4 (eJ s ws [a_ Y,c_,c_,c_])).bind λb=>if b=d_ then .ok (b_,s)else
  (w0 (eW ws [a_ Y,c_,c_,c_])).bind λx=>(w1 (eW ws [a_ Y,c_,c_,c_])).bind λy=>(w2 (eW ws [a_ Y,c_,c_,c_])).bind λz=>putJ s Y x y z else
 (t5 (eJ s ws I)).bind λb=>if b=d_ then(fs (eW ws I)).bind λa=>(fe (eW ws [c_,a_ a,c_,c_])).bind λc=>(t6 (eJ s ws [c_,a_ a,a_ c,c_])).bind λb=>if b=d_ then .ok (b_,s)else
  (fc (eW ws [c_,a_ a,a_ c,c_])).bind λd=>okJ s.dc.length (d_,{s with dc:=s.dc++[d]})else
 (t7 (eJ s ws I)).bind λb=>if b=d_ then .ok (b_,s)else
 (fn (eW ws I)).bind λdn=>let J:List (Option A'):=[c_,c_,c_,a_ dn]
 (t8 (eJ s ws J)).bind λb=>if b=d_ then .ok (b_,s)else
 (t9 (eJ s ws J)).bind λb=>if b=d_ then .ok (b_,s)else
 (t10 (eJ s ws J)).bind λb=>if b=d_ then .ok (b_,s)else
 (a9 (eW ws J)).bind λnm=>(fl (eJ {s with dn:=s.dn++[nm]} ws J)).bind λd=>if (i7 d&&q_ (s.dn.length<f_))=d_ then okJ s.df.length (d_,{s with dn:=s.dn++[nm],df:=s.df++[d]})else stk
def tSetD(K:Pn)(i:Nat)(f:ah->M A'):TS:=λD σ H=>tD K J3 b_ f σ H λv H'=>D.nx (σ.set i (a_ v)) H'
section
variable{a:Jad}{s:Jst}{τ:St}{r:List (Option A')}{z:Bool×Jst}{D:Ends}
theorem cP.put{d:A'}(q:cP K F σ ρ)(e:σ[i]?=a_ (a_ v))(h:aR K F d v):cP K F σ (ρ.set i (a_ d)):=q.tell e h
theorem Lj.full(L:Lj K F H a s)(q:cP K F (sJ a vw τ) (eW ws r)):cP K (plus F H (·∈a.xs)) (sJ a vw τ) (eJ s ws r):=by have Y:=(q.mono L.c.ff).put (i:=2) (v:=.ref a.k) rfl (L.c.deep (j:=0) rfl rfl);have J:=Y.put (i:=4) (v:=.ref a.n) rfl (L.c.deep (j:=1) rfl rfl);have I:=J.put (i:=5) (v:=.ref a.f) rfl (L.c.deep (j:=2) rfl rfl);exact I.put (i:=6) (v:=.ref a.c) rfl (L.c.deep (j:=3) rfl rfl)
theorem Lj.ask(L:Lj K F H a s)(q:cP K F (sJ a vw τ) (eW ws r)){t:ah->M Bool}{f:Bool->M (Bool×Jst)}(e:(t (eJ s ws r)).bind f=.ok z)(I:FC K F H a z Q){T:TS}(J:∀F1 H1,Lj K F1 H1 a s->cP K F1 (sJ a vw τ) (eW ws r)->FC K F1 H1 a z Q->f d_=.ok z->T D (sJ a vw τ) H1)(g:∀F1 H1,Lj K F1 H1 a s->cP K F1 (sJ a vw τ) (eW ws r)->FC K F1 H1 a z Q->f b_=.ok z->U D (sJ a vw τ) H1):lM (tDT K J3 t) T U D (sJ a vw τ) H:=by
 obtain⟨b,c,e⟩:=bind_eq e;refine eZ (L.full q) L.c.zh (λi h=>by rw[c]at h;cases h) λj Y F1 H1 d=>?_;rw[c]at Y;cases Y;have S:=L.c.back d;cases b with
 |true=>exact J _ H1 (L.step S) (q.mono S.ff) (I.step L S) e|false=>exact g _ H1 (L.step S) (q.mono S.ff) (I.step L S) e
theorem Lj.val(L:Lj K F H a s)(q:cP K F (sJ a vw τ) (eW ws r)){g:ah->M A'}{f:A'->M (Bool×Jst)}(e:(g (eW ws r)).bind f=.ok z)(I:FC K F H a z Q){R:VK}(b:∀d v F1 H1,Lj K F1 H1 a s->cP K F1 (sJ a vw τ) (eW ws r)->FC K F1 H1 a z Q->aR K F1 d v->f d=.ok z->R v H1):tD K J3 b_ g (sJ a vw τ) H R:=by obtain⟨d,J,e⟩:=bind_eq e;refine aO q L.c.fh (λc h=>by rw[J]at h;cases h) λd' hd v F1 H1 S Y=>?_;rw[J]at hd;cases hd;exact b d v F1 H1 (L.step S) (q.mono S.ff) (I.step L S) Y e
theorem putJ_ok{J I:A'}(e:putJ s d1 d2 J I=.ok z):∃(v:Int) (w x y:p_),d1=.int v/\d2=.str w/\J=.str x/\I=.str y/\((w="gap"/\okJ s.g.length (d_,{s with g:=qI s.g (x,y) v})=.ok z)\/(w="beside"/\okJ s.b.length (d_,{s with b:=qI s.b (x,y) v})=.ok z)):=by
 unfold putJ at e;split at e
 ·rename_i v w x y;refine⟨v,w,x,y,rfl,rfl,rfl,rfl,?_⟩
  split at e
  ·rename_i h;exact .inl ⟨h,e⟩
  ·split at e
   ·rename_i h;exact .inr ⟨h,e⟩
   ·cases e
 ·cases e
theorem xj{x:Bool×Jst}(e:okJ n x=.ok z):n<f_/\z=x:=by
 unfold okJ at e;split at e
 ·cases e;exact⟨by assumption,rfl⟩
 ·cases e
theorem Lj.add(L:Lj K F H a s){j:Nat}{x:i_}{es:List A'}{d:A'}{s':Jst}(I:σ[i]?=a_ (a_ (.ref x)))(e1:a.xs[j]?=a_ x)(e2:s.ds[j]?=a_ (.lst es))(e3:s'.ds=s.ds.set j (.lst (es++[d])))(k:s'.g=s.g)(l:s'.b=s.b)(g:es.length<f_)(f:∀R:VK,(∀v F1 H1,C6 F H F1 H1->aR K F1 d v->R v H1)->te σ H R)(h:∀F1 H1,mH a.ys F H F1 H1->Lj K F1 H1 a s'->U D σ H1):cR (lN (tBM K "list" jc (bG i) (aM te dS))) U D σ H:=by
 obtain⟨Y,J,_⟩:=L.c.lst e1 e2;refine⟨.ref x,I,gF J,f _ λv F1 H1 S b=>?_⟩
 obtain⟨ys,e,c,n,m⟩:=(L.step S).app e1 e2 b e3 k l;exact⟨x,ys,v,rfl,rfl,e,by rw[c];exact g,h F1 _ (S.toC.trans m (L.step S).ex) n⟩
theorem Ad{a:Jad}(h:H a.T=a_ (.dK (tabs a))):yq H a.T (.str "gap") (a_ (.ref a.g)):=by
 have:vK (tabs a) (.inr "gap")=a_ (.ref a.g):=by unfold tabs;exact mM rfl
 rw[<- this];exact yq.k (k:=.inr "gap") h
theorem lK{a:Jad}(h:H a.T=a_ (.dK (tabs a))):yq H a.T (.str "beside") (a_ (.ref a.b)):=by
 have:vK (tabs a) (.inr "beside")=a_ (.ref a.b):=by unfold tabs;rw[mO (by show ¬(IM (e_ "gap"):Key)=IM (e_ "beside");decide +kernel)];exact mM rfl
 rw[<- this];exact yq.k (k:=.inr "beside") h
end
def spOne(K:Pn)(m:Jst->List A'->M (Bool×Jst)):Sp:=λvs H Q _=>∃(a:Jad) (F:Hp) (s:Jst) (ws:List A') (vw:V) (r:Bool×Jst),vs=[.ref a.p,vw]/\Lj K F H a s/\aR K F (.lst ws) vw/\m s ws=.ok r/\FC K F H a r Q
theorem len_one{m:Jst->List A'->M (Bool×Jst)}(h:spOne K m vs H Q E):vs.length=2:=by obtain⟨_,_,_,_,_,_,rfl,_⟩:=h;rfl
section
variable{t6 t7 t8 t9 t10:ah->M Bool}{a1 fg w0 w1 w2 fs fn a9 fl:ah->M A'} 
noncomputable def nOne:List p_:=["_law_state","_law_words_here","_law_kinds","_law_tables","_law_names","_law_flights","_law_closed","_law_gap_here","_law_start","_law_stop","_law_numbers"]
abbrev rNo:TS:=sk (tC (.bl b_))
abbrev rYes:TS:=sk (tC (.bl d_))
abbrev tAppJ(K:Pn)(i:Nat)(f:ah->M A'):TS:=lN (tBM K "list" jc (bG i) (aM (tD K J3 b_ f) dS))
theorem rs_one(h:spOne K (oneD t1 t2 t3 t4 t5 t6 t7 t8 t9 t10 a1 fg w0 w1 w2 fs fe fc fn a9 fl) vs H Q E):
  cR (oK (bG 0) (gTup K 5 (lh (bU 2) (lh (bU 3) (lh (bU 4) (lh (bU 5) (lh (bU 6) gNil)))))))
  (cR (lM (tDT K J3 t1) (cR (lM (tDT K J3 t2) rNo eY) (cR (tAppJ K 2 a1) rYes)) eY)
  (cR (lM (tDT K J3 t3) (cR (oK (tD K J3 b_ fg) (bU 7)) (cR (lM (tDT K J3 t4) rNo eY) (cR (sDPut (tDGet (bG 3) (tD K J3 b_ w0)) (tTup (aM (tD K J3 b_ w1) (aM (tD K J3 b_ w2) dS))) (bG 7)) rYes))) eY)
  (cR (lM (tDT K J3 t5) (cR (oK (tD K J3 b_ fs) (bU 8)) (cR (oK (tD K J3 b_ fe) (bU 9)) (cR (lM (tDT K J3 t6) rNo eY) (cR (tAppJ K 6 fc) rYes)))) eY)
  (cR (lM (tDT K J3 t7) rNo eY)
  (cR (tSetD K 10 fn)
  (cR (lM (tDT K J3 t8) rNo eY)
  (cR (lM (tDT K J3 t9) rNo eY)
  (cR (lM (tDT K J3 t10) rNo eY)
  (cR (tAppJ K 4 a9)
  (cR (tAppJ K 5 fl) rYes)))))))))) {nx:=λ_ H'=>Q .non H',rt:=Q} (start nOne vs) H:=by
 obtain⟨a,F,s,ws,vw,z,rfl,L,qw,e,I⟩:=h;refine⟨.ref a.p,rfl,a.p,_,rfl,SqT.of L.tp,rfl,_,_,rfl,_,_,rfl,_,_,rfl,_,_,rfl,_,_,rfl,rfl,?_⟩
 have q:cP K F (sJ a vw [c_,c_,c_,c_]) (eW ws [c_,c_,c_,c_]):=cP.only (σ:=sJ a vw [c_,c_,c_,c_]) (i:=1) rfl qw;show cR _ _ _ (sJ a vw [c_,c_,c_,c_]) H;unfold oneD at e;dsimp only at e;refine L.ask q e I (λF L' L q I e=>?_) (λF H L q I e=>?_)
 ·rw[g_ rfl]at e;refine L.ask q e I (λF H L q I e=>?_) (λF H L q I e=>?_)
  ·rw[g_ rfl]at e;exact I.same L e
  ·rw[l_ (by decide)]at e;obtain⟨d,f,e⟩:=bind_eq e;obtain⟨c,rfl⟩:=xj e;refine L.add (i:=2) (j:=0) (d:=d) rfl rfl rfl (s':={s with dk:=s.dk++[d]}) rfl rfl rfl c (λR l=>aO q L.c.fh (λr h=>by rw[f]at h;cases h) λd' hd v F1 H1 S k=>?_) λF1 H1 S J=>I F1 H1 S J;rw[f]at hd;cases hd;exact l v F1 H1 S k
 rw[l_ (by decide)]at e;refine L.ask q e I (λF H L q I e=>?_) (λF H L q I e=>?_)
 ·rw[g_ rfl]at e;refine L.val q e I λC g F H L q I q7 e=>?_;have q:cP K F (sJ a vw [a_ g,c_,c_,c_]) (eW ws [a_ C,c_,c_,c_]):=q.set q7 7;refine L.ask q e I (λF H L q I e=>?_) (λF H L q I e=>?_)
  ·rw[g_ rfl]at e;exact I.same L e
  ·rw[l_ (by decide)]at e;refine⟨g,rfl,.ref a.T,rfl,L.val q e I λdw D F H L q I N e=>?_⟩
   have key:∀(x y:p_) (o:i_) (F H:Hp),Lj K F H a s->cP K F (sJ a vw [a_ g,c_,c_,c_]) (eW ws [a_ C,c_,c_,c_])->w1 (eW ws [a_ C,c_,c_,c_])=.ok (.str x)->w2 (eW ws [a_ C,c_,c_,c_])=.ok (.str y)->(∀F1 H1 q,Lj K F1 H1 a s->C6 F H F1 H1->H1 q=a_ (.tup ((pE (x,y)).map kV))->∃u B,V.ref o=V.ref u/\DPut H1 u (.ref q) g B/\Q (.bl d_) B) ->
     tTup (aM (tD K J3 b_ w1) (aM (tD K J3 b_ w2) dS)) (sJ a vw [a_ g,c_,c_,c_]) H λy' H3=>∃u B,V.ref o=V.ref u/\DPut H3 u y' g B/\Q (.bl d_) B:=λx y o F H L q e1 e2 go=>by
    refine aO q L.c.fh (λr h=>by rw[e1]at h;cases h) λd1 p u1 F1 H1 b P=>?_;rw[e1]at p;cases p;cases(show u1=V.str x from P);refine aO (q.mono b.ff) b.fh (λr h=>by rw[e2]at h;cases h) λd2 n u2 F2 H2 Y O=>?_;rw[e2]at n;cases n;cases(show u2=V.str y from O);refine⟨by rw[FO];show 2<=16777216;decide,λt m=>?_⟩
    have S3:C6 F H F2 (upd H2 t (.tup [.str x,.str y])):=(b.trans Y).trans (C6.grow Y.fh m);exact go F2 _ t (L.step S3) S3 ao
   obtain⟨dx,ex,e⟩:=bind_eq e;obtain⟨dy,ey,e⟩:=bind_eq e;obtain⟨i,w,x,y,rfl,rfl,rfl,rfl,e9⟩:=putJ_ok e;clear e;cases(show g=V.int i from by obtain⟨v,h1,h2⟩:=q.sl 7 _ rfl;cases h1;exact h2)
   have W:D=V.str w:=N;subst W;rcases e9 with⟨rfl,X⟩|⟨rfl,X⟩
   ·obtain⟨c,rfl⟩:=xj X;refine⟨a.T,.ref a.g,rfl,Ad L.ot,key x y a.g F H L q ex ey λF1 H1 t J b m=>?_⟩
    obtain⟨A,Y⟩:=J.putg (x,y) i;exact⟨a.g,_,rfl,DPut.t J.og m (by rw[DL];exact c),I F1 _ (b.toC.trans Y J.ex) A⟩
   ·obtain⟨c,rfl⟩:=xj X;refine⟨a.T,.ref a.b,rfl,lK L.ot,key x y a.b F H L q ex ey λF1 H1 t J b m=>?_⟩
    obtain⟨A,Y⟩:=J.putb (x,y) i;exact⟨a.b,_,rfl,DPut.t J.ob m (by rw[DL];exact c),I F1 _ (b.toC.trans Y J.ex) A⟩
 rw[l_ (by decide)]at e;refine L.ask q e I (λF H L q I e=>?_) (λF H L q I e=>?_)
 ·rw[g_ rfl]at e;refine L.val q e I λd8 Z F H L q I q8 e=>?_;have q:cP K F (sJ a vw [c_,a_ Z,c_,c_]) (eW ws [c_,a_ d8,c_,c_]):=q.set q8 8;refine L.val q e I λd9 v9 F H L q I q9 e=>?_;have q:cP K F (sJ a vw [c_,a_ Z,a_ v9,c_]) (eW ws [c_,a_ d8,a_ d9,c_]):=q.set q9 9;refine L.ask q e I (λF H L q I e=>?_) (λF H L q I e=>?_)
  ·rw[g_ rfl]at e;exact I.same L e
  ·rw[l_ (by decide)]at e;obtain⟨d,f,e⟩:=bind_eq e;obtain⟨c,rfl⟩:=xj e;refine L.add (i:=6) (j:=3) (d:=d) rfl rfl rfl (s':={s with dc:=s.dc++[d]}) rfl rfl rfl c (λR l=>aO q L.c.fh (λr h=>by rw[f]at h;cases h) λd' hd v F1 H1 S k=>?_) λF1 H1 S J=>I F1 H1 S J;rw[f]at hd;cases hd;exact l v F1 H1 S k
 rw[l_ (by decide)]at e;refine L.ask q e I (λF H L q I e=>?_) (λF H L q I e=>?_)
 ·rw[g_ rfl]at e;exact I.same L e
 rw[l_ (by decide)]at e;refine L.val q e I λdn G F H L q I T e=>?_;have q:cP K F (sJ a vw [c_,c_,c_,a_ G]) (eW ws [c_,c_,c_,a_ dn]):=q.set T 10;refine L.ask q e I (λF H L q I e=>?_) (λF H L q I e=>?_)
 ·rw[g_ rfl]at e;exact I.same L e
 rw[l_ (by decide)]at e;refine L.ask q e I (λF H L q I e=>?_) (λF H L q I e=>?_)
 ·rw[g_ rfl]at e;exact I.same L e
 rw[l_ (by decide)]at e;refine L.ask q e I (λF H L q I e=>?_) (λF H L q I e=>?_)
 ·rw[g_ rfl]at e;exact I.same L e
 rw[l_ (by decide)]at e;obtain⟨nm,en,e⟩:=bind_eq e;obtain⟨d,f,e⟩:=bind_eq e;split at e
 rotate_left
 ·cases e
 rename_i U;rw[o_,FT]at U;obtain⟨c,rfl⟩:=xj e;refine L.add (i:=4) (j:=1) (d:=nm) rfl rfl rfl (s':={s with dn:=s.dn++[nm]}) rfl rfl rfl U.2 (λR l=>aO q L.c.fh (λr h=>by rw[en]at h;cases h) λd' hd v F1 H1 S k=>?_) λF1 H1 b J=>?_
 ·rw[en]at hd;cases hd;exact l v F1 H1 S k
 ·have q1:=q.mono b.ff;refine J.add (i:=5) (j:=2) (d:=d) rfl rfl rfl (s':={s with dn:=s.dn++[nm],df:=s.df++[d]}) rfl rfl rfl c (λR l=>aO (J.full q1) J.c.zh (λr h=>by rw[f]at h;cases h) λd' hd v F2 H2 Y k=>?_) λF2 H2 Y A=>I F2 H2 (b.trans Y J.ex) A;rw[f]at hd;cases hd;exact l v _ H2 (J.c.back Y) (J.c.flat Y U.1 k)
end
theorem eq_sz{E:Mq}{Q:Mq}{J I:JJ}{es fs:Array MO}(d:(a==GR)=b_)(c:(b==GR)=b_)(h1:s.heap.get? a=a_ J)(h2:J.ExactDict)(f:J.data=.dict es ep)(Y:s.heap.get? b=a_ I)(g2:I.ExactDict)(g:I.data=.dict fs ep')(j:fs.toList=[])(e:A.units<G5)(h:Q (.bool es.toList.isEmpty) s):D_ (FE prog w) A (FU .Eq (.ref a) (.ref b)) Q E s:=by
 obtain⟨es⟩:=es;obtain⟨fs⟩:=fs;cases(show fs=[]from j);cases es with
 |nil=>exact M0 d c (show s.heap.DictOf (KZ prog w) a []from⟨J,_,ep,h1,h2,f,λi hi=>FJ hi (by simp),.nil,.nil⟩) (show s.heap.DictOf (KZ prog w) b []from⟨I,_,ep',Y,g2,g,λi hi=>FJ hi (by simp),.nil,.nil⟩) e (λ_=>.nil) h|cons x xs=>
  have ta:s.TypeIs (.ref a) "dict":=⟨J,h1,h2.1⟩
  have tb:s.TypeIs (.ref b) "dict":=⟨I,Y,g2.1⟩
  refine LM (op:=.Eq) ta tb IT (La IT ta Lu ?_ (Lk _ _)) e;refine(show D_ _ _ (Ig "__eq__" ⟨[.ref a,.ref b],[]⟩ >>= _) _ _ s from k_ (by unfold Ig;refine k_ (M8 ta (show D_ _ _ (GZ (FF a,FF b)) _ _ s from B_ (k_ (Oc (T:="dict") tb Ls ?_))));simp only[NK,MR,Nx];refine k_ (B_ (k_ (B_ (k_ ?_))));unfold KD KO;rw[l_ (by rw[d];decide),l_ (by rw[c];decide)];refine k_ (B_ (k_ (B_ (k_ (JI h1 f (k_ (JI Y g ?_)))))));rw[g_ (by simp)];refine k_ (wpAny_rule (B_ (B_ ⟨_,rfl,(λx=>nomatch x),?_⟩)));simpa using h))
noncomputable def rEqT:R2:=λx y H Q=>∃a b D',x=.ref a/\y=.ref b/\H a=a_ (.dT D')/\H b=a_ (.dT [])/\Q (.bl D'.isEmpty) H
theorem op_eqT(o:X.A.units+64<G5):OpR X (FU .Eq) rEqT:=by
 intro B' s σ H y x u v Q I J Y h;obtain⟨a,b,D',rfl,rfl,ea,l,q⟩:=h;cases(show u=FF a from J);cases(show v=FF b from Y);obtain⟨_,d,xs,r,n,es,ep,h1,h2,g,f,_⟩:=dt_of I.hok ea;obtain⟨_,c,ys,r',m,fs,ep',k,g2,j,i,_⟩:=dt_of I.hok l;cases r';refine eq_sz d c h1 h2 g k g2 j i (by omega) ⟨.bl _,H,I,rfl,?_⟩;have e:es.toList.isEmpty=D'.isEmpty:=by rw[f];have:=r.length;cases xs<;>cases D'<;>simp_all
 rw[e];exact q
noncomputable def eT(x:p_):ah:=[a_ (.str x),c_,c_,c_,c_,c_,c_,c_,c_,c_,c_,c_]
noncomputable def eK(rows:List A')(k:Nat)(w:Option A'):ah:=[c_,c_,a_ (.lst rows),a_ (.int k),w,c_,c_,c_,c_,c_,c_,c_]
noncomputable def eM(s:Jst)(I:Option A'):ah:=[c_,c_,c_,c_,c_,a_ (.lst s.dk),c_,a_ (.lst s.dn),a_ (.lst s.df),a_ (.lst s.dc),I,c_]
def pI(m1:Jst->List A'->M (Bool×Jst))(fw fr:ah->M A')(f1 f2:ah->M Bool)(rows:List A'):Nat->Nat->Jst->M (Sum A' Jst)
 |0,_,s=>.ok (.inr s)|m+1,k,s=>(fw (eK rows k c_)).bind λw=>match w with
  |.lst ws=>(f1 (eK rows k (a_ (.lst ws)))).bind λb=>if b=d_ then(f2 (eK rows k (a_ (.lst ws)))).bind λb=>if b=d_ then(m1 s ws).bind λr=>if r.1=d_ then pI m1 fw fr f1 f2 rows m (k+1) r.2 else(fr (eK rows k (a_ (.lst ws)))).bind λd=>.ok (.inl d)
   else pI m1 fw fr f1 f2 rows m (k+1) s else pI m1 fw fr f1 f2 rows m (k+1) s
  |_=>stk
def rowJ(ks:PKs)(ns:List p_)(x:p_):A':=.lst (ns.map λy=>.int ((yu ks (x,y)).getD 0))
def tabJ(ks:PKs)(ns:List p_):A':=.lst (ns.map (rowJ ks ns))
def zw(s:Jst)(ns:List p_):List A':=[tabJ s.g ns,if s.b.isEmpty=d_ then .non else tabJ s.b ns]
noncomputable def s0J:Jst:=⟨[],[],[],[],[],[]⟩
def tK(m1:Jst->List A'->M (Bool×Jst))(f0 fw fr f8:ah->M A')(f1 f2 f4:ah->M Bool)(x:p_):M A':=(f0 (eT x)).bind λd=>match d with
 |.lst rows=>if rows.length<=f_ then(pI m1 fw fr f1 f2 rows rows.length 0 s0J).bind λr=>match r with
  |.inl d=>.ok d|.inr s=>(f4 (eM s c_)).bind λb=>if b=d_ then .ok (.int 0)else(gV s.dk).bind λns=>if ns.length<=f_ then f8 (eM s (a_ (.lst (zw s ns))))else stk
  else stk
 |_=>stk
def sA0(ρ:ah):M p_:=match ρ.head? with
 |some (some (.str x))=>.ok x|_=>stk
theorem sA1{ρ:ah}{x:p_}(h:sA0 ρ=.ok x):ρ[0]?=some (some (.str x)):=by
 unfold sA0 at h;cases e:ρ.head? with
 |none=>rw[e]at h;cases h
 |some o=>
  rw[e]at h;cases o with
  |none=>cases h
  |some d=>cases d<;>first|(cases h;rw[<- List.head?_eq_getElem?];exact e)|cases h
def Al(m1:Jst->List A'->M (Bool×Jst))(f0 fw fr f8:ah->M A')(f1 f2 f4:ah->M Bool):ah->M H9:=λρ=>if ρ.length=12 then(sA0 ρ).bind λx=>(tK m1 f0 fw fr f8 f1 f2 f4 x).bind λd=>.ok (.rt d)else stk
abbrev D4:TE:=tTup (aM (Af dS) (aM (tDisp [(tC (.str "gap"),Ah),(tC (.str "beside"),Ah)]) (aM (Af dS) (aM (Af dS) (aM (Af dS) dS)))))
section
variable{R:VK}
theorem zv(a:Jad):oP [] [((.inr "gap":Key),V.ref a.g),(.inr "beside",.ref a.b)]=tabs a:=by show putK (putK [] (IM "gap":Key) (V.ref a.g)) (IM "beside":Key) (V.ref a.b)=_;rw[Az (V.ref a.g) A8,Az (V.ref a.b) (by rw[KQ,mO (by show ¬(IM (e_ "gap"):Key)=IM (e_ "beside");decide +kernel)];exact A8)];rfl
theorem rd_state(s:aF F H)(h:∀(a:Jad) (H':Hp),C6 F H F H'->(∀x∈a.ys,H x=c_)->Lj K F H' a s0J->R (.ref a.p) H'):D4 σ H R:=by
 have z0:(0:Nat)<=f_:=G7 _;refine⟨z0,λk nk=>λT nT=>λg ng=>λb G=>?_⟩
 generalize X:upd H k (HO.lst [])=H1 at *;generalize W:upd H1 T (HO.dK [])=H2 at *;generalize U:upd H2 g (HO.dT [])=H3 at *;generalize S:upd H3 b (HO.dT [])=Z at *;have k1:H1 k=a_ (.lst []):=by rw[<- X];exact ao
 have q:∀{A B:Hp} {x:i_} {o:HO},upd A x o=B->A x=c_->aF A B:=λ{A B x o} e n c u L=>by rw[<- e,aq (λz=>by rw[z,n]at L;cases L)];exact L
 have S1:aF H H1:=q X nk;have C:aF H1 H2:=q W nT;have w:aF H2 H3:=q U ng;have S4:aF H3 Z:=q S G;have T2:H2 T=a_ (.dK []):=by rw[<- W];exact ao
 have g3:H3 g=a_ (.dT []):=by rw[<- U];exact ao
 have b4:Z b=a_ (.dT []):=by rw[<- S];exact ao
 have T4:Z T=a_ (.dK []):=S4 _ _ (w _ _ T2);refine⟨T4,[(.inr "gap",.ref g),(.inr "beside",.ref b)],rfl,by show 2<=15;decide,?_⟩
 generalize Q:upd Z T (HO.dK (oP [] [((.inr "gap":Key),V.ref g),(.inr "beside",.ref b)]))=m at *;have T5:m T=a_ (.dK (oP [] [((.inr "gap":Key),V.ref g),(.inr "beside",.ref b)])):=by rw[<- Q];exact ao
 have S5:∀x o,x≠T->Z x=a_ o->m x=a_ o:=λx o n i=>by rw[<- Q,aq n];exact i
 refine⟨z0,λn E=>⟨z0,λf v=>⟨z0,λc r=>⟨by rw[FO];show 5<=16777216;decide,λp np=>?_⟩⟩⟩⟩
 generalize P:upd m n (HO.lst [])=H6 at *;generalize O:upd H6 f (HO.lst [])=H7 at *;generalize N:upd H7 c (HO.lst [])=D at *;have l:aF m H6:=q P E;have t:aF H6 H7:=q O v;have S8:aF H7 D:=q N r;have S9:aF D (upd D p (.tup [.ref k,.ref T,.ref n,.ref f,.ref c])):=q rfl np;have I:∀{A:Hp} {x y:i_} {o:HO},A x=a_ o->A y=c_->x≠y:=λ{A x y o} h1 h2 z=>by rw[z,h2]at h1;cases h1
 have kT:k≠T:=I k1 nT;have k5:m k=a_ (.lst []):=S5 _ _ kT (S4 _ _ (w _ _ (C _ _ k1)));have gT:g≠T:=λz=>I T2 ng z.symm;have bT:b≠T:=λz=>I (w _ _ T2) G z.symm;have g5:m g=a_ (.dT []):=S5 _ _ gT (S4 _ _ g3);have b5:m b=a_ (.dT []):=S5 _ _ bT b4;have n6:H6 n=a_ (.lst []):=by rw[<- P];exact ao
 have f7:H7 f=a_ (.lst []):=by rw[<- O];exact ao
 have c8:D c=a_ (.lst []):=by rw[<- N];exact ao
 have J:aF m (upd D p (.tup [.ref k,.ref T,.ref n,.ref f,.ref c])):=((l.trans t).trans S8).trans S9;have Y:aF H m:=λx o i=>S5 x o (λz=>by have hz:=S1 _ _ i;rw[z,nT]at hz;cases hz) (S4 _ _ (w _ _ (C _ _ (S1 _ _ i))));have fr:∀{A:Hp} {x:i_},aF H A->A x=c_->H x=c_:=λ{A x} hs i=>hs.free i;have hk:H k=c_:=nk;have hg:H g=c_:=fr (S1.trans C) ng;have hb:H b=c_:=fr ((S1.trans C).trans w) G;have hn:H n=c_:=fr Y E;have hf:H f=c_:=fr (Y.trans l) v;have L:H c=c_:=fr ((Y.trans l).trans t) r;have knf:k≠n:=I k5 E;have kf:k≠f:=I (l _ _ k5) v;have kc:k≠c:=I (t _ _ (l _ _ k5)) r;have nf':n≠f:=I n6 v;have nc':n≠c:=I (t _ _ n6) r;have fc':f≠c:=I f7 r;have gn:g≠n:=I g5 E;have gf:g≠f:=I (l _ _ g5) v;have gc:g≠c:=I (t _ _ (l _ _ g5)) r;have bn:b≠n:=I b5 E;have bf:b≠f:=I (l _ _ b5) v;have bc:b≠c:=I (t _ _ (l _ _ b5)) r;have gk:g≠k:=λz=>I (C _ _ k1) ng z.symm;have bk:b≠k:=λz=>I (w _ _ (C _ _ k1)) G z.symm;have gb:g≠b:=I g3 G;have SH:aF H (upd D p (.tup [.ref k,.ref T,.ref n,.ref f,.ref c])):=Y.trans J;have all:∀x∈Jad.ys ⟨p,T,g,b,k,n,f,c⟩,H x=c_:=λx i=>by simp only[Jad.ys,Jad.xs,x_,GB,IL]at i;rcases i with rfl|rfl|rfl|rfl|rfl|rfl<;>assumption
 refine h ⟨p,T,g,b,k,n,f,c⟩ _ (C6.same s SH) all ?_;refine⟨⟨s.trans SH,?_,rfl,λj x d e1 e2=>?_⟩,ao,?_,J _ _ g5,J _ _ b5,s.free hg,s.free hb,gb,?_,?_⟩
 ·simp only[Jad.xs,Iz,x_,GB,IL,LU,not_false_eq_true,JT,and_true];exact⟨⟨knf,kf,kc⟩,⟨nf',nc'⟩,fc'⟩
 ·have k9:=J _ _ k5;have n9:=S9 _ _ (S8 _ _ (t _ _ n6));have f9:=S9 _ _ (S8 _ _ f7);have c9:=S9 _ _ c8
  match j,e1,e2 with
  |0,e1,e2=>cases e1;cases e2;exact⟨rfl,_,[],rfl,k9,s.free hk,rfl,rfl⟩|1,e1,e2=>cases e1;cases e2;exact⟨rfl,_,[],rfl,n9,s.free hn,rfl,rfl⟩|2,e1,e2=>cases e1;cases e2;exact⟨rfl,_,[],rfl,f9,s.free hf,rfl,rfl⟩|3,e1,e2=>cases e1;cases e2;exact⟨rfl,_,[],rfl,c9,s.free L,rfl,rfl⟩|j+4,e1,_=>simp[Jad.xs]at e1
 ·rw[<- zv];exact J _ _ T5
 ·simp only[Jad.xs,x_,GB,IL,LU];exact⟨gk,gn,gf,gc⟩
 ·simp only[Jad.xs,x_,GB,IL,LU];exact⟨bk,bn,bf,bc⟩
end
abbrev tGet1:TE:=tDGet2 (tDGet (bG 2) (bG 3)) (tTup (aM (bG 1) (aM (bG 0) dS))) (tC (.int 0))
abbrev tRowJ(K:Pn):TE:=tComp (iList K (bG 1)) [c_,a_ 0,a_ 2,a_ 3] (bU 0) tYes tGet1
abbrev tTabJ(K:Pn):TE:=tComp (iList K (bG 5)) [c_,a_ 5,a_ 6,a_ 11] (bU 0) tYes (tRowJ K)
section
variable{a:Jad}{s:Jst}{R:VK}{k T o:i_}{ns:List p_}{ks:PKs}{w:p_}
theorem tX(f:p_->Int):∀ns:List p_,az K F (ns.map λy=>A'.int (f y)) (ns.map λy=>V.int (f y))
 |[]=>rfl|_::ns=>⟨_,_,rfl,rfl,tX f ns⟩
theorem rd_rowJ(b:aF F H)(c:SqL K F k (ns.map V.str))(l:ns.length<=f_)(g:∀H',aF H H'->yq H' T (.str w) (a_ (.ref o)))(hd:H o=a_ (.dT (pkV ks)))(h:∀v F' H',C6 F H F' H'->aR K F' (rowJ ks ns x) v->R v H'):
  tRowJ K [a_ (.str x),a_ (.ref k),a_ (.ref T),a_ (.str w)] H R:=by
 refine⟨.ref k,rfl,k,rfl,⟨_,b.lst c⟩,xZ (xs:=ns.map V.str) (λi ys H'=>C6 F H F H'/\ys=(ns.take i).map λy=>V.int ((yu ks (x,y)).getD 0)) ⟨C6.refl b,rfl⟩ (λi ys H' hi ⟨st,e⟩=>⟨st.fh.lst c,?_⟩) (λi j ys H' I ⟨st,e⟩=>?_) λys H' ⟨st,e⟩ p f=>?_⟩
 ·rw[e,t_,GC];omega
 ·rw[GD]at I;cases Y:ns[i]? with
  |none=>rw[Y]at I;cases I|some y=>
   rw[Y]at I;cases I;have J:=st.hh _ _ hd;refine⟨.ref T,rfl,.str w,rfl,T,.ref o,rfl,g H' st.hh,o,rfl,.inr ⟨_,.inl J⟩,.str x,rfl,.str y,rfl,by rw[FO];show 2<=16777216;decide,λt d=>?_⟩
   have a:C6 F H' F (upd H' t (.tup [.str x,.str y])):=C6.grow st.fh d;refine⟨_,yq.t (k:=pE (x,y)) (a.hh _ _ J) ao,st.trans a,?_⟩
   rw[za,e,Ku,Y];simp only[Nq,FY,C_,HI]
   congr 2
   cases yu ks (x,y)<;>rfl
 ·rw[t_,Nc]at e;refine h (.ref p) (upd F p (.lst ys)) _ (st.trans (C6.lay st.fh f)) ⟨p,ys,rfl,.inl (.inl ao),?_⟩;rw[e];exact tX _ ns
theorem rd_tabJ(f:σ[5]?=a_ (a_ (.ref k)))(j:σ[6]?=a_ (a_ (.ref T)))(b:σ[11]?=a_ (a_ (.str w)))(c:aF F H)(a:SqL K F k (ns.map V.str))(h:ns.length<=f_)(g:∀H',aF H H'->yq H' T (.str w) (a_ (.ref o)))(hd:H o=a_ (.dT (pkV ks)))(l:∀v F' H',C6 F H F' H'->aR K F' (tabJ ks ns) v->R v H'):
  tTabJ K σ H R:=by
 refine⟨.ref k,f,k,rfl,⟨_,c.lst a⟩,xZ (xs:=ns.map V.str) (λi ys H'=>∃F',C6 F H F' H'/\az K F' ((ns.take i).map (rowJ ks ns)) ys) ⟨F,C6.refl c,rfl⟩ (λi ys H' hi ⟨F',st,e⟩=>⟨st.fh.lst (st.ff.lst a),?_⟩) (λi m ys H' J ⟨F',st,e⟩=>?_) λys H' ⟨F',st,e⟩ p d=>?_⟩
 ·rw[e.length,t_,GC];omega
 ·rw[GD]at J;cases Y:ns[i]? with
  |none=>rw[Y]at J;cases J|some y=>
   rw[Y]at J;cases J;have es:(inS [c_,a_ 5,a_ 6,a_ 11] σ).set 0 (a_ (.str y))=[a_ (.str y),a_ (.ref k),a_ (.ref T),a_ (.str w)]:=by unfold inS;simp only[C_,HI,f,j,b];rfl
   unfold bU tYes;dsimp only;rw[g_ rfl,es];refine rd_rowJ (st.fh) (st.ff.lst a) h (λH2 h2=>g H2 (st.hh.trans h2)) (st.hh _ _ hd) λv F2 H2 I q=>⟨F2,st.trans I,?_⟩
   rw[Ku,Y];simp only[Nq,FY,C_,HI];exact(e.mono I.ff).append ⟨v,[],rfl,q,rfl⟩
 ·rw[t_,Nc]at e;exact l (.ref p) (upd F' p (.lst ys)) _ (st.trans (C6.lay st.fh d)) ⟨p,ys,rfl,.inl (.inl ao),e.mono (C6.lay st.fh d).ff⟩
theorem Lj.frz(L:Lj K F H a s)(st:C6 F0 H0 F H)(J:∀x∈a.ys,H0 x=c_):∃G,C6 F0 H0 G H/\aF F G/\aR K G (.lst s.dk) (.ref a.k)/\aR K G (.lst s.dn) (.ref a.n)/\aR K G (.lst s.df) (.ref a.f)/\aR K G (.lst s.dc) (.ref a.c):=
 ⟨plus F H (·∈a.xs),⟨st.ff.trans L.c.ff,st.hh,L.c.zh,λb o h=>by
  by_cases I:b∈a.xs
  ·exact .inr (J b (FH _ (FH _ I)))
  ·rw[bW I]at h;exact st.nw b o h⟩,L.c.ff,L.c.deep (j:=0) rfl rfl,L.c.deep (j:=1) rfl rfl,L.c.deep (j:=2) rfl rfl,L.c.deep (j:=3) rfl rfl⟩
theorem De:∀{ds:List A'} {ns:List p_} {ys:List V},gV ds=.ok ns->az K F ds ys->ys=ns.map V.str
 |[],_,_,e,q=>by cases e;exact q|d::ds,ns,ys,e,⟨v,r,J,q,I⟩=>by
  unfold gV at e;split at e
  ·rename_i hh;cases hh
  ·rename_i x r' hh;cases hh;obtain⟨xs,ex,e⟩:=bind_eq e;cases e;cases(show v=V.str x from q);rw[J,De ex I];rfl
  ·cases e
end
theorem mH.into{xs:List i_}(z:C6 F0 H0 F H)(t:mH xs F H F' H')(J:∀x∈xs,H0 x=c_):C6 F0 H0 F' H':=
 ⟨z.ff.trans t.ff,λb o h=>t.hh b o (λI=>by rw[J b I]at h;cases h) (z.hh b o h),t.fh,λb o h=>(t.nw b o h).elim (λu=>z.nw b o u) λu=>.inr (z.hh.free u)⟩
section
variable{D:Ends}{fr:ah->M A'}{f1 f2:ah->M Bool} 
def D8(K:Pn)(m1:Jst->List A'->M (Bool×Jst))(fw fr:ah->M A')(f1 f2:ah->M Bool)(E1:XK):TS:=
 tFor (iRng1 (aM (tD K J3 b_ (fL jP (aa (ai 2) aC))) dS)) (bU 3) (cR (oK (tD K J3 b_ fw) (bU 4))
  (lM (tAnd (tDT K J3 f1) (tAnd (tDT K J3 f2) (tNot (tTr K (hZ (spOne K m1) [] E1 (aM (bG 1) (aM (bG 4) dS))))))) (sk (tD K J3 b_ fr)) eY))
def D7(K:Pn)(F0 H0:Hp)(OL:List Nat)(f8:ah->M A')(f4:ah->M Bool):TS:=
 cR (oK (bG 1) (gTup K 5 (lh (bU 5) (lh (bU 6) (lh (bU 7) (lh (bU 8) (lh (bU 9) gNil)))))))
 (cR (lM (tDT K J3 f4) (sk (tC (.int 0))) eY)
 (cR (oK (Af dS) (bU 10))
 (cR (tFor (iList K (Af (aM (tC (.str "gap")) (aM (tC (.str "beside")) dS)))) (bU 11) (lN (tBM K "list" jc (bG 10) (aM (tTabJ K) dS))))
 (cR (lM (tTest (tOp rEqT (tDGet (bG 6) (tC (.str "beside"))) Ah)) (tS K J3 b_ F0 H0 OL [10] [10] (Bs 10 (fC (.int 1)) (fC .non))) eY)
  (sk (tD K J3 b_ f8))))))
theorem rs_made{a:Jad}{s:Jst}{d:A'}{k:Option V}(L:Lj K F H a s)(st:C6 F0 H0 F H)(h0:∀x∈a.ys,H0 x=c_)(e:((f4 (eM s c_)).bind λb=>if b=d_ then .ok (.int 0)else(gV s.dk).bind λns=>if ns.length<=f_ then f8 (eM s (a_ (.lst (zw s ns))))else stk)=.ok d)(q:∀v F H,C6 F0 H0 F H->aR K F d v->D.rt v H):
  D7 K F0 H0 OL f8 f4 D [u0,a_ (.ref a.p),k,u3,u4,u5,u6,u7,u8,u9,u10,u11] H:=by
 refine⟨.ref a.p,rfl,a.p,_,rfl,SqT.of L.tp,rfl,_,_,rfl,_,_,rfl,_,_,rfl,_,_,rfl,_,_,rfl,rfl,?_⟩
 show cR _ _ D [u0,a_ (.ref a.p),k,u3,u4,a_ (.ref a.k),a_ (.ref a.T),a_ (.ref a.n),a_ (.ref a.f),a_ (.ref a.c),u10,u11] H;obtain⟨G,X,_,qk,qn,qf,qc⟩:=L.frz st h0;obtain⟨b,eb,e⟩:=bind_eq e;have Q:∀(G':Hp) (A t:Option V),aF G G'->cP K G' [u0,a_ (.ref a.p),k,u3,u4,a_ (.ref a.k),a_ (.ref a.T),a_ (.ref a.n),a_ (.ref a.f),a_ (.ref a.c),A,t] (eM s c_):=λG' A t W=>(((cP.only (σ:=[u0,a_ (.ref a.p),k,u3,u4,a_ (.ref a.k),a_ (.ref a.T),a_ (.ref a.n),a_ (.ref a.f),a_ (.ref a.c),A,t]) (i:=5) rfl (qk.mono W)).put (i:=7) (v:=.ref a.n) rfl (qn.mono W)).put (i:=8) (v:=.ref a.f) rfl (qf.mono W)).put (i:=9) (v:=.ref a.c) rfl (qc.mono W)
 refine eZ (Q G _ _ (aF.refl _)) X.fh (λe' h=>by rw[eb]at h;cases h) λb' hb F1 H1 l=>?_;rw[eb]at hb;cases hb;cases b with
 |true=>rw[g_ rfl]at e;cases e;exact q _ F1 H1 (X.trans l) rfl|false=>
 rw[l_ (by decide)]at e;obtain⟨ns,en,e⟩:=bind_eq e;split at e
 rotate_left
 ·cases e
 rename_i hns;obtain⟨ka,ysk,hka,sqk,qks⟩:=id qk;cases hka;have eys:=De en qks;subst eys;refine⟨G7 _,λI C=>?_⟩
 show cR _ _ D [u0,a_ (.ref a.p),k,u3,u4,a_ (.ref a.k),a_ (.ref a.T),a_ (.ref a.n),a_ (.ref a.f),a_ (.ref a.c),a_ (.ref I),u11] (upd H1 I (.lst []));have z0:H0 I=c_:=(X.trans l).hh.free C;have S2:C6 F1 H1 F1 (upd H1 I (.lst [])):=C6.grow l.fh C;refine⟨by rw[FO];show 2<=16777216;decide,λO N=>⟨O,rfl,⟨_,.inl (.inl ao)⟩,?_⟩⟩
 have S3:C6 F1 H1 F1 (upd (upd H1 I (.lst [])) O (.lst [.str "gap",.str "beside"])):=S2.trans (C6.grow S2.fh N);have R:I≠O:=λz=>by rw[<- z,ao]at N;cases N
 have sk1:=l.ff.lst sqk;have hT:=L.ot
 let tb:List A':=[tabJ s.g ns,tabJ s.b ns]
 refine⟨λi m σ' H'=>m+i=2/\(∃u,σ'=[u0,a_ (.ref a.p),k,u3,u4,a_ (.ref a.k),a_ (.ref a.T),a_ (.ref a.n),a_ (.ref a.f),a_ (.ref a.c),a_ (.ref I),u])/\∃F' ys,aF F1 F'/\C6 F0 H0 F' H'/\F' I=c_/\H' I=a_ (.lst ys)/\H' O=a_ (.lst [.str "gap",.str "beside"])/\H' a.T=a_ (.dK (tabs a))/\H' a.g=a_ (.dT (pkV s.g))/\H' a.b=a_ (.dT (pkV s.b))/\az K F' (tb.take i) ys,
  ⟨2,rfl,⟨_,rfl⟩,F1,[],aF.refl _,(X.trans l).trans S3,l.fh.free C,by rw[aq R];exact ao,ao,S3.hh _ _ (l.hh _ _ hT),S3.hh _ _ (l.hh _ _ L.og),S3.hh _ _ (l.hh _ _ L.ob),rfl⟩,λi m σ' H' hp=>?_⟩
 obtain⟨e1,⟨u,e2⟩,F',ys,sf,f,fm,E,hl,c,p,Y,qy⟩:=hp
 subst e2;by_cases hm0:m=0
 ·refine .inl ⟨⟨_,.inl (.inl hl),by show 2<=i;omega⟩,?_⟩;have hi:i=2:=by omega
  subst hi;refine⟨.ref a.T,rfl,a.T,.ref a.b,rfl,lK c,λnp B=>⟨a.b,np,pkV s.b,rfl,rfl,?_,ao,s.b.isEmpty,?_,?_⟩⟩
  ·rw[aq (λz=>by rw[<- z,Y]at B;cases B)];exact Y
  ·unfold pkV;cases s.b<;>rfl
  have S5:C6 F' H' F' (upd H' np (.dT [])):=C6.grow f.fh B;have hm5:=S5.hh _ _ E;have rp:Rep K F0 H0 F0 [10] F' (upd H' np (.dT [])) [u0,a_ (.ref a.p),k,u3,u4,a_ (.ref a.k),a_ (.ref a.T),a_ (.ref a.n),a_ (.ref a.f),a_ (.ref a.c),a_ (.ref I),u] (eM s (a_ (.lst tb))):=by have r0:=Rep.ofE (FB:=F0) (Q F' (a_ (.ref I)) u (l.ff.trans sf)) (f.trans S5) (f.trans S5).ff;refine r0.setOwn (i:=10) (d:=.lst tb) (v:=.ref I) ⟨I,ys,rfl,hm5,fm,z0,qy⟩ (λ_ _ _ hp=>?_);obtain⟨j,d',hj,_⟩:=hp;exact FJ hj (by simp)
  have U:∀(md:List A') (J:St) (F2 H2:Hp),zw s ns=md->Rep K F0 H0 F0 [10] F2 H2 J (eM s (a_ (.lst md)))->sk (tD K J3 b_ f8) D J H2:=λmd J F2 H2 hmd r2=>by rw[hmd]at e;refine aO r2.tu r2.lV (λe' h=>by rw[e]at h;cases h) λd' hd v F3 H3 r qd=>?_;rw[e]at hd;cases hd;exact q v F3 H3 ((r2.freeze (O2:=[]) (by simp)).st.trans r) qd
  cases S:s.b.isEmpty with
  |true=>
   show if d_=d_ then _ else _
   rw[g_ rfl];refine⟨F0,F',_,rp,?_⟩
   show ∀σ F H,Rep K F0 H0 F0 [10] F H σ (eM s (a_ (.lst [tabJ s.g ns,.non])))->_;exact λJ F2 H2 r2=>U _ J F2 H2 (by unfold zw;rw[S];rfl) r2
  |false=>
   show if b_=d_ then _ else _
   rw[l_ (by decide)];exact U _ _ _ _ (by unfold zw;rw[S];rfl) rp
 ·have hi:i<2:=by omega
  have P:SqL K H' O [.str "gap",.str "beside"]:=.inl (.inl hl);have g:∀(w:p_) (o:i_) (ks:PKs),(∀H2,aF H' H2->yq H2 a.T (.str w) (a_ (.ref o)))->H' o=a_ (.dT (pkV ks))->tb[i]?=a_ (tabJ ks ns) ->
    lN (tBM K "list" jc (bG 10) (aM (tTabJ K) dS)) {D with nx:=λJ H2=>(m-1)+(i+1)=2/\(∃u,J=[u0,a_ (.ref a.p),k,u3,u4,a_ (.ref a.k),a_ (.ref a.T),a_ (.ref a.n),a_ (.ref a.f),a_ (.ref a.c),a_ (.ref I),u])/\∃F' ys,aF F1 F'/\C6 F0 H0 F' H2/\F' I=c_/\H2 I=a_ (.lst ys)/\H2 O=a_ (.lst [.str "gap",.str "beside"])/\H2 a.T=a_ (.dK (tabs a))/\H2 a.g=a_ (.dT (pkV s.g))/\H2 a.b=a_ (.dT (pkV s.b))/\az K F' (tb.take (i+1)) ys} [u0,a_ (.ref a.p),k,u3,u4,a_ (.ref a.k),a_ (.ref a.T),a_ (.ref a.n),a_ (.ref a.f),a_ (.ref a.c),a_ (.ref I),a_ (.str w)] H':=λw o ks ho hd ht=>by
   refine⟨.ref I,rfl,gF E,?_⟩
   unfold aM dS;refine rd_tabJ (σ:=[u0,a_ (.ref a.p),k,u3,u4,a_ (.ref a.k),a_ (.ref a.T),a_ (.ref a.n),a_ (.ref a.f),a_ (.ref a.c),a_ (.ref I),a_ (.str w)]) rfl rfl rfl f.fh (sf.lst sk1) hns ho hd λv F3 H3 r qv=>?_;have hm3:=r.hh _ _ E;have T:F3 I=c_:=r.stays fm E;have Z:∀{y:i_} {o':HO},H' y=a_ o'->y≠I->upd H3 I (.lst (ys++[v])) y=a_ o':=λ{y o'} h n=>by rw[aq n];exact r.hh _ _ h
   have ly:ys.length=i:=by rw[qy.length,GC];show min i 2=i;omega
   have w1:a.T≠I:=λz=>by rw[z,E]at c;cases c
   have w2:a.g≠I:=λz=>by rw[z,E]at p;cases p
   have w3:a.b≠I:=λz=>by rw[z,E]at Y;cases Y
   refine⟨I,ys,v,rfl,rfl,hm3,by rw[ly,FO];omega,by omega,⟨_,rfl⟩,F3,ys++[v],sf.trans r.ff,?_,T,ao,Z hl (FZ R),Z c w1,Z p w2,Z Y w3,?_⟩
   ·have z:=f.trans r;exact⟨z.ff,λb o' h=>by rw[aq (λx=>by rw[x,z0]at h;cases h)];exact z.hh b o' h,λb o' h=>by rw[aq (λx=>by rw[x,T]at h;cases h)];exact z.fh b o' h,z.nw⟩
   ·rw[Ku,ht];exact(qy.mono r.ff).append ⟨v,[],rfl,qv,rfl⟩
  have hgo:i<[V.str "gap",V.str "beside"].length:=hi;refine .inr ⟨⟨_,[V.str "gap",V.str "beside"][i],P,by rw[Ge hgo]⟩,_,λJ H2 z=>⟨m-1,by omega,z⟩,λxv H2 hp=>?_⟩;obtain⟨eH,hx⟩:=hp;subst eH;have ex:=hx _ P
  rcases i with _|_|i
  ·cases ex;exact g "gap" a.g s.g (λH2 h2=>Ad (h2 _ _ c)) p rfl
  ·cases ex;exact g "beside" a.b s.b (λH2 h2=>lK (h2 _ _ c)) Y rfl
  ·exact absurd hi (by omega)
end
section
variable{D:Ends}{fr:ah->M A'}{f1 f2:ah->M Bool} 
theorem rs_loopJ{F2:Hp}{a:Jad}{Y:Sum A' Jst}{rows:List A'}{f:i_}(L:Lj K F H a s0J)(st:C6 F0 H0 F H)(h0:∀x∈a.ys,H0 x=c_)(qr:aR K F (.lst rows) (.ref f))(hl:rows.length<=f_)(e:pI m1 fw fr f1 f2 rows rows.length 0 s0J=.ok Y)(S:∀d v F H,Y=.inl d->C6 F0 H0 F H->aR K F d v->D.rt v H)(T:∀s F H b J,Y=.inr s->C6 F0 H0 F H->Lj K F H a s->U D [u0,a_ (.ref a.p),a_ (.ref f),b,J,u5,u6,u7,u8,u9,u10,u11] H):
  cR (D8 K m1 fw fr f1 f2 E1) U D [u0,a_ (.ref a.p),a_ (.ref f),u3,u4,u5,u6,u7,u8,u9,u10,u11] H:=by
 have u:∀(G:Hp) (b J:Option V),aF F G->cP K G [u0,a_ (.ref a.p),a_ (.ref f),b,J,u5,u6,u7,u8,u9,u10,u11] [c_,c_,a_ (.lst rows),c_,c_,c_,c_,c_,c_,c_,c_,c_]:=λG b J n=>cP.only (σ:=[u0,a_ (.ref a.p),a_ (.ref f),b,J,u5,u6,u7,u8,u9,u10,u11]) (i:=2) rfl (qr.mono n);refine aO (u F u3 u4 (aF.refl _)) st.fh (λP h=>nomatch h) λd0 X v0 F1 H1 R q0=>?_;cases X;cases(show v0=V.int rows.length from q0);have hz:(rows.length:Int)<2^62:=by rw[FO]at hl;omega
 refine⟨_,rfl,by omega,hz,?_⟩
 show ∃W:Nat->Nat->St->Hp->Prop,_;refine⟨λi m σ' H'=>m+i=rows.length/\(∃b J,σ'=[u0,a_ (.ref a.p),a_ (.ref f),b,J,u5,u6,u7,u8,u9,u10,u11])/\∃F' s',aF F F'/\C6 F0 H0 F' H'/\Lj K F' H' a s'/\pI m1 fw fr f1 f2 rows m i s'=.ok Y,
  ⟨rows.length,rfl,⟨_,_,rfl⟩,F1,s0J,R.ff,st.trans R,L.step R,e⟩,λi m σ' H' hp=>?_⟩
 obtain⟨e1,⟨b,J,e2⟩,F',s',sf,k,L',I⟩:=hp
 subst e2;cases m with
 |zero=>cases I;exact .inl ⟨by show(rows.length:Int).toNat<=i;omega,T s' F' H' b J rfl k L'⟩|succ m=>
  refine .inr ⟨by show i<(rows.length:Int).toNat;omega,_,λσ2 H2 z=>⟨m,HS m,z⟩,λxv H2 hp=>?_⟩;obtain⟨eH,ex⟩:=hp;subst eH ex;unfold pI at I;obtain⟨w,ew,I⟩:=bind_eq I;have xi:(0:Int)+(i:Int)=((i:Nat):Int):=by omega
  rw[xi];have rk:∀(G:Hp) (J:Option V),aF F' G->cP K G [u0,a_ (.ref a.p),a_ (.ref f),a_ (.int (i:Nat)),J,u5,u6,u7,u8,u9,u10,u11] (eK rows i c_):=λG J n=>(u G (a_ (.int (i:Nat))) J (sf.trans n)).put (i:=3) (v:=.int (i:Nat)) (d:=.int (i:Nat)) rfl rfl;show tD K J3 b_ fw [u0,a_ (.ref a.p),a_ (.ref f),a_ (.int (i:Nat)),J,u5,u6,u7,u8,u9,u10,u11] H2 _;refine aO (rk F' J (aF.refl _)) k.fh (λP h=>by rw[ew]at h;cases h) λdw y vw Z H3 t qw=>?_;rw[ew]at y;cases y;have L3:=L'.step t;have q:=k.trans t;cases w with
  |lst ws=>
   dsimp only at I;have l:∀(G:Hp),aF Z G->cP K G [u0,a_ (.ref a.p),a_ (.ref f),a_ (.int (i:Nat)),a_ vw,u5,u6,u7,u8,u9,u10,u11] (eK rows i (a_ (.lst ws))):=λG n=>(rk G (a_ vw) (t.ff.trans n)).put (i:=4) (v:=vw) rfl (qw.mono n);unfold bU;simp only[Jo,Kg];have g:∀(N E:Hp) (O:Jst),aF Z N->C6 F0 H0 N E->Lj K N E a O->pI m1 fw fr f1 f2 rows m (i+1) O=.ok Y ->
     m+(i+1)=rows.length/\(∃b J,[u0,a_ (.ref a.p),a_ (.ref f),a_ (.int (i:Nat)),a_ vw,u5,u6,u7,u8,u9,u10,u11]=[u0,a_ (.ref a.p),a_ (.ref f),b,J,u5,u6,u7,u8,u9,u10,u11])/\∃F' s',aF F F'/\C6 F0 H0 F' E/\Lj K F' E a s'/\pI m1 fw fr f1 f2 rows m (i+1) s'=.ok Y:=
    λN E O g1 g2 g3 g4=>⟨by omega,⟨_,_,rfl⟩,N,O,(sf.trans t.ff).trans g1,g2,g3,g4⟩
   obtain⟨b1,C,I⟩:=bind_eq I;refine eZ (l Z (aF.refl _)) t.fh (λP h=>by rw[C]at h;cases h) λb' A F4 H4 c=>?_;rw[C]at A;cases A;cases b1 with
   |false=>rw[l_ (by decide)]at I;exact g F4 H4 s' c.ff (q.trans c) (L3.step c) I|true=>
    rw[g_ rfl]at I;obtain⟨b2,B,I⟩:=bind_eq I;refine eZ (l F4 c.ff) c.fh (λP h=>by rw[B]at h;cases h) λb' A F5 H5 o=>?_;rw[B]at A;cases A;have L5:=(L3.step c).step o;have p:=(q.trans c).trans o;cases b2 with
    |false=>rw[l_ (by decide)]at I;exact g F5 H5 s' (c.ff.trans o.ff) p L5 I|true=>
     rw[g_ rfl]at I;obtain⟨r,er,I⟩:=bind_eq I;refine⟨.ref a.p,rfl,vw,rfl,a,F5,s',ws,vw,r,rfl,L5,qw.mono (c.ff.trans o.ff),er,λF6 H6 Q L6=>⟨r.1,rfl,?_⟩⟩
     have j:=mH.into p Q h0;cases hr:r.1 with
     |true=>rw[hr,g_ rfl]at I;exact g F6 H6 r.2 ((c.ff.trans o.ff).trans Q.ff) j L6 I|false=>rw[hr,l_ (by decide)]at I;obtain⟨d,ed,I⟩:=bind_eq I;cases I;refine aO (l F6 ((c.ff.trans o.ff).trans Q.ff)) j.fh (λP h=>by rw[ed]at h;cases h) λd' hd v F7 H7 s7 qd=>?_;rw[ed]at hd;cases hd;exact S d v F7 H7 rfl (j.trans s7) qd
  |_=>cases I
theorem rs_judge(t:tS K J3 b_ F0 H0 OL [] O' (Al m1 f0 fw fr f8 f1 f2 f4) D σ H):
  cR (oK D4 (bU 1)) (cR (oK (tD K J3 b_ f0) (bU 2)) (cR (D8 K m1 fw fr f1 f2 E1) (D7 K F0 H0 OL f8 f4))) D σ H:=by
 obtain⟨FB,F,ρ,r,q⟩:=t;unfold Al at q;by_cases hL:ρ.length=12
 rotate_left
 ·rw[if_neg hL]at q;exact q.stuck rfl
 rw[if_pos hL]at q;cases hs:sA0 ρ with
 |error e=>rw[hs]at q;exact GA q|ok x=>
 rw[hs,aj]at q;obtain⟨v,hv,u⟩:=r.fz 0 _ (sA1 hs) (by simp);have A:σ.length=12:=by rw[<- r.len];exact hL
 obtain⟨u0,y0,rfl,A0⟩:=lenC A
 obtain⟨P,y1,rfl,A1⟩:=lenC A0
 obtain⟨g,y2,rfl,A2⟩:=lenC A1
 obtain⟨u3,y3,rfl,A3⟩:=lenC A2
 obtain⟨u4,y4,rfl,A4⟩:=lenC A3
 obtain⟨u5,y5,rfl,A5⟩:=lenC A4
 obtain⟨u6,y6,rfl,A6⟩:=lenC A5
 obtain⟨u7,y7,rfl,A7⟩:=lenC A6
 obtain⟨u8,y8,rfl,A8⟩:=lenC A7
 obtain⟨u9,y9,rfl,A9⟩:=lenC A8
 obtain⟨u10,y10,rfl,A10⟩:=lenC A9
 obtain⟨u11,y11,rfl,A11⟩:=lenC A10
 cases List.length_eq_zero_iff.mp A11
 cases(show v=V.str x from u);cases hv;cases I:tK m1 f0 fw fr f8 f1 f2 f4 x with
 |error e=>rw[I]at q;exact GA q|ok d=>
 rw[I]at q;have q:∀v F H,C6 F0 H0 F H->aR K F d v->D.rt v H:=q;unfold tK at I;obtain⟨C,e0,I⟩:=bind_eq I;unfold cR oK;refine rd_state (K:=K) r.st.fh λa H1 E b m=>?_;have l:∀y∈a.ys,H0 y=c_:=λy z=>r.st.hh.free (b y z);show tD K J3 b_ f0 [a_ (.str x),a_ (.ref a.p),g,u3,u4,u5,u6,u7,u8,u9,u10,u11] H1 _;refine aO (ρ:=eT x) (cP.only (σ:=[a_ (.str x),a_ (.ref a.p),g,u3,u4,u5,u6,u7,u8,u9,u10,u11]) (i:=0) (d:=.str x) rfl rfl) m.c.fh (λe' h=>by rw[e0]at h;cases h) λB J O F2 H2 j k=>?_;rw[e0]at J;cases J;cases C with
 |lst rows=>
  dsimp only at I;split at I
  rotate_left
  ·cases I
  rename_i c;obtain⟨Q,ys,rfl,_⟩:=id k;obtain⟨n,Y,I⟩:=bind_eq I;refine rs_loopJ (F2:=F2) (a:=a) (m.step j) ((r.st.trans E).trans j) l k c Y (λd' v F H f st w=>?_) λs F H N G f st L=>?_
  ·subst f;cases I;exact q v F H st w
  ·subst f;exact rs_made L st l I q
 |_=>cases I
end
theorem ds_judge{fr:ah->M A'}{f1 f2:ah->M Bool}(p:∀F0 H0,PSs X sts (cR (oK D4 (bU 1)) (cR (oK (tD K J3 b_ f0) (bU 2)) (cR (D8 K m1 fw fr f1 f2 E0) (D7 K F0 H0 OL f8 f4))))):DSs K J3 b_ X OL [] O' sts (Al m1 f0 fw fr f8 f1 f2 f4):=λF0 H0=>PSs.imp (p F0 H0) λ_ _ _=>rs_judge
theorem ps_compD{pt:Pat}(N':List p_)(ix:List (Option Nat))(j:X.N.Nodup)(hi:DI K J3 X tg iter fi)(f:∀L cs s H fp,DG K (bg X N' sc L cs s H fp) tg pt)(c:pq ix (gP K pt))(a:∀L cs s H fp,PTs (bg X N' sc L cs s H fp) ifs (tDT K J3 ft))(g:∀L cs s H fp,DE K J3 b_ (bg X N' sc L cs s H fp) elt fe)(e: ~~~(X.N[i]?=a_ x))(Y: ~~~(X.env.scope.names.lookup x=a_ .local))(h: ~~~(X.calm=d_))(I: ~~~(G0 (.ListComp elt [⟨tg,iter,ifs,0⟩] sc pos) (a_ (.Name x py)) spos.line X.env=GZ d_))(J: ~~~(bF X.N X.env.scope N' sc ix=d_))(d: ~~~(sc.kind=.function))(b:autoParam (∀x,Ht iter X.env x=GZ x) Jq5):
  PS X (.Assign [.Name x py] (.ListComp elt [⟨tg,iter,ifs,0⟩] sc pos) spos) (tSetD K i (cn fi ix pt ft fe)):=
 (o9 N' ix j e Y h hi f c a g I J d b).imp λD σ H t=>yR (tD_fr t)
section
variable{f:ah->M A'} 
theorem at_lst1(h:PEat X B' σ e te)(d: ~~~(h_ [e] X.env=[(b_,FR e X.env)])):PEat X B' σ (.List [e] pos) (Af (aM te dS)):=by
 intro s H Q I f;refine NA (HH (Q:=λus J=>∃xs H1,C' X B' σ H1 J/\Hn xs us/\xs.length<=f_/\∀p,H1 p=c_->Q (.ref p) (upd H1 p (.lst xs))) ?_ λus J ⟨xs,H1,Y,r,z,q⟩=>⟨by rw[<- r.length];exact z,?_⟩)
 ·rw[d];show D_ _ _ (NT ((b_,FR e X.env)::[])) _ _ s;refine HW (HH (h s H _ I f) λu J g=>?_);obtain⟨x,H1,Y,c,a⟩:=g;refine Ju ?_;exact⟨[x],H1,Y,.cons c .nil,a.1,a.2⟩
 have i:H1 J.heap.objs.size=c_:=Y.hok.fresh (v_ _);refine⟨.ref J.heap.objs.size,upd H1 J.heap.objs.size (.lst xs),Y.laid (t':=J.toks) (λb u e=>r_ _ e) (v_ _) ?_,rfl,q _ i⟩
 exact⟨z,us,0,r,FK _ rfl⟩
theorem dea_lst1(h:DEat K E b_ X B' σ e f)(Y: ~~~(h_ [e] X.env=[(b_,FR e X.env)])):DEat K E b_ X B' σ (.List [e] pos) (fL bP (aa f aC)):=by
 refine PEat.imp (at_lst1 h Y) λH Q b=>?_;obtain⟨F,ρ,r,s,p⟩:=b;refine aO r s (λg c=>?_) λd hd v F1 H1 I q=>⟨by show 1<=f_;rw[FO];omega,λa J=>?_⟩
 ·have z:fL bP (aa f aC) ρ=.error g:=by unfold fL aa;rw[c];rfl
  rw[z]at p;exact p
 ·have z:fL bP (aa f aC) ρ=.ok (.lst [d]):=by
   unfold fL aa;rw[hd];show bP [d]=_;unfold bP;rw[g_ (by show 1<=f_;rw[FO];omega)]
  rw[z]at p;exact p (.ref a) (upd F1 a (.lst [v])) _ (I.trans (C6.lay I.fh J)) ⟨a,[v],rfl,.inl (.inl ao),v,[],rfl,aR.mono (C6.lay I.fh J).ff q,rfl⟩
end
end Lake
namespace Tactic
open PySem Lake PyProof.Rows
variable{mg:Ld}{x w z o nm a b y v:p_}{P:GH}{C CP CS CW CD AStripError ANoRow ANoRules ANoTime ANoPlace ANotFree ATooMany ANoPlan:i_}{fd dC: Hv}{n m c:Nat}{ee: i_}{i:Int}{g:PKs}{ks r ns:List p_}{rows r2:List (List Int)}{α:Type}{q:List Nat}
def iH:ah->M H9:=
 sIf (fB (f2 gtD (fL jP (aa (ai 2) aC)) (fC (.int 0))))
   (bw [] 3 (f2 lg (f2 ixD (ai 2) (f2 lg (ai 1) (fL jP (aa (ai 2) aC)))) (f2 DF (fC (.int 10)) (fC (.int 24)))))
   dN
def jH:ah->M H9:=
 (cF (bw [] 2 (fSl de (ai 0) oh (jZ (fC (.int 63)))))
  (cF (bw [] 3 (f2 eC (f2 E8 (fC (.int 13)) (ai 1)) (fC (.int 5))))
  (cF (iH)
  (cF (bw [] 4 (f2 lg (f2 E8 (f2 eC (f2 eC (ai 3) (f2 E8 (f2 E8 (ai 1) (ai 1)) (fC (.int 7919)))) (fL jP (aa (ai 2) aC))) (fC (.int 48271))) (fC (.int 2305843009213693951))))
  (cL (f2 lg (f2 eC (f2 E8 (ai 4) (fC (.int 1442695040888963407))) (fC (.int 4321))) (fC (.int 2305843009213693921))))))))
def aZ:List A'->M A':=bR 5 2 (jH)
def bK:ah->M Bool:=
 (fB (f2 neM (ai 4) (fL bP aC)))
def cb:ah->M A':=
 (f2 lg (f2 jI (fL (aZ) (aa (ai 1) (aa (f2 eC (ai 2) (fL jP (aa (ai 3) aC))) aC))) (fC (.int 8))) (fL jP (aa (ai 4) aC)))
def bX:ah->M Bool:=
 (fB (f2 eqM (f2 ixD (ai 4) (ai 5)) (fL bP aC)))
def oY:ah->M H9:=
 (cF (bw [] 3 (fL bP aC))
  (sMix 400 3 4 5 (cn (fIt (ai 0)) [c_] (.nm 0) (fB (f2 neM (ai 0) (fL bP aC))) (fL nj (aa (ai 0) aC))) (bK) (cb) (bX)
  (cL (ai 3))))
def gO:List A'->M A':=bR 6 3 (oY)
def oX:ah->M H9:=
 (cL (cn (fIt (fSM oM (ai 0) (fC (.str " ")))) [c_] (.nm 0) (fB (f2 neM (ai 0) (fC (.str "")))) (ai 0)))
def iR:List A'->M A':=bR 1 1 (oX)
def eA:ah->M H9:=
 sIf (fOr (fB (f2 ltD (fL xr (aa (ai 0) aC)) (fC (.int 1)))) (fOr (fB (f2 gtD (fL xr (aa (ai 0) aC)) (fC (.int 10)))) (fB (f2 neM (cn (fItS (ai 0)) [c_] (.nm 0) (fB (f2 ki (ai 0) (fC (.str "0123456789")))) (ai 0)) (fL bP aC)))))
   (cL (f1 negD (fC (.int 1))))
   dN
def cg:ah->M H9:=
 sIf (fOr (xI (fB (f2 eqM (f2 zA (ai 0) (fC (.int 0))) (fC (.str "0")))) (fB (f2 neM (ai 0) (fC (.str "0"))))) (fB (f2 gtD (fL Er (aa (ai 0) aC)) (ai 1))))
   (cL (f1 negD (fC (.int 1))))
   dN
def eP:ah->M H9:=
 (cF (eA)
  (cF (cg)
  (cL (fL Er (aa (ai 0) aC)))))
def bo:List A'->M A':=bR 2 2 (eP)
def cO:ah->M H9:=
 sIf (fOr (fB (f2 ltD (fL xr (aa (ai 0) aC)) (fC (.int 1)))) (fOr (fB (f2 gtD (fL xr (aa (ai 0) aC)) (fC (.int 8)))) (fB (f2 ki (f2 zA (ai 0) (fC (.int 0))) (fC (.str "abcdefghijklmnopqrstuvwxyz"))))))
   (cL (fC (.bl b_)))
   dN
def gI:ah->M H9:=
 (cF (cO)
  (cL (f2 eqM (cn (fItS (ai 0)) [c_] (.nm 0) (fB (f2 ki (ai 0) (fC (.str "abcdefghijklmnopqrstuvwxyz0123456789")))) (ai 0)) (fL bP aC))))
def bY:List A'->M A':=bR 1 1 (gI)
def oJ:ah->M Bool:=
 (xI (fB (f2 eqM (f2 ixD (ai 1) (fC (.int 0))) (fC (.str "kind")))) (fB (f2 eqM (fL jP (aa (ai 1) aC)) (fC (.int 2)))))
def eN:ah->M Bool:=
 (fOr (si (lI (fL (bY) (aa (f2 ixD (ai 1) (fC (.int 1))) aC)))) (fOr (fB (f2 inM (f2 ixD (ai 1) (fC (.int 1))) (ai 2))) (fB (f2 gtD (fL jP (aa (ai 2) aC)) (fC (.int 5))))))
def kz:ah->M A':=
 (f2 ixD (ai 1) (fC (.int 1)))
def oH:ah->M Bool:=
 (xI (fB (f2 inM (f2 ixD (ai 1) (fC (.int 0))) (fL bP (aa (fC (.str "gap")) (aa (fC (.str "beside")) aC))))) (fB (f2 eqM (fL jP (aa (ai 1) aC)) (fC (.int 4)))))
def j9:ah->M A':=
 (fL (bo) (aa (f2 ixD (ai 1) (fC (.int 3))) (aa (f2 DF (fC (.int 10)) (fC (.int 6))) aC)))
def bV:ah->M Bool:=
 (fOr (fB (f2 ip (f2 ixD (ai 1) (fC (.int 1))) (ai 2))) (fOr (fB (f2 ip (f2 ixD (ai 1) (fC (.int 2))) (ai 2))) (fB (f2 ltD (ai 7) (fC (.int 0))))))
def j8:ah->M A':=
 (f2 ixD (ai 1) (fC (.int 0)))
def j7:ah->M A':=
 (f2 ixD (ai 1) (fC (.int 1)))
def j6:ah->M A':=
 (f2 ixD (ai 1) (fC (.int 2)))
def mS:ah->M Bool:=
 (xI (fB (f2 eqM (f2 ixD (ai 1) (fC (.int 0))) (fC (.str "closed")))) (fB (f2 eqM (fL jP (aa (ai 1) aC)) (fC (.int 3)))))
def ic:ah->M A':=
 (fL (bo) (aa (f2 ixD (ai 1) (fC (.int 1))) (aa (f2 DF (fC (.int 10)) (fC (.int 9))) aC)))
def ib:ah->M A':=
 (fL (bo) (aa (f2 ixD (ai 1) (fC (.int 2))) (aa (f2 DF (fC (.int 10)) (fC (.int 9))) aC)))
def cG:ah->M Bool:=
 (fOr (fB (f2 ltD (ai 8) (fC (.int 0)))) (fOr (fB (f2 leD (ai 9) (ai 8))) (fB (f2 gtD (fL jP (aa (ai 6) aC)) (fC (.int 19))))))
def i9:ah->M A':=
 (fL jU (aa (ai 8) (aa (ai 9) aC)))
def mQ:ah->M Bool:=
 (fOr (fB (f2 neM (f2 ixD (ai 1) (fC (.int 0))) (fC (.str "flight")))) (fB (f2 neM (fL jP (aa (ai 1) aC)) (fC (.int 7)))))
def i8:ah->M A':=
 (cn (fIt (fSl de (ai 1) (jZ (fC (.int 3))) oh)) [c_] (.nm 0) iK (fL (bo) (aa (ai 0) (aa (f2 DF (fC (.int 10)) (fC (.int 9))) aC))))
def eV:ah->M Bool:=
 (fOr (si (lI (fL (bY) (aa (f2 ixD (ai 1) (fC (.int 1))) aC)))) (fB (f2 inM (f2 ixD (ai 1) (fC (.int 1))) (ai 4))))
def hV:ah->M Bool:=
 (fOr (fB (f2 ip (f2 ixD (ai 1) (fC (.int 2))) (ai 2))) (fB (f2 ltD (fL minD (aa (ai 10) aC)) (fC (.int 0)))))
def dM:ah->M Bool:=
 (fOr (fB (f2 gtD (f2 ixD (ai 10) (fC (.int 0))) (f2 ixD (ai 10) (fC (.int 1))))) (fB (f2 gtD (fL jP (aa (ai 5) aC)) (fC (.int 39)))))
def fO:ah->M A':=
 (f2 ixD (ai 1) (fC (.int 1)))
def fN:ah->M A':=
 (fL jU (aa (gZ (ai 2) (f2 ixD (ai 1) (fC (.int 2)))) (aa (f2 ixD (ai 10) (fC (.int 0))) (aa (f2 ixD (ai 10) (fC (.int 1))) (aa (f2 ixD (ai 10) (fC (.int 2))) (aa (f2 ixD (ai 10) (fC (.int 3))) aC))))))
def gr:Jst->List A'->M (Bool×Jst):=
 oneD (oJ) (eN) (oH) (bV) (mS) (cG) (mQ) (eV) (hV) (dM) (kz) (j9) (j8) (j7) (j6) (ic) (ib) (i9) (i8) (fO) (fN)
def fP:ah->M A':=
 (fSM oM (ai 0) (fC (.str "\n")))
def cA:ah->M A':=
 (fL (iR) (aa (f2 ixD (ai 2) (ai 3)) aC))
def bh:ah->M Bool:=
 (fB (f2 neM (ai 4) (fL bP aC)))
def cu:ah->M Bool:=
 (fB (f2 neM (f2 zA (f2 ixD (ai 4) (fC (.int 0))) (fC (.int 0))) (fC (.str "#"))))
def cw:ah->M A':=
 (f2 eC (ai 3) (fC (.int 1)))
def eX:ah->M Bool:=
 (fB (f2 eqM (ai 5) (fL bP aC)))
def iB:ah->M A':=
 (fL jU (aa (ai 5) (aa (f2 ixD (ai 10) (fC (.int 0))) (aa (f2 ixD (ai 10) (fC (.int 1))) (aa (ai 7) (aa (ai 8) (aa (ai 9) aC)))))))
def vi:ah->M H9:=
 (Al (gr) (fP) (cA) (cw) (iB) (bh) (cu) (eX))
def i6:List A'->M A':=bR 12 1 (vi)
def ji:ah->M H9:=
 sIf (fB (f2 geD (ai 8) (ai 3)))
   (qD [4] 4 (fJ [(f1 oz (ai 0)),(fC (.str " ")),(f1 oz (ai 5)),(fC (.str " ")),(f1 oz (ai 7)),(fC (.str " ")),(f1 oz (ai 8))]))
   dN
def cT:ah->M H9:=
 (ji)
def gK:ah->M H9:=
 (Am [4] (CJ (ai 1) (ai 6)) (.tp [7,8]) (cT))
def oU:ah->M H9:=
 (cF (bw [] 4 (fL bP aC))
  (cF (Am [4] (CJ (ai 1) (ai 2)) (.tp [5,6]) (gK))
  (cL (ai 4))))
def gL:List A'->M A':=bR 9 4 (oU)
def nE:ah->M H9:=
 (cL (cn (fIt (ai 0)) [c_] (.nm 0) iK (fL nj (aa (ai 0) aC))))
def dO:List A'->M A':=bR 1 1 (nE)
def jQ(CR CP CS CW CD:i_)(n:Nat):ah->M H9:=
 (cL (fL (dO) (aa (f1 (bJ [CR,CP] "gaps") (ai 0)) aC)))
def aY(CR CP CS CW CD:i_)(n:Nat):List A'->M A':=bR 1 1 (jQ CR CP CS CW CD n)
def lG:ah->M H9:=
 (cF (bw [] 3 (f2 eC (fL bP (aa (fC (.str "flight")) (aa (ai 1) (aa (f2 ixD (ai 0) (f2 ixD (ai 2) (fC (.int 0)))) aC)))) (cn (fIt (fSl de (ai 2) (jZ (fC (.int 1))) oh)) [c_] (.nm 0) iK (fL strD (aa (ai 0) aC)))))
  (cL (fSM rg (fC (.str " ")) (ai 3))))
def cS:List A'->M A':=bR 4 3 (lG)
def iZ(CR CP CS CW CD:i_)(n:Nat):ah->M H9:=
 (cL (fL (dO) (aa (f1 (bJ [CP] "beside") (ai 0)) aC)))
def bA(CR CP CS CW CD:i_)(n:Nat):List A'->M A':=bR 1 1 (iZ CR CP CS CW CD n)
def jK(CR CP CS CW CD:i_)(n:Nat):ah->M H9:=
 sIf (lI (f1 (isiC [(CR,b_),(CP,d_)]) (ai 1)))
   (Dm [5] 5 (fL (gL) (aa (fC (.str "beside")) (aa (ai 0) (aa (jV CP "beside_rows" (bA CR CP CS CW CD n) (ai 1) aC) (aa (fC (.int 0)) aC))))))
   dN
def xC(CR CP CS CW CD:i_)(n:Nat):ah->M H9:=
 (cF (bw [] 5 (cn (fIt (ai 0)) [c_] (.nm 0) iK (fJ [(fC (.str "kind ")),(f1 oz (ai 0))])))
  (cF (Dm [5] 5 (fL (gL) (aa (fC (.str "gap")) (aa (ai 0) (aa (jm CR CP "gap_rows" (aY CR CP CS CW CD n) (aY CR CP CS CW CD n) (ai 1) aC) (aa (fC (.int 1)) aC))))))
  (cF (jK CR CP CS CW CD n)
  (cF (Dm [5] 5 (cn (fIt (ai 4)) [c_,c_] (.tp [0,1]) iK (fJ [(fC (.str "closed ")),(f1 oz (ai 0)),(fC (.str " ")),(f1 oz (ai 1))])))
  (cF (Dm [5] 5 (cn (CJ (ai 2) (ai 3)) [c_,c_,a_ 0] (.tp [0,1]) iK (fL (cS) (aa (ai 2) (aa (ai 0) (aa (ai 1) aC))))))
  (cL (fSM rg (fC (.str "")) (cn (fIt (ai 5)) [c_] (.nm 0) iK (f2 eC (ai 0) (fC (.str "\n")))))))))))
def dZ(CR CP CS CW CD:i_)(n:Nat):List A'->M A':=bR 6 5 (xC CR CP CS CW CD n)
def xD:ah->M H9:=
 (cL (cn (zH Av (aa (ai 2) aC)) [c_,a_ 0,a_ 1] (.nm 0) iK (xH (ai 1) (fL jU (aa (ai 2) (aa (ai 0) aC))) (fC (.int 0)))))
def kj:List A'->M A':=bR 3 3 (xD)
def rm:ah->M H9:=
 (cL (cn (zH Av (aa (ai 1) aC)) [c_,a_ 0,a_ 1] (.nm 0) iK (fL (kj) (aa (ai 1) (aa (ai 0) (aa (ai 2) aC))))))
def iu:List A'->M A':=bR 2 2 (rm)
def kZ:ah->M H9:=
 sIf (fOr (si (lI (f1 iT (ai 0)))) (lI (f1 kq (ai 0))))
   (cL (fC (.bl b_)))
   dN
def pS:ah->M H9:=
 (cF (kZ)
  (cL (jo leD leD (fC (.int 0)) (ai 0) (fC (.int 1000000)))))
def fF:List A'->M A':=bR 1 1 (pS)
def oW:ah->M H9:=
 (cL (iM (f1 ko (ai 0)) (iM (f2 eqM (fL jP (aa (ai 0) aC)) (ai 1)) (fL allD (aa (cn (fIt (ai 0)) [c_] (.nm 0) iK (fL (fF) (aa (ai 0) aC))) aC)))))
def eO:List A'->M A':=bR 2 2 (oW)
def jS:ah->M H9:=
 sIf (si (fB (jo leD leD (fC (.int 1)) (ai 1) (fC (.int 6)))))
   sStk
   dN
def jR:ah->M H9:=
 sIf (si (lI (fL allD (aa (cn (fIt (ai 0)) [c_,a_ 1] (.nm 0) iK (fL (eO) (aa (ai 0) (aa (ai 1) aC)))) aC))))
   sStk
   dN
def lH:ah->M H9:=
 (cF (bw [] 1 (fL jP (aa (ai 0) aC)))
  (cF (jS)
  (cF (jR)
  (cL (fL (dO) (aa (ai 0) aC))))))
def aH:List A'->M A':=bR 2 1 (lH)
def gD(CR CP CS CW CD:i_)(n:Nat):ah->M H9:=
 sIf (fB (f2 eqE (f1 (bJ [CD] "beside") (ai 0)) (fC (.dic []))))
   (cL (fL (newR CR (aH)) (aa (ai 2) aC)))
   dN
def iz(CR CP CS CW CD:i_)(n:Nat):ah->M H9:=
 (cF (bw [] 1 (fL jP (aa (f1 (bJ [CD] "kinds") (ai 0)) aC)))
  (cF (bw [] 2 (fL (iu) (aa (f1 (bJ [CD] "gaps") (ai 0)) (aa (ai 1) aC))))
  (cF (gD CR CP CS CW CD n)
  (cL (fL (newP CP (aH)) (aa (ai 2) (aa (fL (iu) (aa (f1 (bJ [CD] "beside") (ai 0)) (aa (ai 1) aC))) aC)))))))
def cv(CR CP CS CW CD:i_)(n:Nat):List A'->M A':=bR 3 1 (iz CR CP CS CW CD n)
def fV:ah->M H9:=
 sIf (fOr (fB (f2 gtD (fL xr (aa (ai 0) aC)) (fC (.int 10)))) (si (lI (fL allD (aa (cn (fItS (ai 0)) [c_] (.nm 0) iK (f2 inSD (ai 0) (fC (.str "0123456789")))) aC)))))
   (cL (fC .non))
   dN
def dQ:ah->M H9:=
 sIf (xI (fB (f2 eqM (f2 zA (ai 0) (fC (.int 0))) (fC (.str "0")))) (fB (f2 neM (ai 0) (fC (.str "0")))))
   (cL (fC .non))
   dN
def iy:ah->M H9:=
 (cF (fV)
  (cF (dQ)
  (cL (fL Er (aa (ai 0) aC)))))
def br:List A'->M A':=bR 1 1 (iy)
def dG:ah->M H9:=
 sIf (fOr (fB (f2 neM (fL jP (aa (ai 1) aC)) (fC (.int 4)))) (fOr (fB (f2 ip (f2 ixD (ai 1) (fC (.int 1))) (ai 0))) (fB (f2 ip (f2 ixD (ai 1) (fC (.int 2))) (ai 0)))))
   (cL (fC .non))
   dN
def gA:ah->M H9:=
 (cF (dG)
  (cF (bw [] 2 (fL (br) (aa (f2 ixD (ai 1) (fC (.int 3))) aC)))
  (cL (fIte (lI (fL (fF) (aa (ai 2) aC))) (fL jU (aa (gZ (ai 0) (f2 ixD (ai 1) (fC (.int 1)))) (aa (gZ (ai 0) (f2 ixD (ai 1) (fC (.int 2)))) (aa (ai 2) aC)))) (fC .non)))))
def bj:List A'->M A':=bR 3 2 (gA)
def nC:ah->M H9:=
 (cL (jo leD leD (fC (.int 0)) (ai 0) (fC (.int 1000000000))))
def fE:List A'->M A':=bR 1 1 (nC)
def eF:ah->M H9:=
 (cF (bw [] 1 (f2 ixD (ai 0) (fC (.int 1))))
  (cF (bw [] 2 (f2 ixD (ai 0) (fC (.int 2))))
  (cL (iM (f2 leD (ai 1) (ai 2)) (fL allD (aa (cn (fIt (fSl de (ai 0) (jZ (fC (.int 1))) oh)) [c_] (.nm 0) iK (fL (fE) (aa (ai 0) aC))) aC))))))
def bu:List A'->M A':=bR 3 1 (eF)
def iG:ah->M H9:=
 sIf (fOr (fB (f2 gtD (fL xr (aa (ai 0) aC)) (fC (.int 8)))) (fB (f2 ki (f2 zA (ai 0) (fC (.int 0))) (fC (.str "abcdefghijklmnopqrstuvwxyz")))))
   (cL (fC (.bl b_)))
   dN
def nB:ah->M H9:=
 (cF (iG)
  (cL (fL allD (aa (cn (fItS (ai 0)) [c_] (.nm 0) iK (CK (f2 inSD (ai 0) (fC (.str "abcdefghijklmnopqrstuvwxyz"))) (f2 inSD (ai 0) (fC (.str "0123456789"))))) aC))))
def gN:List A'->M A':=bR 1 1 (nB)
def cE:ah->M H9:=
 sIf (fOr (fB (f2 neM (fL jP (aa (ai 2) aC)) (fC (.int 7)))) (fOr (fB (f2 geD (fL jP (aa (ai 1) aC)) (fC (.int 40)))) (fB (f2 ip (f2 ixD (ai 2) (fC (.int 2))) (ai 0)))))
   (cL (fC .non))
   dN
def dH:ah->M H9:=
 sIf (fOr (si (lI (fL (gN) (aa (f2 ixD (ai 2) (fC (.int 1))) aC)))) (fB (f2 inM (f2 ixD (ai 2) (fC (.int 1))) (ai 1))))
   (cL (fC .non))
   dN
def iF:ah->M H9:=
 sIf (fB (f2 inM (fC .non) (ai 3)))
   (cL (fC .non))
   dN
def cK:ah->M H9:=
 (cF (cE)
  (cF (dH)
  (cF (bw [] 3 (cn (fIt (fSl de (ai 2) (jZ (fC (.int 3))) oh)) [c_] (.nm 0) iK (fL (br) (aa (ai 0) aC))))
  (cF (iF)
  (cF (bw [] 4 (fL jU (aa (gZ (ai 0) (f2 ixD (ai 2) (fC (.int 2)))) (aa (f2 ixD (ai 3) (fC (.int 0))) (aa (f2 ixD (ai 3) (fC (.int 1))) (aa (f2 ixD (ai 3) (fC (.int 2))) (aa (f2 ixD (ai 3) (fC (.int 3))) aC)))))))
  (cL (fIte (lI (fL (bu) (aa (ai 4) aC))) (ai 4) (fC .non))))))))
def aV:List A'->M A':=bR 5 3 (cK)
def dP:ah->M H9:=
 sIf (fOr (fB (f2 neM (fL jP (aa (ai 1) aC)) (fC (.int 2)))) (fB (f2 geD (fL jP (aa (ai 0) aC)) (fC (.int 6)))))
   (cL (fC .non))
   dN
def gz:ah->M H9:=
 (cF (dP)
  (cL (fIte (xI (lI (fL (gN) (aa (f2 ixD (ai 1) (fC (.int 1))) aC))) (fB (f2 ip (f2 ixD (ai 1) (fC (.int 1))) (ai 0)))) (f2 ixD (ai 1) (fC (.int 1))) (fC .non))))
def bq:List A'->M A':=bR 2 2 (gz)
def oV:ah->M H9:=
 (cL (ky leD ltD leD (fC (.int 0)) (f2 ixD (ai 0) (fC (.int 0))) (f2 ixD (ai 0) (fC (.int 1))) (fC (.int 1000000000))))
def gM:List A'->M A':=bR 1 1 (oV)
def mv:ah->M H9:=
 (cL (iM (f2 leD (fL jP (aa (ai 0) aC)) (fC (.int 20))) (fL allD (aa (cn (fIt (ai 0)) [c_] (.nm 0) iK (fL (gM) (aa (ai 0) aC))) aC))))
def iq:List A'->M A':=bR 1 1 (mv)
def bE:ah->M H9:=
 sIf (fB (f2 neM (fL jP (aa (ai 1) aC)) (fC (.int 3))))
   (cL (fC .non))
   dN
def bZ:ah->M H9:=
 (cF (bE)
  (cF (bw [] 2 (fL jU (aa (fL (br) (aa (f2 ixD (ai 1) (fC (.int 1))) aC)) (aa (fL (br) (aa (f2 ixD (ai 1) (fC (.int 2))) aC)) aC))))
  (cL (fIte (xI (fB (f2 ip (fC .non) (ai 2))) (lI (fL (iq) (aa (f2 eC (ai 0) (fL bP (aa (ai 2) aC))) aC)))) (ai 2) (fC .non)))))
def aT:List A'->M A':=bR 3 2 (bZ)
def bz:List A'->List A'->M (Bool×List A'):=
 nX (fOr (fB (f2 eqM (ai 1) (fL bP aC))) (lI (fSM nZ (f2 ixD (ai 1) (fC (.int 0))) (fC (.str "#")))))
  (fB (f2 eqM (f2 ixD (ai 1) (fC (.int 0))) (fC (.str "kind"))))
  (fB (f2 eqM (f2 ixD (ai 1) (fC (.int 0))) (fC (.str "gap"))))
  (fB (f2 eqM (f2 ixD (ai 1) (fC (.int 0))) (fC (.str "beside"))))
  (fB (f2 eqM (f2 ixD (ai 1) (fC (.int 0))) (fC (.str "closed")))) (f2 eqM (f2 ixD (ai 1) (fC (.int 0))) (fC (.str "flight")))
  (bq) (bj) (aT) (aV)
def tO:ah->M H9:=
 (cL (cn (fIt (fSM oM (ai 0) (fC (.str " ")))) [c_] (.nm 0) (fB (f2 neM (ai 0) (fC (.str "")))) (ai 0)))
def gw:List A'->M A':=bR 1 1 (tO)
def cf(CR CP CS CW CD:i_)(n:Nat):ah->M H9:=
 sIf (fB (f2 eqM (f1 (bJ [CD] "kinds") (ai 1)) (fL bP aC)))
   (Bt CW "row" (aa (fC (.int 0)) aC))
   dN
def iW(CR CP CS CW CD:i_)(n:Nat):ah->M H9:=
 (qC CD CW "row" (bz) (gw) 1 2 3 (fSM oM (ai 0) (fC (.str "\n")))
  (cF (cf CR CP CS CW CD n)
  (fNoX (cL (fL (newS CS (dZ CR CP CS CW CD n)) (aa (f1 (bJ [CD] "kinds") (ai 1)) (aa (fL (cv CR CP CS CW CD n) (aa (ai 1) aC)) (aa (f1 (bJ [CD] "names") (ai 1)) (aa (f1 (bJ [CD] "flights") (ai 1)) (aa (f1 (bJ [CD] "closed") (ai 1)) aC))))))))))
def dA(CR CP CS CW CD:i_)(n:Nat):List A'->M A':=bR 4 1 (iW CR CP CS CW CD n)
def fW(CR CP CS CW CD:i_)(n:Nat):ah->M H9:=
 qB [] CW (bw [] 1 (fL bP (aa (fL (dA CR CP CS CW CD n) (aa (ai 0) aC)) aC))) (sZ 2 1 "row" d_ d_ b_)
def mx(CR CP CS CW CD:i_)(n:Nat):ah->M H9:=
 (cF (bw [] 1 (fL bP aC))
  (cF (fW CR CP CS CW CD n)
  (cL (ai 1))))
def eE(CR CP CS CW CD:i_)(n:Nat):List A'->M A':=bR 3 1 (mx CR CP CS CW CD n)
def kr:ah->M H9:=
 (cL (iM (f1 iT (ai 0)) (f1 notD (f1 kq (ai 0)))))
def dB:List A'->M A':=bR 1 1 (kr)
def kK:ah->M H9:=
 sIf (fOr (si (lI (f1 ko (ai 0)))) (fB (f2 neM (ai 0) (ai 1))))
   (cL (fC (.bl b_)))
   dN
def kJ:ah->M H9:=
 sIf (fOr (si (lI (f1 kW (ai 3)))) (fB (f2 neM (fL jP (aa (ai 3) aC)) (ai 2))))
   (cL (fC (.bl b_)))
   dN
def kH:ah->M H9:=
 sIf (si (lI (fL allD (aa (cn (fIt (ai 3)) [c_] (.nm 0) iK (fL (dB) (aa (ai 0) aC))) aC))))
   (cL (fC (.bl b_)))
   dN
def fZ:ah->M H9:=
 (cF (kJ)
  (kH))
def nF:ah->M H9:=
 (cF (kK)
  (cF (Am [] (fIt (ai 0)) (.nm 3) (fZ))
  (cL (fC (.bl d_)))))
def cH:List A'->M A':=bR 4 3 (nF)
noncomputable def iA:ah->M H9:=
 (cL (fC (.int 1)))
def cI:List A'->M A':=bR 1 1 (iA)
noncomputable def iY:ah->M H9:=
 (cL (fC (.int 2)))
def dm:List A'->M A':=bR 1 1 (iY)
def mG(CR CP CS CW CD:i_)(n:Nat):ah->M H9:=
 sIf (si (lI (f1 (isiC [(CS,d_)]) (ai 0))))
   (cL (fC (.bl b_)))
   dN
def mE(CR CP CS CW CD:i_)(n:Nat):ah->M H9:=
 sIf (fOr (fB (f2 neM (f1 (bJ [CS] "kinds") (ai 0)) (ai 2))) (fB (f2 neM (f1 (bJ [CS] "names") (ai 0)) (ai 5))))
   (cL (fC (.bl b_)))
   dN
def mD(CR CP CS CW CD:i_)(n:Nat):ah->M H9:=
 sIf (fOr (si (lI (fL (cH) (aa (f1 (bJ [CS] "flights") (ai 0)) (aa (ai 6) (aa (fC (.int 5)) aC)))))) (si (lI (fL (cH) (aa (f1 (bJ [CS] "closed") (ai 0)) (aa (ai 7) (aa (fC (.int 2)) aC)))))))
   (cL (fC (.bl b_)))
   dN
def mC(CR CP CS CW CD:i_)(n:Nat):ah->M H9:=
 sIf (fOr (fB (f2 neM (jm CR CP "gap_rows" (aY CR CP CS CW CD n) (aY CR CP CS CW CD n) (f1 (bJ [CS] "rules") (ai 0)) aC) (ai 3))) (fB (f2 neM (jm CR CP "many_strips" (cI) (dm) (f1 (bJ [CS] "rules") (ai 0)) aC) (f2 eC (fC (.int 1)) (fL intD (aa (f2 DX (ai 4) (fC .non)) aC))))))
   (cL (fC (.bl b_)))
   dN
def rq(CR CP CS CW CD:i_)(n:Nat):ah->M H9:=
 (cF (yP [] (.tp [2,3,4,5,6,7]) (ai 1))
  (cF (mG CR CP CS CW CD n)
  (cF (mE CR CP CS CW CD n)
  (cF (mD CR CP CS CW CD n)
  (cF (mC CR CP CS CW CD n)
  (cL (CK (f2 isND (ai 4) (fC .non)) (f2 eqM (jV CP "beside_rows" (bA CR CP CS CW CD n) (f1 (bJ [CS] "rules") (ai 0)) aC) (ai 4)))))))))
def km(CR CP CS CW CD:i_)(n:Nat):List A'->M A':=bR 8 2 (rq CR CP CS CW CD n)
def eB:ah->M H9:=
 sIf (lI (f1 iT (ai 1)))
   (cL (iM (f2 eqM (ai 2) (fL bP (aa (fC .non) (aa (ai 1) (aa (fC (.bl d_)) (aa (fC (.bl d_)) (aa (fC (.bl b_)) aC))))))) (fL (dB) (aa (f2 ixD (ai 2) (fC (.int 1))) aC))))
   dN
def ku(CR CP CS CW CD:i_)(n:Nat):ah->M H9:=
 (cF (bw [] 1 (fL (i6) (aa (ai 0) aC)))
  (cF (bw [] 2 (fL (eE CR CP CS CW CD n) (aa (ai 0) aC)))
  (cF (eB)
  (cL (iM (f2 eqM (fL jP (aa (ai 2) aC)) (fC (.int 1))) (fL (km CR CP CS CW CD n) (aa (f2 ixD (ai 2) (fC (.int 0))) (aa (ai 1) aC))))))))
def bL(CR CP CS CW CD:i_)(n:Nat):List A'->M A':=bR 3 1 (ku CR CP CS CW CD n)
def hG:ah->M H9:=
 sIf (fB (f2 ltD (ai 1) (fL jP (aa (ai 0) aC))))
   (cL (f2 lg (f2 ixD (ai 0) (ai 1)) (f2 DF (fC (.int 10)) (fC (.int 24)))))
   dN
def jd:ah->M H9:=
 (cF (hG)
  (cL (fC (.int 0))))
def aW:List A'->M A':=bR 2 2 (jd)
def ie:ah->M H9:=
 (cF (bw [] 0 (f2 eC (f2 eC (f2 E8 (ai 0) (ai 0)) (f2 E8 (fC (.int 48271)) (ai 0))) (ai 4)))
  (cF (bw [] 0 (f2 lg (ai 0) (fC (.int 2305843009213693951))))
  (bw [] 3 (f2 eC (ai 3) (f2 zA (f2 eC (ai 2) (fC (.str "0123456789"))) (f2 lg (f2 jI (ai 0) (fC (.int 64))) (fC (.int 36))))))))
def rn:ah->M H9:=
 (cF (bw [] 2 (fC (.str "abcdefghijklmnopqrstuvwxyz")))
  (cF (bw [] 3 (f2 eC (f2 zA (ai 2) (f2 lg (ai 0) (fC (.int 26)))) (f2 zA (ai 2) (f2 lg (ai 1) (fC (.int 26))))))
  (cF (Am [] (zH Av (aa (f2 lg (f2 jI (ai 0) (fC (.int 32))) (fC (.int 6))) aC)) (.nm 4) (ie))
  (cL (ai 3)))))
def jA:List A'->M A':=bR 5 2 (rn)
def cq:ah->M H9:=
 (cF (bw [] 0 (f2 eC (f2 eC (f2 E8 (ai 0) (ai 0)) (f2 E8 (fC (.int 48271)) (ai 0))) (ai 3)))
  (cF (bw [] 0 (f2 lg (ai 0) (fC (.int 2305843009213693951))))
  (bw [] 2 (f2 eC (ai 2) (f2 zA (fC (.str "abcdefghijklmnopqrstuvwxyz0123456789")) (f2 lg (f2 jI (ai 0) (fC (.int 64))) (fC (.int 36))))))))
def iX:ah->M H9:=
 (cF (bw [] 2 (f2 eC (f2 zA (fC (.str "abcdefghijklmnopqrstuvwxyz")) (f2 lg (ai 1) (fC (.int 26)))) (f2 zA (fC (.str "0123456789")) (f2 jI (ai 1) (fC (.int 26))))))
  (cF (Am [] (zH Av (aa (f2 lg (f2 jI (ai 0) (fC (.int 32))) (fC (.int 7))) aC)) (.nm 3) (cq))
  (cL (ai 2))))
def dj:List A'->M A':=bR 4 2 (iX)
def rY:ah->M H9:=
 (qD [1] 1 (f2 eC (fC (.str "kind ")) (fL (jA) (aa (fL (aZ) (aa (ai 0) (aa (ai 2) aC))) (aa (ai 2) aC)))))
def rX:ah->M H9:=
 (cF (bw [3] 4 (fL (aZ) (aa (ai 0) (aa (f2 eC (fC (.int 20)) (ai 2)) aC))))
  (cF (bw [3] 5 (fSl ux (f2 ixD (ai 1) (f2 lg (f2 jI (ai 4) (fC (.int 8))) (fL minD (aa (fL jP (aa (ai 1) aC)) (aa (fC (.int 6)) aC))))) (jZ (fC (.int 5))) oh))
  (cF (bw [3] 6 (fL strD (aa (f2 eC (fC (.int 100)) (f2 lg (f2 jI (ai 4) (fC (.int 8192))) (f2 DF (fC (.int 10)) (fC (.int 8))))) aC)))
  (cF (bw [3] 7 (f2 eC (f2 eC (f2 eC (f2 eC (fL strD (aa (f2 lg (f2 jI (ai 4) (fC (.int 64))) (fC (.int 100))) aC)) (fC (.str " "))) (ai 6)) (fC (.str " 7 "))) (fL strD (aa (f2 lg (ai 4) (fC (.int 9))) aC))))
  (qD [3] 3 (f2 eC (f2 eC (f2 eC (f2 eC (f2 eC (fC (.str "flight ")) (fL (dj) (aa (f2 jI (ai 4) (fC (.int 512))) (aa (ai 2) aC)))) (fC (.str " "))) (ai 5)) (fC (.str " "))) (ai 7)))))))
def rW:ah->M H9:=
 (cF (bw [8] 9 (f2 lg (f2 jI (fL (aZ) (aa (ai 0) (aa (f2 eC (fC (.int 70)) (ai 2)) aC))) (fC (.int 8))) (f2 DF (fC (.int 10)) (fC (.int 8)))))
  (qD [8] 8 (f2 eC (f2 eC (f2 eC (fC (.str "closed ")) (fL strD (aa (ai 9) aC))) (fC (.str " "))) (fL strD (aa (f2 eC (f2 eC (ai 9) (fC (.int 1))) (ai 2)) aC)))))
def zY(CR CP CS CW CD:i_)(n:Nat):ah->M H9:=
 sIf (si (lI (fL (bL CR CP CS CW CD n) (aa (fSM rg (fC (.str "\n")) (ai 10)) aC))))
   (cL (fC (.bl b_)))
   dN
def zX(CR CP CS CW CD:i_)(n:Nat):ah->M H9:=
 sIf (si (lI (fL (bL CR CP CS CW CD n) (aa (fSM rg (fC (.str "\n")) (f2 eC (f2 eC (fSl de (ai 1) oh (jZ (fC (.int 6)))) (fSl de (ai 3) oh (jZ (fC (.int 40))))) (fSl de (ai 8) oh (jZ (fC (.int 20)))))) aC))))
   (cL (fC (.bl b_)))
   dN
def g_law(CR CP CS CW CD:i_)(n:Nat):ah->M H9:=
 (cF (bw [] 1 (fL bP aC))
  (cF (Am [1] (zH Av (aa (f2 eC (fC (.int 4)) (f2 lg (fL (aW) (aa (ai 0) (aa (fC (.int 3)) aC))) (fC (.int 4)))) aC)) (.nm 2) (rY))
  (cF (bw [] 3 (fL bP aC))
  (cF (Am [3] (zH Av (aa (f2 eC (fC (.int 37)) (f2 lg (fL (aW) (aa (ai 0) (aa (fC (.int 4)) aC))) (fC (.int 6)))) aC)) (.nm 2) (rX))
  (cF (bw [] 8 (fL bP aC))
  (cF (Am [8] (zH Av (aa (f2 eC (fC (.int 17)) (f2 lg (fL (aW) (aa (ai 0) (aa (fC (.int 5)) aC))) (fC (.int 6)))) aC)) (.nm 2) (rW))
  (cF (bw [] 10 (f2 eC (ai 1) (fL (gO) (aa (fL bP (aa (ai 3) (aa (ai 8) aC))) (aa (ai 0) (aa (fC (.int 100)) aC))))))
  (cF (zY CR CP CS CW CD n)
  (cF (zX CR CP CS CW CD n)
  (cF (bw [] 11 (fL bP (aa (fC (.str "")) (aa (fC (.str "#")) (aa (fC (.str "  # kind a")) (aa (f2 ixD (ai 8) (fC (.int 0))) (aa (f2 ixD (ai 8) (f1 negD (fC (.int 1)))) (aa (fC (.str "   ")) aC))))))))
  (cF (bw [] 12 (cn (zH Av (aa (f2 lg (fL (aW) (aa (ai 0) (aa (fC (.int 6)) aC))) (fC (.int 5))) aC)) [c_,a_ 0,a_ 11] (.nm 0) iK (f2 ixD (ai 2) (f2 lg (f2 jI (fL (aZ) (aa (ai 1) (aa (f2 eC (fC (.int 200)) (ai 0)) aC))) (fC (.int 8))) (fC (.int 6))))))
  (cL (iM (fL (bL CR CP CS CW CD n) (aa (fSM rg (fC (.str "\n")) (ai 12)) aC)) (fL (bL CR CP CS CW CD n) (aa (fSM rg (fC (.str "\n")) (f2 eC (fSl de (ai 1) oh (jZ (fC (.int 1)))) (ai 12))) aC)))))))))))))))
def m_law(CR CP CS CW CD:i_)(n:Nat):List A'->M A':=bR 13 1 (g_law CR CP CS CW CD n)
noncomputable def top(i:Nat):GK:=NG.main.body.getD i (.Pass ⟨0,0,0,0⟩)
abbrev uE:GK:=top 58
abbrev wy:GK:=top 74
abbrev wq:GK:=top 67
abbrev wu:GK:=top 69
abbrev sr:GK:=top 68
abbrev Br:GK:=top 70
abbrev uF:GK:=top 71
abbrev wj:GK:=top 43
abbrev uC:GK:=top 26
abbrev jM:GK:=inClass (top 28) 4
abbrev so:GK:=top 44
abbrev mY:GK:=inClass (top 29) 3
abbrev wg:GK:=top 45
abbrev Dk:GK:=top 52
abbrev yM:GK:=top 53
abbrev s_is_gap:GK:=top 24
abbrev wo:GK:=top 25
abbrev jb:GK:=top 27
abbrev qA:GK:=top 54
abbrev yJ:GK:=top 48
abbrev yK:GK:=top 37
abbrev Bo:GK:=top 39
abbrev Bq:GK:=top 49
abbrev uB:GK:=top 14
abbrev lQ:GK:=top 15
abbrev Dj:GK:=top 36
abbrev uz:GK:=top 41
abbrev uA:GK:=top 50
abbrev yI:GK:=top 38
abbrev wm:GK:=top 19
abbrev yL:GK:=top 20
abbrev sm:GK:=top 40
abbrev Bp:GK:=top 51
abbrev Bn:GK:=top 35
abbrev wk:GK:=top 55
abbrev yN:GK:=top 72
abbrev wt:GK:=top 64
abbrev uD:GK:=top 65
abbrev lR:GK:=inClass (top 28) 2
abbrev mX:GK:=inClass (top 29) 1
abbrev Dl:GK:=top 66
abbrev wx:GK:=top 73
abbrev su:GK:=top 57
abbrev yO:GK:=top 59
abbrev mW:GK:=top 60
abbrev s_law:GK:=top 75
abbrev s_nR:GK:=inClass (top 28) 0
abbrev s_nP:GK:=inClass (top 29) 0
abbrev s_nS:GK:=inClass (top 46) 0
abbrev s_nCW:GK:=inClass (top 9) 0
abbrev s_nD:GK:=inClass (top 47) 0
structure Zs(K:Pn)(mg:Ld)(CR CP CS CW CD AStripError ANoRow ANoRules ANoTime ANoPlace ANotFree ATooMany ANoPlan:i_):Prop where
 uX:mg "StripError"=a_ (.ref AStripError)
 mI_NoRow:mg "NoRow"=a_ (.ref ANoRow)
 BS:mg "NoRules"=a_ (.ref ANoRules)
 Ec:mg "NoTime"=a_ (.ref ANoTime)
 BU:mg "NoPlace"=a_ (.ref ANoPlace)
 BR:mg "NotFree"=a_ (.ref ANotFree)
 BQ:mg "TooMany"=a_ (.ref ATooMany)
 Ed:mg "NoPlan"=a_ (.ref ANoPlan)
 xCW:XTry K mg "NoSheet" CW
 kR:Kls K mg "Rules" CR
 kP:Kls K mg "Pair" CP
 kS:Kls K mg "Sheet" CS
 kD:Kls K mg "Draft" CD
 ki_CR_CP:Gs K (.ref CR) (.ref CP)=a_ b_
 ki_CP_CP:Gs K (.ref CP) (.ref CP)=a_ d_
 pF:Gs K (.ref CW) (.ref AStripError)=a_ d_
 pG:Gs K (.ref CW) (.type "ValueError")=a_ d_
 kT_CW:kitAny K (.ref CW) ([ANoRow,ANoRules,ANoTime,ANoPlace,ANotFree,ATooMany,ANoPlan].map FF)=a_ b_
 ki_CS_CS:Gs K (.ref CS) (.ref CS)=a_ d_
 aCW_row:Fv K CW "row"
 nG:∀C∈[CR,CP],Cls K C/\bp K C "gaps"
 tT:∀C∈[CP],Cls K C/\bp K C "beside"
 Cg:∀C∈[CS],Cls K C/\bp K C "closed"
 zG:∀C∈[CS],Cls K C/\bp K C "flights"
 EB:∀C∈[CS],Cls K C/\bp K C "kinds"
 EA:∀C∈[CS],Cls K C/\bp K C "names"
 rB:∀C∈[CS],Cls K C/\bp K C "rules"
 naS:∀y∈(["kinds","rules","names","flights","closed","text"]:List p_),bp K CS y
 vN:mg "ValueError"=c_
 yx:mg "all"=c_
 z_bool:mg "bool"=c_
 yw:mg "enumerate"=c_
 yv:mg "int"=c_
 ba:mg "isinstance"=c_
 dJ:mg "len"=c_
 vM:mg "list"=c_
 z_min:mg "min"=c_
 ju:mg "range"=c_
 Bf:mg "str"=c_
 z_tuple:mg "tuple"=c_
 z_zip:mg "zip"=c_
 sN:∃t,mg "GREATEST_GAP"=a_ (.int 1000000 t)
 ox:∃t,mg "GREATEST_NUMBER"=a_ (.int 1000000000 t)
 rA:∃t,mg "GREATEST_STOP"=a_ (.int 1000000000 t)
 sM:∃t,mg "MOST_FIGURES"=a_ (.int 10 t)
 sI:∃t,mg "MOST_FLIGHTS"=a_ (.int 40 t)
 oZ:∃t,mg "MOST_KINDS"=a_ (.int 6 t)
 xE:∃t,mg "MOST_SIGNS"=a_ (.int 8 t)
 pJ:∃t,mg "MOST_STRETCHES"=a_ (.int 20 t)
 kit:Kit K
 gs_FIGURES:∃t,mg "FIGURES"=a_ (.str "0123456789" t)
 gs_LETTERS:∃t,mg "LETTERS"=a_ (.str "abcdefghijklmnopqrstuvwxyz" t)
 n_D:∃f fd,Mth K CD "__init__" "Draft.__init__" s_nD ["self"] f fd
 naD:∀y∈(["kinds","gaps","beside","names","flights","closed"]:List p_),bp K CD y
 fldD_beside:∀C∈[CD],Cls K C/\bp K C "beside"
 fldD_closed:∀C∈[CD],Cls K C/\bp K C "closed"
 fldD_flights:∀C∈[CD],Cls K C/\bp K C "flights"
 fldD_gaps:∀C∈[CD],Cls K C/\bp K C "gaps"
 fldD_kinds:∀C∈[CD],Cls K C/\bp K C "kinds"
 fldD_names:∀C∈[CD],Cls K C/\bp K C "names"
 Cq:∃f fd,Def K mg "_law_one" Br ["_law_state","_law_words_here"] f fd
 zO:∃f fd,Def K mg "take_told" yJ ["kept","told"] f fd
 Cp:∃f fd,Def K mg "take_gap" Bq ["kinds","gaps","words"] f fd
 vv:∃f fd,Def K mg "take_flight" uA ["draft","words"] f fd
 Co:∃f fd,Def K mg "take_row" Bp ["draft","words"] f fd
 vE:∃f fd,Def K mg "_law_number" uE ["_law_script","_law_k"] f fd
 xY:∃f fd,Def K mg "_law_mixed" wy ["_law_sorts","_law_script","_law_start"] f fd
 xU:∃f fd,Def K mg "_law_words" wq ["_law_row"] f fd
 xW:∃f fd,Def K mg "_law_value" wu ["_law_word","_law_most"] f fd
 sU:∃f fd,Def K mg "_law_is_name" sr ["_law_word"] f fd
 vF:∃f fd,Def K mg "_law_judged" uF ["_law_text"] f fd
 xQ:∃f fd,Def K mg "shown_gaps" wj ["word","kinds","rows","least"] f fd
 vB:∃f fd,Def K mg "copied_rows" uC ["rows"] f fd
 sR:∃f fd,Def K mg "shown_flight" so ["kinds","name","flight"] f fd
 Fb:∃f fd,Def K mg "text_of" wg ["kinds","rules","names","flights","closed"] f fd
 Ff:∃f fd,Def K mg "gap_row" Dk ["gaps","kind","many"] f fd
 zR:∃f fd,Def K mg "gap_table" yM ["gaps","many"] f fd
 d_is_gap:∃f fd,Def K mg "is_gap" s_is_gap ["number"] f fd
 xT:∃f fd,Def K mg "is_gap_row" wo ["row","kinds"] f fd
 sS:∃f fd,Def K mg "checked_rows" jb ["rows"] f fd
 rO:∃f fd,Def K mg "drafted_rules" qA ["draft"] f fd
 zP:∃f fd,Def K mg "number_of" yK ["word"] f fd
 Cn:∃f fd,Def K mg "told_gap" Bo ["kinds","words"] f fd
 vA:∃f fd,Def K mg "is_in_range" uB ["number"] f fd
 mz:∃f fd,Def K mg "has_right_numbers" lQ ["flight"] f fd
 Fd:∃f fd,Def K mg "is_name" Dj ["word"] f fd
 vt:∃f fd,Def K mg "told_flight" uz ["kinds","names","words"] f fd
 zN:∃f fd,Def K mg "told_kind" yI ["kinds","words"] f fd
 xS:∃f fd,Def K mg "is_stretch" wm ["stretch"] f fd
 zQ:∃f fd,Def K mg "is_closed" yL ["closed"] f fd
 sQ:∃f fd,Def K mg "told_stretch" sm ["closed","words"] f fd
 Cm:∃f fd,Def K mg "words_of" Bn ["row"] f fd
 xR:∃f fd,Def K mg "read_sheet" wk ["text"] f fd
 zS:∃f fd,Def K mg "_law_told" yN ["_law_text"] f fd
 xV:∃f fd,Def K mg "_law_whole" wt ["_law_found"] f fd
 vC:∃f fd,Def K mg "_law_tuples" uD ["_law_found","_law_due","_law_long"] f fd
 Fg:∃f fd,Def K mg "_law_is" Dl ["_law_sheet","_law_data_here"] f fd
 xX:∃f fd,Def K mg "_law_right" wx ["_law_text"] f fd
 sV:∃f fd,Def K mg "_law_cell_at" su ["_law_script","_law_k"] f fd
 zT:∃f fd,Def K mg "_law_name" yO ["_law_number_here","_law_k"] f fd
 nO:∃f fd,Def K mg "_law_flight_name" mW ["_law_number_here","_law_k"] f fd
 d_law:∃f fd,Def K mg "law" s_law ["_law_script"] f fd/\∀(s:y_) (v:j_),Kt s fd ⟨[v],[]⟩ [("_law_script",v)]
 m_M_R_gap_rows:∃f fd,Mth K CR "gap_rows" "Rules.gap_rows" jM ["self"] f fd
 m_M_P_gap_rows:∃f fd,Mth K CP "gap_rows" "Rules.gap_rows" jM ["self"] f fd
 m_M_P_beside_rows:∃f fd,Mth K CP "beside_rows" "Pair.beside_rows" mY ["self"] f fd
 m_M_R_many_strips:∃f fd,Mth K CR "many_strips" "Rules.many_strips" lR ["self"] f fd
 m_M_P_many_strips:∃f fd,Mth K CP "many_strips" "Pair.many_strips" mX ["self"] f fd
 n_P:∃f fd,Mth K CP "__init__" "Pair.__init__" s_nP ["self","gaps","beside"] f fd
 n_R:∃f fd,Mth K CR "__init__" "Rules.__init__" s_nR ["self","gaps"] f fd/\Stat K CR (.type "type") "__init__" f
 n_S:∃f fd,Mth K CS "__init__" "Sheet.__init__" s_nS ["self","kinds","rules","names","flights","closed"] f fd
 n_CW:∃f fd,Mth K CW "__init__" "NoSheet.__init__" s_nCW ["self","row"] f fd/\XMk K mg "NoSheet" CW f
 ne:CR≠CP
noncomputable abbrev Zq(_:Nat)(_:GH)(_:GV)(_:Gv):=Zs
theorem law_d{K:Pn}{st:GK}{ps:List p_}{q:Hv->Prop}(h:∃f fd,Def K mg x st ps f fd/\q fd):∃f fd,Def K mg x st ps f fd:=let ⟨f,fd,D,_⟩:=h;⟨f,fd,D⟩
theorem putGB(a b:V):tF ("beside":p_) b [(("gaps":p_),a)]=[(("gaps":p_),a),(("beside":p_),b)]:=by show(if ("gaps":p_)="beside" then _ else(("gaps":p_),a)::tF "beside" b [])=_;rw[l_ (by decide +kernel)];rfl
theorem sc_nCW:gE ["self","row"] ["self","row"] (aE s_nCW):=⟨rfl,rfl,rfl,by decide +kernel,rfl,by decide +kernel,by decide +kernel⟩
theorem okn_CW{w:GV}{K:Pn}{base:Gv}{f:i_}{fd:Hv}(N:Fun K "__init__" "NoSheet.__init__" s_nCW f fd)(J:Fv K C "row"):iL P w K mg base CX0 1 f fd ["self","row"] (spX1 C "row"):=by
 refine N.okX sc_nCW (λvs H Q E h=>?_) (λcdv A outer s H vs Q E b h=>?_)
 ·obtain⟨a,v1,rfl,_⟩:=h;rfl
 ·obtain⟨a,v1,rfl,Y,q⟩:=h;refine⟨_,aU (ps_x1 (pv 0) (pv 1) J),?_⟩
  exact⟨v1,rfl,_,rfl,a,rfl,Y,λd hd I=>q d hd I⟩
section
variable{w:GV}{base:Gv}{K:Pn}{CR:i_}(Z:Zq n P w base K mg CR CP CS CW CD AStripError ANoRow ANoRules ANoTime ANoPlace ANotFree ATooMany ANoPlan)
include Z
theorem dW:YO Z.vE P w base 1 b_ (aZ):=
 fY ["_law_script","_law_k","_law_cells","_law_cell","_law_number_here"] λz I J=>(aw (eh I (ay (sP x_sl (au 0) jh (jf ae)))) (aw (eh I (ay (aG bS (aG uU ae (au 1)) ae))) (aw (eG (aB o_gt (aD gC Z.dJ E_ (da1 (au 2))) ae) (aA (eh I (aG gX (aQ du (au 2) (aG gX (au 1) (aD gC Z.dJ E_ (da1 (au 2))))) (aG xm ae ae)))) bN) (aw (eh I (aG gX (aG uU (ay (aG bS (ay (aG bS (au 3) (aG uU (aG uU (au 1) (au 1)) ae))) (aD gC Z.dJ E_ (da1 (au 2))))) ae) ae)) (aA (aI (aG gX (ay (aG bS (aG uU (au 4) ae) ae)) ae)))))))
theorem uS:YO Z.xY P w base 2 b_ (gO):=
 fY ["_law_sorts","_law_script","_law_start","_law_rows","_law_left","_law_at"] λz J I=>(aw (EN J (eu eQ)) (ds_mix (ir:=3) (il:=4) (ia:=5) 400 ["_law_sort"] [c_] J (hI (au 0)) (λ_ _ _ _ _=>dE (by decide +kernel)) (aL rfl) (λ_ _ _ _ _=>qJ (aB (sE I.units) (au 0) (ay (eu eQ)))) (λ_ _ _ _ _=>(cN c_list Z.vM Hf (da1 (au 0)))) Eg (aB (sE I.units) (au 4) (ay (eu eQ))) (by refine pb_mix J ?_ ?_;exact(aG gX (aG jO (dY (dW Z) I (da2 (au 1) (ay (aG bS (au 2) (aD gC Z.dJ E_ (da1 (au 3))))))) ae) (aD gC Z.dJ E_ (da1 (au 4))));exact(aB (sd I.units) (aQ du (au 4) (au 5)) (ay (eu eQ)))) (nJ (O2:=[]) (aA (aI (au 3))))))
theorem uR:YO Z.xU P w base 1 b_ (iR):=
 fY ["_law_row"] λz J I=>(aA (aI (ay (cY ["_law_word"] [c_] (hI (ay (rJ pP HR IB (au 0) aP))) (λ_ _ _ _ _=>dE (by decide +kernel)) (aL rfl) (λ_ _ _ _ _=>qJ (aB (sE I.units) (au 0) aP)) (λ_ _ _ _ _=>(au 0))))))
theorem i0:YO Z.xW P w base 1 b_ (bo):=
 fY ["_law_word","_law_most"] λz J I=>(aw (eG (PW.pt (eS (aB o_lt (aD ud Z.dJ E_ (da1 (au 0))) ae) (eS (aB o_gt (aD ud Z.dJ E_ (da1 (au 0))) ae) (dD (aB (sE I.units) (ay (cY ["_law_sign"] [c_] (B3 (au 0)) (λ_ _ _ _ _=>dE (by decide +kernel)) (aL rfl) (λ_ _ _ _ _=>qJ (aB pO (au 0) aP)) (λ_ _ _ _ _=>(au 0)))) (ay (eu eQ))))))) (aA (aI (de_un o_neg ae))) bN) (aw (eG (PW.pt (eS (PW.pt (rF (aB (sd I.units) (aQ qh (au 0) ae) aP) (my (aB (sE I.units) (au 0) aP)))) (dD (aB o_gt (cN Fs Z.yv Iy (da1 (au 0))) (au 1))))) (aA (aI (de_un o_neg ae))) bN) (aA (aI (cN Fs Z.yv Iy (da1 (au 0)))))))
theorem ke:YO Z.sU P w base 1 b_ (bY):=
 fY ["_law_word"] λz J I=>(aw (eG (PW.pt (eS (aB o_lt (aD ud Z.dJ E_ (da1 (au 0))) ae) (eS (aB o_gt (aD ud Z.dJ E_ (da1 (au 0))) ae) (dD (aB pO (aQ qh (au 0) ae) aP))))) (aA (aI lq)) bN) (aA (aI (jq (sd I.units) (ay (cY ["_law_sign"] [c_] (B3 (au 0)) (λ_ _ _ _ _=>dE (by decide +kernel)) (aL rfl) (λ_ _ _ _ _=>qJ (aB pO (au 0) aP)) (λ_ _ _ _ _=>(au 0)))) (ay (eu eQ))))))
theorem zo:YR Z.Cq P w base 2 (spOne K (gr)):=
 fR ["_law_state","_law_words_here","_law_kinds","_law_tables","_law_names","_law_flights","_law_closed","_law_gap_here","_law_start","_law_stop","_law_numbers"] (λ_ _ _ _=>len_one) λz J I vs Q h=>⟨_,(ax (wQ (pv 0) (AE rfl (dh (cU (i:=2) J rfl (by first|exact .inl rfl|exact .inr rfl)) (dh (cU (i:=3) J rfl (by first|exact .inl rfl|exact .inr rfl)) (dh (cU (i:=4) J rfl (by first|exact .inl rfl|exact .inr rfl)) (dh (cU (i:=5) J rfl (by first|exact .inl rfl|exact .inr rfl)) (dh (cU (i:=6) J rfl (by first|exact .inl rfl|exact .inr rfl)) uK))))))) (ax (gW (PW.pt (rF (aB (sd I.units) (aQ du (au 1) ae) aP) (my (aB (sd I.units) (aD gC Z.dJ E_ (da1 (au 1))) ae)))) (ax (gW (PW.pt (eS (iC (dR (dY (ke Z) I (da1 (aQ du (au 1) ae))))) (eS (aB (o_in I.units) (aQ du (au 1) ae) (au 2)) (dD (aB o_gt (aD gC Z.dJ E_ (da1 (au 2))) ae))))) (aU (ck jx)) bC) (ax (gu (lY FX Gf Gm dX (pv 2) (av (aQ du (au 1) ae) aK))) (aU (ck jx)))) bC) (ax (gW (PW.pt (rF (aB (o_in I.units) (aQ du (au 1) ae) (ay (eu (da2 aP aP)))) (my (aB (sd I.units) (aD gC Z.dJ E_ (da1 (au 1))) ae)))) (ax (jX (i:=7) J rfl (by first|exact .inl rfl|exact .inr rfl) (dY (i0 Z) I (da2 (aQ du (au 1) ae) (aG xm ae ae)))) (ax (gW (PW.pt (eS (aB (kg I.units) (aQ du (au 1) ae) (au 2)) (eS (aB (kg I.units) (aQ du (au 1) ae) (au 2)) (dD (aB o_lt (au 7) ae))))) (aU (ck jx)) bC) (ax (ps_dput (hU I.units) (ze (hU I.units) (pv 3) (aQ du (au 1) ae) (λ_ _=>rfl)) (wV (av (aQ du (au 1) ae) (av (aQ du (au 1) ae) aK))) (pv 7) rfl) (aU (ck jx))))) bC) (ax (gW (PW.pt (rF (aB (sd I.units) (aQ du (au 1) ae) aP) (my (aB (sd I.units) (aD gC Z.dJ E_ (da1 (au 1))) ae)))) (ax (jX (i:=8) J rfl (by first|exact .inl rfl|exact .inr rfl) (dY (i0 Z) I (da2 (aQ du (au 1) ae) (aG xm ae ae)))) (ax (jX (i:=9) J rfl (by first|exact .inl rfl|exact .inr rfl) (dY (i0 Z) I (da2 (aQ du (au 1) ae) (aG xm ae ae)))) (ax (gW (PW.pt (eS (aB o_lt (au 8) ae) (eS (aB DV (au 9) (au 8)) (dD (aB o_gt (aD gC Z.dJ E_ (da1 (au 6))) ae))))) (aU (ck jx)) bC) (ax (gu (lY FX Gf Gm dX (pv 6) (av (ph (da2 (au 8) (au 9))) aK))) (aU (ck jx)))))) bC) (ax (gW (PW.pt (eS (aB (sE I.units) (aQ du (au 1) ae) aP) (dD (aB (sE I.units) (aD gC Z.dJ E_ (da1 (au 1))) ae)))) (aU (ck jx)) bC) (ax (ps_compD (i:=10) ["_law_word"] [c_] J (hI (ay (sP x_sl (au 1) (jf ae) jh))) (λ_ _ _ _ _=>dE (by decide +kernel)) (aL rfl) (λ_ _ _ _ _=>cW) (λ_ _ _ _ _=>(dY (i0 Z) I (da2 (au 0) (aG xm ae ae))))) (ax (gW (PW.pt (eS (iC (dR (dY (ke Z) I (da1 (aQ du (au 1) ae))))) (dD (aB (o_in I.units) (aQ du (au 1) ae) (au 4))))) (aU (ck jx)) bC) (ax (gW (PW.pt (eS (aB (kg I.units) (aQ du (au 1) ae) (au 2)) (dD (aB o_lt (aD (c_min rfl) Z.z_min boot_min (da1 (au 10))) ae)))) (aU (ck jx)) bC) (ax (gW (PW.pt (eS (aB o_gt (aQ du (au 10) ae) (aQ du (au 10) ae)) (dD (aB o_gt (aD gC Z.dJ E_ (da1 (au 5))) ae)))) (aU (ck jx)) bC) (ax (gu (lY FX Gf Gm dX (pv 4) (av (aQ du (au 1) ae) aK))) (ax (gu (lY FX Gf Gm dX (pv 5) (av (ph (da5 (nM I.units (au 2) (aQ du (au 1) ae)) (aQ du (au 10) ae) (aQ du (au 10) ae) (aQ du (au 10) ae) (aQ du (au 10) ae))) aK))) (aU (ck jx))))))))))))),rs_one h⟩
theorem sC:YO Z.vF P w base 3 b_ (i6):=
 fY ["_law_text","_law_state","_law_rows","_law_k","_law_words_here","_law_kinds","_law_tables","_law_names","_law_flights","_law_closed","_law_made","_law_word"] λz I J=>(by refine ds_judge ?_;intro F0 H0;refine ax ?_ ?_;refine jX (i:=1) ?_ ?_ ?_ ?_;exact I;exact rfl;(first|exact .inl rfl|exact .inr rfl);refine wV ?_;refine av ?_ ?_;refine jN ?_;exact aK;refine av ?_ ?_;refine pe_disp ?_ ?_ ?_ ?_ ?_;refine AD ?_ ?_ ?_;exact tG;exact uM;refine AD ?_ ?_ ?_;exact tG;exact uM;exact pps_nil;exact rfl;exact rfl;exact List.cons_ne_nil _ _;exact Nat.le_of_ble_eq_true rfl;refine av ?_ ?_;refine jN ?_;exact aK;refine av ?_ ?_;refine jN ?_;exact aK;refine av ?_ ?_;refine jN ?_;exact aK;exact aK;refine ax ?_ ?_;exact(jX (i:=2) I rfl (by first|exact .inl rfl|exact .inr rfl) (ay (rJ pP HR IB (au 0) aP)));refine ax ?_ ?_;refine AB ?_ ?_ ?_ ?_ ?_;exact Mh;exact rfl;exact(wU rfl Z.ju (av (aD gC Z.dJ E_ (da1 (au 2))) aK));exact(cU (i:=3) I rfl (by first|exact .inl rfl|exact .inr rfl));refine ax ?_ ?_;exact(jX (i:=4) I rfl (by first|exact .inl rfl|exact .inr rfl) (dY (uR Z) J (da1 (aQ du (au 2) (au 3)))));refine aU ?_;refine gW ?_ ?_ ?_;refine PW.pt ?_;refine DD ?_ ?_;exact(aB (sE J.units) (au 4) (ay (eu eQ)));refine DD ?_ ?_;exact(aB (sE J.units) (aQ qh (aQ du (au 4) ae) ae) aP);refine DC ?_;exact(AA (pN (pY (zo Z) J (av (pv 1) (av (pv 4) aK))) (λ_=>rfl)));refine aU ?_;refine ck ?_;exact(ay (aG bS (au 3) ae));exact bC;refine ax ?_ ?_;exact(wQ (pv 1) (AE rfl (dh (cU (i:=5) I rfl (by first|exact .inl rfl|exact .inr rfl)) (dh (cU (i:=6) I rfl (by first|exact .inl rfl|exact .inr rfl)) (dh (cU (i:=7) I rfl (by first|exact .inl rfl|exact .inr rfl)) (dh (cU (i:=8) I rfl (by first|exact .inl rfl|exact .inr rfl)) (dh (cU (i:=9) I rfl (by first|exact .inl rfl|exact .inr rfl)) uK)))))));refine ax ?_ ?_;exact(gW (aB (sd J.units) (au 5) (ay (eu eQ))) (aU (ck wW)) bC);refine ax ?_ ?_;exact(jX (i:=10) I rfl (by first|exact .inl rfl|exact .inr rfl) (jN aK));refine ax ?_ ?_;exact(AB Mh rfl (zb (jN (av tG (av tG aK)))) (cU (i:=11) I rfl (by first|exact .inl rfl|exact .inr rfl)) (aU (gu (lY FX Gf Gm dX (pv 10) (av (zf ["_law_one_here","_law_kinds","_law_tables","_law_word"] [c_,a_ 5,a_ 6,a_ 11] rfl (zb (pv 5)) (λ_ _ _ _ _=>dE (K:=K) (by decide +kernel)) (aL rfl) (λ_ _ _ _ _=>yZ) (λ_ _ _ _ _=>(zf ["_law_other","_law_one_here","_law_tables","_law_word"] [c_,a_ 0,a_ 2,a_ 3] rfl (zb (pv 1)) (λ_ _ _ _ _=>dE (K:=K) (by decide +kernel)) (aL rfl) (λ_ _ _ _ _=>yZ) (λ_ _ _ _ _=>pe_dget2 (hU J.units) (ze (hU J.units) (pv 2) (pv 3) (λ_ _=>rfl)) (wV (av (pv 1) (av (pv 0) aK))) wW ⟨rfl,rfl,rfl,rfl⟩)))) aK)))));refine ax ?_ ?_;exact(gW (z9 (op_eqT J.units) (ze (hU J.units) (pv 6) tG (λ_ _=>rfl)) uM (AI _)) (aU ((ds_setI gm ae) F0 H0)) bC);refine aU ?_;refine ck ?_;exact(ph (da6 (au 5) (aQ du (au 10) ae) (aQ du (au 10) ae) (au 7) (au 8) (au 9))))
theorem n5:YO Z.xQ P w base 1 d_ (gL):=
 fY ["word","kinds","rows","least","shown","kind","row","other","gap"] λz I J=>(aw (EN I (eu eQ)) (aw (pf (pt:=.tp [5,6]) (EX Z.z_zip (au 1) (au 2)) (EY rfl (gJ (i:=5) I (gJ (i:=6) I rG))) (aA (pf (pt:=.tp [7,8]) (EX Z.z_zip (au 1) (au 6)) (EY rfl (gJ (i:=7) I (gJ (i:=8) I rG))) (aA (eG (aB o_ge (au 8) (au 3)) (aA (vo (i:=4) (zL (gB (rN (au 0)) (gB aP (gB (rN (au 5)) (gB aP (gB (rN (au 7)) (gB aP (gB (rN (au 8)) ET)))))))))) bN))))) (aA (ds_retV (i:=4)))))
theorem gG:YO Z.vB P w base 1 b_ (dO):=
 fY ["rows"] λz I J=>(aA (aI (ay (cY ["row"] [c_] (hI (au 0)) (λ_ _ _ _ _=>dE (by decide +kernel)) (aL rfl) (λ_ _ _ _ _=>cW) (λ_ _ _ _ _=>(ay (cN c_list Z.vM Hf (da1 (au 0)))))))))
theorem lB:YM Z.m_M_R_gap_rows P w mg base 2 b_ (aY CR CP CS CW CD n):=
 fM ["self"] λz J I=>(aA (aI (dY (gG Z) I (da1 (fQ (Cs:=[CR,CP]) Z.nG (au 0))))))
theorem lC:YM Z.m_M_P_gap_rows P w mg base 2 b_ (aY CR CP CS CW CD n):=
 fM ["self"] λz J I=>(aA (aI (dY (gG Z) I (da1 (fQ (Cs:=[CR,CP]) Z.nG (au 0))))))
theorem qS:YO Z.sR P w base 1 b_ (cS):=
 fY ["kinds","name","flight","words"] λz I J=>(aw (eh I (ay (aG bS (ay (eu (da3 aP (au 1) (aQ du (au 0) (aQ du (au 2) ae))))) (ay (cY ["number"] [c_] (hI (ay (sP x_sl (au 2) (jf ae) jh))) (λ_ _ _ _ _=>dE (by decide +kernel)) (aL rfl) (λ_ _ _ _ _=>cW) (λ_ _ _ _ _=>(cN Cw Z.Bf Hq (da1 (au 0))))))))) (aA (aI (rJ oo G6 Hu aP (au 3)))))
theorem jl:YM Z.m_M_P_beside_rows P w mg base 2 b_ (bA CR CP CS CW CD n):=
 fM ["self"] λz J I=>(aA (aI (dY (gG Z) I (da1 (fQ (Cs:=[CP]) Z.tT (au 0))))))
theorem BH:YO Z.Fb P w base 3 b_ (dZ CR CP CS CW CD n):=
 fY ["kinds","rules","names","flights","closed","rows"] λz e a=>let ⟨_,_,d,I⟩:=jl Z;let ⟨_,_,b,Y⟩:=lC Z;let ⟨_,_,c,J⟩:=lB Z;(aw (vn (i:=5) d_ ["name"] [c_] e (hI (au 0)) (λ_ _ _ _ _=>dE (by decide +kernel)) (aL rfl) (λ_ _ _ _ _=>cW) (λ_ _ _ _ _=>(zL (gB aP (gB (rN (au 0)) ET))))) (aw (B1 (i:=5) (dY (n5 Z) a (da4 aP (au 0) (rK Z.kR.cl c.mt J a c.bd Z.kP.cl b.mt Y a b.bd (au 1)) ae))) (aw (eG (dR (EZ (tb:=[(CR,b_),(CP,d_)]) (isi2 ⟨⟨_,Z.kR⟩,Z.ki_CR_CP⟩ ⟨⟨_,Z.kP⟩,Z.ki_CP_CP⟩) Z.ba Z.kP.mg (au 1))) (aA (B1 (i:=5) (dY (n5 Z) a (da4 aP (au 0) (xO Z.kP.cl d.mt I a d.bd (au 1)) ae)))) bN) (aw (B1 (i:=5) (cY ["start","stop"] [c_,c_] (hI (au 4)) (λ_ _ _ _ _=>EY rfl (nK (i:=0) (by decide +kernel) (nK (i:=1) (by decide +kernel) rG))) (xt (by decide)) (λ_ _ _ _ _=>cW) (λ_ _ _ _ _=>(zL (gB aP (gB (rN (au 0)) (gB aP (gB (rN (au 1)) ET)))))))) (aw (B1 (i:=5) (cY ["name","flight","kinds"] [c_,c_,a_ 0] (EX Z.z_zip (au 2) (au 3)) (λ_ _ _ _ _=>EY rfl (nK (i:=0) (by decide +kernel) (nK (i:=1) (by decide +kernel) rG))) (xt (by decide)) (λ_ _ _ _ _=>cW) (λ_ _ _ _ _=>(dY (qS Z) a (da3 (au 2) (au 0) (au 1)))))) (nJ (O2:=[]) (aA (aI (rJ oo G6 Hu aP (ay (cY ["row"] [c_] (hI (au 5)) (λ_ _ _ _ _=>dE (by decide +kernel)) (aL rfl) (λ_ _ _ _ _=>cW) (λ_ _ _ _ _=>(ay (aG bS (au 0) aP))))))))))))))
end
theorem sc_nS:gE ["self","kinds","rules","names","flights","closed"] ["self","kinds","rules","names","flights","closed"] (aE s_nS):=⟨rfl,rfl,rfl,by decide +kernel,rfl,by decide +kernel,by decide +kernel⟩
theorem okn_S{w:GV}{K:Pn}{base:Gv}{CR:i_}{J f:i_}{I fd:Hv}(D:Def K mg "text_of" wg ["kinds","rules","names","flights","closed"] J I)(d:iL P w K mg base CX0 3 J I ["kinds","rules","names","flights","closed"] (spF K b_ (dZ CR CP CS CW CD n) 5))(N:Fun K "__init__" "Sheet.__init__" s_nS f fd)(c:Cls K C)(a:∀y∈(["kinds","rules","names","flights","closed","text"]:List p_),bp K C y)(Y:mg "list"=c_):iL P w K mg base CX0 4 f fd ["self","kinds","rules","names","flights","closed"] (spIS K C (dZ CR CP CS CW CD n)):=
 N.okX sc_nS (λvs H Q E h=>by obtain⟨_,_,_,_,_,_,_,_,_,_,_,_,_,_,_,_,_,_,rfl,_⟩:=h;rfl) λcdv A outer s H vs Q E b h=>
  ⟨_,ax (iO (pv 0) (jY gQ rfl Y Hf (av (pv 1) aK)) rfl) (ax (iO (pv 0) (pv 2) rfl) (ax (iO (pv 0) (jY gQ rfl Y Hf (av (pv 3) aK)) rfl) (ax (iO (pv 0) (jY gQ rfl Y Hf (av (pv 4) aK)) rfl)
   (ax (iO (pv 0) (jY gQ rfl Y Hf (av (pv 5) aK)) rfl) (aU (iO (pv 0) (qN d b (by rfl) D.mg D.fn.kp D.bd .nil qO (av (pv 1) (av (pv 2) (av (pv 3) (av (pv 4) (av (pv 5) aK)))))) rfl)))))),rs_initS c a h⟩
section
variable{w:GV}{base:Gv}{K:Pn}{CR:i_}(Z:Zq n P w base K mg CR CP CS CW CD AStripError ANoRow ANoRules ANoTime ANoPlace ANotFree ATooMany ANoPlan)
include Z
theorem BI:YO Z.Ff P w base 1 b_ (kj):=
 fY ["gaps","kind","many"] λz J I=>(aA (aI (ay (cY ["other","gaps","kind"] [c_,a_ 0,a_ 1] (kA Z.ju (da1 (au 2))) (λ_ _ _ _ _=>dE (by decide +kernel)) (aL rfl) (λ_ _ _ _ _=>cW) (λ_ _ _ _ _=>(de_getD I.units (au 1) (ph (da2 (au 2) (au 0))) ae))))))
theorem oO:YO Z.zR P w base 2 b_ (iu):=
 fY ["gaps","many"] λz J I=>(aA (aI (ay (cY ["kind","gaps","many"] [c_,a_ 0,a_ 1] (kA Z.ju (da1 (au 1))) (λ_ _ _ _ _=>dE (by decide +kernel)) (aL rfl) (λ_ _ _ _ _=>cW) (λ_ _ _ _ _=>(dY (BI Z) I (da3 (au 1) (au 0) (au 2))))))))
theorem wZ:YO Z.d_is_gap P w base 1 b_ (fF):=
 fY ["number"] λz I J=>(aw (eG (PW.pt (eS (iC (dR (oB Z.kit Z.ba Z.yv (au 0)))) (dD (dR (rM Z.kit Z.ba Z.z_bool (au 0)))))) (aA (aI lq)) bN) (aA (aI (B8 DV DV ae (au 0) (jJ Z.sN)))))
theorem uQ:YO Z.xT P w base 2 b_ (eO):=
 fY ["row","kinds"] λz J I=>(aA (aI (pj (rL Z.kit Z.ba Z.vM (au 0)) (pj (jq (sd I.units) (aD gC Z.dJ E_ (da1 (au 0))) (au 1)) (nL (aD (A0 rfl) Z.yx Kn (da1 (ay (cY ["number"] [c_] (hI (au 0)) (λ_ _ _ _ _=>dE (by decide +kernel)) (aL rfl) (λ_ _ _ _ _=>cW) (λ_ _ _ _ _=>(dY (wZ Z) I (da1 (au 0)))))))))))))
theorem kb:YO Z.sS P w base 3 b_ (aH):=
 fY ["rows","kinds"] λz J I=>(aw (eh J (aD gC Z.dJ E_ (da1 (au 0)))) (aw (eG (iC (dt_chain DV DV ae (au 1) (jJ Z.oZ))) (aA ds_stk) bN) (aw (eG (iC (dR (aD (A0 rfl) Z.yx Kn (da1 (ay (cY ["row","kinds"] [c_,a_ 1] (hI (au 0)) (λ_ _ _ _ _=>dE (by decide +kernel)) (aL rfl) (λ_ _ _ _ _=>cW) (λ_ _ _ _ _=>(dY (uQ Z) I (da2 (au 0) (au 1)))))))))) (aA ds_stk) bN) (aA (aI (dY (gG Z) I (da1 (au 0))))))))
end
theorem sc_nR:gE ["self","gaps"] ["self","gaps"] (aE s_nR):=⟨rfl,rfl,rfl,by decide +kernel,rfl,by decide +kernel,by decide +kernel⟩
theorem okn_R{P : GH}{w : GV}{K : Pn}{mg : p_ -> Option j_}{base : Gv}{C f: i_}(Y : Def K mg "checked_rows" jb ["rows"] ee dC)(x : iL P w K mg base CX0 3 ee dC ["rows"] (spF K b_ (aH) 1))(N : Fun K "__init__" "Rules.__init__" s_nR f fd)(t : Cls K C)(k : bp K C "gaps"): iL P w K mg base CX0 4 f fd ["self", "gaps"] (spI1 K C (aH)) := by
  refine N.okX sc_nR (λvs H Q E h => ?_) (λcdv A outer s H vs Q E m h => ?_)
  · obtain⟨p,dx,v,F,d,rfl,_⟩ := h
    rfl
  · obtain⟨p,dx,v,F,d,rfl,a,n,g,j,q⟩ := h
    refine⟨_,aU (iO (pv 0) (qN x m (by rfl) Y.mg Y.fn.kp Y.bd .nil qO (av (pv 1) aK)) rfl),?_⟩
    refine⟨v,rfl,F,[d],g,⟨v,[],rfl,j,rfl⟩,rfl,?_⟩
    skip;cases b : aH [d]with
    | error e => rw[b]at q; exact q| ok r =>
      rw[b]at q;intro u F' H' st i;have I : F' p = c_ := by
        cases l : F' p with
        | none => rfl| some o =>
          rcases st.nw p o l with z | z
          · rw[n]at z; cases z
          · rw[a]at z; cases z
      refine⟨_,rfl,p,C,dx,[],rfl,st.hh _ _ a,t,k,(by show 0 < 1000; decide),?_⟩
      refine q u F' _ st.ff (λc o e => ?_) I st.nw (λc o e J => by rw[aq J]; exact st.hh _ _ e) ao i;have J : c ≠ p :=λz => by rw[z,I]at e; cases e
      rw[aq J];exact st.fh _ _ e
theorem sc_nP:gE ["self","gaps","beside"] ["self","gaps","beside"] (aE s_nP):=⟨rfl,rfl,rfl,by decide +kernel,rfl,by decide +kernel,by decide +kernel⟩
theorem okn_P{P : GH}{w : GV}{K : Pn}{mg : p_ -> Option j_}{base : Gv}{CR CP : i_}{f L: i_}{a: Hv}{mc : j_}(n : Def K mg "checked_rows" jb ["rows"] ee dC)(OK : iL P w K mg base CX0 3 ee dC ["rows"] (spF K b_ (aH) 1))(S : Stat K CR mc "__init__" L)(bI : Binds K a ["self", "gaps"] [])(FI : iL P w K mg base CX0 4 L a ["self", "gaps"] (spI1 K CP (aH)))(mR : mg "Rules" = a_ (.ref CR))(t : mg "len" = c_)(N : Fun K "__init__" "Pair.__init__" s_nP f fd)(m : Cls K CP)(na : bp K CP "gaps")(B : bp K CP "beside"): iL P w K mg base CX0 5 f fd ["self", "gaps", "beside"] (spI2 K CP (aH)) := by
  refine N.okX sc_nP (λvs H Q E h => ?_) (λcdv A outer s H vs Q E C h => ?_)
  · obtain⟨p,dx,v,i,F,d,d2,rfl,_⟩ := h
    rfl
  · obtain⟨p,dx,v,i,F,d,d2,rfl,hp,hF,s1,qd,k,q⟩ := h
    refine⟨_,ax (gu (pe_cmeth S (by rfl) mR FI C bI .nil qO (av (pv 0) (av (pv 1) aK))))
      (ax (iO (pv 0) (qN OK (C.mono (by decide)) (by rfl) n.mg n.fn.kp n.bd .nil qO (av (pv 2) aK)) rfl)
      (aU (gW (z9 op_ne (iP kE (by rfl) t E_ (av (ik (pv 0) rfl) aK)) (iP kE (by rfl) t E_ (av (ik (pv 0) rfl) aK)) (AI _)) wN bC))),?_⟩
    refine⟨_,rfl,_,rfl,p,dx,v,F,d,rfl,hp,hF,s1,qd,?_⟩
    cases D : aH [d]with
    | error e => rw[D]at q; exact q| ok r =>
      rw[D,aj]at q;intro u F1 H1 a1 a2 a3 a4 T R O;refine⟨i,rfl,F1,[d2],a2,⟨i,[],rfl,aR.mono a1 k,rfl⟩,rfl,?_⟩
      skip;cases Y : aH [d2]with
      | error e => rw[Y]at q; exact GA q| ok r2 =>
        rw[Y,aj]at q;intro x F2 H2 st y;by_cases J : twoL r r2 = d_
        · rw[g_ J]at q
          have I : F2 p = c_ := by
            cases l : F2 p with
            | none => rfl| some o =>
              rcases st.nw p o l with z | z
              · rw[a3]at z; cases z
              · rw[R]at z; cases z
          refine⟨_,rfl,p,CP,dx,_,rfl,st.hh _ _ R,m,B,(by show 1 < 1000; decide),?_⟩
          rw[putGB];have j : aF F2 (upd H2 p (.ins CP dx [("gaps", u),("beside", x)])) :=λc o e => by
            have g : c ≠ p :=λz => by rw[z,I]at e; cases e
            rw[aq g];exact st.fh _ _ e
          cases r with
          | lst xs =>
            cases r2 with
            | lst ys =>
              have hl : xs.length = ys.length := IE J;obtain⟨g1,Z,e1,t1,W⟩ := aR.mono st.ff O;obtain⟨g2,X,e2,t2,U⟩ := id y;refine⟨_,rfl,p,CP,dx,_,_,rfl,ao,m,B,rfl,g2,_,by rw[e2],.inl (j.lst t2),_,rfl,p,CP,dx,_,_,rfl,ao,m,na,rfl,g1,_,by rw[e1],.inl (j.lst t1),rfl,_,rfl,?_⟩
              refine iteNS (by rw[W.length,U.length,hl]) ?_;refine q u x F2 _ (a1.trans st.ff) j I (λb o e => ?_) (λc o e g => by rw[aq g]; exact st.hh _ _ (T c o e g)) ao (aR.mono st.ff O) y;rcases st.nw b o e with z | z
              · exact a4 b o z
              · refine .inr ?_
                cases l : H b with
                | none => rfl| some o' =>
                  by_cases G : b = p
                  · subst G; rw[I]at e; cases e
                  · rw[T b o' l G]at z; cases z
            | _ => cases J
          | _ => cases J
        · rw[l_ J]at q; exact GA q
section
variable{w:GV}{base:Gv}{K:Pn}{CR:i_}(Z:Zq n P w base K mg CR CP CS CW CD AStripError ANoRow ANoRules ANoTime ANoPlace ANotFree ATooMany ANoPlan)
include Z
theorem on_P:∃f fd,Mth K CP "__init__" "Pair.__init__" s_nP ["self","gaps","beside"] f fd/\iL P w K mg base CX0 5 f fd ["self","gaps","beside"] (spI2 K CP (aH)):=
 let ⟨_,_,Y⟩:=kb Z;let ⟨_,_,N,S⟩:=Z.n_R;let ⟨_,_,M⟩:=Z.n_P;⟨_,_,M,okn_P Y.d Y.o S N.bd (okn_R (C:=CP) Y.d Y.o N.fn Z.kP.cl (Z.nG CP (by simp)).2) Z.kR.mg Z.dJ M.fn Z.kP.cl (Z.nG CP (by simp)).2 (Z.tT CP (by simp)).2⟩
theorem on_R:∃f fd,Mth K CR "__init__" "Rules.__init__" s_nR ["self","gaps"] f fd/\iL P w K mg base CX0 4 f fd ["self","gaps"] (spI1 K CR (aH)):=
 let ⟨_,_,Y⟩:=kb Z;let ⟨_,_,N,_⟩:=Z.n_R;⟨_,_,N,okn_R Y.d Y.o N.fn Z.kR.cl (Z.nG CR (by simp)).2⟩
theorem pD:YO Z.rO P w base 7 b_ (cv CR CP CS CW CD n):=
 fY ["draft","many","gaps"] λz c b=>let ⟨_,_,a,J⟩:=on_P Z;let ⟨_,_,Y,I⟩:=on_R Z;(aw (eh c (aD gC Z.dJ E_ (da1 (fQ (Cs:=[CD]) Z.fldD_kinds (au 0))))) (aw (eh c (dY (oO Z) b (da2 (fQ (Cs:=[CD]) Z.fldD_gaps (au 0)) (au 1)))) (aw (eG (aB (o_eqE b.units) (fQ (Cs:=[CD]) Z.fldD_beside (au 0)) (ay de_newK)) (aA (aI (de_newR ⟨Z.kR.mks,Y.mt.at_,Y.mt.fn,Z.kR.kp⟩ I (b.mono (by decide)) Z.kR.mg Y.bd (da1 (au 2))))) bN) (aA (aI (de_newP ⟨Z.kP.mks,a.mt.at_,a.mt.fn,Z.kP.kp⟩ J b Z.kP.mg a.bd (da2 (au 2) (dY (oO Z) b (da2 (fQ (Cs:=[CD]) Z.fldD_beside (au 0)) (au 1))))))))))
theorem k7:YR Z.zO P w base 1 mU:=
 fR ["kept","told"] (λ_ _ _ _=>len_told) λz I J vs Q h=>⟨_,(ax (gW (pt_cmp (pc_isN (pv 1))) (aU (ck jx)) bC) (ax (gu (lY FX Gf Gm dX (pv 0) (av (pv 1) aK))) (aU (ck jx)))),rs_told h⟩
theorem iQ:YO Z.zP P w base 1 b_ (br):=
 fY ["word"] λz J I=>(aw (eG (PW.pt (eS (aB o_gt (aD ud Z.dJ E_ (da1 (au 0))) (jJ Z.sM)) (dD (iC (dR (aD (A0 rfl) Z.yx Kn (da1 (ay (cY ["sign"] [c_] (B3 (au 0)) (λ_ _ _ _ _=>dE (by decide +kernel)) (aL rfl) (λ_ _ _ _ _=>cW) (λ_ _ _ _ _=>(jq o_inS (au 0) (vq Z.gs_FIGURES)))))))))))) (aA (aI gm)) bN) (aw (eG (PW.pt (rF (aB (sd I.units) (aQ qh (au 0) ae) aP) (my (aB (sE I.units) (au 0) aP)))) (aA (aI gm)) bN) (aA (aI (cN Fs Z.yv Iy (da1 (au 0)))))))
theorem zi:YO Z.Cn P w base 2 b_ (bj):=
 fY ["kinds","words","gap"] λz J I=>(aw (eG (PW.pt (eS (aB (sE I.units) (aD gC Z.dJ E_ (da1 (au 1))) ae) (eS (aB (kg I.units) (aQ du (au 1) ae) (au 0)) (dD (aB (kg I.units) (aQ du (au 1) ae) (au 0)))))) (aA (aI gm)) bN) (aw (eh J (dY (iQ Z) I (da1 (aQ du (au 1) ae)))) (aA (aI (B4 (dR (dY (wZ Z) I (da1 (au 2)))) (ph (da3 (nM I.units (au 0) (aQ du (au 1) ae)) (nM I.units (au 0) (aQ du (au 1) ae)) (au 2))) gm)))))
theorem qR:YR Z.Cp P w base 3 (yG K (bj)):=
 fR ["kinds","gaps","words","told"] (λ_ _ _ _=>len_gap) λz J I vs Q h=>⟨_,(ax (jX (i:=3) J rfl (.inl rfl) (pY (zi Z) I (av (pv 0) (av (pv 2) aK)))) (ax (gW (pt_cmp (pc_isN (pv 3))) (aU (ck jx)) bC) (ax (ps_put (hU I.units) (pv 1) (ph (da2 (aQ du (au 3) ae) (aQ du (au 3) ae))) (aQ du (au 3) ae) rfl) (aU (ck jx))))),rs_gap h⟩
theorem sA:YO Z.vA P w base 1 b_ (fE):=
 fY ["number"] λz I J=>(aA (aI (B8 DV DV ae (au 0) (jJ Z.ox))))
theorem la:YO Z.mz P w base 2 b_ (bu):=
 fY ["flight","first","last"] λz I J=>(aw (eh I (aQ du (au 0) ae)) (aw (eh I (aQ du (au 0) ae)) (aA (aI (pj (jq DV (au 1) (au 2)) (nL (aD (A0 rfl) Z.yx Kn (da1 (ay (cY ["number"] [c_] (hI (ay (sP x_sl (au 0) (jf ae) jh))) (λ_ _ _ _ _=>dE (by decide +kernel)) (aL rfl) (λ_ _ _ _ _=>cW) (λ_ _ _ _ _=>(dY (sA Z) J (da1 (au 0))))))))))))))
theorem tH:YO Z.Fd P w base 1 b_ (gN):=
 fY ["word"] λz I J=>(aw (eG (PW.pt (eS (aB o_gt (aD ud Z.dJ E_ (da1 (au 0))) (jJ Z.xE)) (dD (aB pO (aQ qh (au 0) ae) (vq Z.gs_LETTERS))))) (aA (aI lq)) bN) (aA (aI (aD (A0 rfl) Z.yx Kn (da1 (ay (cY ["sign"] [c_] (B3 (au 0)) (λ_ _ _ _ _=>dE (by decide +kernel)) (aL rfl) (λ_ _ _ _ _=>cW) (λ_ _ _ _ _=>(de_or (jq o_inS (au 0) (vq Z.gs_LETTERS)) (nL (jq o_inS (au 0) (vq Z.gs_FIGURES))))))))))))
theorem sx:YO Z.vt P w base 3 b_ (aV):=
 fY ["kinds","names","words","numbers","flight"] λz J I=>(aw (eG (PW.pt (eS (aB (sE I.units) (aD gC Z.dJ E_ (da1 (au 2))) ae) (eS (aB o_ge (aD gC Z.dJ E_ (da1 (au 1))) (jJ Z.sI)) (dD (aB (kg I.units) (aQ du (au 2) ae) (au 0)))))) (aA (aI gm)) bN) (aw (eG (PW.pt (eS (iC (dR (dY (tH Z) I (da1 (aQ du (au 2) ae))))) (dD (aB (o_in I.units) (aQ du (au 2) ae) (au 1))))) (aA (aI gm)) bN) (aw (vn (i:=3) b_ ["word"] [c_] J (hI (ay (sP x_sl (au 2) (jf ae) jh))) (λ_ _ _ _ _=>dE (by decide +kernel)) (aL rfl) (λ_ _ _ _ _=>cW) (λ_ _ _ _ _=>(dY (iQ Z) I (da1 (au 0))))) (aw (eG (aB (o_in I.units) gm (au 3)) (aA (aI gm)) bN) (aw (eh J (ph (da5 (nM I.units (au 0) (aQ du (au 2) ae)) (aQ du (au 3) ae) (aQ du (au 3) ae) (aQ du (au 3) ae) (aQ du (au 3) ae)))) (aA (aI (B4 (dR (dY (la Z) I (da1 (au 4)))) (au 4) gm))))))))
theorem sy:YR Z.vv P w base 4 (uv K CD (mP (aV))):=
 fR ["draft","words"] (λ_ _ _ _=>Eh) λz J I vs Q h=>⟨_,(ax (gW (AA (pN (pY (k7 Z) I (av (ik (pv 0) rfl) (av (pY (sx Z) I (av (ik (pv 0) rfl) (av (ik (pv 0) rfl) (av (pv 1) aK)))) aK))) (λ_=>rfl))) (aU (ck jx)) bC) (ax (gu (lY FX Gf Gm dX (ik (pv 0) rfl) (av (aQ du (au 1) ae) aK))) (aU (ck jx)))),Ds Z.kD.cl Z.naD h⟩
theorem wY:YO Z.zN P w base 2 b_ (bq):=
 fY ["kinds","words"] λz J I=>(aw (eG (PW.pt (eS (aB (sE I.units) (aD gC Z.dJ E_ (da1 (au 1))) ae) (dD (aB o_ge (aD gC Z.dJ E_ (da1 (au 0))) (jJ Z.oZ))))) (aA (aI gm)) bN) (aA (aI (B4 (PW.pt (rF (dR (dY (tH Z) I (da1 (aQ du (au 1) ae)))) (my (aB (kg I.units) (aQ du (au 1) ae) (au 0))))) (aQ du (au 1) ae) gm))))
theorem uP:YO Z.xS P w base 1 b_ (gM):=
 fY ["stretch"] λz I J=>(aA (aI (F8 DV o_lt DV ae (aQ du (au 0) ae) (aQ du (au 0) ae) (jJ Z.rA))))
theorem x9:YO Z.zQ P w base 2 b_ (iq):=
 fY ["closed"] λz J I=>(aA (aI (pj (jq DV (aD gC Z.dJ E_ (da1 (au 0))) (jJ Z.pJ)) (nL (aD (A0 rfl) Z.yx Kn (da1 (ay (cY ["stretch"] [c_] (hI (au 0)) (λ_ _ _ _ _=>dE (by decide +kernel)) (aL rfl) (λ_ _ _ _ _=>cW) (λ_ _ _ _ _=>(dY (uP Z) I (da1 (au 0))))))))))))
theorem qQ:YO Z.sQ P w base 3 b_ (aT):=
 fY ["closed","words","stretch"] λz J I=>(aw (eG (aB (sE I.units) (aD gC Z.dJ E_ (da1 (au 1))) ae) (aA (aI gm)) bN) (aw (eh J (ph (da2 (dY (iQ Z) I (da1 (aQ du (au 1) ae))) (dY (iQ Z) I (da1 (aQ du (au 1) ae)))))) (aA (aI (B4 (PW.pt (rF (aB (kg I.units) gm (au 2)) (my (dR (dY (x9 Z) I (da1 (ay (aG bS (au 0) (ay (eu (da1 (au 2)))))))))))) (au 2) gm)))))
theorem zm:YR Z.Co P w base 5 (uv K CD (bz)):=
 fR ["draft","words"] (λ_ _ _ _=>Eh) λz J I vs Q h=>⟨_,(ax (gW (PW.pt (eS (aB (sd I.units) (au 1) (ay (eu eQ))) (dD (dR (rJ E9 KC PySem.F.type_str_startswith (aQ du (au 1) ae) aP))))) (aU (ck jx)) bC) (ax (gW (aB (sd I.units) (aQ du (au 1) ae) aP) (aU (ck (pY (k7 Z) I (av (ik (pv 0) rfl) (av (pY (wY Z) I (av (ik (pv 0) rfl) (av (pv 1) aK))) aK))))) bC) (ax (gW (aB (sd I.units) (aQ du (au 1) ae) aP) (aU (ck (pY (qR Z) I (av (ik (pv 0) rfl) (av (ik (pv 0) rfl) (av (pv 1) aK)))))) bC) (ax (gW (aB (sd I.units) (aQ du (au 1) ae) aP) (aU (ck (pY (qR Z) I (av (ik (pv 0) rfl) (av (ik (pv 0) rfl) (av (pv 1) aK)))))) bC) (ax (gW (aB (sd I.units) (aQ du (au 1) ae) aP) (aU (ck (pY (k7 Z) I (av (ik (pv 0) rfl) (av (pY (qQ Z) I (av (ik (pv 0) rfl) (av (pv 1) aK))) aK))))) bC) (aU (ck (pe_and (jq (sd I.units) (aQ du (au 1) ae) aP) (pe_one (pY (sy Z) I (av (pv 0) (av (pv 1) aK)))))))))))),rs_row Z.kD.cl Z.naD h⟩
theorem zg:YO Z.Cm P w base 1 b_ (gw):=
 fY ["row"] λz J I=>(aA (aI (ay (cY ["word"] [c_] (hI (ay (rJ pP HR IB (au 0) aP))) (λ_ _ _ _ _=>dE (by decide +kernel)) (aL rfl) (λ_ _ _ _ _=>qJ (aB (sE I.units) (au 0) aP)) (λ_ _ _ _ _=>(au 0))))))
theorem on_CW:∃f fd,Mth K CW "__init__" "NoSheet.__init__" s_nCW ["self","row"] f fd/\XMk K mg "NoSheet" CW f/\iL P w K mg base CX0 1 f fd ["self","row"] (spX1 CW "row"):=
 let ⟨_,_,N,X⟩:=Z.n_CW;⟨_,_,N,X,okn_CW N.fn Z.aCW_row⟩
theorem on_D:∃f fd,Mth K CD "__init__" "Draft.__init__" s_nD ["self"] f fd/\iL P w K mg base CX0 1 f fd ["self"] (spID CD):=
 let ⟨f,fd,N⟩:=Z.n_D;⟨f,fd,N,N.fn.okX (N:=["self"]) (by exact⟨rfl,rfl,rfl,by decide +kernel,rfl,by decide +kernel,by decide +kernel⟩) (λ_ _ _ _=>len_ID) λc A o s H vs Q E I h=>⟨_,ax (iO (pv 0) (jN aK) rfl) (ax (iO (pv 0) zc rfl) (ax (iO (pv 0) zc rfl) (ax (iO (pv 0) (jN aK) rfl) (ax (iO (pv 0) (jN aK) rfl) (aU (iO (pv 0) (jN aK) rfl)))))),rs_initD Z.kD.cl Z.naD h⟩⟩
theorem on_S:∃f fd,Mth K CS "__init__" "Sheet.__init__" s_nS ["self","kinds","rules","names","flights","closed"] f fd/\iL P w K mg base CX0 4 f fd ["self","kinds","rules","names","flights","closed"] (spIS K CS (dZ CR CP CS CW CD n)):=
 let ⟨_,_,Y⟩:=BH Z;let ⟨_,_,N⟩:=Z.n_S;⟨_,_,N,okn_S Y.d Y.o N.fn Z.kS.cl Z.naS Z.vM⟩
theorem uO:YX Z.xR P w base 8 b_ (dA CR CP CS CW CD n):=
 fX ["text","draft","number","row"] λz f Y=>let ⟨_,_,a,I,J⟩:=on_CW Z;let ⟨_,_,e,c⟩:=on_D Z;let ⟨_,_,d,b⟩:=on_S Z;(ER (jX (i:=1) f rfl (.inl rfl) (pe_make0 ⟨Z.kD.mks,e.mt.at_,e.mt.fn,Z.kD.kp⟩ c (Y.mono (by decide)) rfl Z.kD.mg e.bd .nil qO)) (AB PassesOwn.leaving rfl (pi_enum1 rfl Z.yw (ay (rJ pP HR IB (au 0) aP))) (AE rfl (dh (cU (i:=2) f rfl (.inl rfl)) (dh (cU (i:=3) f rfl (.inl rfl)) uK))) (aU (gW (AA (pN (pY (zm Z) Y (av (pv 1) (av (pY (zg Z) Y (av (pv 3) aK)) aK))) (λ_=>rfl))) (aU (wO KN xeqD2 I.ex I.fn I.kp J (Y.mono (by decide)) a.bd I.mg (av (pv 2) aK))) bC))) (aw (eG (aB (sd Y.units) (fQ (Cs:=[CD]) Z.fldD_kinds (au 1)) (ay (eu eQ))) (aA (EO KN xeqD2 I.ex I.fn I.kp J (Y.mono (by decide)) a.bd I.mg (da1 ae))) bN) (dss_lift (aA (aI (de_newS ⟨Z.kS.mks,d.mt.at_,d.mt.fn,Z.kS.kp⟩ b (Y.mono (by decide)) Z.kS.mg d.bd (da5 (fQ (Cs:=[CD]) Z.fldD_kinds (au 1)) (dY (pD Z) Y (da1 (au 1))) (fQ (Cs:=[CD]) Z.fldD_names (au 1)) (fQ (Cs:=[CD]) Z.fldD_flights (au 1)) (fQ (Cs:=[CD]) Z.fldD_closed (au 1)))))))))
theorem xf:YO Z.zS P w base 9 b_ (eE CR CP CS CW CD n):=
 fY ["_law_text","_law_told_here","e"] λz I c=>let ⟨_,_,J⟩:=uO Z;(aw (eh I (ay (eu eQ))) (aw (ds_toldN (i:=2) (j:=1) (ys:=[ANoRow,ANoRules,ANoTime,ANoPlace,ANotFree,ATooMany,ANoPlan]) (λB' σ E f e=>(dsa_set (own:=b_) I (dea_lst1 (dea_call J.o e c J.d.mg J.d.fn.kp J.d.bd (da1 (au 0)))))) Z.xCW I (λa d oe b hd Y=>ax (jX I rfl (.inl rfl) (jN (av pe_non (av (pe_xfld Ib Z.xCW.isi Z.aCW_row b hd Y) (av (pe_isO (Fq Ib Z.xCW.isi b hd Y) Z.ba Z.uX Z.pF) (av (pe_isB (Fq Ib Z.xCW.isi b hd Y) Z.ba Z.vN (by decide +kernel) Z.pG) aK)))))) (aU (gu (lY FX Gf Gm dX (pv 1) (av (pe_isT (Fq Ib Z.xCW.isi b hd Y) Z.ba (lZ (lZ (lZ (lZ (lZ (lZ (lZ pa_refs0 Z.Ed) Z.BQ) Z.BR) Z.BU) Z.Ec) Z.BS) Z.mI_NoRow) (by show 7<=f_;rw[FO];decide) Z.kT_CW) aK)))))) (aA (aI (au 1)))))
theorem n8:YO Z.xV P w base 1 b_ (dB):=
 fY ["_law_found"] λz I J=>(aA (aI (pj (oB Z.kit Z.ba Z.yv (au 0)) (nL (de_not (rM Z.kit Z.ba Z.z_bool (au 0)))))))
theorem lu:YO Z.vC P w base 2 b_ (cH):=
 fY ["_law_found","_law_due","_law_long","_law_one_here"] λz J I=>(aw (eG (PW.pt (eS (iC (dR (rL Z.kit Z.ba Z.vM (au 0)))) (dD (aB (sE I.units) (au 0) (au 1))))) (aA (aI lq)) bN) (aw (pf (pt:=.nm 3) (hI (au 0)) (Ck J) (aw (eG (PW.pt (eS (iC (dR (xP Z.kit Z.ba Z.z_tuple (au 3)))) (dD (aB (sE I.units) (aD gC Z.dJ E_ (da1 (au 3))) (au 2))))) (aA (aI lq)) bN) (aA (eG (iC (dR (aD (A0 rfl) Z.yx Kn (da1 (ay (cY ["_law_number_here"] [c_] (hI (au 3)) (λ_ _ _ _ _=>dE (by decide +kernel)) (aL rfl) (λ_ _ _ _ _=>cW) (λ_ _ _ _ _=>(dY (n8 Z) I (da1 (au 0)))))))))) (aA (aI lq)) bN)))) (aA (aI lq))))
theorem oj:YM Z.m_M_R_many_strips P w mg base 1 b_ (cI):=
 fM ["self"] λz I J=>(aA (aI ae))
theorem om:YM Z.m_M_P_many_strips P w mg base 1 b_ (dm):=
 fM ["self"] λz I J=>(aA (aI ae))
theorem BJ:YO Z.Fg P w base 3 b_ (km CR CP CS CW CD n):=
 fY ["_law_sheet","_law_data_here","_law_kinds","_law_gaps","_law_beside","_law_names","_law_flights","_law_closed"] λz d c=>let ⟨_,_,j,Y⟩:=jl Z;let ⟨_,_,g,b⟩:=lC Z;let ⟨_,_,e,J⟩:=om Z;let ⟨_,_,h,a⟩:=lB Z;let ⟨_,_,f,I⟩:=oj Z;(aw (ds_unpB (au 1) (EY rfl (gJ (i:=2) d (gJ (i:=3) d (gJ (i:=4) d (gJ (i:=5) d (gJ (i:=6) d (gJ (i:=7) d rG)))))))) (aw (eG (iC (dR (EZ (tb:=[(CS,d_)]) (isi1 ⟨⟨_,Z.kS⟩,Z.ki_CS_CS⟩) Z.ba Z.kS.mg (au 0)))) (aA (aI lq)) bN) (aw (eG (PW.pt (eS (aB (sE c.units) (fQ (Cs:=[CS]) Z.EB (au 0)) (au 2)) (dD (aB (sE c.units) (fQ (Cs:=[CS]) Z.EA (au 0)) (au 5))))) (aA (aI lq)) bN) (aw (eG (PW.pt (eS (iC (dR (dY (lu Z) c (da3 (fQ (Cs:=[CS]) Z.zG (au 0)) (au 6) ae)))) (dD (iC (dR (dY (lu Z) c (da3 (fQ (Cs:=[CS]) Z.Cg (au 0)) (au 7) ae))))))) (aA (aI lq)) bN) (aw (eG (PW.pt (eS (aB (sE c.units) (rK Z.kR.cl h.mt a c h.bd Z.kP.cl g.mt b c g.bd (fQ (Cs:=[CS]) Z.rB (au 0))) (au 3)) (dD (aB (sE c.units) (rK Z.kR.cl f.mt I (c.mono (by decide)) f.bd Z.kP.cl e.mt J (c.mono (by decide)) e.bd (fQ (Cs:=[CS]) Z.rB (au 0))) (ay (aG bS ae (cN c_int Z.yv Iy (da1 (jq o_notN (au 4) gm))))))))) (aA (aI lq)) bN) (aA (aI (de_or (jq o_isN (au 4) gm) (nL (jq (sd c.units) (xO Z.kP.cl j.mt Y c j.bd (fQ (Cs:=[CS]) Z.rB (au 0))) (au 4)))))))))))
theorem i5:YO Z.xX P w base 10 b_ (bL CR CP CS CW CD n):=
 fY ["_law_text","_law_due","_law_told_here"] λz J I=>(aw (eh J (dY (sC Z) I (da1 (au 0)))) (aw (eh J (dY (xf Z) I (da1 (au 0)))) (aw (eG (dR (oB Z.kit Z.ba Z.yv (au 1))) (aA (aI (pj (jq (sd I.units) (au 2) (ay (eu (da5 gm (au 1) lq lq lq)))) (nL (dY (n8 Z) I (da1 (aQ du (au 2) ae))))))) bN) (aA (aI (pj (jq (sd I.units) (aD gC Z.dJ E_ (da1 (au 2))) ae) (nL (dY (BJ Z) I (da2 (aQ du (au 2) ae) (au 1))))))))))
theorem fj:YO Z.sV P w base 1 b_ (aW):=
 fY ["_law_script","_law_k"] λz I J=>(aw (eG (aB o_lt (au 1) (aD gC Z.dJ E_ (da1 (au 0)))) (aA (aI (aG gX (aQ du (au 0) (au 1)) (aG xm ae ae)))) bN) (aA (aI ae)))
theorem xh:YO Z.zT P w base 1 b_ (jA):=
 fY ["_law_number_here","_law_k","_law_letters","_law_name_here","_law_j"] λz I J=>(aw (eh I aP) (aw (eh I (ay (aG bS (aQ qh (au 2) (aG gX (au 0) ae)) (aQ qh (au 2) (aG gX (au 1) ae))))) (aw (pf (pt:=.nm 4) (kA Z.ju (da1 (aG gX (aG jO (au 0) ae) ae))) (Ck I) (aw (eh I (ay (aG bS (ay (aG bS (aG uU (au 0) (au 0)) (aG uU ae (au 0)))) (au 4)))) (aw (eh I (aG gX (au 0) ae)) (aA (eh I (ay (aG bS (au 3) (aQ qh (ay (aG bS (au 2) aP)) (aG gX (aG jO (au 0) ae) ae))))))))) (aA (aI (au 3))))))
theorem m7:YO Z.nO P w base 1 b_ (dj):=
 fY ["_law_number_here","_law_k","_law_name_here","_law_j"] λz I J=>(aw (eh I (ay (aG bS (aQ qh aP (aG gX (au 1) ae)) (aQ qh aP (aG jO (au 1) ae))))) (aw (pf (pt:=.nm 3) (kA Z.ju (da1 (aG gX (aG jO (au 0) ae) ae))) (Ck I) (aw (eh I (ay (aG bS (ay (aG bS (aG uU (au 0) (au 0)) (aG uU ae (au 0)))) (au 3)))) (aw (eh I (aG gX (au 0) ae)) (aA (eh I (ay (aG bS (au 2) (aQ qh aP (aG gX (aG jO (au 0) ae) ae))))))))) (aA (aI (au 2)))))
theorem ok_law:YO (law_d Z.d_law) P w base 11 b_ (m_law CR CP CS CW CD n):=
 fY ["_law_script","_law_kinds","_law_k","_law_flights","_law_number_here","_law_kind","_law_last","_law_times","_law_closed","_law_start","_law_rows","_law_some","_law_bare"] λz J I=>(aw (EN J (eu eQ)) (aw (pf (pt:=.nm 2) (kA Z.ju (da1 (ay (aG bS ae (aG gX (dY (fj Z) I (da2 (au 0) ae)) ae))))) (Ck J) (aA (vo (i:=1) (ay (aG bS aP (dY (xh Z) I (da2 (dY (dW Z) I (da2 (au 0) (au 2))) (au 2)))))))) (nJ (O2:=[]) (aw (EN J (eu eQ)) (aw (pf (pt:=.nm 2) (kA Z.ju (da1 (ay (aG bS ae (aG gX (dY (fj Z) I (da2 (au 0) ae)) ae))))) (Ck J) (aw (eh J (dY (dW Z) I (da2 (au 0) (ay (aG bS ae (au 2)))))) (aw (eh J (sP x_slS (aQ du (au 1) (aG gX (aG jO (au 4) ae) (aD (c_min rfl) Z.z_min boot_min (da2 (aD gC Z.dJ E_ (da1 (au 1))) ae)))) (jf ae) jh)) (aw (eh J (cN Cw Z.Bf Hq (da1 (ay (aG bS ae (aG gX (aG jO (au 4) ae) (aG xm ae ae))))))) (aw (eh J (ay (aG bS (ay (aG bS (ay (aG bS (ay (aG bS (cN Cw Z.Bf Hq (da1 (aG gX (aG jO (au 4) ae) ae))) aP)) (au 6))) aP)) (cN Cw Z.Bf Hq (da1 (aG gX (au 4) ae)))))) (aA (vo (i:=3) (ay (aG bS (ay (aG bS (ay (aG bS (ay (aG bS (ay (aG bS aP (dY (m7 Z) I (da2 (aG jO (au 4) ae) (au 2))))) aP)) (au 5))) aP)) (au 7)))))))))) (nJ (O2:=[]) (aw (EN J (eu eQ)) (aw (pf (pt:=.nm 2) (kA Z.ju (da1 (ay (aG bS ae (aG gX (dY (fj Z) I (da2 (au 0) ae)) ae))))) (Ck J) (aw (eh J (aG gX (aG jO (dY (dW Z) I (da2 (au 0) (ay (aG bS ae (au 2))))) ae) (aG xm ae ae))) (aA (vo (i:=8) (ay (aG bS (ay (aG bS (ay (aG bS aP (cN Cw Z.Bf Hq (da1 (au 9))))) aP)) (cN Cw Z.Bf Hq (da1 (ay (aG bS (ay (aG bS (au 9) ae)) (au 2))))))))))) (nJ (O2:=[]) (aw (eh J (ay (aG bS (au 1) (dY (uS Z) I (da3 (ay (eu (da2 (au 3) (au 8)))) (au 0) ae))))) (aw (eG (iC (dR (dY (i5 Z) I (da1 (rJ oo G6 Hu aP (au 10)))))) (aA (aI lq)) bN) (aw (eG (iC (dR (dY (i5 Z) I (da1 (rJ oo G6 Hu aP (ay (aG bS (ay (aG bS (ay (sP x_sl (au 1) jh (jf ae))) (ay (sP x_sl (au 3) jh (jf ae))))) (ay (sP x_sl (au 8) jh (jf ae)))))))))) (aA (aI lq)) bN) (aw (eh J (ay (eu (da6 aP aP aP (aQ du (au 8) ae) (aQ du (au 8) (de_un o_neg ae)) aP)))) (aw (vn (i:=12) b_ ["_law_k","_law_script","_law_some"] [c_,a_ 0,a_ 11] J (kA Z.ju (da1 (aG gX (dY (fj Z) I (da2 (au 0) ae)) ae))) (λ_ _ _ _ _=>dE (by decide +kernel)) (aL rfl) (λ_ _ _ _ _=>cW) (λ_ _ _ _ _=>(aQ du (au 2) (aG gX (aG jO (dY (dW Z) I (da2 (au 1) (ay (aG bS ae (au 0))))) ae) ae)))) (aA (aI (pj (dY (i5 Z) I (da1 (rJ oo G6 Hu aP (au 12)))) (nL (dY (i5 Z) I (da1 (rJ oo G6 Hu aP (ay (aG bS (ay (sP x_sl (au 1) jh (jf ae))) (au 12))))))))))))))))))))))))
end
noncomputable abbrev vL:=Int×Int
variable{p:vL}{cs:List vL}
noncomputable def stD(p:vL):A':=.tup [.int p.1,.int p.2]
@[simp] theorem getI_c0(a:A')(l:List A'):g8 (a::l) 0=.ok a:=by unfold g8 atI ixN;rw[g_ (by omega),g_ (by simp<;>omega)];rfl
@[simp] theorem getI_c2(a b c:A')(l:List A'):g8 (a::b::c::l) 2=.ok c:=by unfold g8 atI ixN;rw[g_ (by omega),g_ (by simp<;>omega)];rfl
section
variable(CR CP CS CW CD:i_)
noncomputable def qE(r:List Int):A':=.lst (r.map .int)
def aX(rows:List (List Int)):A':=.lst (rows.map qE)
def FA(k:Nat)(r:List Int):Prop:=r.length=k/\∀x∈r,0<=x/\x<=1000000
def eD(k:Nat)(rows:List (List Int)):Prop:=rows.length=k/\∀r∈rows,FA k r
theorem Bv{lo:Int}{i:Nat}{d:A'}(h:(bQ lo m)[i]?=a_ d):i<m/\d=.int (lo+i):=by unfold bQ at h;rw[GD]at h;obtain⟨a,h1,h2⟩:=Lw.mp h;have hi:=(w_.mp h1).1;rw[M6]at hi;rw[MB hi]at h1;cases h1;exact⟨hi,h2.symm⟩
theorem kQ{i:Nat}{d:A'}(h:(bQ 0 m)[i]?=a_ d):i<m/\d=.int i:=by obtain⟨h1,h2⟩:=Bv h;exact⟨h1,by rw[h2,Int.zero_add]⟩
theorem kO(lo:Int)(m:Nat):(bQ lo m).length=m:=by unfold bQ;simp
end
section
variable(CR CP CS CW CD:i_)
theorem xy(n:Nat)(x:Int)(I:0<=x)(h1:x<=1000000):fF [.int x]=.ok (.bl d_):=by simp[fF,pS,kZ,I,h1]
theorem ve(n:Nat)(k:Nat)(r:List Int)(a:k<=6)(h:FA k r):eO [qE r,.int k]=.ok (.bl d_):=by
 have Y:r.length<=16777216:=by have:=h.1;omega
 have I:k<=16777216:=by omega
 have e:aS (.nm 0) iK (fL (fF) (aa (ai 0) aC)) [c_] (r.map .int)=.ok ((r.map λ_=>d_).map A'.bl):=by
  have:=nP (p:=.nm 0) (fe:=fL (fF) (aa (ai 0) aC)) (ρ0:=[c_]) (λ_=>.bl d_) (r.map .int) (λd hd=>by obtain⟨x,J,rfl⟩:=Gz.mp hd;exact⟨[a_ (.int x)],by simp,by simp[xy n x (h.2 x J).1 (h.2 x J).2]⟩)
  rw[this,FL,FL];rfl
 simp[eO,oW,qE,e,Y,I,h.1,-FL]
theorem rQ(n:Nat)(rows:List (List Int))(Y:rows.length<=1000):dO [aX rows]=.ok (aX rows):=by
 have I:rows.length<=16777216:=by omega
 have e:aS (.nm 0) iK (fL nj (aa (ai 0) aC)) [c_] (rows.map qE)=.ok (rows.map qE):=by
  have:=nP (p:=.nm 0) (fe:=fL nj (aa (ai 0) aC)) (ρ0:=[c_]) id (rows.map qE) (λd hd=>by obtain⟨x,J,rfl⟩:=Gz.mp hd;exact⟨[a_ (qE x)],by simp,by simp[qE]⟩)
  rw[this,Oy]
 simp[dO,nE,aX,e,I]
theorem oE(n:Nat)(k:Nat)(rows:List (List Int))(h1:1<=k)(Y:k<=6)(h:eD k rows):aH [aX rows]=.ok (aX rows):=by
 have I:rows.length<=16777216:=by have:=h.1;omega
 have e:aS (.nm 0) iK (fL (eO) (aa (ai 0) (aa (ai 1) aC))) [c_,a_ (.int rows.length)] (rows.map qE)=.ok ((rows.map λ_=>d_).map A'.bl):=by
  have:=nP (p:=.nm 0) (fe:=fL (eO) (aa (ai 0) (aa (ai 1) aC))) (ρ0:=[c_,a_ (.int rows.length)]) (λ_=>.bl d_) (rows.map qE) (λd hd=>by obtain⟨x,J,rfl⟩:=Gz.mp hd;exact⟨[a_ (qE x),a_ (.int rows.length)],by simp,by simp[h.1,ve n k x Y (h.2 x J)]⟩)
  rw[this,FL,FL];rfl
 have a1:(1:Int)<=rows.length:=by have:=h.1;omega
 have a:(rows.length:Int)<=6:=by have:=h.1;omega
 have e3:=rQ n rows (by have:=h.1;omega);simp only[aX]at e3;simp[aH,lH,jS,jR,aX,e,e3,I,a1,a,-FL]
def oN(rows:List (List Int)):A'->A'
 |.non=>.ins CR [("gaps",aX rows)]|o=>.ins CP [("gaps",aX rows),("beside",o)]
theorem gaps_at(rows:List (List Int))(o:A')(J:o=.non\/∃I,o=aX I):bJ [CR,CP] "gaps" (oN CR CP rows o)=.ok (aX rows):=by
 have h1:((("gaps":p_)==("gaps":p_))=d_):=by decide +kernel
 rcases J with rfl|⟨I,rfl⟩
 ·show(if ([CR,CP].contains CR)=d_ then(match Gq ("gaps":p_) [(("gaps":p_),aX rows)]with|some d=>FN d|none=>stk)else stk)=_;rw[g_ (by simp),z_,h1]
 ·show(if ([CR,CP].contains CP)=d_ then(match Gq ("gaps":p_) [(("gaps":p_),aX rows),(("beside":p_),aX I)]with|some d=>FN d|none=>stk)else stk)=_;rw[g_ (by simp),z_,h1]
end
structure Fli where
 kind:Int
 first:Int
 last:Int
 due:Int
 price:Int
variable{f:Fli}
noncomputable def flD(f:Fli):A':=.tup [.int f.kind,.int f.first,.int f.last,.int f.due,.int f.price]structure GoodFl (k:Nat) (f:Fli):Prop where
 k0:0<=f.kind
 k1:f.kind<k
 f0:0<=f.first
 f1:f.first<=f.last
 l1:f.last<=1000000000
 d0:0<=f.due
 d1:f.due<=1000000000
 p0:0<=f.price
 p1:f.price<=1000000000
theorem fU{α:Type}{p:Pat}{fe:ah->M A'}{ρ0:ah}(g f:α->A'):∀(L:List α),(∀x∈L,∃ρ,jj p (g x) ρ0=.ok ρ/\fe ρ=.ok (f x))->aS p iK fe ρ0 (L.map g)=.ok (L.map f)
 |[],_=>rfl|d::ds,h=>by obtain⟨ρ,e1,e2⟩:=h d (by simp);rw[C_,aS,e1];simp only[aj,iK,e2,fU g f ds λx I=>h x (by simp[I])];simp
theorem lS(lo:Int)(m:Nat):bQ lo (m+1)=.int lo::bQ (lo+1) m:=by
 unfold bQ;rw[LQ,C_,FL]
 congr 1
 ·simp
 ·refine Hs λk _=>?_;simp only[Function.comp]
  congr 1
  omega
theorem Bm(a b c:p_):a++b++c=a++(b++c):=by
 show(⟨(a.cps++b.cps)++c.cps⟩:p_)=⟨a.cps++(b.cps++c.cps)⟩
 rw[Kc]
theorem Ak(a:p_):a++(HQ:p_)=a:=by show(⟨a.cps++#[]⟩:p_)=a;simp
theorem uw(a:p_):(HQ:p_)++a=a:=by show(⟨#[]++a.cps⟩:p_)=a;simp
theorem l9(a b:p_):(a++b).length=a.length+b.length:=strLen_append a b
noncomputable def cat:List p_->p_
 |[]=>HQ|x::xs=>x++cat xs
theorem AR:∀xs:List p_,G4 "" xs=cat xs
 |[]=>rfl|[x]=>by rw[cat,cat,Ak];rfl|x::y::xs=>by rw[cat,<- AR (y::xs)];show x++e_ ""++G4 "" (y::xs)=_;rw[show(e_ "":p_)=HQ by decide +kernel,Ak]
theorem lenLe(xs:List p_)(B:Nat)(h:∀x∈xs,x.length<=B):(xs.map (·.length)).sum<=xs.length*B:=StrLaws.sumLen_le xs h
theorem str_len(h:i.natAbs<10^10):(iw i).length<=11:=by unfold iw;rw[PySem.ofString_length];exact int_text_length_le10 (k:=10) (by decide) h
theorem nY(h:i.natAbs<10^10):i.natAbs.log2<1920:=by
 by_cases I:i.natAbs=0
 ·rw[I];decide
 ·exact(Nat.log2_lt I).mpr (FP h (Gb (show 10^10<=2^34 by decide) (Nat.pow_le_pow_right (by decide) (by decide))))
noncomputable def SP:p_:=" "
noncomputable def NLs:p_:="\n"
noncomputable def mi(k:p_):p_:="kind "++k
def oS(w k o:p_)(g:Int):p_:=w++SP++k++SP++o++SP++iw g
def jr(p:vL):p_:="closed "++iw p.1++SP++iw p.2
noncomputable def kAt(ks:List p_)(i:Int):p_:=ks.getD i.toNat ""
def fH(ks:List p_)(p:p_×Fli):p_:="flight"++SP++p.1++SP++kAt ks p.2.kind++SP++iw p.2.first++SP++iw p.2.last++SP++iw p.2.due++SP++iw p.2.price
def bx(w:p_)(I:Int)(k:p_):List p_->List Int->List p_
 |o::ks,g::r=>(if I<=g then [oS w k o g]else [])++bx w I k ks r
 |_,_=>[]
def bH(w:p_)(I:Int)(ks:List p_):List p_->List (List Int)->List p_
 |k::l,r::rows=>bx w I k ks r++bH w I ks l rows|_,_=>[]
def vJ(ks:List p_):Option (List (List Int))->List p_
 |some r2=>bH "beside" 0 ks ks r2|none=>[]
def rowsOf(ks:List p_)(rows:List (List Int))(o:Option (List (List Int)))(ns:List (p_×Fli))(cs:List vL):List p_:=
 ks.map mi++bH "gap" 1 ks ks rows++vJ ks o++cs.map jr++ns.map (fH ks)
def textOf(rs:List p_):p_:=cat (rs.map (·++NLs))
theorem qZ(ρ:ah)(I:p_):pH [] ρ I=.ok I:=rfl
theorem bM(f:ah->M A')(fs:List (ah->M A'))(ρ:ah)(I z:p_)(h:f ρ=.ok (.str z))(Y:I.length+z.length<=16777216):pH (f::fs) ρ I=pH fs ρ (I++z):=by
 have J:(I++z).length<=f_:=by rw[l9,FO];exact Y
 show(f ρ).bind _=_;rw[h];show(if (I++z).length<=f_ then pH fs ρ (I++z)else stk)=_;rw[g_ J]
theorem fmt_s(h:z.length<=16777216):oz (.str z)=.ok (.str z):=by rw[e_fmtS,FO,g_ h]
theorem fmt_i(h:i.natAbs<10^10):oz (.int i)=.ok (.str (iw i)):=by rw[e_fmtI,g_ (nY h)]
theorem Ei(ks:List p_)(J:∀k∈ks,k.length<=100):aS (.nm 0) iK (fJ [(fC (.str "kind ")),(f1 oz (ai 0))]) [c_] (ks.map .str)=.ok ((ks.map mi).map .str):=by
 rw[FL];refine fU _ _ ks λk I=>⟨[a_ (.str k)],rfl,?_⟩
 have h:=J k I;have e5:(e_ "kind ").length=5:=by decide +kernel
 unfold fJ;rw[bM _ _ _ _ (e_ "kind ") rfl (by rw[e5];show 0+5<=_;decide),uw,bM _ _ _ _ k (by show(oz (.str k))=_;exact fmt_s (by omega)) (by rw[e5];omega),qZ];rfl
theorem AV{k:p_}{g:Int}(ρ:ah)(hw:w.length<=100)(e:k.length<=100)(d:o.length<=100)(J:g.natAbs<10^10)(e0:ai 0 ρ=.ok (.str w))(e5:ai 5 ρ=.ok (.str k))(b:ai 7 ρ=.ok (.str o))(a:ai 8 ρ=.ok (.int g)):
  fJ [(f1 oz (ai 0)),(fC (.str " ")),(f1 oz (ai 5)),(fC (.str " ")),(f1 oz (ai 7)),(fC (.str " ")),(f1 oz (ai 8))] ρ=.ok (.str (oS w k o g))/\(oS w k o g).length<=400:=by
 have I:(e_ " ").length=1:=by decide +kernel
 have es:=str_len J;have f0:f1 oz (ai 0) ρ=.ok (.str w):=by unfold f1;rw[e0];exact fmt_s (by omega)
 have f5:f1 oz (ai 5) ρ=.ok (.str k):=by unfold f1;rw[e5];exact fmt_s (by omega)
 have Y:f1 oz (ai 7) ρ=.ok (.str o):=by unfold f1;rw[b];exact fmt_s (by omega)
 have f8:f1 oz (ai 8) ρ=.ok (.str (iw g)):=by unfold f1;rw[a];exact fmt_i J
 have c:HQ.length=0:=rfl;refine⟨?_,by unfold oS SP;simp only[l9,I];omega⟩
 unfold fJ;rw[bM _ _ _ _ w f0 (by omega),uw,bM _ _ _ _ (e_ " ") rfl (by omega),bM _ _ _ _ k f5 (by simp only[l9,I];omega),bM _ _ _ _ (e_ " ") rfl (by simp only[l9,I];omega),bM _ _ _ _ o Y (by simp only[l9,I];omega),bM _ _ _ _ (e_ " ") rfl (by simp only[l9,I];omega),bM _ _ _ _ (iw g) f8 (by simp only[l9,I];omega),qZ];rfl
section
variable(CR CP CS CW CD:i_)
theorem zC(n:Nat){w k:p_}(hw:w.length<=100)(l:k.length<=100)(I:Int)(a1 a Y:Option A'):∀(os:List p_) (r:List Int) (J:List p_) (d c:Option A'),(∀o∈os,o.length<=100)->(∀g∈r,g.natAbs<10^10)->J.length+os.length<=10000->∃f e,
  lj (.tp [7,8]) (cT) (px (os.map .str) (r.map .int)) [a_ (.str w),a1,a,a_ (.int I),a_ (.lst (J.map .str)),a_ (.str k),Y,d,c]=.ok (.nx [a_ (.str w),a1,a,a_ (.int I),a_ (.lst ((J++bx w I k os r).map .str)),a_ (.str k),Y,f,e])
 |[],r,J,d,c,_,_,_=>⟨d,c,by simp[px,lj,bx]⟩|o::os,[],J,d,c,_,_,_=>⟨d,c,by simp[px,lj,bx]⟩|o::os,g::r,J,d,c,j,i,q=>by
  obtain⟨e1,e2⟩:=AV (w:=w) (k:=k) (o:=o) (g:=g) [a_ (.str w),a1,a,a_ (.int I),a_ (.lst (J.map .str)),a_ (.str k),Y,a_ (.str o),a_ (.int g)] hw l (j o (by simp)) (i g (by simp)) rfl rfl rfl rfl;have h:J.length<16777216:=by simp at q;omega
  have t:=AV (w:=w) (k:=k) (o:=o) (g:=g) [a_ (.str w),a1,a,a_ (.int I),c_,a_ (.str k),Y,a_ (.str o),a_ (.int g)] hw l (j o (by simp)) (i g (by simp)) rfl rfl rfl rfl;by_cases m:I<=g
  ·have s:cT [a_ (.str w),a1,a,a_ (.int I),a_ (.lst (J.map .str)),a_ (.str k),Y,a_ (.str o),a_ (.int g)]=.ok (.nx [a_ (.str w),a1,a,a_ (.int I),a_ (.lst ((J++[oS w k o g]).map .str)),a_ (.str k),Y,a_ (.str o),a_ (.int g)]):=by
    simp[cT,ji,m,t.1,e1,h]
   obtain⟨f,e,p⟩:=zC n hw l I a1 a Y os r (J++[oS w k o g]) (a_ (.str o)) (a_ (.int g)) (λx b=>j x (by simp[b])) (λx b=>i x (by simp[b])) (by simp at q ⊢;omega);refine⟨f,e,?_⟩
   rw[bx,g_ m,<- Hl,<- p];simp[px,lj,s]
  ·have s:cT [a_ (.str w),a1,a,a_ (.int I),a_ (.lst (J.map .str)),a_ (.str k),Y,a_ (.str o),a_ (.int g)]=.ok (.nx [a_ (.str w),a1,a,a_ (.int I),a_ (.lst (J.map .str)),a_ (.str k),Y,a_ (.str o),a_ (.int g)]):=by
    simp[cT,ji,m]
   obtain⟨f,e,p⟩:=zC n hw l I a1 a Y os r J (a_ (.str o)) (a_ (.int g)) (λx b=>j x (by simp[b])) (λx b=>i x (by simp[b])) (by simp at q ⊢;omega);refine⟨f,e,?_⟩
   rw[bx,l_ m,KQ,<- p];simp[px,lj,s]
theorem jG(w:p_)(I:Int)(k:p_):∀(os:List p_) (r:List Int),(bx w I k os r).length<=os.length
 |[],_=>by simp[bx]|_::_,[]=>by simp[bx]|o::os,g::r=>by rw[bx,FG,FV];have:=jG w I k os r;split<;>simp<;>omega
theorem AU(n:Nat){w:p_}(hw:w.length<=100)(ks:List p_)(f:∀k∈ks,k.length<=100)(B:ks.length<=6)(I:Int)(d:Option A'):∀(l:List p_) (rows:List (List Int)) (J:List p_) (c b a Y:Option A'),(∀k∈l,k.length<=100)->(∀r∈rows,∀g∈r,g.natAbs<10^10)->J.length+6*l.length<=9000->∃t s i h,
  lj (.tp [5,6]) (gK) (px (l.map .str) (rows.map qE)) [a_ (.str w),a_ (.lst (ks.map .str)),d,a_ (.int I),a_ (.lst (J.map .str)),c,b,a,Y]=.ok (.nx [a_ (.str w),a_ (.lst (ks.map .str)),d,a_ (.int I),a_ (.lst ((J++bH w I ks l rows).map .str)),t,s,i,h])
 |[],rows,J,c,b,a,Y,_,_,_=>⟨c,b,a,Y,by simp[px,lj,bH]⟩|k::l,[],J,c,b,a,Y,_,_,_=>⟨c,b,a,Y,by simp[px,lj,bH]⟩|k::l,r::rows,J,c,b,a,Y,p,m,q=>by
  obtain⟨i,h,e⟩:=zC n hw (p k (by simp)) I (a_ (.lst (ks.map .str))) d (a_ (qE r)) ks r J a Y f (m r (by simp)) (by simp at q;omega);have o:=jG w I k ks r;have C:gK [a_ (.str w),a_ (.lst (ks.map .str)),d,a_ (.int I),a_ (.lst (J.map .str)),a_ (.str k),a_ (qE r),a,Y]=.ok (.nx [a_ (.str w),a_ (.lst (ks.map .str)),d,a_ (.int I),a_ (.lst ((J++bx w I k ks r).map .str)),a_ (.str k),a_ (qE r),i,h]):=by unfold gK;rw[<- e];simp[qE,nv]
  obtain⟨z,y,v,u,A⟩:=AU n hw ks f B I d l rows (J++bx w I k ks r) (a_ (.str k)) (a_ (qE r)) i h (λx j=>p x (by simp[j])) (λx j=>m x (by simp[j])) (by simp at q ⊢;omega);refine⟨z,y,v,u,?_⟩
  rw[bH,<- Hl,<- A];simp[px,lj,C]
theorem mV(n:Nat)(hw:w.length<=100)(ks:List p_)(J:∀k∈ks,k.length<=100)(a:ks.length<=6)(I:Int)(rows:List (List Int))(Y:∀r∈rows,∀g∈r,g.natAbs<10^10):
  gL [.str w,.lst (ks.map .str),aX rows,.int I]=.ok (.lst ((bH w I ks ks rows).map .str)):=by
 obtain⟨f,d,c,b,e⟩:=AU n hw ks J a I (a_ (aX rows)) ks rows [] c_ c_ c_ c_ J Y (by simp;omega);simp only[HI,KQ]at e;simp[gL,oU,aX,nv]at e ⊢;simp[e]
end
theorem sget(J:0<=i)(h1:i<ks.length):g8 (ks.map .str) i=.ok (.str (kAt ks i))/\kAt ks i∈ks:=by
 obtain⟨j,rfl⟩:∃j:Nat,i=j:=⟨i.toNat,by omega⟩
 have I:j<ks.length:=by omega
 have e:kAt ks (j:Int)=ks[j]:=by unfold kAt;simp[I]
 refine⟨?_,by rw[e];exact Hb I⟩
 rw[e];unfold g8 atI ixN;rw[g_ (by omega),g_ (by simp<;>omega)];simp[I]
structure BFl(k:Nat)(f:Fli):Prop where
 k0:0<=f.kind
 k1:f.kind<k
 a:f.first.natAbs<10^10
 b:f.last.natAbs<10^10
 c:f.due.natAbs<10^10
 d:f.price.natAbs<10^10
theorem vj(b:nm.length<=100)(J:∀k∈ks,k.length<=100)(I:BFl ks.length f):(fH ks (nm,f)).length<=400:=by
 have Y:(e_ " ").length=1:=by decide +kernel
 have a:(e_ "flight").length=6:=by decide +kernel
 have h1:=str_len I.a;have h2:=str_len I.b;have e:=str_len I.c;have d:=str_len I.d;have c:=J _ (sget I.k0 I.k1).2;unfold fH SP;simp only[l9,Y,a];omega
section
variable(CR CP CS CW CD:i_)
theorem qz(n:Nat)(o:ks.length<=6)(m:nm.length<=100)(Y:∀k∈ks,k.length<=100)(I:BFl ks.length f):cS [.lst (ks.map .str),.str nm,flD f]=.ok (.str (fH ks (nm,f))):=by
 have g:(e_ " ").length=1:=by decide +kernel
 have i:(e_ "flight").length=6:=by decide +kernel
 have h1:=str_len I.a;have h2:=str_len I.b;have r:=str_len I.c;have q:=str_len I.d;obtain⟨e0,J⟩:=sget I.k0 I.k1;have p:=Y _ J;have e:=nY I.a;have d:=nY I.b;have c:=nY I.c;have b:=nY I.d;have h:G4 (e_ " ") [e_ "flight",nm,kAt ks f.kind,iw f.first,iw f.last,iw f.due,iw f.price]=fH ks (nm,f):=by unfold fH SP;simp only[G4,Bm]
 have l:6+(nm.length+((kAt ks f.kind).length+((iw f.first).length+((iw f.last).length+((iw f.due).length+((iw f.price).length+0))))))+7*1<=16777216:=by omega
 have a:de (.tup [.int f.kind,.int f.first,.int f.last,.int f.due,.int f.price]) (a_ 1) c_=.ok (.tup [.int f.first,.int f.last,.int f.due,.int f.price]):=rfl;have j:aS (.nm 0) iK (fL strD (aa (ai 0) aC)) [c_] [.int f.first,.int f.last,.int f.due,.int f.price]=.ok [.str (iw f.first),.str (iw f.last),.str (iw f.due),.str (iw f.price)]:=by simp[aS,e,d,c,b]
 have ea:eC (.lst [.str (e_ "flight"),.str nm,.str (kAt ks f.kind)]) (.lst [.str (iw f.first),.str (iw f.last),.str (iw f.due),.str (iw f.price)])=.ok (.lst [.str (e_ "flight"),.str nm,.str (kAt ks f.kind),.str (iw f.first),.str (iw f.last),.str (iw f.due),.str (iw f.price)]):=by simp[eC,FO]
 simp[cS,lG,flD,e0,a,j,ea,h,g,i];rw[g_]
 ·rfl
 ·omega
end
theorem zV(cs:List vL)(h:∀p∈cs,p.1.natAbs<10^10/\p.2.natAbs<10^10):aS (.tp [0,1]) iK (fJ [(fC (.str "closed ")),(f1 oz (ai 0)),(fC (.str " ")),(f1 oz (ai 1))]) [c_,c_] (cs.map stD)=.ok ((cs.map jr).map .str):=by
 rw[FL];refine fU _ _ cs λp I=>⟨[a_ (.int p.1),a_ (.int p.2)],rfl,?_⟩
 obtain⟨h1,h2⟩:=h p I;have e1:(e_ "closed ").length=7:=by decide +kernel
 have e2:(e_ " ").length=1:=by decide +kernel
 have a:=str_len h1;have Y:=str_len h2;have J:HQ.length=0:=rfl;unfold fJ;rw[bM _ _ _ _ (e_ "closed ") rfl (by omega),uw,bM _ _ _ _ (iw p.1) (fmt_i h1) (by omega),bM _ _ _ _ (e_ " ") rfl (by simp only[l9];omega),bM _ _ _ _ (iw p.2) (fmt_i h2) (by simp only[l9];omega),qZ];rfl
theorem vH(h:p.1.natAbs<10^10/\p.2.natAbs<10^10):(jr p).length<=400:=by
 have e1:(e_ "closed ").length=7:=by decide +kernel
 have e2:(e_ " ").length=1:=by decide +kernel
 have J:=str_len h.1;have I:=str_len h.2;unfold jr SP;simp only[l9];omega
theorem zy{k:p_}(h:k.length<=100):(mi k).length<=400:=by
 have e1:(e_ "kind ").length=5:=by decide +kernel
 unfold mi;simp only[l9];omega
theorem Ce{k:p_}{g:Int}(hw:w.length<=100)(a:k.length<=100)(Y:o.length<=100)(I:g.natAbs<10^10):(oS w k o g).length<=400:=by
 have J:(e_ " ").length=1:=by decide +kernel
 have es:=str_len I;unfold oS SP;simp only[l9,J];omega
theorem nA{w:p_}{I:Int}{k:p_}(hw:w.length<=100)(b:k.length<=100):∀(os:List p_) (r:List Int),(∀o∈os,o.length<=100)->(∀g∈r,g.natAbs<10^10)->∀x∈bx w I k os r,x.length<=400
 |[],_,_,_,x,h=>by simp[bx]at h|_::_,[],_,_,x,h=>by simp[bx]at h|o::os,g::r,a,Y,x,h=>by
  rw[bx,Gn]at h;rcases h with h|h
  ·split at h
   ·rw[F_]at h;rw[h];exact Ce hw b (a o (by simp)) (Y g (by simp))
   ·cases h
  ·exact nA hw b os r (λy J=>a y (by simp[J])) (λy J=>Y y (by simp[J])) x h
theorem mj{w:p_}{I:Int}{ks:List p_}(hw:w.length<=100)(J:∀k∈ks,k.length<=100):∀(l:List p_) (rows:List (List Int)),(∀k∈l,k.length<=100)->(∀r∈rows,∀g∈r,g.natAbs<10^10)->∀x∈bH w I ks l rows,x.length<=400
 |[],_,_,_,x,h=>by simp[bH]at h|_::_,[],_,_,x,h=>by simp[bH]at h|k::l,r::rows,b,a,x,h=>by
  rw[bH,Gn]at h;rcases h with h|h
  ·exact nA hw (b k (by simp)) ks r J (a r (by simp)) x h
  ·exact mj hw J l rows (λy Y=>b y (by simp[Y])) (λy Y=>a y (by simp[Y])) x h
theorem mq(w:p_)(I:Int)(ks:List p_):∀(l:List p_) (rows:List (List Int)),(bH w I ks l rows).length<=l.length*ks.length
 |[],_=>by simp[bH]|_::_,[]=>by simp[bH]|k::l,r::rows=>by rw[bH,FG,FV,Nat.succ_mul];have h1:=jG w I k ks r;have h2:=mq w I ks l rows;omega
structure Sht where
 ks:List p_
 rows:List (List Int)
 o:Option (List (List Int))
 nf:List (p_×Fli)
 cs:List vL
structure Sht.Good(w:Sht):Prop where
 k1:1<=w.ks.length
 k6:w.ks.length<=6
 kl:∀k∈w.ks,k.length<=100
 rows:eD w.ks.length w.rows
 o:∀r2,w.o=a_ r2->eD w.ks.length r2
 nm:w.nf.length<=40
 nl:∀p∈w.nf,p.1.length<=100/\BFl w.ks.length p.2
 cm:w.cs.length<=20
 cl:∀p∈w.cs,p.1.natAbs<10^10/\p.2.natAbs<10^10
noncomputable def Sht.kD(w:Sht):A':=.lst (w.ks.map .str)
def Sht.bD(w:Sht):A':=match w.o with
 |some r2=>aX r2|none=>.non
noncomputable def Sht.nD(w:Sht):A':=.lst ((w.nf.map (·.1)).map .str)
noncomputable def Sht.fD(w:Sht):A':=.lst ((w.nf.map (·.2)).map flD)
def Sht.cD(w:Sht):A':=.lst (w.cs.map stD)
def Sht.D(w:Sht):A':=.tup [w.kD,aX w.rows,w.bD,w.nD,w.fD,w.cD]
def Sht.rs(w:Sht):List p_:=rowsOf w.ks w.rows w.o w.nf w.cs
def Sht.tx(w:Sht):p_:=textOf w.rs
theorem eD.nat{k:Nat}(h:eD k rows):∀r∈rows,∀g∈r,g.natAbs<10^10:=λr I g J=>by
 have:=(h.2 r I).2 g J;have e:(10:Nat)^10=10000000000:=by decide
 omega
theorem lgap:(e_ "gap").length<=100:=by decide +kernel
theorem lbes:(e_ "beside").length<=100:=by decide +kernel
theorem Sht.Good.Du{w:Sht}(h:w.Good):∀x∈w.rs,x.length<=400:=λx I=>by
 unfold Sht.rs rowsOf at I;simp only[Gn]at I;rcases I with(((I|I)|I)|I)|I
 ·obtain⟨k,a,rfl⟩:=Gz.mp I;exact zy (h.kl k a)
 ·exact mj lgap h.kl w.ks w.rows h.kl h.rows.nat x I
 ·cases Y:w.o with
  |none=>rw[Y]at I;cases(show x∈([]:List p_)from I)|some r2=>rw[Y]at I;exact mj lbes h.kl w.ks r2 h.kl (h.o r2 Y).nat x I
 ·obtain⟨p,J,rfl⟩:=Gz.mp I;exact vH (h.cl p J)
 ·obtain⟨p,J,rfl⟩:=Gz.mp I;exact vj (h.nl p J).1 h.kl (h.nl p J).2
theorem Sht.Good.rs_len{w:Sht}(h:w.Good):w.rs.length<=200:=by
 unfold Sht.rs rowsOf;simp only[FG,t_];have h1:=mq "gap" 1 w.ks w.ks w.rows;have h2:(vJ w.ks w.o).length<=w.ks.length*w.ks.length:=by
  cases w.o with
  |none=>simp[vJ]|some r2=>exact mq _ _ _ _ _
 have I:=h.k6;have a:=Nat.mul_le_mul I I;have Y:=h.nm;have J:=h.cm;omega
theorem ig:∀xs:List p_,gV (xs.map .str)=.ok xs
 |[]=>rfl|x::xs=>by rw[C_,e_strs1,ig xs];rfl
theorem nl_len:NLs.length=1:=by decide +kernel
theorem nl_comp(rs:List p_)(h:∀r∈rs,r.length<=400):aS (.nm 0) iK (f2 eC (ai 0) (fC (.str "\n"))) [c_] (rs.map .str)=.ok ((rs.map (·++NLs)).map .str):=by
 rw[FL];refine fU _ _ rs λr I=>⟨[a_ (.str r)],rfl,?_⟩
 have h1:=h r I;have h2:r.length+(e_ "\n").length<=f_:=by have:(e_ "\n").length=1:=nl_len;rw[FO];omega
 show eC (.str r) (.str "\n")=_;unfold eC;simp only;rw[g_ h2];rfl
theorem zip_nf:∀I:List (p_×Fli),px ((I.map (·.1)).map .str) ((I.map (·.2)).map flD)=I.map λp=>A'.tup [.str p.1,flD p.2]
 |[]=>rfl|p::I=>by simp only[C_,px,zip_nf I]
section
variable(CR CP CS CW CD:i_)
theorem fl_comp(n:Nat)(a:ks.length<=6)(J:∀k∈ks,k.length<=100)(I:List (p_×Fli))(h:∀p∈I,p.1.length<=100/\BFl ks.length p.2):
  aS (.tp [0,1]) iK (fL (cS) (aa (ai 2) (aa (ai 0) (aa (ai 1) aC)))) [c_,c_,a_ (.lst (ks.map .str))] (I.map λp=>A'.tup [.str p.1,flD p.2])=.ok ((I.map (fH ks)).map .str):=by
 rw[FL];refine fU _ _ I λp Y=>⟨[a_ (.str p.1),a_ (flD p.2),a_ (.lst (ks.map .str))],rfl,?_⟩
 obtain⟨h1,h2⟩:=h p Y;have e:=qz n a h1 J h2;show(cS [.lst (ks.map .str),.str p.1,flD p.2])=_;rw[e];rfl
theorem bes_at(rows r2:List (List Int)):bJ [CP] "beside" (oN CR CP rows (aX r2))=.ok (aX r2):=by
 have h1:((("beside":p_)==("gaps":p_))=b_):=by decide +kernel
 have h2:((("beside":p_)==("beside":p_))=d_):=by decide +kernel
 show(if ([CP].contains CP)=d_ then(match Gq ("beside":p_) [(("gaps":p_),aX rows),(("beside":p_),aX r2)]with|some d=>FN d|none=>stk)else stk)=_;rw[g_ (by simp),z_,h1,z_,h2]
def Sht.ru(w:Sht):A':=oN CR CP w.rows w.bD
theorem Sht.bD_or(w:Sht):w.bD=.non\/∃r2,w.bD=aX r2:=by
 unfold Sht.bD;cases w.o with
 |none=>exact .inl rfl|some r2=>exact .inr ⟨r2,rfl⟩
theorem zD(n:Nat){w:Sht}(h:w.Good):aY CR CP CS CW CD n [w.ru CR CP]=.ok (aX w.rows):=by have e1:=gaps_at CR CP w.rows w.bD w.bD_or;have e2:=rQ n w.rows (by have:=h.rows.1;have:=h.k6;omega);simp[aY,jQ,Sht.ru,e1,e2]
theorem A2(n:Nat){w:Sht}(h:w.Good)(I:w.o=a_ r2):bA CR CP CS CW CD n [w.ru CR CP]=.ok (aX r2):=by
 have e2:=rQ n r2 (by have:=(h.o r2 I).1;have:=h.k6;omega);have J:w.bD=aX r2:=by unfold Sht.bD;rw[I]
 have e1:=bes_at CR CP w.rows r2;simp[bA,iZ,Sht.ru,J,e1,e2]
end
section
variable(CR CP CS CW CD:i_)
theorem Dq(I:CR≠CP)(w:Sht)(m:p_)(h1:(m==("gaps":p_))=b_)(h2:(m==("beside":p_))=b_)(g g2:List A'->M A')(fo:ah->M A')(ρ:ah)(e:fo ρ=.ok (w.ru CR CP)):
  jm CR CP m g g2 fo aC ρ=if w.o.isSome=d_ then g2 [w.ru CR CP]else g [w.ru CR CP]:=by
 unfold jm;rw[e];unfold Sht.ru Sht.bD;have J:(CP==CR)=b_:=by simp;exact λz=>I z.symm
 cases w.o with
 |none=>
  show(if isC CR m (.ins CR [("gaps",aX w.rows)])=d_ then _ else _)=_;have:isC CR m (.ins CR [("gaps",aX w.rows)])=d_:=by show((CR==CR)&&(Gq m [(("gaps":p_),aX w.rows)]).isNone)=d_;rw[z_,h1];simp
  rw[g_ this];rfl
 |some r2=>
  show(if isC CR m (.ins CP [("gaps",aX w.rows),("beside",aX r2)])=d_ then _ else if isC CP m (.ins CP [("gaps",aX w.rows),("beside",aX r2)])=d_ then _ else _)=_;have a:isC CR m (.ins CP [("gaps",aX w.rows),("beside",aX r2)])=b_:=by show((CP==CR)&&_)=b_;rw[J];rfl
  have Y:isC CP m (.ins CP [("gaps",aX w.rows),("beside",aX r2)])=d_:=by show((CP==CP)&&(Gq m [(("gaps":p_),aX w.rows),(("beside":p_),aX r2)]).isNone)=d_;rw[z_,h1,z_,h2];simp
  rw[a,l_ (by decide),g_ Y];rfl
theorem ru_gap(I:CR≠CP)(n:Nat){w:Sht}(h:w.Good)(fo:ah->M A')(ρ:ah)(e:fo ρ=.ok (w.ru CR CP)):jm CR CP "gap_rows" (aY CR CP CS CW CD n) (aY CR CP CS CW CD n) fo aC ρ=.ok (aX w.rows):=by rw[Dq CR CP I w "gap_rows" (by decide +kernel) (by decide +kernel) _ _ fo ρ e,zD CR CP CS CW CD n h];split<;>rfl
theorem Dp(I:CR≠CP)(n:Nat){w:Sht}(fo:ah->M A')(ρ:ah)(e:fo ρ=.ok (w.ru CR CP)):jm CR CP "many_strips" (cI) (dm) fo aC ρ=.ok (.int (if w.o.isSome=d_ then 2 else 1)):=by rw[Dq CR CP I w "many_strips" (by decide +kernel) (by decide +kernel) _ _ fo ρ e];split<;>simp[dm,iY,cI,iA]
theorem ru_bes(n:Nat){w:Sht}(h:w.Good)(I:w.o=a_ r2)(fo:ah->M A')(ρ:ah)(e:fo ρ=.ok (w.ru CR CP)):jV CP "beside_rows" (bA CR CP CS CW CD n) fo aC ρ=.ok (aX r2):=by
 have a:=A2 CR CP CS CW CD n h I;unfold jV;rw[e];have Y:w.ru CR CP=.ins CP [("gaps",aX w.rows),("beside",aX r2)]:=by unfold Sht.ru Sht.bD;rw[I];rfl
 have J:isC CP "beside_rows" (w.ru CR CP)=d_:=by rw[Y];show((CP==CP)&&(Gq ("beside_rows":p_) [(("gaps":p_),aX w.rows),(("beside":p_),aX r2)]).isNone)=d_;rw[z_,show(("beside_rows":p_)==("gaps":p_))=b_ by decide +kernel,z_,show(("beside_rows":p_)==("beside":p_))=b_ by decide +kernel];simp
 show(if isC CP "beside_rows" (w.ru CR CP)=d_ then _ else _)=_;rw[g_ J];exact a
theorem ru_isi(I:CR≠CP)(w:Sht):isiC [(CR,b_),(CP,d_)] (w.ru CR CP)=.ok (.bl w.o.isSome):=by
 unfold Sht.ru Sht.bD;have J:(CP==CR)=b_:=by simp;exact λz=>I z.symm
 cases w.o with
 |none=>show(match Gq CR [(CR,b_),(CP,d_)]with|some b=>FN (A'.bl b)|none=>stk)=_;rw[z_,show(CR==CR)=d_ by simp];rfl
 |some r2=>show(match Gq CP [(CR,b_),(CP,d_)]with|some b=>FN (A'.bl b)|none=>stk)=_;rw[z_,J,z_,show(CP==CP)=d_ by simp];rfl
theorem text_ok(Y:CR≠CP)(n:Nat){w:Sht}(h:w.Good):dZ CR CP CS CW CD n [w.kD,w.ru CR CP,w.nD,w.fD,w.cD]=.ok (.str w.tx):=by
 have e1:=Ei w.ks h.kl;have e2:=ru_gap CR CP CS CW CD Y n h (ai 1) [a_ w.kD,a_ (w.ru CR CP),a_ w.nD,a_ w.fD,a_ w.cD,c_] rfl;have e3:=mV n lgap w.ks h.kl h.k6 1 w.rows h.rows.nat;have e4:=ru_isi CR CP Y w;have e5:=zV w.cs h.cl;have D:=fl_comp n h.k6 h.kl w.nf h.nl;have C:=nl_comp w.rs h.Du;have r:=h.rs_len;have o:w.ks.length<=16777216:=by have:=h.k6;omega
 have m:w.cs.length<=16777216:=by have:=h.cm;omega
 have l:w.nf.length<=16777216:=by have:=h.nm;omega
 have d:w.rs.length<=16777216:=by omega
 obtain⟨B,J⟩:∃B,vJ w.ks w.o=B:=⟨_,rfl⟩
 have g:w.ks.length+(bH "gap" 1 w.ks w.ks w.rows).length+B.length+w.cs.length+w.nf.length<=200:=by have:=h.rs_len;unfold Sht.rs rowsOf at this;simp only[FG,t_,J]at this;exact this
 have A:∀I:List p_,I.length<=200->jK CR CP CS CW CD n [a_ w.kD,a_ (w.ru CR CP),a_ w.nD,a_ w.fD,a_ w.cD,a_ (.lst (I.map .str))]=.ok (.nx [a_ w.kD,a_ (w.ru CR CP),a_ w.nD,a_ w.fD,a_ w.cD,a_ (.lst ((I++B).map .str))]):=λI i=>by
  cases c:w.o with
  |none=>rw[c]at e4 J;have J:B=[]:=J.symm;simp[jK,e4,J]|some r2=>
   have k:=ru_bes CR CP CS CW CD n h c (ai 1) [a_ w.kD,a_ (w.ru CR CP),a_ w.nD,a_ w.fD,a_ w.cD,c_] rfl;have b:=mV n lbes w.ks h.kl h.k6 0 r2 (h.o r2 c).nat;rw[c]at e4 J;have J:bH "beside" 0 w.ks w.ks r2=B:=J;rw[J]at b;have e:I.length+B.length<=16777216:=by omega
   simp[jK,e4,k,Sht.kD,b,e]at k ⊢
 have j:w.ks.map mi++bH "gap" 1 w.ks w.ks w.rows++B++w.cs.map jr++w.nf.map (fH w.ks)=w.rs:=by rw[<- J];rfl
 have b1:w.ks.length+(bH "gap" 1 w.ks w.ks w.rows).length<=16777216:=by omega
 have b2:w.ks.length+((bH "gap" 1 w.ks w.ks w.rows).length+B.length)+w.cs.length<=16777216:=by omega
 have b3:w.ks.length+((bH "gap" 1 w.ks w.ks w.rows).length+(B.length+w.cs.length))+w.nf.length<=16777216:=by omega
 have a:=A (w.ks.map mi++bH "gap" 1 w.ks w.ks w.rows) (by simp;omega);have s:((w.rs.map (·++NLs)).map (·.length)).sum<=16777216:=by
  have:=lenLe (w.rs.map (·++NLs)) 401 (λx q=>by obtain⟨y,p,rfl⟩:=Gz.mp q;have:=h.Du y p;rw[l9,nl_len];omega)
  rw[t_]at this;omega
 have t:(e_ "").length=0:=by decide +kernel
 have es:=ig (w.rs.map (·++NLs));have v:=AR (w.rs.map (·++NLs));have z:=zip_nf w.nf;have u:JC A'.str (JC mi w.ks)++(JC A'.str (bH "gap" 1 w.ks w.ks w.rows)++(JC A'.str B++(JC A'.str (JC jr w.cs)++JC A'.str (JC (fH w.ks) w.nf))))=w.rs.map .str:=by rw[<- j];simp only[FY,Hl]
 rw[<- j]at d;simp only[Sht.kD,Sht.nD,Sht.fD,Sht.cD,FY,Hl]at e2 a ⊢;simp only[FG,t_,N9]at d;simp[dZ,xC,e1,o,e2,e3,b1,a,e5,m,b2,z,D,l,b3,nv,d,-FL];rw[u,C];have f:((w.rs.map (·++NLs)).map (·.length)).sum+(w.rs.map (·++NLs)).length*(e_ "").length<=16777216:=by rw[t,Nat.mul_zero];exact s
 simp only[aj,rD,es,FO,g_ f,v];rfl
end
theorem gH{α:Type}(f:α->A')(n:Nat)(h:∀x,I' (f x) n=d_):∀L:List α,lD (L.map f) n=d_
 |[]=>rfl|x::L=>by simp[lD,h x,gH f n h L]
theorem lP{d:A'}(h:I' d 40=d_):neM d d=.ok (.bl b_):=by unfold neM;rw[h];simp[pW h]
theorem yH{d:A'}(h:I' d 40=d_):eqM d d=.ok (.bl d_):=by unfold eqM;rw[h];simp[pW h]
theorem okE_tz(x:List Int)(n:Nat):I' (Aa x) (n+1)=d_:=by unfold Aa;simp only[I'];exact gH _ _ (λ_=>by simp[I']) x
theorem okE_lt(xs:List (List Int))(n:Nat):I' (.lst (xs.map Aa)) (n+2)=d_:=by simp only[I'];exact gH _ _ (λx=>okE_tz x n) xs
theorem DR(rows:List (List Int))(n:Nat):I' (aX rows) (n+2)=d_:=by unfold aX;simp only[I'];refine gH _ _ (λr=>?_) rows;unfold qE;simp only[I'];exact gH _ _ (λ_=>by simp[I']) r
theorem AG(xs:List p_)(n:Nat):I' (.lst (xs.map .str)) (n+1)=d_:=by simp only[I'];exact gH _ _ (λ_=>by simp[I']) xs
noncomputable def flZ(f:Fli):List Int:=[f.kind,f.first,f.last,f.due,f.price]
noncomputable def stZ(p:vL):List Int:=[p.1,p.2]
theorem flD_map(l:List Fli):l.map flD=(l.map flZ).map Aa:=by rw[FL];rfl
theorem stD_map(l:List vL):l.map stD=(l.map stZ).map Aa:=by rw[FL];rfl
section
variable(CR CP CS CW CD:i_)
theorem Bh(n:Nat)(x:List Int):aS (.nm 0) iK (fL (dB) (aa (ai 0) aC)) [c_] (x.map .int)=.ok ((x.map λ_=>d_).map A'.bl):=by
 rw[FL];refine fU _ _ x λi _=>⟨[a_ (.int i)],rfl,?_⟩
 simp[dB,kr]
theorem ql(n:Nat)(L:Nat)(e:L<=100)(I a1:Option A'):∀(xs:List (List Int)) (J:Option A'),(∀x∈xs,x.length=L)->∃Y,lj (.nm 3) (fZ) (xs.map Aa) [I,a1,a_ (.int L),J]=.ok (.nx [I,a1,a_ (.int L),Y])
 |[],J,_=>⟨J,rfl⟩|x::xs,J,h=>by
  have d:=h x (by simp);have i:x.length<=16777216:=by omega
  have a:L<=16777216:=by omega
  have f:=Bh n x;have j:neM (.int (L:Int)) (.int (L:Int))=.ok (.bl b_):=lP rfl;have ea:(x.map λ_=>d_).all id=d_:=by simp
  have g:fZ [I,a1,a_ (.int L),a_ (Aa x)]=.ok (.nx [I,a1,a_ (.int L),a_ (Aa x)]):=by simp[fZ,kJ,kH,Aa,d,a,f,ea,-FL]
  obtain⟨Y,b⟩:=ql n L e I a1 xs (a_ (Aa x)) λy c=>h y (by simp[c]);refine⟨Y,?_⟩
  rw[<- b];simp[lj,g]
theorem vW(n:Nat)(L:Nat)(I:L<=100)(xs:List (List Int))(h:∀x∈xs,x.length=L):cH [.lst (xs.map Aa),.lst (xs.map Aa),.int L]=.ok (.bl d_):=by have J:=lP (okE_lt xs 38);obtain⟨Y,e⟩:=ql n L I (a_ (.lst (xs.map Aa))) (a_ (.lst (xs.map Aa))) xs c_ h;simp[cH,nF,kK,J,e]
def Sht.obj(w:Sht):A':=.ins CS [("kinds",w.kD),("rules",w.ru CR CP),("names",w.nD),("flights",w.fD),("closed",w.cD),("text",.str w.tx)]
theorem obj_at(w:Sht):bJ [CS] "kinds" (w.obj CR CP CS)=.ok w.kD/\bJ [CS] "rules" (w.obj CR CP CS)=.ok (w.ru CR CP)/\bJ [CS] "names" (w.obj CR CP CS)=.ok w.nD/\bJ [CS] "flights" (w.obj CR CP CS)=.ok w.fD/\bJ [CS] "closed" (w.obj CR CP CS)=.ok w.cD/\bJ [CS] "text" (w.obj CR CP CS)=.ok (.str w.tx):=by
 have l:∀a b:p_,a≠b->(a==b)=b_:=λa b h=>by simp[h]
 have key:∀(y:p_) (d:A'),Gq y [(("kinds":p_),w.kD),(("rules":p_),w.ru CR CP),(("names":p_),w.nD),(("flights":p_),w.fD),(("closed":p_),w.cD),(("text":p_),.str w.tx)]=a_ d->bJ [CS] y (w.obj CR CP CS)=.ok d:=λy d h=>by show(if ([CS].contains CS)=d_ then(match Gq y [(("kinds":p_),w.kD),(("rules":p_),w.ru CR CP),(("names":p_),w.nD),(("flights":p_),w.fD),(("closed":p_),w.cD),(("text":p_),A'.str w.tx)]with|some d=>FN d|none=>stk)else stk)=_;rw[g_ (by simp),h]
 have e1:(("rules":p_)==("kinds":p_))=b_:=by decide +kernel
 have e2:(("names":p_)==("kinds":p_))=b_:=by decide +kernel
 have e3:(("names":p_)==("rules":p_))=b_:=by decide +kernel
 have e4:(("flights":p_)==("kinds":p_))=b_:=by decide +kernel
 have e5:(("flights":p_)==("rules":p_))=b_:=by decide +kernel
 have k:(("flights":p_)==("names":p_))=b_:=by decide +kernel
 have j:(("closed":p_)==("kinds":p_))=b_:=by decide +kernel
 have i:(("closed":p_)==("rules":p_))=b_:=by decide +kernel
 have g:(("closed":p_)==("names":p_))=b_:=by decide +kernel
 have f:(("closed":p_)==("flights":p_))=b_:=by decide +kernel
 have e:(("text":p_)==("kinds":p_))=b_:=by decide +kernel
 have c:(("text":p_)==("rules":p_))=b_:=by decide +kernel
 have Y:(("text":p_)==("names":p_))=b_:=by decide +kernel
 have J:(("text":p_)==("flights":p_))=b_:=by decide +kernel
 have I:(("text":p_)==("closed":p_))=b_:=by decide +kernel
 refine⟨key _ _ ?_,key _ _ ?_,key _ _ ?_,key _ _ ?_,key _ _ ?_,key _ _ ?_⟩<;>simp only[z_,MS,e1,e2,e3,e4,e5,k,j,i,g,f,e,c,Y,J,I]
theorem obj_isi(w:Sht):isiC [(CS,d_)] (w.obj CR CP CS)=.ok (.bl d_):=by show(match Gq CS [(CS,d_)]with|some b=>FN (A'.bl b)|none=>stk)=_;rw[z_,show(CS==CS)=d_ by simp]
theorem is_ok(Y:CR≠CP)(n:Nat){w:Sht}(h:w.Good):km CR CP CS CW CD n [w.obj CR CP CS,w.D]=.ok (.bl d_):=by
 obtain⟨a1,p,m,l,k,s⟩:=obj_at CR CP CS w;have j:=obj_isi CR CP CS w;have g:neM w.kD w.kD=.ok (.bl b_):=lP (AG _ 39);have n2:neM w.nD w.nD=.ok (.bl b_):=lP (AG _ 39);have b:neM (aX w.rows) (aX w.rows)=.ok (.bl b_):=lP (DR _ 38);have t1:cH [w.fD,w.fD,.int 5]=.ok (.bl d_):=by unfold Sht.fD;rw[flD_map];exact vW n 5 (by decide) _ λx c=>by obtain⟨f,_,rfl⟩:=Gz.mp c;rfl
 have t2:cH [w.cD,w.cD,.int 2]=.ok (.bl d_):=by unfold Sht.cD;rw[stD_map];exact vW n 2 (by decide) _ λx c=>by obtain⟨f,_,rfl⟩:=Gz.mp c;rfl
 generalize i:([a_ (w.obj CR CP CS),a_ w.D,a_ w.kD,a_ (aX w.rows),a_ w.bD,a_ w.nD,a_ w.fD,a_ w.cD]:ah)=E;have e:f1 (bJ [CS] "rules") (ai 0) E=.ok (w.ru CR CP):=by rw[<- i];exact p
 have I:=ru_gap CR CP CS CW CD Y n h (f1 (bJ [CS] "rules") (ai 0)) E e;have g2:=Dp CR CP Y n (w:=w) (f1 (bJ [CS] "rules") (ai 0)) E e;subst i;cases J:w.o with
 |none=>
  have a:w.bD=.non:=by unfold Sht.bD;rw[J]
  rw[a]at I g2;rw[J]at g2;simp only[Sht.D,a]at I g2 ⊢;simp[km,rq,mG,mE,mD,mC,j,a1,m,g,n2,l,k,t1,t2,I,b,g2,b2z]
 |some r2=>
  have a:w.bD=aX r2:=by unfold Sht.bD;rw[J]
  have d:=ru_bes CR CP CS CW CD n h J (f1 (bJ [CS] "rules") (ai 0)) _ e;have q:=yH (DR r2 38);have r:DX (aX r2) .non=.ok (.bl d_):=rfl;have o:isND (aX r2) .non=.ok (.bl b_):=rfl;rw[a]at I g2 d;rw[J]at g2;simp only[Sht.D,a,aX]at I g2 d b q ⊢;simp[km,rq,mG,mE,mD,mC,j,a1,m,g,n2,l,k,t1,t2,I,b,g2,d,q,b2z]
end
theorem take63{ns:List Int}(h:ns.length<=63):de (.lst (ns.map .int)) c_ (a_ 63)=.ok (.lst (ns.map .int)):=by
 show FN (A'.lst (Cr (ns.map A'.int) c_ (a_ 63)))=_
 congr 2
 unfold Cr cX;rw[IJ,List.take_of_length_le];simp;omega
noncomputable def LT:p_:="abcdefghijklmnopqrstuvwxyz"
noncomputable def DG:p_:="0123456789"
noncomputable def LD:p_:="abcdefghijklmnopqrstuvwxyz0123456789"
theorem Fz:LT.length=26:=by decide +kernel
theorem DG_len:DG.length=10:=by decide +kernel
theorem LD_len:LD.length=36:=by decide +kernel
section
variable(CR CP CS CW CD:i_)
theorem cell_ok(n:Nat)(ns:List Int)(j:Nat):∃x,aW [.lst (ns.map .int),.int j]=.ok (.int x)/\0<=x:=by
 by_cases h:j<ns.length
 ·refine⟨ns[j]%1000000000000000000000000,?_,HJ _ (by decide)⟩
  have e:=iV (ds:=ns.map A'.int) (k:=j) (by simpa using h);simp[aW,jd,hG,h,e]
 ·exact⟨0,by simp[aW,jd,hG,h],by omega⟩
theorem AH(y:Int):0<=(y*1442695040888963407+4321)%2305843009213693921/\(y*1442695040888963407+4321)%2305843009213693921<2305843009213693921:=⟨HJ _ (by decide),Hy _ (by decide)⟩
theorem kh(n:Nat)(ns:List Int)(d:ns.length<=63)(k:Int)(j:0<=k)(h1:k<1000000):∃x,aZ [.lst (ns.map .int),.int k]=.ok (.int x)/\0<=x/\x<2305843009213693921:=by
 have Y: -18446744073709551616<k:=by omega
 have J:k<18446744073709551616:=by omega
 have i:=take63 d;by_cases c:0<ns.length
 ·have g:0<=k%(ns.length:Int):=HJ _ (by omega);have f:k%(ns.length:Int)<(ns.length:Int):=Hy _ (by omega);have h:(0:Int)<ns.length:=by omega
  have I:ns≠[]:=λe=>by rw[e]at c;simp at c
  refine⟨_,?_,AH ((ns[(k%(ns.length:Int)).toNat]'(by omega)%1000000000000000000000000+k*k*7919+ns.length)*48271%2305843009213693951)⟩
  simp[aZ,jH,iH,i,c,I,getI_int g f,e_mod h,Y,J]
 ·have I:ns=[]:=by cases ns with|nil=>rfl|cons a b=>simp at c
  subst I;refine⟨_,?_,AH ((13*k+5+k*k*7919+0)*48271%2305843009213693951)⟩
  simp only[HI]at i;simp[aZ,jH,iH,i,Y,J]
end
section
variable(CR CP CS CW CD:i_)
theorem mem_range{k:Nat}{d:A'}(h:d∈bQ 0 k):∃j:Nat,j<k/\d=.int j:=by obtain⟨i,hi⟩:=List.mem_iff_getElem?.mp h;obtain⟨h1,h2⟩:=kQ hi;exact⟨_,h1,h2⟩
end
section
variable(CR CP CS CW CD:i_)
theorem new1(n:Nat){k:Nat}(h1:1<=k)(J:k<=6)(I:eD k rows):newR CR (aH) [aX rows]=.ok (oN CR CP rows .non):=by have e:=oE n k rows h1 J I;simp[newR,e,oN]
theorem new2(n:Nat){k:Nat}(h1:1<=k)(Y:k<=6)(J:eD k rows)(I:eD k r2):newP CP (aH) [aX rows,aX r2]=.ok (oN CR CP rows (aX r2)):=by
 have e1:=oE n k rows h1 Y J;have e2:=oE n k r2 h1 Y I;have a:twoL (aX rows) (aX r2)=d_:=by simp[twoL,aX,J.1,I.1]
 simp only[newP,e1,e2,aj,a,Ln];rfl
end
noncomputable def jn(c:Nat):List (List Nat)->List Nat
 |[]=>[]|[x]=>x|x::y::r=>x++c::jn c (y::r)
theorem jn_uniq(c:Nat):∀(ps I:List (List Nat)),ps≠[]->I≠[]->(∀p∈ps,c∉p)->(∀q∈I,c∉q)->jn c ps=jn c I->ps=I:=by
 have key:∀(x y a b:List Nat),c∉x->c∉y->x++c::a=y++c::b->x=y/\a=b:=by
  intro x
  induction x with
  |nil=>
   intro y a b _ e h;cases y with
   |nil=>exact⟨rfl,by simpa using h⟩|cons z y=>exact FJ (by simp at h;simp[h.1]) e
  |cons z x d=>
   intro y a b i e h;cases y with
   |nil=>exact FJ (by simp at h;simp[h.1]) i|cons k y=>simp only[KH,Jy]at h;obtain⟨h1,h2⟩:=d y a b (λm=>i (by simp[m])) (λm=>e (by simp[m])) h.2;exact⟨by rw[h.1,h1],h2⟩
 have Y:∀{x a:List Nat},c∈x++c::a:=by intro x a;simp
 intro ps
 induction ps with
 |nil=>intro I h;exact FJ rfl h|cons x ps d=>
  intro I _ j f J h;cases ps with
  |nil=>
   match I,j with
   |[y],_=>exact Iv (λz=>[z]) h|y::g::I,_=>exact FJ (by rw[show x=_ from h];exact Y) (f x (by simp))
  |cons l ps=>
   match I,j with
   |[y],_=>exact FJ (by rw[show y=_ from h.symm];exact Y) (J y (by simp))|y::g::I,_=>obtain⟨h1,h2⟩:=key x y _ _ (f x (by simp)) (J y (by simp)) h;rw[h1,d (g::I) (by simp) (by simp) (λp m=>f p (by simp[m])) (λq m=>J q (by simp[m])) h2]
theorem join_one(I a:p_):G4 I [a]=a:=rfl
theorem AO(I a b:p_)(r:List p_):G4 I (a::b::r)=a++I++G4 I (b::r):=rfl
theorem uY(c:Nat):∀xs:List p_,(G4 ⟨#[c]⟩ xs).cps.toList=jn c (xs.map λx=>x.cps.toList)
 |[]=>rfl|[x]=>rfl|x::y::r=>by rw[AO];show((x.cps++#[c])++(G4 ⟨#[c]⟩ (y::r)).cps).toList=_;rw[Mo,Mo,uY c (y::r)];simp[jn]
theorem yD(h:a.cps.toList=b.cps.toList):a=b:=by obtain⟨⟨a⟩⟩:=a;obtain⟨⟨b⟩⟩:=b;cases(show a=b from h);rfl
def free(c:Nat)(x:p_):Prop:=c∉x.cps.toList
theorem split_of(c:Nat)(ps:List p_)(g:ps≠[])(h:∀p∈ps,free c p):HP (G4 ⟨#[c]⟩ ps) ⟨#[c]⟩=ps:=by
 have h1:=StrLaws.join_split (G4 ⟨#[c]⟩ ps) ⟨#[c]⟩;have h2:=StrLaws.split_free (G4 ⟨#[c]⟩ ps) c;have d:=split_pos (G4 ⟨#[c]⟩ ps) ⟨#[c]⟩;generalize HP (G4 ⟨#[c]⟩ ps) ⟨#[c]⟩=e at h1 h2 d;have j:jn c (e.map λx=>x.cps.toList)=jn c (ps.map λx=>x.cps.toList):=by rw[<- uY,<- uY,h1]
 have i:=jn_uniq c _ _ (by intro z;rw[J7]at z;rw[z]at d;simp at d) (by simpa using g) (λp Y=>by
  obtain⟨x,J,rfl⟩:=Gz.mp Y;exact h2 x J) (λp Y=>by
  obtain⟨x,J,rfl⟩:=Gz.mp Y;exact h x J) j
 have I:∀(l m:List p_),(l.map λx=>x.cps.toList)=(m.map λx=>x.cps.toList)->l=m:=by
  intro l
  induction l with
  |nil=>intro m h;cases m with
   |nil=>rfl|cons _ _=>simp at h
  |cons a l f=>intro m h;cases m with
   |nil=>simp at h|cons b m=>simp only[C_,Jy]at h;rw[yD h.1,f m h.2]
 exact I _ _ i
def lowD(c:Nat):Prop:=(97<=c/\c<=122)\/(48<=c/\c<=57)
structure Wd(x:p_):Prop where
 ne:x.cps.toList≠[]
 sg:∀c∈x.cps.toList,lowD c
theorem Wd.free{x:p_}(h:Wd x){c:Nat}(I:¬lowD c):Tactic.free c x:=λm=>I (h.sg c m)
theorem FIG_list:(e_ "0123456789").cps.toList=Ox 48 10:=by decide +kernel
theorem LET_list:(e_ "abcdefghijklmnopqrstuvwxyz").cps.toList=Ox 97 26:=by decide +kernel
theorem oA(c:Nat):c∈(e_ "0123456789").cps.toList↔48<=c/\c<=57:=by rw[FIG_list,M5];omega
theorem ma(c:Nat):c∈(e_ "abcdefghijklmnopqrstuvwxyz").cps.toList↔97<=c/\c<=122:=by rw[LET_list,M5];omega
theorem one_eq(c:Nat)(s:p_)(d:Nat)(I:s=⟨#[d]⟩):eqM (.str ⟨#[c]⟩) (.str s)=.ok (.bl (q_ (c=d))):=by
 subst I;by_cases h:c=d
 ·subst h;simp[eqM,I',eqD]
 ·have:(⟨#[c]⟩:p_)≠⟨#[d]⟩:=λz=>h (by injection z with z;injection z with z;injection z);simp[eqM,I',eqD,h]
section
variable(CR CP CS CW CD:i_)
structure Nm(x:p_):Prop where
 wd:Wd x
 l8:x.length<=8
 hd:∃c r,x.cps.toList=c::r/\97<=c/\c<=122
end
theorem memS(k:p_)(ks:List p_):((ks.map A'.str).any λd=>eqD d (.str k))=q_ (k∈ks):=by
 rw[Jc];simp only[KI,Gz,FT];constructor
 ·rintro⟨d,⟨s,I,rfl⟩,h⟩;have:s=k:=by simpa[eqD] using h
  rw[<- this];exact I
 ·intro h;exact⟨.str k,⟨k,h,rfl⟩,by simp[eqD]⟩
theorem inS(k:p_)(ks:List p_):inM (.str k) (.lst (ks.map .str))=.ok (.bl (q_ (k∈ks))):=by have h2:lD (ks.map A'.str) 40=d_:=gH _ _ (λ_=>rfl) ks;show(if (I' (.str k) 40&&lD (ks.map A'.str) 40)=d_ then FN (A'.bl ((ks.map A'.str).any λd=>eqD d (.str k)))else stk)=_;rw[g_ (by rw[h2];rfl),memS]
theorem qT(k:p_)(ks:List p_):ip (.str k) (.lst (ks.map .str))=.ok (.bl (!decide (k∈ks))):=by have h2:lD (ks.map A'.str) 40=d_:=gH _ _ (λ_=>rfl) ks;show(if (I' (.str k) 40&&lD (ks.map A'.str) 40)=d_ then FN (A'.bl (!((ks.map A'.str).any λd=>eqD d (.str k))))else stk)=_;rw[g_ (by rw[h2];rfl),memS]
theorem idx_at(J:ks.Nodup){i:Nat}(hi:i<ks.length):AS ks ks[i]=a_ i:=by
 refine IG.mpr ⟨hi,by simp,λj Y=>?_⟩;have I:ks[j]≠ks[i]:=λz=>by have:=(M7 (show j<ks.length by omega) J (j:=i)).mp (by rw[Ge (by omega),Ge hi,z]);omega
 simpa using I
theorem uW(a b:Int)(h:a=b):neM (.int a) (.int b)=.ok (.bl b_):=by subst h;exact lP rfl
section
variable(CR CP CS CW CD:i_)
def St1(p:vL):Prop:=0<=p.1/\p.1<p.2/\p.2<=1000000000
structure Fl1(k:Nat)(f:Fli):Prop where
 k0:0<=f.kind
 k1:f.kind<k
 a:0<=f.first
 b:f.first<=f.last
 c:f.last<=1000000000
 d:0<=f.due/\f.due<=1000000000
 e:0<=f.price/\f.price<=1000000000
end
structure DSt where
 ks:List p_
 G:List (List Int×A')
 B:List (List Int×A')
 nf:List (p_×Fli)
 cs:List vL
def DSt.D(s:DSt):List A':=[.lst (s.ks.map .str),.dic s.G,.dic s.B,.lst ((s.nf.map (·.1)).map .str),.lst ((s.nf.map (·.2)).map flD),.lst (s.cs.map stD)]
theorem k8(l:List p_)(n:Nat):lD (l.map A'.str) n=d_:=gH _ _ (λ_=>rfl) l
theorem get0:g8 ((w::r).map A'.str) 0=.ok (.str w):=by have:=iV (ds:=(w::r).map A'.str) (k:=0) (by simp);rw[show((0:Nat):Int)=0 from rfl]at this;rw[this];rfl
theorem t1_ok(hw:G3 w "#"=b_):(fOr (fB (f2 eqM (ai 1) (fL bP aC))) (lI (fSM nZ (f2 ixD (ai 1) (fC (.int 0))) (fC (.str "#"))))) [c_,a_ (.lst ((w::r).map .str))]=.ok b_:=by
 have I:g8 ((w::r).map A'.str) 0=.ok (.str w):=get0;have e:eqM (.lst ((w::r).map A'.str)) (.lst [])=.ok (.bl b_):=by have h1:I' (.lst ((w::r).map A'.str)) 40=d_:=k8 (w::r) 39;show(if (I' (.lst ((w::r).map A'.str)) 40&&I' (.lst []) 40)=d_ then _ else _)=_;rw[g_ (by rw[h1];rfl)];rfl
 simp[e,I,hw,-C_]
theorem t6_ok(x:p_):(f2 eqM (f2 ixD (ai 1) (fC (.int 0))) (fC (.str x))) [c_,a_ (.lst ((w::r).map .str))]=.ok (.bl (q_ (w=x))):=by
 have I:g8 ((w::r).map A'.str) 0=.ok (.str w):=get0;have e:eqM (.str w) (.str x)=.ok (.bl (q_ (w=x))):=by
  by_cases h:w=x
  ·subst h;simp[eqM,I',eqD]
  ·simp[eqM,I',eqD,h]
 simp[I,e,-C_]
theorem tw_ok(x:p_):(fB (f2 eqM (f2 ixD (ai 1) (fC (.int 0))) (fC (.str x)))) [c_,a_ (.lst ((w::r).map .str))]=.ok (q_ (w=x)):=by show((f2 eqM (f2 ixD (ai 1) (fC (.int 0))) (fC (.str x))) [c_,a_ (.lst ((w::r).map .str))]).bind asB=_;rw[t6_ok];rfl
noncomputable def wK:p_:="kind"
noncomputable def wG:p_:="gap"
noncomputable def wB:p_:="beside"
noncomputable def wC:p_:="closed"
noncomputable def wF:p_:="flight"
theorem sj:wG≠wK/\wB≠wK/\wB≠wG/\wC≠wK/\wC≠wG/\wC≠wB/\wF≠wK/\wF≠wG/\wF≠wB/\wF≠wC:=by decide +kernel
section
variable(CR CP CS CW CD:i_)
theorem row_way(n:Nat)(s:DSt)(w:p_)(r:List p_)(hw:G3 w "#"=b_):bz s.D ((w::r).map .str) =
  if w=wK then(bq [.lst (s.ks.map .str),.lst ((w::r).map .str)]).bind (sW 0 s.D)else
  if w=wG then(bj [.lst (s.ks.map .str),.lst ((w::r).map .str)]).bind (CG 1 s.D)else
  if w=wB then(bj [.lst (s.ks.map .str),.lst ((w::r).map .str)]).bind (CG 2 s.D)else
  if w=wC then(aT [.lst (s.cs.map stD),.lst ((w::r).map .str)]).bind (sW 5 s.D)else
  if w=wF then mP (aV) s.D ((w::r).map .str)else .ok (b_,s.D):=by
 unfold bz nX;show((fOr _ _ _).bind _)=_;rw[t1_ok hw,aj,l_ (by decide),tw_ok,aj,tw_ok,aj,tw_ok,aj,tw_ok,aj,t6_ok,aj];simp only[FT];show(if w=wK then _ else if w=wG then _ else if w=wB then _ else if w=wC then _ else _)=_;by_cases h1:w=wK
 ·rw[g_ h1,g_ h1]
 rw[l_ h1,l_ h1];by_cases h2:w=wG
 ·rw[g_ h2,g_ h2]
 rw[l_ h2,l_ h2];by_cases Y:w=wB
 ·rw[g_ Y,g_ Y]
 rw[l_ Y,l_ Y];by_cases J:w=wC
 ·rw[g_ J,g_ J]
 rw[l_ J,l_ J];by_cases I:w=wF
 ·rw[g_ I,show q_ (w=e_ "flight")=d_ from s_ I]
 ·rw[l_ I,show q_ (w=e_ "flight")=b_ from m_ I]
theorem row_none(n:Nat)(s:DSt):bz s.D []=.ok (d_,s.D):=by
 have e:eqM (.lst []) (.lst [])=.ok (.bl d_):=rfl;have t:(fOr (fB (f2 eqM (ai 1) (fL bP aC))) (lI (fSM nZ (f2 ixD (ai 1) (fC (.int 0))) (fC (.str "#"))))) [c_,a_ (.lst [])]=.ok d_:=by simp[e]
 unfold bz nX;show((fOr _ _ _).bind _)=_;rw[t];rfl
end
def Tb(k:Nat)(G:List (List Int×A'))(t:Nat->Nat->Int):Prop:=∀a c,a<k->c<k->(CI G [(a:Int),(c:Int)]).getD (.int 0)=.int (t a c)
section
variable(CR CP CS CW CD:i_)
theorem Nm.l100(h:Nm x):x.length<=100:=by have:=h.l8;omega
noncomputable def wD(r:List Int)(c:Nat):Int:=r.getD c 0
end
theorem Fl1.bfl{k:Nat}(h:Fl1 k f):BFl k f:=by obtain⟨k0,k1,a,b,c,d,e⟩:=h;constructor<;>omega
noncomputable def tabL(k:Nat)(t:Nat->Nat->Int):List (List Int):=(GU k).map λi=>(GU k).map λj=>t i j
theorem rangeD(k:Nat):bQ 0 k=(GU k).map λi:Nat=>A'.int (i:Int):=by unfold bQ;refine Hs λi _=>?_;simp
theorem w4{k:Nat}(h:eD k rows):tabL k (λa c=>wD (rows.getD a []) c)=rows:=by refine Ng (by simp[tabL,h.1]) λi h1 h2=>?_;have I:=h.2 rows[i] (Hb h2);refine Ng (by simp[tabL,I.1]) λj Y J=>?_;simp[tabL,wD,h2,J]
section
variable(CR CP CS CW CD:i_)
theorem oR(n:Nat){k:Nat}(c:k<=6){G:List (List Int×A')}{t:Nat->Nat->Int}(h:Tb k G t):iu [.dic G,.int k]=.ok (aX (tabL k t)):=by
 have k1:(-4611686018427387904:Int)<=(k:Int):=by omega
 have k2:(k:Int)<4611686018427387904:=by omega
 have k3:((k:Int)).toNat=k:=by omega
 have I:k<=16777216:=by omega
 have J:∀i,i<k->kj [.dic G,.int (i:Nat),.int k]=.ok (qE ((GU k).map λj=>t i j)):=λi hi=>by
  have Y:aS (.nm 0) iK (xH (ai 1) (fL jU (aa (ai 2) (aa (ai 0) aC))) (fC (.int 0))) [c_,a_ (.dic G),a_ (.int (i:Nat))] ((GU k).map λj:Nat=>A'.int (j:Int))=.ok ((GU k).map λj=>A'.int (t i j)):=
   fU _ _ _ λj b=>⟨[a_ (.int (j:Int)),a_ (.dic G),a_ (.int (i:Nat))],by simp,by have:=h i j hi (List.mem_range.mp b);have a:keyD (.tup [.int (i:Nat),.int (j:Nat)])=.ok [(i:Int),(j:Int)]:=rfl;simp[xH,isDic,Ey,a,this]⟩
  simp[kj,xD,k1,k2,k3,rangeD,I,Y];simp[qE]
 have Y:aS (.nm 0) iK (fL (kj) (aa (ai 1) (aa (ai 0) (aa (ai 2) aC)))) [c_,a_ (.dic G),a_ (.int k)] ((GU k).map λj:Nat=>A'.int (j:Int))=.ok ((GU k).map λi=>qE ((GU k).map λj=>t i j)):=
  fU _ _ _ λi hi=>⟨[a_ (.int (i:Int)),a_ (.dic G),a_ (.int k)],by simp,by simp[J i (List.mem_range.mp hi)]⟩
 simp[iu,rm,k1,k2,k3,rangeD,I,Y];simp[aX,tabL]
end
structure Sht.SG(w:Sht):Prop where
 k1:1<=w.ks.length
 k6:w.ks.length<=6
 kn:∀k∈w.ks,Nm k
 kd:w.ks.Nodup
 rows:eD w.ks.length w.rows
 o:∀r2,w.o=a_ r2->eD w.ks.length r2
 nm:w.nf.length<=40
 nn:∀p∈w.nf,Nm p.1/\Fl1 w.ks.length p.2
 nd:(w.nf.map (·.1)).Nodup
 cm:w.cs.length<=20
 cl:∀p∈w.cs,St1 p
theorem Sht.SG.good{w:Sht}(h:w.SG):w.Good:=⟨h.k1,h.k6,λk J=>(h.kn k J).l100,h.rows,h.o,h.nm,λp I=>⟨(h.nn p I).1.l100,(h.nn p I).2.bfl⟩,h.cm,λp I=>by obtain⟨a,b,c⟩:=h.cl p I;omega⟩
abbrev tR(rows:List (List Int)):Nat->Nat->Int:=λa c=>wD (rows.getD a []) c
structure Desc(s:DSt)(w:Sht):Prop where
 ks:s.ks=w.ks
 nf:s.nf=w.nf
 cs:s.cs=w.cs
 g:Tb w.ks.length s.G (tR w.rows)
 b0:w.o=c_->s.B=[]
 b1:∀r2,w.o=a_ r2->s.B≠[]/\Tb w.ks.length s.B (tR r2)
section
variable{CR:i_}
theorem dr_at(s:DSt):bJ [CD] "kinds" (drD CD s.D)=.ok (.lst (s.ks.map .str))/\bJ [CD] "gaps" (drD CD s.D)=.ok (.dic s.G)/\bJ [CD] "beside" (drD CD s.D)=.ok (.dic s.B)/\bJ [CD] "names" (drD CD s.D)=.ok (.lst ((s.nf.map (·.1)).map .str))/\bJ [CD] "flights" (drD CD s.D)=.ok (.lst ((s.nf.map (·.2)).map flD))/\bJ [CD] "closed" (drD CD s.D)=.ok (.lst (s.cs.map stD)):=by
 have key:∀(y:p_) (d:A'),((["kinds","gaps","beside","names","flights","closed"]:List p_).zip s.D).lookup y=a_ d->bJ [CD] y (drD CD s.D)=.ok d:=λy d h=>by show(if ([CD].contains CD)=d_ then(match ((["kinds","gaps","beside","names","flights","closed"]:List p_).zip s.D).lookup y with|some d=>FN d|none=>stk)else stk)=_;rw[g_ (by simp),h]
 exact⟨key _ _ (by with_unfolding_all rfl),key _ _ (by with_unfolding_all rfl),key _ _ (by with_unfolding_all rfl),key _ _ (by with_unfolding_all rfl),key _ _ (by with_unfolding_all rfl),key _ _ (by with_unfolding_all rfl)⟩
theorem Cj(n:Nat){s:DSt}{w:Sht}(h:w.SG)(d:Desc s w):cv CR CP CS CW CD n [drD CD s.D]=.ok (w.ru CR CP):=by
 obtain⟨a1,c,b,_,_,_⟩:=dr_at (CD:=CD) s;have t1:=oR n h.k6 d.g;rw[w4 h.rows]at t1;have f:s.ks.length=w.ks.length:=by rw[d.ks]
 rw[d.ks]at a1;cases I:w.o with
 |none=>
  have Y:=d.b0 I;have e1:=new1 CR CP n h.k1 h.k6 h.rows;have a:w.ru CR CP=oN CR CP w.rows .non:=by unfold Sht.ru Sht.bD;rw[I]
  rw[a];rw[Y]at b;simp[cv,iz,gD,a1,c,b,t1,e1]
 |some r2=>
  obtain⟨Y,tb⟩:=d.b1 r2 I;have t2:=oR n h.k6 tb;rw[w4 (h.o r2 I)]at t2;have e1:=new2 CR CP n h.k1 h.k6 h.rows (h.o r2 I);have a:w.ru CR CP=oN CR CP w.rows (aX r2):=by unfold Sht.ru Sht.bD;rw[I]
  rw[a];have J:s.B.isEmpty=b_:=by cases e:s.B with
   |nil=>exact FJ e Y|cons _ _=>rfl
  simp[cv,iz,gD,a1,c,b,t1,t2,e1,J]
end
noncomputable def BX(c:Nat):Bool:=q_ (97<=c/\c<=122)||q_ (48<=c/\c<=57)
noncomputable def zJ(c:Nat):Bool:=q_ (48<=c/\c<=57)
theorem ix0'{r:List Nat}(e:z.cps.toList=c::r)(I:z.length<=16777216):zA (.str z) (.int 0)=.ok (.str ⟨#[c]⟩):=by
 show(if z.length<=f_ then _ else _)=_;rw[g_ (by rw[FO];omega),e];have:atI (c::r) (0:Int)=a_ c:=by unfold atI ixN;simp
 rw[this]
def m9(x:p_)(c:Nat):Bool:=q_ (x.length<=8)&&q_ (97<=c/\c<=122)&&x.cps.toList.all BX
section
variable(CR CP CS CW CD:i_)
theorem zB(n:Nat){r:List Nat}(e:x.cps.toList=c::r)(l:x.length<=1000000):gN [.str x]=.ok (.bl (m9 x c)):=by
 have I:x.length<=16777216:=by omega
 have hsz:x.cps.size<=16777216:=I;have f:=ix0' e I;by_cases d:(8:Int)<(x.length:Int)
 ·have:m9 x c=b_:=by unfold m9;rw[m_ (by omega)];rfl
  rw[this];simp[gN,nB,iG,I,gtD,d]
 ·by_cases b:97<=c/\c<=122
  ·have j:iG [a_ (.str x)]=.ok (.nx [a_ (.str x)]):=by
    simp[iG,I,gtD,d,f,(ma c).mpr b]
   have i:aS (.nm 0) iK (CK (f2 inSD (ai 0) (fC (.str "abcdefghijklmnopqrstuvwxyz"))) (f2 inSD (ai 0) (fC (.str "0123456789")))) [c_] (x.cps.toList.map λc=>.str ⟨#[c]⟩)=.ok ((x.cps.toList.map BX).map A'.bl):=by
    rw[FL];refine fU _ _ _ λc k=>⟨[a_ (.str ⟨#[c]⟩)],by simp,?_⟩
    by_cases Y:97<=c/\c<=122
    ·simp[CK,(ma c).mpr Y,BX,Y]
    ·have a:c∉(e_ "abcdefghijklmnopqrstuvwxyz").cps.toList:=λm=>Y ((ma c).mp m);by_cases J:48<=c/\c<=57
     ·simp[CK,a,(oA c).mpr J,BX,J]
     ·have n2:c∉(e_ "0123456789").cps.toList:=λm=>J ((oA c).mp m);have h:BX c=b_:=by unfold BX;rw[m_ Y,m_ J];rfl
      simp[CK,a,n2,h]
   have g:m9 x c=(x.cps.toList.map BX).all id:=by unfold m9;rw[s_ (show x.length<=8 by omega),s_ b,Ji];rfl
   rw[g];simp[gN,nB,j,i,hsz,-FL,-Ji]
  ·have a:c∉(e_ "abcdefghijklmnopqrstuvwxyz").cps.toList:=λm=>b ((ma c).mp m);have:m9 x c=b_:=by unfold m9;rw[m_ b,HL];rfl
   rw[this];simp[gN,nB,iG,I,gtD,d,f,a]
end
def se(x:p_)(c:Nat):Bool:=q_ (x.length<=10)&&x.cps.toList.all zJ&& !(q_ (c=48)&& !decide (x="0"))
section
variable(CR CP CS CW CD:i_)
theorem BK(n:Nat){r:List Nat}(e:x.cps.toList=c::r)(o:x.length<=1000000):br [.str x]=.ok (if se x c=d_ then .int (((He x.cps.toList:Nat):Int))else .non):=by
 have I:x.length<=16777216:=by omega
 have hsz:x.cps.size<=16777216:=I;have d:=ix0' e I;have h:aS (.nm 0) iK (f2 inSD (ai 0) (fC (.str "0123456789"))) [c_] (x.cps.toList.map λc=>.str ⟨#[c]⟩)=.ok ((x.cps.toList.map zJ).map A'.bl):=by
  rw[FL];refine fU _ _ _ λc l=>⟨[a_ (.str ⟨#[c]⟩)],by simp,?_⟩
  by_cases z:48<=c/\c<=57
  ·simp[(oA c).mpr z,zJ,z]
  ·have n2:c∉(e_ "0123456789").cps.toList:=λm=>z ((oA c).mp m);have k:zJ c=b_:=by unfold zJ;rw[m_ z]
   simp[n2,k]
 by_cases a:(10:Int)<(x.length:Int)
 ·have:se x c=b_:=by unfold se;rw[m_ (by omega)];rfl
  rw[this];simp[br,iy,fV,I,gtD,a]
 ·have J:((x.cps.toList.map zJ).all id)=x.cps.toList.all zJ:=by rw[Ji];rfl
  cases b:x.cps.toList.all zJ with
  |false=>
   have:se x c=b_:=by unfold se;rw[b,HL];rfl
   rw[this];rw[b]at J;simp[br,iy,fV,I,gtD,a,h,hsz,J,-FL,-Ji]
  |true=>
   rw[b]at J;have i:fV [a_ (.str x)]=.ok (.nx [a_ (.str x)]):=by simp[fV,I,gtD,a,h,hsz,J,-FL,-Ji]
   have j:(e_ "0")=⟨#[48]⟩:=by decide +kernel
   have e1:=one_eq c (e_ "0") 48 j;have e2:neM (.str x) (.str "0")=.ok (.bl (!decide (x="0"))):=by
    by_cases hw:x=(e_ "0")
    ·subst hw;simp[neM,I',eqD]
    ·simp[neM,I',eqD,hw]
   have hd:Im x=a_ ((He x.cps.toList:Nat):Int):=LY (λc Y=>by have:=Hd.mp b c Y;unfold zJ at this;exact IE this) (by rw[e];simp) (by omega);have f:x.length<=640:=by omega
   by_cases Y:c=48/\¬x=(e_ "0")
   ·have:se x c=b_:=by unfold se;rw[s_ Y.1,m_ Y.2];simp
    rw[this];have e3:eqM (.str ⟨#[c]⟩) (.str "0")=.ok (.bl d_):=by rw[e1];simp[Y.1]
    have e4:neM (.str x) (.str "0")=.ok (.bl d_):=by rw[e2];simp[Y.2]
    have g:dQ [a_ (.str x)]=.ok (.rt .non):=by simp[dQ,d,e3,e4]
    simp[br,iy,i,g]
   ·have:se x c=d_:=by
     unfold se;rw[s_ (show x.length<=10 by omega),b];by_cases h1:c=48
     ·have h2:x=(e_ "0"):=Gi λz=>Y ⟨h1,z⟩;simp[h2]
     ·simp[h1]
    rw[this];have g:dQ [a_ (.str x)]=.ok (.nx [a_ (.str x)]):=by
     by_cases h1:c=48
     ·have h2:x=(e_ "0"):=Gi λz=>Y ⟨h1,z⟩;have e3:eqM (.str ⟨#[c]⟩) (.str "0")=.ok (.bl d_):=by rw[e1];simp[h1]
      have e4:neM (.str x) (.str "0")=.ok (.bl b_):=by rw[e2];simp[h2]
      simp[dQ,d,e3,e4]
     ·have e3:eqM (.str ⟨#[c]⟩) (.str "0")=.ok (.bl b_):=by rw[e1];simp[h1]
      simp[dQ,d,e3]
    simp[br,iy,i,g,f,hd]
end
theorem vG{α:Type}{p:Pat}{ft:ah->M Bool}{fe:ah->M A'}{ρ0:ah}(g f:α->A')(P:α->Bool):∀(L:List α),(∀x∈L,∃ρ,jj p (g x) ρ0=.ok ρ/\ft ρ=.ok (P x)/\fe ρ=.ok (f x))->aS p ft fe ρ0 (L.map g)=.ok ((L.filter P).map f)
 |[],_=>rfl|x::L,h=>by
  obtain⟨ρ,e1,e2,e3⟩:=h x (by simp);have I:=vG g f P L λy Y=>h y (by simp[Y]);rw[C_,aS,e1,aj,e2,aj];cases J:P x with
  |true=>rw[g_ rfl,e3,aj,I,LH J];rfl|false=>rw[l_ (by decide),I,LI (by rw[J];decide)]
noncomputable def pcs(c:Nat):List Nat->List (List Nat)
 |[]=>[[]]|x::r=>if x=c then []::pcs c r else match pcs c r with
  |p::ps=>(x::p)::ps|[]=>[[x]]
theorem pcs_ok(c:Nat):∀l:List Nat,pcs c l≠[]/\jn c (pcs c l)=l/\(∀p∈pcs c l,c∉p/\p.length<=l.length)/\(pcs c l).length<=l.length+1
 |[]=>⟨by simp[pcs],rfl,by simp[pcs],by simp[pcs]⟩|x::r=>by
  obtain⟨h1,h2,Y,d⟩:=pcs_ok c r;unfold pcs;cases f:pcs c r with
  |nil=>exact FJ f h1|cons p ps=>
   rw[f]at h2 Y d;by_cases J:x=c
   ·rw[g_ J];refine⟨by simp,?_,λq I=>?_,by simpa using d⟩
    ·show []++c::jn c (p::ps)=_;rw[h2,J];rfl
    ·rcases x_.mp I with rfl|I
     ·simp
     ·obtain⟨a,b⟩:=Y q I;exact⟨a,by simp;omega⟩
   ·rw[l_ J];refine⟨by simp,?_,λq I=>?_,by simp at d ⊢;omega⟩
    ·rw[<- h2];cases ps with
     |nil=>rfl|cons y ys=>rfl
    ·rcases x_.mp I with rfl|I
     ·obtain⟨a,b⟩:=Y p (by simp);refine⟨λm=>?_,by simp;omega⟩
      rcases x_.mp m with e|m
      ·exact J e.symm
      ·exact a m
     ·obtain⟨a,b⟩:=Y q (by simp[I]);exact⟨a,by simp;omega⟩
theorem qx(c:Nat)(x:p_):∃ps:List p_,ps≠[]/\(∀p∈ps,p.length<=x.length)/\ps.length<=x.length+1/\HP x ⟨#[c]⟩=ps:=by
 obtain⟨h1,h2,Y,b⟩:=pcs_ok c x.cps.toList;have a:x=G4 ⟨#[c]⟩ ((pcs c x.cps.toList).map λl=>(⟨l.toArray⟩:p_)):=by
  refine yD ?_;rw[uY,FL];have:(pcs c x.cps.toList).map ((λx:p_=>x.cps.toList)∘λl=>(⟨l.toArray⟩:p_))=pcs c x.cps.toList:=by
   conv=>rhs;rw[<- Oy (pcs c x.cps.toList)]
   exact Hs λl _=>by simp
  rw[this,h2]
 refine⟨(pcs c x.cps.toList).map λl=>(⟨l.toArray⟩:p_),by simpa using h1,λp I=>?_,by rw[t_];exact b,?_⟩
 ·obtain⟨l,J,rfl⟩:=Gz.mp I;have:=(Y l J).2;show l.toArray.size<=x.cps.size;simpa using this
 ·conv=>lhs;rw[a]
  refine split_of c _ (by simpa using h1) λp I=>?_;obtain⟨l,J,rfl⟩:=Gz.mp I;show c∉l.toArray.toList;simpa using (Y l J).1
noncomputable def cM(x:p_):List p_:=HP x "\n"
noncomputable def jL(r:p_):List p_:=(HP r " ").filter λw=> !decide (w="")
theorem nl_is:(e_ "\n")=(⟨#[10]⟩:p_):=by decide +kernel
theorem sp_is:(e_ " ")=(⟨#[32]⟩:p_):=by decide +kernel
theorem As(x:p_):cM x≠[]/\(∀p∈cM x,p.length<=x.length)/\(cM x).length<=x.length+1:=by
 obtain⟨ps,h1,h2,J,I⟩:=qx 10 x;have:cM x=ps:=by unfold cM;rw[nl_is];exact I
 rw[this];exact⟨h1,h2,J⟩
def WOk(w:p_):Prop:=w.cps.toList≠[]/\w.length<=1000000
theorem vP{r:p_}(J:r.length<=1000000):∀w∈jL r,WOk w:=by
 obtain⟨ps,h1,h2,Y,I⟩:=qx 32 r;intro w hw;unfold jL at hw;rw[sp_is,I,GL]at hw;refine⟨λe=>?_,?_⟩
 ·have:w=e_ "":=yD (by rw[e];decide +kernel);rw[this]at hw;exact FJ hw.2 (by decide +kernel)
 ·have:=h2 w hw.1;omega
theorem vQ{r:p_}(J:r.length<=1000000):(HP r (e_ " ")).length<=16777216:=by obtain⟨ps,h1,h2,Y,I⟩:=qx 32 r;rw[sp_is,I];omega
section
variable(CR CP CS CW CD:i_)
theorem A6{r:p_}:aS (.nm 0) (fB (f2 neM (ai 0) (fC (.str "")))) (ai 0) [c_] ((HP r " ").map .str)=.ok ((jL r).map .str):=by
 refine vG A'.str A'.str (λw=> !decide (w="")) _ λw _=>⟨[a_ (.str w)],by simp,?_,by simp⟩
 have e:neM (.str w) (.str "")=.ok (.bl (!decide (w=""))):=by
  by_cases hw:w=(e_ "")
  ·subst hw;simp[neM,I',eqD]
  ·simp[neM,I',eqD,hw]
 simp[e]
theorem CQ(n:Nat){r:p_}(a:r.length<=1000000):gw [.str r]=.ok (.lst ((jL r).map .str)):=by
 have Y:(e_ " ").length=1:=by decide +kernel
 have J:r.length+2<=16777216:=by omega
 have I:=vQ a;have b:=A6 (r:=r);simp[gw,tO,Y,J,I,b,iS]
theorem BV(n:Nat){r:p_}(a:r.length<=1000000):iR [.str r]=.ok (.lst ((jL r).map .str)):=by
 have Y:(e_ " ").length=1:=by decide +kernel
 have J:r.length+2<=16777216:=by omega
 have I:=vQ a;have b:=A6 (r:=r);simp[iR,oX,Y,J,I,b,iS]
end
def jT(x:p_):Bool:=match x.cps.toList with
 |[]=>b_|c::_=>m9 x c
def dv(x:p_):Option Int:=match x.cps.toList with
 |[]=>c_|c::_=>if se x c=d_ then a_ ((He x.cps.toList:Nat):Int)else c_
noncomputable def mI:Option Int->A'
 |none=>.non|some i=>.int i
def mK(x:p_)(m:Int):Int:=match dv x with
 |none=> -1|some k=>if m<k then -1 else k
section
variable(CR CP CS CW CD:i_)
theorem AJ(n:Nat)(h:WOk x):gN [.str x]=.ok (.bl (jT x)):=by
 obtain⟨h1,h2⟩:=h;unfold jT;cases e:x.cps.toList with
 |nil=>exact FJ e h1|cons c r=>exact zB n e h2
theorem m8(n:Nat)(h:WOk x):br [.str x]=.ok (mI (dv x)):=by
 obtain⟨h1,h2⟩:=h;have e2:∀c r,x.cps.toList=c::r->dv x=if se x c=d_ then a_ ((He x.cps.toList:Nat):Int)else c_:=λc r e=>by unfold dv;rw[e]
 cases e:x.cps.toList with
 |nil=>exact FJ e h1|cons c r=>rw[BK n e h2,e2 c r e];cases se x c<;>rfl
theorem ld_mem(c:Nat):c∈(e_ "abcdefghijklmnopqrstuvwxyz0123456789").cps.toList↔BX c=d_:=by
 have:(e_ "abcdefghijklmnopqrstuvwxyz0123456789").cps.toList=(e_ "abcdefghijklmnopqrstuvwxyz").cps.toList++(e_ "0123456789").cps.toList:=by decide +kernel
 rw[this,Gn,ma,oA];unfold BX;simp
theorem eq_chars(l:List Nat):eqM (.lst (l.map λc=>A'.str ⟨#[c]⟩)) (.lst [])=.ok (.bl l.isEmpty):=by
 have e:l.map (λc=>A'.str ⟨#[c]⟩)=(l.map λc=>(⟨#[c]⟩:p_)).map A'.str:=by rw[FL];rfl
 rw[e];have h1:I' (.lst ((l.map λc=>(⟨#[c]⟩:p_)).map A'.str)) 40=d_:=k8 _ 39;show(if (I' (.lst ((l.map λc=>(⟨#[c]⟩:p_)).map A'.str)) 40&&I' (.lst []) 40)=d_ then _ else _)=_;rw[g_ (by rw[h1];rfl)];cases l<;>rfl
theorem ne_chars(l:List Nat):neM (.lst (l.map λc=>A'.str ⟨#[c]⟩)) (.lst [])=.ok (.bl (!l.isEmpty)):=by
 have e:l.map (λc=>A'.str ⟨#[c]⟩)=(l.map λc=>(⟨#[c]⟩:p_)).map A'.str:=by rw[FL];rfl
 rw[e];have h1:I' (.lst ((l.map λc=>(⟨#[c]⟩:p_)).map A'.str)) 40=d_:=k8 _ 39;show(if (I' (.lst ((l.map λc=>(⟨#[c]⟩:p_)).map A'.str)) 40&&I' (.lst []) 40)=d_ then _ else _)=_;rw[g_ (by rw[h1];rfl)];cases l<;>rfl
theorem AZ(P:Nat->Bool)(l:List Nat):(l.filter λc=> !P c).isEmpty=l.all P:=by
 induction l with
 |nil=>rfl|cons c l J=>
  cases I:P c with
  |true=>rw[LI (by rw[I];decide),J,Kb,I,Bool.true_and]|false=>rw[LH (by rw[I];decide),Kb,I];rfl
theorem BM(P:Nat->Bool)(s:p_)(h:∀c,c∈s.cps.toList↔P c=d_)(c:Nat):ki (.str ⟨#[c]⟩) (.str s)=.ok (.bl (!P c)):=by
 cases I:P c with
 |true=>simp[(h c).mpr I]|false=>
  have:c∉s.cps.toList:=λm=>by have:=(h c).mp m;rw[I]at this;cases this
  simp[this]
theorem EC(P:Nat->Bool)(s:p_)(h:∀c,c∈s.cps.toList↔P c=d_)(x:p_):aS (.nm 0) (fB (f2 ki (ai 0) (fC (.str s)))) (ai 0) [c_] (x.cps.toList.map λc=>.str ⟨#[c]⟩)=.ok ((x.cps.toList.filter λc=> !P c).map λc=>.str ⟨#[c]⟩):=by
 refine vG (λc:Nat=>A'.str ⟨#[c]⟩) (λc:Nat=>A'.str ⟨#[c]⟩) (λc=> !P c) _ λc _=>⟨[a_ (.str ⟨#[c]⟩)],by simp,?_,by simp⟩
 have e:=BM P s h c;simp[e]
theorem xp(n:Nat)(h:WOk x):bY [.str x]=.ok (.bl (jT x)):=by
 obtain⟨h1,h2⟩:=h;have I:x.length<=16777216:=by omega
 have hsz:x.cps.size<=16777216:=I;unfold jT;cases e:x.cps.toList with
 |nil=>exact FJ e h1|cons c r=>
  dsimp only;have b:=ix0' e I;have i:=EC BX _ ld_mem x;have d:=eq_chars (x.cps.toList.filter λc=> !BX c);rw[AZ]at d;have Y:¬((x.length:Int)<1):=by have:x.length=x.cps.toList.length:=rfl;rw[this,e];simp;omega
  by_cases a:(8:Int)<(x.length:Int)
  ·have:m9 x c=b_:=by unfold m9;rw[m_ (by omega)];rfl
   rw[this];simp[bY,gI,cO,I,gtD,ltD,a,Y]
  ·by_cases J:97<=c/\c<=122
   ·have j:cO [a_ (.str x)]=.ok (.nx [a_ (.str x)]):=by
     simp[cO,I,gtD,ltD,a,Y,b,(ma c).mpr J]
    have f:m9 x c=x.cps.toList.all BX:=by unfold m9;rw[s_ (show x.length<=8 by omega),s_ J];rfl
    rw[f];simp[bY,gI,j,i,hsz,d,-FL]
   ·have g:c∉(e_ "abcdefghijklmnopqrstuvwxyz").cps.toList:=λm=>J ((ma c).mp m);have:m9 x c=b_:=by unfold m9;rw[m_ J,HL];rfl
    rw[this];simp[bY,gI,cO,I,gtD,ltD,a,Y,b,g]
theorem dg_mem(c:Nat):c∈(e_ "0123456789").cps.toList↔zJ c=d_:=by rw[oA];unfold zJ;simp
theorem jC(n:Nat)(h:WOk x)(m:Int):bo [.str x,.int m]=.ok (.int (mK x m)):=by
 obtain⟨h1,h2⟩:=h;have I:x.length<=16777216:=by omega
 have hsz:x.cps.size<=16777216:=I;cases e:x.cps.toList with
 |nil=>exact FJ e h1|cons c r=>
  have j:=ix0' e I;have hw:mK x m=if se x c=d_ then(if m<((He x.cps.toList:Nat):Int)then -1 else((He x.cps.toList:Nat):Int))else -1:=by unfold mK dv;rw[e];dsimp only;cases se x c<;>rfl
  have o:=EC zJ _ dg_mem x;have d:=ne_chars (x.cps.toList.filter λc=> !zJ c);rw[AZ]at d;have i:¬((x.length:Int)<1):=by have:x.length=x.cps.toList.length:=rfl;rw[this,e];simp;omega
  by_cases a:(10:Int)<(x.length:Int)
  ·have:se x c=b_:=by unfold se;rw[m_ (by omega)];rfl
   rw[hw,this];simp[bo,eP,eA,I,gtD,ltD,a,i]
  ·cases b:x.cps.toList.all zJ with
   |false=>
    have:se x c=b_:=by unfold se;rw[b,HL];rfl
    rw[hw,this];rw[b]at d;simp[bo,eP,eA,I,gtD,ltD,a,i,o,hsz,d,-FL]
   |true=>
    rw[b]at d;have k:eA [a_ (.str x),a_ (.int m)]=.ok (.nx [a_ (.str x),a_ (.int m)]):=by simp[eA,I,gtD,ltD,a,i,o,hsz,d,-FL]
    have p:(e_ "0")=⟨#[48]⟩:=by decide +kernel
    have e1:=one_eq c (e_ "0") 48 p;have e2:neM (.str x) (.str "0")=.ok (.bl (!decide (x="0"))):=by
     by_cases hw:x=(e_ "0")
     ·subst hw;simp[neM,I',eqD]
     ·simp[neM,I',eqD,hw]
    have hd:Im x=a_ ((He x.cps.toList:Nat):Int):=LY (λc Y=>by have:=Hd.mp b c Y;unfold zJ at this;exact IE this) (by rw[e];simp) (by omega);have J:x.length<=640:=by omega
    have l:(se x c=d_)↔¬(c=48/\¬x=(e_ "0")):=by unfold se;rw[s_ (show x.length<=10 by omega),b];by_cases h1:c=48<;>by_cases h2:x=e_ "0"<;>simp[h1,h2]
    by_cases Y:c=48/\¬x=(e_ "0")
    ·have:se x c=b_:=by
      cases q:se x c with
      |false=>rfl|true=>exact FJ Y (l.mp q)
     rw[hw,this];have e3:eqM (.str ⟨#[c]⟩) (.str "0")=.ok (.bl d_):=by rw[e1];simp[Y.1]
     have e4:neM (.str x) (.str "0")=.ok (.bl d_):=by rw[e2];simp[Y.2]
     have f:cg [a_ (.str x),a_ (.int m)]=.ok (.rt (.int (-1))):=by simp[cg,j,e3,e4]
     simp[bo,eP,k,f]
    ·rw[hw,l.mpr Y];have ft:(xI (fB (f2 eqM (f2 zA (ai 0) (fC (.int 0))) (fC (.str "0")))) (fB (f2 neM (ai 0) (fC (.str "0"))))) [a_ (.str x),a_ (.int m)]=.ok b_:=by
      by_cases h1:c=48
      ·have h2:x=(e_ "0"):=Gi λz=>Y ⟨h1,z⟩;have e3:eqM (.str ⟨#[c]⟩) (.str "0")=.ok (.bl d_):=by rw[e1];simp[h1]
       have e4:neM (.str x) (.str "0")=.ok (.bl b_):=by rw[e2];simp[h2]
       simp[j,e3,e4]
      ·have e3:eqM (.str ⟨#[c]⟩) (.str "0")=.ok (.bl b_):=by rw[e1];simp[h1]
       simp[j,e3]
     by_cases g:m<((He x.cps.toList:Nat):Int)
     ·have f:cg [a_ (.str x),a_ (.int m)]=.ok (.rt (.int (-1))):=by
       unfold cg;rw[e_if,e_or,ft];simp[J,hd,gtD,g]
      rw[g_ rfl,g_ g];simp[bo,eP,k,f]
     ·have f:cg [a_ (.str x),a_ (.int m)]=.ok (.nx [a_ (.str x),a_ (.int m)]):=by
       unfold cg;rw[e_if,e_or,ft];simp[J,hd,gtD,g]
      rw[g_ rfl,l_ g];simp[bo,eP,k,f,J,hd]
end
theorem run_rt{nN:Nat}{g:ah->M H9}{ds:List A'}{x:A'}(I:ds.length=n)(h:g (ds.map a_++GY (nN-ds.length) c_)=.ok (.rt x)):bR nN n g ds=.ok x:=by rw[e_run,g_ I,h];rfl
theorem neI(a b:Int):neM (.int a) (.int b)=.ok (.bl (!decide (a=b))):=by
 by_cases h:a=b
 ·subst h;rw[lP rfl];simp
 ·simp[neM,I',eqD,h]
theorem eqI(a b:Int):eqM (.int a) (.int b)=.ok (.bl (q_ (a=b))):=by
 by_cases h:a=b
 ·subst h;simp[eqM,I',eqD]
 ·simp[eqM,I',eqD,h]
theorem eqS(a b:p_):eqM (.str a) (.str b)=.ok (.bl (q_ (a=b))):=by
 by_cases h:a=b
 ·subst h;simp[eqM,I',eqD]
 ·simp[eqM,I',eqD,h]
theorem neS(a b:p_):neM (.str a) (.str b)=.ok (.bl (!decide (a=b))):=by
 by_cases h:a=b
 ·subst h;simp[neM,I',eqD]
 ·simp[neM,I',eqD,h]
theorem jz(h:dv x=a_ i):0<=i:=by
 unfold dv at h;split at h
 ·cases h
 ·split at h
  ·cases h;omega
  ·cases h
theorem AK(h:jT x=d_):Nm x:=by
 unfold jT at h;split at h
 ·cases h
 ·rename_i c r e;unfold m9 at h;simp only[o_,FT]at h;obtain⟨⟨h1,h2⟩,I⟩:=h;refine⟨⟨by rw[e];simp,λd hd=>?_⟩,h1,c,r,e,h2.1,h2.2⟩
  have:=Hd.mp I d hd;unfold BX at this;simpa[lowD] using this
noncomputable def kI(ks:List p_)(x:p_):Nat:=(AS ks x).getD 0
theorem xw(h:x∈ks):AS ks x=a_ (kI ks x)/\kI ks x<ks.length/\ks[kI ks x]?=a_ x:=by
 have I:(AS ks x).isSome=d_:=by unfold AS;rw[List.findIdx?_isSome];exact KI.mpr ⟨x,h,by simp⟩
 cases e:AS ks x with
 |none=>rw[e]at I;cases I|some i=>
  have J:kI ks x=i:=by unfold kI;rw[e];rfl
  unfold AS at e;obtain⟨hi,h1,_⟩:=IG.mp e;rw[J];exact⟨rfl,hi,by rw[Ge hi];simpa using h1⟩
section
variable(CR CP CS CW CD:i_)
theorem uk(n:Nat){W:List A'}(h:W.length≠2):bq [.lst (ks.map .str),.lst W]=.ok .non:=by have e:=neI W.length 2;rw[m_ (by omega)]at e;simp[bq,gz,dP,e]
theorem um(n:Nat)(h:WOk x):bq [.lst (ks.map .str),.lst [.str w,.str x]]=.ok (if (q_ (ks.length<6)&&jT x&& !decide (x∈ks))=d_ then .str x else .non):=by
 have e1:=AJ n h;have e2:=qT x ks;have e3:=uW 2 2 rfl;have J:g8 [.str w,.str x] 1=.ok (.str x):=rfl;by_cases a:ks.length<6
 ·have e4:¬(6:Int)<=(ks.length:Int):=by omega
  rw[s_ a];cases Y:jT x with
  |false=>rw[Y]at e1;simp[bq,gz,dP,e1,e3,e4,J]|true=>
   rw[Y]at e1;by_cases I:x∈ks
   ·rw[s_ I]at e2;simp[bq,gz,dP,e1,e2,e3,e4,J,I]
   ·rw[m_ I]at e2;simp[bq,gz,dP,e1,e2,e3,e4,J,I]
 ·have e4:(6:Int)<=(ks.length:Int):=by omega
  rw[m_ a];simp[bq,gz,dP,e3,e4]
theorem vX(n:Nat){W:List A'}(h:W.length≠4):bj [.lst (ks.map .str),.lst W]=.ok .non:=by have e:=neI W.length 4;rw[m_ (by omega)]at e;simp[bj,gA,dG,e]
theorem C8(n:Nat):fF [.non]=.ok (.bl b_):=by simp[fF,pS,kZ]
theorem C9(n:Nat)(h:1000000<i):fF [.int i]=.ok (.bl b_):=by
 have h2:¬i<=1000000:=by omega
 have I:0<=i:=by omega
 simp[fF,pS,kZ,jo,h2,I]
theorem vY(n:Nat)(h:WOk v):bj [.lst (ks.map .str),.lst [.str w,.str x,.str y,.str v]]=.ok (if x∈ks/\y∈ks then(match dv v with
  |some i=>if i<=1000000 then .tup [.int (kI ks x),.int (kI ks y),.int i]else .non
  |none=>.non)else .non):=by
 have e1:=m8 n h;have e3:=uW 4 4 rfl;have m1:=qT x ks;have I:=qT y ks;have b:g8 [.str w,.str x,.str y,.str v] 1=.ok (.str x):=rfl;have g2:g8 [.str w,.str x,.str y,.str v] 2=.ok (.str y):=rfl;have a:g8 [.str w,.str x,.str y,.str v] 3=.ok (.str v):=rfl;by_cases J:x∈ks
 ·by_cases Y:y∈ks
  ·rw[s_ J]at m1;rw[s_ Y]at I;rw[g_ ⟨J,Y⟩];cases hv:dv v with
   |none=>rw[hv]at e1;have e2:=C8 n;simp[bj,gA,dG,e1,e2,e3,m1,I,b,g2,a,mI]|some i=>
    rw[hv]at e1;have e:=jz hv;dsimp only;by_cases hi:i<=1000000
    ·have e2:=xy n i e hi;have d:=(xw J).1;have c:=(xw Y).1;simp[bj,gA,dG,e1,e2,e3,m1,I,d,c,b,g2,a,ig,isL,mI,hi]
    ·have e2:=C9 n (i:=i) (by omega);simp[bj,gA,dG,e1,e2,e3,m1,I,b,g2,a,mI,hi]
  ·rw[s_ J]at m1;rw[m_ Y]at I;rw[l_ (λz=>Y z.2)];simp[bj,gA,dG,e3,m1,I,b,g2,a]
 ·rw[m_ J]at m1;rw[l_ (λz=>J z.1)];simp[bj,gA,dG,e3,m1,b,g2,a]
theorem pz(n:Nat){W:List A'}(h:W.length≠3):aT [.lst (cs.map stD),.lst W]=.ok .non:=by have e:=neI W.length 3;rw[m_ (by omega)]at e;simp[aT,bZ,bE,e]
noncomputable def stB(p:vL):Bool:=q_ (0<=p.1)&&(q_ (p.1<p.2)&&q_ (p.2<=1000000000))
theorem Ai:stB p=d_↔St1 p:=by unfold stB St1;simp
theorem sH(n:Nat)(p:vL):gM [stD p]=.ok (.bl (stB p)):=by have Y:g8 [.int p.1,.int p.2] 0=.ok (.int p.1):=rfl;have J:g8 [.int p.1,.int p.2] 1=.ok (.int p.2):=rfl;unfold stB;by_cases I:0<=p.1<;>by_cases h1:p.1<p.2<;>by_cases h2:p.2<=1000000000<;>simp[gM,oV,ky,stD,Y,J,I,h1,h2]
theorem vf(n:Nat)(h:∀p∈cs,St1 p)(f:cs.length<=20)(p:vL):iq [.lst ((cs++[p]).map stD)]=.ok (.bl (q_ (cs.length<20)&&stB p)):=by
 have J:aS (.nm 0) iK (fL (gM) (aa (ai 0) aC)) [c_] ((cs++[p]).map stD)=.ok (((cs++[p]).map stB).map A'.bl):=by rw[FL];exact fU _ _ _ λp e=>⟨[a_ (stD p)],by simp,by simp[sH n p]⟩
 have al:((cs++[p]).map stB).all id=stB p:=by
  rw[FY,List.all_append,List.map_singleton,Kb,List.all_nil,NL];have:(cs.map stB).all id=d_:=Hd.mpr λb c=>by obtain⟨q,Y,rfl⟩:=Gz.mp c;exact Ai.mpr (h q Y)
  rw[this];rfl
 have h2:cs.length+1<=16777216:=by omega
 by_cases h1:cs.length<20
 ·have I:(cs.length:Int)+1<=20:=by omega
  rw[s_ h1];generalize d:(cs++[p]).map stB=L at J al;have a:L.length=cs.length+1:=by rw[<- d];simp
  simp[iq,mv,I,h2,J,iS,al,iM,-FY]
 ·have I:¬(cs.length:Int)+1<=20:=by omega
  rw[m_ h1];simp[iq,mv,I,iM]
theorem pA(n:Nat)(e:WOk x)(c:WOk y)(h:∀p∈cs,St1 p)(f:cs.length<=20):aT [.lst (cs.map stD),.lst [.str w,.str x,.str y]]=.ok (match dv x,dv y with
  |some i,a_ j=>if (q_ (cs.length<20)&&stB (i,j))=d_ then stD (i,j)else .non
  |_,_=>.non):=by
 have e1:=m8 n e;have e2:=m8 n c;have e3:=uW 3 3 rfl;have J:g8 [.str w,.str x,.str y] 1=.ok (.str x):=rfl;have g2:g8 [.str w,.str x,.str y] 2=.ok (.str y):=rfl;cases ex:dv x with
 |none=>
  rw[ex]at e1;have I:∀d:A',(d=.non\/∃i,d=.int i)->ip .non (.tup [.non,d])=.ok (.bl b_):=λd hd=>by rcases hd with rfl|⟨i,rfl⟩<;>rfl
  cases Y:dv y with
  |none=>rw[Y]at e2;simp[aT,bZ,bE,e1,e2,e3,J,g2,mI,I .non (.inl rfl)]|some j=>rw[Y]at e2;simp[aT,bZ,bE,e1,e2,e3,J,g2,mI,I (.int j) (.inr ⟨j,rfl⟩)]
 |some i=>
  rw[ex]at e1;cases Y:dv y with
  |none=>rw[Y]at e2;have I:ip .non (.tup [.int i,.non])=.ok (.bl b_):=rfl;simp[aT,bZ,bE,e1,e2,e3,J,g2,mI,I]|some j=>
   rw[Y]at e2;have I:ip .non (.tup [.int i,.int j])=.ok (.bl d_):=rfl;have a:=vf n h f (i,j);have ea:eC (.lst (cs.map stD)) (.lst [.tup [.int i,.int j]])=.ok (.lst ((cs++[(i,j)]).map stD)):=by
    have:cs.length+1<=16777216:=by omega
    simp[eC,stD,this]
   dsimp only;cases b:(q_ (cs.length<20)&&stB (i,j))with
   |true=>rw[b]at a;simp[aT,bZ,bE,e1,e2,e3,J,g2,mI,I,ea,a,-FY];rfl|false=>rw[b]at a;simp[aT,bZ,bE,e1,e2,e3,J,g2,mI,I,ea,a,-FY]
end
noncomputable def rgB(x:Int):Bool:=q_ (0<=x)&&q_ (x<=1000000000)
def flB(f:Fli):Bool:=q_ (f.first<=f.last)&&(rgB f.first&&(rgB f.last&&(rgB f.due&&rgB f.price)))
theorem in_non(p q r s:Option Int):inM .non (.lst [mI p,mI q,mI r,mI s])=.ok (.bl (p.isNone||(q.isNone||(r.isNone||s.isNone)))):=by cases p<;>cases q<;>cases r<;>cases s<;>rfl
theorem flB_ok{k:Nat}(h:flB f=d_)(d:0<=f.kind)(h1:f.kind<k):Fl1 k f:=by unfold flB rgB at h;simp only[o_,FT]at h;obtain⟨h2,⟨c,g⟩,⟨e,b⟩,⟨a,Y⟩,J,I⟩:=h;exact⟨d,h1,c,h2,b,⟨a,Y⟩,⟨J,I⟩⟩
def num4(a b c d:p_):Option (Int×Int×Int×Int):=match dv a,dv b,dv c,dv d with
 |some a,a_ b,a_ c,a_ d=>a_ (a,b,c,d)|_,_,_,_=>c_
section
variable(CR CP CS CW CD:i_)
theorem iU(n:Nat)(x:Int):fE [.int x]=.ok (.bl (rgB x)):=by unfold rgB;by_cases h1:0<=x<;>by_cases h2:x<=1000000000<;>simp[fE,nC,jo,h1,h2]
theorem Dv(n:Nat)(f:Fli):bu [flD f]=.ok (.bl (flB f)):=by
 have J:g8 [.int f.kind,.int f.first,.int f.last,.int f.due,.int f.price] 1=.ok (.int f.first):=rfl;have g2:g8 [.int f.kind,.int f.first,.int f.last,.int f.due,.int f.price] 2=.ok (.int f.last):=rfl;have es:de (.tup [.int f.kind,.int f.first,.int f.last,.int f.due,.int f.price]) (a_ 1) c_=.ok (.tup [.int f.first,.int f.last,.int f.due,.int f.price]):=by simp[de,Cr,cX]
 have c:=iU n f.first;have r2:=iU n f.last;have b:=iU n f.due;have a:=iU n f.price;have Y:aS (.nm 0) iK (fL (fE) (aa (ai 0) aC)) [c_] [.int f.first,.int f.last,.int f.due,.int f.price]=.ok ([rgB f.first,rgB f.last,rgB f.due,rgB f.price].map A'.bl):=by simp[aS,c,r2,b,a]
 unfold flB;generalize d:[rgB f.first,rgB f.last,rgB f.due,rgB f.price]=L at Y;have al:L.all id=(rgB f.first&&(rgB f.last&&(rgB f.due&&rgB f.price))):=by rw[<- d];simp
 by_cases I:f.first<=f.last
 ·rw[s_ I];simp[bu,eF,flD,J,g2,es,Y,al,I,iM,iS]
 ·rw[m_ I];simp[bu,eF,flD,J,g2,I,iM]
theorem qm(n:Nat){W:List A'}(h:W.length≠7):aV [.lst (ks.map .str),.lst (ns.map .str),.lst W]=.ok .non:=by have e:=neI W.length 7;rw[m_ (by omega)]at e;simp[aV,cK,cE,e]
theorem qo(n:Nat){k c d:p_}(h1:WOk nm)(Q:WOk a)(P:WOk b)(O:WOk c)(hd:WOk d):
  aV [.lst (ks.map .str),.lst (ns.map .str),.lst [.str w,.str nm,.str k,.str a,.str b,.str c,.str d]]=.ok (if (q_ (ns.length<40)&&(q_ (k∈ks)&&(jT nm&& !decide (nm∈ns))))=d_ then(match num4 a b c d with
   |some (a,b,c,d)=>if flB ⟨kI ks k,a,b,c,d⟩=d_ then flD ⟨kI ks k,a,b,c,d⟩else .non
   |none=>.non)else .non):=by
 have e3:=uW 7 7 rfl;have m1:=qT k ks;have o:=inS nm ns;have e5:=AJ n h1;have N:=m8 n Q;have n2:=m8 n P;have L:=m8 n O;have K:=m8 n hd;generalize r:([.str w,.str nm,.str k,.str a,.str b,.str c,.str d]:List A')=W;have v:W.length=7:=by rw[<- r];rfl
 have y:g8 W 1=.ok (.str nm):=by rw[<- r];rfl
 have g2:g8 W 2=.ok (.str k):=by rw[<- r];rfl
 have s:∀x,cK [a_ (.lst (ks.map .str)),a_ (.lst (ns.map .str)),a_ (.lst W),c_,c_]=.ok (.rt x)->aV [.lst (ks.map .str),.lst (ns.map .str),.lst W]=.ok x:=λx h=>run_rt rfl h;have g:cE [a_ (.lst (ks.map .str)),a_ (.lst (ns.map .str)),a_ (.lst W),c_,c_]=.ok (if ns.length<40/\k∈ks then .nx [a_ (.lst (ks.map .str)),a_ (.lst (ns.map .str)),a_ (.lst W),c_,c_]else .rt .non):=by
  by_cases D:ns.length<40
  ·have e4:¬(40:Int)<=(ns.length:Int):=by omega
   by_cases q:k∈ks
   ·rw[s_ q]at m1;simp[cE,v,e3,e4,g2,m1,D,q]
   ·rw[m_ q]at m1;simp[cE,v,e3,e4,g2,m1,q]
  ·have e4:(40:Int)<=(ns.length:Int):=by omega
   simp[cE,v,e3,e4,D]
 have j:dH [a_ (.lst (ks.map .str)),a_ (.lst (ns.map .str)),a_ (.lst W),c_,c_]=.ok (if jT nm=d_/\nm∉ns then .nx [a_ (.lst (ks.map .str)),a_ (.lst (ns.map .str)),a_ (.lst W),c_,c_]else .rt .non):=by
  cases C:jT nm with
  |false=>rw[C]at e5;simp[dH,y,e5]|true=>
   rw[C]at e5;by_cases p:nm∈ns
   ·rw[s_ p]at o;simp[dH,y,e5,o,p]
   ·rw[m_ p]at o;simp[dH,y,e5,o,p]
 by_cases i:ns.length<40/\k∈ks
 rotate_left
 ·rw[l_ i]at g;rw[l_ (λz=>i (by simp at z;exact⟨z.1,z.2.1⟩))];exact s _ (by unfold cK;rw[nI,g,aj])
 rw[g_ i]at g;by_cases l:jT nm=d_/\nm∉ns
 rotate_left
 ·rw[l_ l]at j;rw[l_ (λz=>l (by simp at z;exact z.2.2))];exact s _ (by unfold cK;rw[nI,g,aj];dsimp only;rw[nI,j,aj])
 rw[g_ l]at j;rw[g_ (by simp[i.1,i.2,l.1,l.2])];have es:de (.lst W) (a_ 3) c_=.ok (.lst [.str a,.str b,.str c,.str d]):=by rw[<- r];simp[de,Cr,cX]
 have R:aS (.nm 0) iK (fL (br) (aa (ai 0) aC)) [c_] [.str a,.str b,.str c,.str d]=.ok [mI (dv a),mI (dv b),mI (dv c),mI (dv d)]:=by simp[aS,N,n2,L,K]
 have m:bw [] 3 (cn (fIt (fSl de (ai 2) (jZ (fC (.int 3))) oh)) [c_] (.nm 0) iK (fL (br) (aa (ai 0) aC))) [a_ (.lst (ks.map .str)),a_ (.lst (ns.map .str)),a_ (.lst W),c_,c_]=.ok (.nx [a_ (.lst (ks.map .str)),a_ (.lst (ns.map .str)),a_ (.lst W),a_ (.lst [mI (dv a),mI (dv b),mI (dv c),mI (dv d)]),c_]):=by simp[es,R,iS]
 have B:=in_non (dv a) (dv b) (dv c) (dv d);have F:=(xw i.2).1;have f:iF [a_ (.lst (ks.map .str)),a_ (.lst (ns.map .str)),a_ (.lst W),a_ (.lst [mI (dv a),mI (dv b),mI (dv c),mI (dv d)]),c_]=.ok (if ((dv a).isNone||((dv b).isNone||((dv c).isNone||(dv d).isNone)))=d_ then .rt .non else .nx [a_ (.lst (ks.map .str)),a_ (.lst (ns.map .str)),a_ (.lst W),a_ (.lst [mI (dv a),mI (dv b),mI (dv c),mI (dv d)]),c_]):=by generalize ((dv a).isNone||((dv b).isNone||((dv c).isNone||(dv d).isNone)))=t at B;cases t<;>simp[iF,B]
 have e:((dv a).isNone||((dv b).isNone||((dv c).isNone||(dv d).isNone)))=d_->aV [.lst (ks.map .str),.lst (ns.map .str),.lst W]=.ok .non:=λh=>by rw[g_ h]at f;exact s _ (by unfold cK;rw[nI,g,aj];dsimp only;rw[nI,j,aj];dsimp only;rw[nI,m,aj];dsimp only;rw[nI,f,aj])
 unfold num4;cases ea:dv a with
 |none=>exact e (by rw[ea];rfl)|some Y=>
 cases u:dv b with
 |none=>exact e (by rw[ea,u];rfl)|some J=>
 cases A:dv c with
 |none=>exact e (by rw[ea,u,A];rfl)|some I=>
 cases E:dv d with
 |none=>exact e (by rw[ea,u,A,E];rfl)|some d'=>
 rw[ea,u,A,E]at m f;rw[l_ (show ¬((a_ Y).isNone||((a_ J).isNone||((a_ I).isNone||(a_ d').isNone)))=d_ from λz=>(nomatch (show b_=d_ from z)))]at f;dsimp only[mI]at m f;have H:=Dv n ⟨kI ks k,Y,J,I,d'⟩;have ix:(gZ (ai 0) (f2 ixD (ai 2) (fC (.int 2)))) [a_ (.lst (ks.map .str)),a_ (.lst (ns.map .str)),a_ (.lst W),a_ (.lst [.int Y,.int J,.int I,.int d']),c_]=.ok (.int (kI ks k)):=by simp[g2,F,ig,isL]
 have G:bw [] 4 (fL jU (aa (gZ (ai 0) (f2 ixD (ai 2) (fC (.int 2)))) (aa (f2 ixD (ai 3) (fC (.int 0))) (aa (f2 ixD (ai 3) (fC (.int 1))) (aa (f2 ixD (ai 3) (fC (.int 2))) (aa (f2 ixD (ai 3) (fC (.int 3))) aC)))))) [a_ (.lst (ks.map .str)),a_ (.lst (ns.map .str)),a_ (.lst W),a_ (.lst [.int Y,.int J,.int I,.int d']),c_]=.ok (.nx [a_ (.lst (ks.map .str)),a_ (.lst (ns.map .str)),a_ (.lst W),a_ (.lst [.int Y,.int J,.int I,.int d']),a_ (flD ⟨kI ks k,Y,J,I,d'⟩)]):=by show((((gZ (ai 0) (f2 ixD (ai 2) (fC (.int 2)))) [a_ (.lst (ks.map .str)),a_ (.lst (ns.map .str)),a_ (.lst W),a_ (.lst [.int Y,.int J,.int I,.int d']),c_]).bind λx=>FN [x,.int Y,.int J,.int I,.int d']).bind jU).bind _=_;rw[ix,aj,aj];unfold jU;rw[g_ (by show 5<=f_;rw[FO];decide)];rfl
 dsimp only;refine s _ ?_;unfold cK;rw[nI,g,aj];dsimp only;rw[nI,j,aj];dsimp only;rw[nI,m,aj];dsimp only;rw[nI,f,aj];dsimp only;rw[nI,G,aj];dsimp only;show((((bu [flD ⟨kI ks k,Y,J,I,d'⟩]).bind truD).bind λt=>if t=d_ then FN (flD ⟨kI ks k,Y,J,I,d'⟩)else FN A'.non).bind _)=_;rw[H];cases flB ⟨kI ks k,Y,J,I,d'⟩<;>rfl
end
structure WS where
 ks:List p_
 g:PKs
 b:PKs
 nf:List (p_×Fli)
 cs:List vL
variable{s s':WS}
noncomputable def enc(ks:List p_)(g:PKs):List (List Int×A'):=g.map λp=>([((kI ks p.1.1:Nat):Int),((kI ks p.1.2:Nat):Int)],A'.int p.2)
noncomputable def WS.d(s:WS):DSt:=⟨s.ks,enc s.ks s.g,enc s.ks s.b,s.nf,s.cs⟩
def WS.j(s:WS):Jst:=⟨s.ks.map .str,(s.nf.map (·.1)).map .str,(s.nf.map (·.2)).map flD,s.cs.map stD,s.g,s.b⟩
def Be(ks:List p_)(g:PKs):Prop:=∀p∈g,p.1.1∈ks/\p.1.2∈ks/\0<=p.2/\p.2<=1000000
theorem EF(ks:List p_)(g:PKs):(enc ks g).length=g.length:=t_ ..
theorem kI_app(h:y∈ks):kI (ks++[x]) y=kI ks y:=by have e:=(xw h).1;unfold kI AS at *;rw[List.findIdx?_append,e];rfl
theorem kI_inj(J:x∈ks)(I:y∈ks)(e:kI ks x=kI ks y):x=y:=by have h1:=(xw J).2.2;have h2:=(xw I).2.2;rw[e,h2]at h1;exact(FW h1).symm
theorem EI(h:Be ks g)(x:p_):enc (ks++[x]) g=enc ks g:=
 Hs λp I=>by rw[kI_app (h p I).1,kI_app (h p I).2.1]
theorem Be.app(h:Be ks g)(x:p_):Be (ks++[x]) g:=λp I=>by obtain⟨a,b,c⟩:=h p I;exact⟨by simp[a],by simp[b],c⟩
theorem EG(J:x∈ks)(I:y∈ks)(c:a∈ks)(Y:b∈ks):([((kI ks a:Nat):Int),((kI ks b:Nat):Int)]=[((kI ks x:Nat):Int),((kI ks y:Nat):Int)])↔(a,b)=(x,y):=by
 constructor
 ·intro h;simp only[Jy,and_true]at h;rw[kI_inj c J (by omega),kI_inj Y I (by omega)]
 ·intro h;cases h;rfl
theorem zI{ks:List p_}{x y:p_}(a:x∈ks)(Y:y∈ks):∀{g:PKs},Be ks g->CI (enc ks g) [((kI ks x:Nat):Int),((kI ks y:Nat):Int)]=(yu g (x,y)).map A'.int
 |[],_=>rfl|p::g,h=>by
  obtain⟨h1,h2,_⟩:=h p (by simp);have J:=zI a Y (g:=g) λq c=>h q (by simp[c]);have b:=EG a Y h1 h2;unfold enc CI yu at J ⊢;by_cases e:p.1=(x,y)
  ·have I:=b.mpr e;simp only[C_,GN,I,e,decide_true,JG]
  ·have I:¬[((kI ks p.1.1:Nat):Int),((kI ks p.1.2:Nat):Int)]=[((kI ks x:Nat):Int),((kI ks y:Nat):Int)]:=λz=>e (b.mp z);simp only[C_,GN,I,e,Mp];exact J
theorem EE(Y:x∈ks)(J:y∈ks)(h:Be ks g)(v:Int):BC (enc ks g) [((kI ks x:Nat):Int),((kI ks y:Nat):Int)] (.int v)=enc ks (qI g (x,y) v):=by
 unfold BC qI;rw[zI Y J h,IF];by_cases I:(yu g (x,y)).isSome=d_
 ·rw[g_ I,g_ I];unfold enc;rw[FL,FL];refine Hs λp b=>?_;obtain⟨h1,h2,_⟩:=h p b;have a:=EG Y J h1 h2;simp only[LJ];by_cases e:p.1=(x,y)
  ·rw[g_ (a.mpr e),g_ e]
  ·rw[l_ (λz=>e (a.mp z)),l_ e]
 ·rw[l_ I,l_ I];unfold enc;rw[FY];rfl
theorem Be.put(h:Be ks g)(d:x∈ks)(Y:y∈ks){v:Int}(J:0<=v)(h1:v<=1000000):Be ks (qI g (x,y) v):=λp I=>by
 unfold qI at I;split at I
 ·obtain⟨q,f,rfl⟩:=Gz.mp I;obtain⟨a,b,c⟩:=h q f;split
  ·rename_i e;exact⟨a,b,J,h1⟩
  ·exact⟨a,b,c⟩
 ·rcases Gn.mp I with I|I
  ·exact h p I
  ·rw[F_.mp I];exact⟨d,Y,J,h1⟩
theorem Ay(g:PKs)(k:p_×p_)(v:Int):(qI g k v).length<=g.length+1/\qI g k v≠[]:=by
 unfold qI;split
 ·rename_i h;refine⟨by simp,λe=>?_⟩
  rw[J7]at e;subst e;cases h
 ·simp
structure WI(s:WS):Prop where
 kd:s.ks.Nodup
 k6:s.ks.length<=6
 kn:∀k∈s.ks,Nm k
 gi:Be s.ks s.g
 bi:Be s.ks s.b
 nm:s.nf.length<=40
 nn:∀p∈s.nf,Nm p.1/\Fl1 s.ks.length p.2
 nd:(s.nf.map (·.1)).Nodup
 cm:s.cs.length<=20
 cl:∀p∈s.cs,St1 p
noncomputable def jB:Bool->Nat
 |true=>2|false=>1
def putB:Bool->WS->Int->p_->p_->WS
 |true,s,i,x,y=>{s with b:=qI s.b (x,y) i}
 |false,s,i,x,y=>{s with g:=qI s.g (x,y) i}
def gapW(s:WS)(f:Int->p_->p_->WS):List p_->Option WS
 |[x,y,v]=>if x∈s.ks/\y∈s.ks then(match dv v with
  |some i=>if i<=1000000 then a_ (f i x y)else c_
  |none=>c_)else c_
 |_=>c_
def xu(s:WS):List p_->Option WS
 |[x]=>if (q_ (s.ks.length<6)&&jT x&& !decide (x∈s.ks))=d_ then a_ {s with ks:=s.ks++[x]}else c_
 |_=>c_
def iE(s:WS):List p_->Option WS
 |[x,y]=>match dv x,dv y with
  |some i,a_ j=>if (q_ (s.cs.length<20)&&stB (i,j))=d_ then a_ {s with cs:=s.cs++[(i,j)]}else c_
  |_,_=>c_
 |_=>c_
def kx(s:WS):List p_->Option WS
 |[nm,k,a,b,c,d]=>if (q_ ((s.nf.map (·.1)).length<40)&&(q_ (k∈s.ks)&&(jT nm&& !decide (nm∈s.nf.map (·.1)))))=d_ then(match num4 a b c d with
  |some (a,b,c,d)=>if flB ⟨kI s.ks k,a,b,c,d⟩=d_ then a_ {s with nf:=s.nf++[(nm,⟨kI s.ks k,a,b,c,d⟩)]}else c_
  |none=>c_)else c_
 |_=>c_
def nW(s:WS)(w:p_)(r:List p_):Option WS:=
 if w=wK then xu s r else
 if w=wG then gapW s (putB b_ s) r else
 if w=wB then gapW s (putB d_ s) r else
 if w=wC then iE s r else
 if w=wF then kx s r else c_
def oF(x:M (Bool×List A'))(o:Option WS):Prop:=match o with
 |some s'=>x=.ok (d_,s'.d.D)|none=>∃ds,x=.ok (b_,ds)
section
variable(CR CP CS CW CD:i_)
theorem kY{j:Nat}{ds:List A'}:∃es,(FN A'.non:M A').bind (sW j ds)=.ok (b_,es):=⟨ds,rfl⟩
theorem nH{j:Nat}{ds:List A'}:∃es,(FN A'.non:M A').bind (CG j ds)=.ok (b_,es):=⟨ds,rfl⟩
theorem CZ(n:Nat)(s:WS)(I:WI s)(w:p_)(r:List p_)(Y:∀x∈r,WOk x):oF ((bq [.lst (s.ks.map .str),.lst ((w::r).map .str)]).bind (sW 0 s.d.D)) (xu s r):=by
 have J:r.length≠1->∃ds,(bq [.lst (s.ks.map .str),.lst ((w::r).map .str)]).bind (sW 0 s.d.D)=.ok (b_,ds):=λh=>by rw[uk n (by simp;omega)];exact kY
 unfold xu;split
 ·rename_i x;have e:=um n (ks:=s.ks) (w:=w) (Y x (by simp));show oF ((bq [.lst (s.ks.map .str),.lst [.str w,.str x]]).bind _) _;rw[e];split
  ·have a:s.ks.length<16777216:=by have:=I.k6;omega
   rw[aj];simp[oF,sW,DSt.D,WS.d,i7,a,EI I.gi,EI I.bi]
  ·exact kY
 ·rename_i h;exact J λz=>by
   match r,z with
   |[x],_=>exact h x rfl
theorem Ac(n:Nat)(s:WS)(I:WI s)(b:Bool)(f:s.g.length<10000000/\s.b.length<10000000)(w:p_)(r:List p_)(d:∀x∈r,WOk x):oF ((bj [.lst (s.ks.map .str),.lst ((w::r).map .str)]).bind (CG (jB b) s.d.D)) (gapW s (putB b s) r):=by
 have Y:r.length≠3->∃ds,(bj [.lst (s.ks.map .str),.lst ((w::r).map .str)]).bind (CG (jB b) s.d.D)=.ok (b_,ds):=λh=>by rw[vX n (by simp;omega)];exact nH
 unfold gapW;split
 ·rename_i x y v;have e:=vY n (ks:=s.ks) (w:=w) (x:=x) (y:=y) (d v (by simp));show oF ((bj [.lst (s.ks.map .str),.lst [.str w,.str x,.str y,.str v]]).bind _) _;rw[e];split
  ·rename_i J;cases hv:dv v with
   |none=>exact nH|some i=>
    dsimp only;split
    ·have c:(enc s.ks s.g).length<16777216:=by rw[EF];omega
     have a:(enc s.ks s.b).length<16777216:=by rw[EF];omega
     rw[aj];cases b with
     |true=>simp[oF,CG,jB,putB,DSt.D,WS.d,a,EE J.1 J.2 I.bi]|false=>simp[oF,CG,jB,putB,DSt.D,WS.d,c,EE J.1 J.2 I.gi]
    ·exact nH
  ·exact nH
 ·rename_i h;exact Y λz=>by
   match r,z with
   |[x,y,v],_=>exact h x y v rfl
theorem yB(n:Nat)(s:WS)(I:WI s)(w:p_)(r:List p_)(Y:∀x∈r,WOk x):oF ((aT [.lst (s.cs.map stD),.lst ((w::r).map .str)]).bind (sW 5 s.d.D)) (iE s r):=by
 have J:r.length≠2->∃ds,(aT [.lst (s.cs.map stD),.lst ((w::r).map .str)]).bind (sW 5 s.d.D)=.ok (b_,ds):=λh=>by rw[pz n (by simp;omega)];exact kY
 unfold iE;split
 ·rename_i x y;have e:=pA n (cs:=s.cs) (w:=w) (Y x (by simp)) (Y y (by simp)) I.cl I.cm;show oF ((aT [.lst (s.cs.map stD),.lst [.str w,.str x,.str y]]).bind _) _;rw[e];cases ex:dv x with
  |none=>exact kY|some i=>
  cases b:dv y with
  |none=>exact kY|some j=>
  dsimp only;split
  ·have a:s.cs.length<16777216:=by have:=I.cm;omega
   rw[aj];simp[oF,sW,DSt.D,WS.d,i7,tU,stD,a]
  ·exact kY
 ·rename_i h;exact J λz=>by
   match r,z with
   |[x,y],_=>exact h x y rfl
theorem yA(n:Nat)(s:WS)(I:WI s)(w:p_)(r:List p_)(Y:∀x∈r,WOk x):oF (mP (aV) s.d.D ((w::r).map .str)) (kx s r):=by
 have J:aV [.lst (s.ks.map .str),.lst ((s.nf.map (·.1)).map .str),.lst ((w::r).map .str)]=.ok .non->∃ds,mP (aV) s.d.D ((w::r).map .str)=.ok (b_,ds):=λh=>by
  refine⟨s.d.D,?_⟩
  show(aV [.lst (s.ks.map .str),.lst ((s.nf.map (·.1)).map .str),.lst ((w::r).map .str)]).bind _=_;rw[h];rfl
 unfold kx;split
 ·rename_i nm k a b c d;have e:=qo n (ks:=s.ks) (ns:=s.nf.map (·.1)) (w:=w) (nm:=nm) (k:=k) (Y nm (by simp)) (Y a (by simp)) (Y b (by simp)) (Y c (by simp)) (Y d (by simp));split
  ·rename_i g;rw[g_ g]at e;cases o:num4 a b c d with
   |none=>rw[o]at e;exact J e|some p=>
    obtain⟨l,j,i,d'⟩:=p;rw[o]at e;dsimp only at e ⊢;split
    ·rename_i f;rw[g_ f]at e;have m:s.nf.length<16777216:=by have:=I.nm;omega
     show mP (aV) s.d.D ([w,nm,k,a,b,c,d].map .str)=_;show(aV [.lst (s.ks.map .str),.lst ((s.nf.map (·.1)).map .str),.lst [.str w,.str nm,.str k,.str a,.str b,.str c,.str d]]).bind _=_;rw[e,aj];have a1:sW 4 s.d.D (flD ⟨kI s.ks k,l,j,i,d'⟩)=.ok (d_,[.lst (s.ks.map .str),.dic (enc s.ks s.g),.dic (enc s.ks s.b),.lst ((s.nf.map (·.1)).map .str),.lst ((s.nf.map (·.2)).map flD++[flD ⟨kI s.ks k,l,j,i,d'⟩]),.lst (s.cs.map stD)]):=by simp[sW,DSt.D,WS.d,i7,tU,flD,m]
     show(sW 4 s.d.D (flD ⟨kI s.ks k,l,j,i,d'⟩)).bind _=_;rw[a1,aj];simp only[Ln];rw[show ixD (.lst ([w,nm,k,a,b,c,d].map A'.str)) (.int 1)=.ok (.str nm)from rfl,aj];simp[sW,DSt.D,WS.d,i7,m]
    ·rename_i f;rw[l_ f]at e;exact J e
  ·rename_i g;rw[l_ g]at e;exact J e
 ·rename_i h;refine J (qm n λz=>?_);have z:r.length=6:=by simpa using z
  match r,z,h with
  |[nm,k,a,b,c,d],_,h=>exact h nm k a b c d rfl
theorem take_any(n:Nat)(s:WS)(I:WI s)(c:s.g.length<10000000/\s.b.length<10000000)(w:p_)(r:List p_)(hw:G3 w "#"=b_)(J:∀x∈r,WOk x):oF (bz s.d.D ((w::r).map .str)) (nW s w r):=by
 rw[row_way n s.d w r hw];unfold nW;by_cases h1:w=wK
 ·rw[g_ h1,g_ h1];exact CZ n s I w r J
 rw[l_ h1,l_ h1];by_cases h2:w=wG
 ·rw[g_ h2,g_ h2];exact Ac n s I b_ c w r J
 rw[l_ h2,l_ h2];by_cases b:w=wB
 ·rw[g_ b,g_ b];exact Ac n s I d_ c w r J
 rw[l_ b,l_ b];by_cases a:w=wC
 ·rw[g_ a,g_ a];exact yB n s I w r J
 rw[l_ a,l_ a];by_cases Y:w=wF
 ·rw[g_ Y,g_ Y];exact yA n s I w r J
 rw[l_ Y,l_ Y];exact⟨_,rfl⟩
end
theorem Ej(h:r.length≠1):xu s r=c_:=by
 unfold xu;split
 ·exact FJ rfl h
 ·rfl
theorem AW{f:Int->p_->p_->WS}(h:r.length≠3):gapW s f r=c_:=by
 unfold gapW;split
 ·exact FJ rfl h
 ·rfl
theorem zW(h:r.length≠2):iE s r=c_:=by
 unfold iE;split
 ·exact FJ rfl h
 ·rfl
theorem zF(h:r.length≠6):kx s r=c_:=by
 unfold kx;split
 ·exact FJ rfl h
 ·rfl
theorem Fl1.up{k:Nat}(h:Fl1 k f):Fl1 (k+1) f:=⟨h.k0,by have:=h.k1;omega,h.a,h.b,h.c,h.d,h.e⟩
theorem AX(I:WI s)(b:Bool)(h:gapW s (putB b s) r=a_ s'):WI s'/\s'.g.length<=s.g.length+1/\s'.b.length<=s.b.length+1:=by
 unfold gapW at h;split at h
 ·split at h
  ·rename_i J;split at h
   ·rename_i i hv;split at h
    ·rename_i hi;cases h;have Y:=jz hv;cases b with
     |true=>exact⟨⟨I.kd,I.k6,I.kn,I.gi,I.bi.put J.1 J.2 Y hi,I.nm,I.nn,I.nd,I.cm,I.cl⟩,Gk _,(Ay _ _ _).1⟩|false=>exact⟨⟨I.kd,I.k6,I.kn,I.gi.put J.1 J.2 Y hi,I.bi,I.nm,I.nn,I.nd,I.cm,I.cl⟩,(Ay _ _ _).1,Gk _⟩
    ·cases h
   ·cases h
  ·cases h
 ·cases h
theorem vS(I:WI s)(h:nW s w r=a_ s'):WI s'/\s'.g.length<=s.g.length+1/\s'.b.length<=s.b.length+1:=by
 unfold nW at h;split at h
 ·unfold xu at h;split at h
  ·rename_i x;split at h
   ·rename_i Y;cases h;simp only[o_,FT,Kv,decide_eq_false_iff_not]at Y;obtain⟨⟨h1,h2⟩,l⟩:=Y;refine⟨⟨?_,by simp;omega,λk e=>?_,I.gi.app x,I.bi.app x,I.nm,λp J=>⟨(I.nn p J).1,?_⟩,I.nd,I.cm,I.cl⟩,Gk _,Gk _⟩
    ·rw[M4];exact⟨I.kd,by simp,λa g b f=>by rw[F_.mp f];exact λz=>l (z▸g)⟩
    ·rcases Gn.mp e with e|e
     ·exact I.kn k e
     ·rw[F_.mp e];exact AK h2
    ·have:=(I.nn p J).2.up;simpa using this
   ·cases h
  ·cases h
 split at h
 ·exact AX I b_ h
 split at h
 ·exact AX I d_ h
 split at h
 ·unfold iE at h;split at h
  ·split at h
   ·rename_i i j _ _;split at h
    ·rename_i Y;cases h;simp only[o_,FT]at Y;refine⟨⟨I.kd,I.k6,I.kn,I.gi,I.bi,I.nm,I.nn,I.nd,by simp;omega,λp J=>?_⟩,Gk _,Gk _⟩
     rcases Gn.mp J with J|J
     ·exact I.cl p J
     ·rw[F_.mp J];exact Ai.mp Y.2
    ·cases h
   ·cases h
  ·cases h
 split at h
 ·unfold kx at h;split at h
  ·rename_i nm k a b c d;split at h
   ·rename_i Y;simp only[o_,FT,Kv,decide_eq_false_iff_not]at Y;obtain⟨h1,h2,l,n⟩:=Y;split at h
    ·split at h
     ·rename_i m;cases h;refine⟨⟨I.kd,I.k6,I.kn,I.gi,I.bi,by simp at h1 ⊢;omega,λp J=>?_,?_,I.cm,I.cl⟩,Gk _,Gk _⟩
      ·rcases Gn.mp J with J|J
       ·exact I.nn p J
       ·rw[F_.mp J];exact⟨AK l,flB_ok m (by simp) (by have:=(xw h2).2.1;simp;omega)⟩
      ·rw[FY,M4];exact⟨I.nd,by simp,λa g b f=>by
        have f:b=nm:=by simpa using f
        rw[f];exact λz=>n (z▸g)⟩
     ·cases h
    ·cases h
   ·cases h
  ·cases h
 ·cases h
def uN(s:WS):Option WS->Bool×Jst
 |some s'=>(d_,s'.j)|none=>(b_,s.j)
theorem jv{m:Int}(J:0<=m):mK x m<0↔¬∃i,dv x=a_ i/\i<=m:=by
 unfold mK;cases h:dv x with
 |none=>simp|some k=>
  have:=jz h;dsimp only;by_cases I:m<k
  ·rw[g_ I];simp;omega
  ·rw[l_ I];simp;omega
theorem eU{m:Int}(h:dv x=a_ i)(hi:i<=m):mK x m=i:=by unfold mK;rw[h];dsimp only;rw[l_ (by omega)]
section
variable(CR CP CS CW CD:i_)
variable{ρ:ah}
theorem ix0_t(I:ai 1 ρ=.ok (.lst ((w::r).map .str))):(f2 ixD (ai 1) (fC (.int 0))) ρ=.ok (.str w):=by show((ai 1 ρ).bind λa=>ixD a (.int 0))=_;rw[I,aj];show g8 ((w::r).map A'.str) 0=_;exact get0
theorem len_t(I:ai 1 ρ=.ok (.lst ((w::r).map .str))):(fL jP (aa (ai 1) aC)) ρ=.ok (.int ((r.length+1:Nat):Int)):=by show(((ai 1 ρ).bind λa=>.ok [a]):M (List A')).bind jP=_;rw[I,aj,aj];show FN (A'.int (((w::r).map A'.str).length:Nat))=_;rw[t_];rfl
theorem and_t(I:ai 1 ρ=.ok (.lst ((w::r).map .str)))(x:p_)(m:Nat)(k:Int)(J:k=((m+1:Nat):Int)):(xI (fB (f2 eqM (f2 ixD (ai 1) (fC (.int 0))) (fC (.str x)))) (fB (f2 eqM (fL jP (aa (ai 1) aC)) (fC (.int k))))) ρ=.ok (q_ (w=x/\r.length=m)):=by
 show(((((f2 ixD (ai 1) (fC (.int 0))) ρ).bind λa=>eqM a (.str x)).bind asB).bind λb=>if b=d_ then((((fL jP (aa (ai 1) aC)) ρ).bind λa=>eqM a (.int k)).bind asB)else .ok b_)=_;rw[ix0_t I,aj,eqS,aj,len_t I,aj,eqI,aj];show(if q_ (w=x)=d_ then FN (q_ (((r.length+1:Nat):Int)=k))else FN b_)=_;by_cases h:w=x<;>by_cases h2:r.length=m
 ·rw[g_ (s_ h),s_ (by omega),s_ ⟨h,h2⟩]
 ·rw[g_ (s_ h),m_ (by omega),m_ (λz=>h2 z.2)]
 ·rw[l_ (by simpa using h),m_ (λz=>h z.1)]
 ·rw[l_ (by simpa using h),m_ (λz=>h z.1)]
theorem and_g(I:ai 1 ρ=.ok (.lst ((w::r).map .str))):(xI (fB (f2 inM (f2 ixD (ai 1) (fC (.int 0))) (fL bP (aa (fC (.str "gap")) (aa (fC (.str "beside")) aC))))) (fB (f2 eqM (fL jP (aa (ai 1) aC)) (fC (.int 4))))) ρ=.ok (q_ ((w=wG\/w=wB)/\r.length=3)):=by
 have Y:(fL bP (aa (fC (.str "gap")) (aa (fC (.str "beside")) aC))) ρ=.ok (.lst ([wG,wB].map .str)):=by show bP [.str "gap",.str "beside"]=_;unfold bP;rw[g_ (by show 2<=f_;rw[FO];decide)];rfl
 show(((((f2 ixD (ai 1) (fC (.int 0))) ρ).bind λa=>((fL bP (aa (fC (.str "gap")) (aa (fC (.str "beside")) aC))) ρ).bind λb=>inM a b).bind asB).bind λb=>if b=d_ then((((fL jP (aa (ai 1) aC)) ρ).bind λa=>eqM a (.int 4)).bind asB)else .ok b_)=_;rw[ix0_t I,aj,Y,aj,inS,aj,len_t I,aj,eqI,aj];show(if q_ (w∈[wG,wB])=d_ then FN (q_ (((r.length+1:Nat):Int)=4))else FN b_)=_;have J:w∈[wG,wB]↔(w=wG\/w=wB):=by simp
 by_cases h:w=wG\/w=wB<;>by_cases h2:r.length=3
 ·rw[g_ (s_ (J.mpr h)),s_ (by omega),s_ ⟨h,h2⟩]
 ·rw[g_ (s_ (J.mpr h)),m_ (by omega),m_ (λz=>h2 z.2)]
 ·rw[l_ (λz=>h (J.mp (IE z))),m_ (λz=>h z.1)]
 ·rw[l_ (λz=>h (J.mp (IE z))),m_ (λz=>h z.1)]
theorem or_f(I:ai 1 ρ=.ok (.lst ((w::r).map .str))):(fOr (fB (f2 neM (f2 ixD (ai 1) (fC (.int 0))) (fC (.str "flight")))) (fB (f2 neM (fL jP (aa (ai 1) aC)) (fC (.int 7))))) ρ=.ok (!decide (w=wF/\r.length=6)):=by
 show(((((f2 ixD (ai 1) (fC (.int 0))) ρ).bind λa=>neM a (.str wF)).bind asB).bind λb=>if b=d_ then .ok d_ else((((fL jP (aa (ai 1) aC)) ρ).bind λa=>neM a (.int 7)).bind asB))=_;rw[ix0_t I,aj,neS,aj,len_t I,aj,neI,aj];show(if (!decide (w=wF))=d_ then FN d_ else FN (!decide (((r.length+1:Nat):Int)=7)))=_;by_cases h:w=wF<;>by_cases h2:r.length=6
 ·rw[s_ h,l_ (by decide),s_ (show((r.length+1:Nat):Int)=7 by omega),s_ ⟨h,h2⟩]
 ·rw[s_ h,l_ (by decide),m_ (show ¬((r.length+1:Nat):Int)=7 by omega),m_ (λz=>h2 z.2)]
 ·rw[m_ h,g_ (show(!false)=d_ from rfl),m_ (λz=>h z.1)];rfl
 ·rw[m_ h,g_ (show(!false)=d_ from rfl),m_ (λz=>h z.1)];rfl
end
theorem min4(a b c d:Int):minD [.lst [.int a,.int b,.int c,.int d]]=.ok (.int (lE (lE (lE a b) c) d)):=rfl
theorem min4_neg(a b c d:Int):lE (lE (lE a b) c) d<0↔(a<0\/b<0\/c<0\/d<0):=by unfold lE;split<;>split<;>split<;>omega
theorem xk{x:Bool×Jst}(h:n<16777216):okJ n x=.ok x:=by unfold okJ;rw[g_ (by rw[FO];exact h)]
section
variable(CR CP CS CW CD:i_)
theorem one_kind(n:Nat)(s:WS)(I:WI s)(f:WOk x):
  ((eN (eJ s.j ([w,x].map .str) [c_,c_,c_,c_])).bind λb=>if b=d_ then FN (b_,s.j)else(kz (eW ([w,x].map .str) [c_,c_,c_,c_])).bind λd=>okJ s.j.dk.length (d_,{s.j with dk:=s.j.dk++[d]}))=.ok (uN s (xu s [x])):=by
 have e1:=xp n f;have e2:=inS x s.ks;have a:g8 [.str w,.str x] 1=.ok (.str x):=rfl;have g:s.ks.length<16777216:=by have:=I.k6;omega
 unfold xu;cases Y:jT x with
 |false=>rw[Y]at e1;simp[eN,eJ,WS.j,a,e1,uN,Y]|true=>
  rw[Y]at e1;by_cases J:x∈s.ks
  ·rw[s_ J]at e2;simp[eN,eJ,WS.j,a,e1,e2,uN,J]
  ·rw[m_ J]at e2;by_cases e:s.ks.length<6
   ·have c:¬(5:Int)<(s.ks.length:Int):=by omega
    simp[eN,kz,eJ,eW,WS.j,a,e1,e2,uN,J,e,gtD,c,Y,xk g]
   ·have c:(5:Int)<(s.ks.length:Int):=by omega
    simp[eN,eJ,WS.j,a,e1,e2,uN,J,e,gtD,c]
theorem DQ(n:Nat)(s:WS)(b:Bool)(C:s.g.length<10000000/\s.b.length<10000000)(hw:w=(match b with|true=>wB|false=>wG))(hv:WOk v):
  ((j9 (eW ([w,x,y,v].map .str) [c_,c_,c_,c_])).bind λc=>(bV (eJ s.j ([w,x,y,v].map .str) [a_ c,c_,c_,c_])).bind λb=>if b=d_ then FN (b_,s.j)else
   (j8 (eW ([w,x,y,v].map .str) [a_ c,c_,c_,c_])).bind λp=>(j7 (eW ([w,x,y,v].map .str) [a_ c,c_,c_,c_])).bind λq=>(j6 (eW ([w,x,y,v].map .str) [a_ c,c_,c_,c_])).bind λu=>putJ s.j c p q u)=.ok (uN s (gapW s (putB b s) [x,y,v])):=by
 have e1:=jC n hv 1000000;have m1:=qT x s.ks;have Y:=qT y s.ks;have r:g8 [.str w,.str x,.str y,.str v] 0=.ok (.str w):=rfl;have d:g8 [.str w,.str x,.str y,.str v] 1=.ok (.str x):=rfl;have g2:g8 [.str w,.str x,.str y,.str v] 2=.ok (.str y):=rfl;have o:g8 [.str w,.str x,.str y,.str v] 3=.ok (.str v):=rfl;have a1:j9 (eW ([w,x,y,v].map .str) [c_,c_,c_,c_])=.ok (.int (mK v 1000000)):=by simp[j9,eW,o,e1]
 rw[a1,aj];unfold gapW;dsimp only;by_cases I:x∈s.ks/\y∈s.ks
 ·rw[s_ I.1]at m1;rw[s_ I.2]at Y;rw[g_ I];have J:=jv (x:=v) (m:=1000000) (by decide);by_cases e:mK v 1000000<0
  ·have l:=J.mp e;have t4:bV (eJ s.j ([w,x,y,v].map .str) [a_ (.int (mK v 1000000)),c_,c_,c_])=.ok d_:=by
    simp[bV,eJ,WS.j,d,g2,m1,Y,ltD,e]
   rw[t4,aj,g_ rfl];cases h:dv v with
   |none=>rfl|some i=>dsimp only;rw[l_ λz=>l ⟨i,h,z⟩];rfl
  ·have t4:bV (eJ s.j ([w,x,y,v].map .str) [a_ (.int (mK v 1000000)),c_,c_,c_])=.ok b_:=by
    simp[bV,eJ,WS.j,d,g2,m1,Y,ltD,e]
   rw[t4,aj,l_ (by decide)];have j:∃i,dv v=a_ i/\i<=1000000:=Gi λz=>e (J.mpr z);obtain⟨i,hi,a⟩:=j;have t:=eU hi a;rw[hi];dsimp only;rw[g_ a,t];have B:j8 (eW ([w,x,y,v].map .str) [a_ (.int i),c_,c_,c_])=.ok (.str w):=by simp[j8,eW,r]
   have A:j7 (eW ([w,x,y,v].map .str) [a_ (.int i),c_,c_,c_])=.ok (.str x):=by simp[j7,eW,d]
   have a9:j6 (eW ([w,x,y,v].map .str) [a_ (.int i),c_,c_,c_])=.ok (.str y):=by simp[j6,eW,g2]
   rw[B,aj,A,aj,a9,aj];cases b with
   |false=>show(if w=wG then okJ s.g.length (d_,{s.j with g:=qI s.g (x,y) i})else _)=_;rw[g_ hw,xk (by omega)];rfl
   |true=>show(if w=wG then _ else if w=wB then okJ s.b.length (d_,{s.j with b:=qI s.b (x,y) i})else _)=_;have hw:w=wB:=hw;rw[l_ (λz=>sj.2.2.1 (hw.symm.trans z)),g_ hw,xk (by omega)];rfl
 ·rw[l_ I];have t4:bV (eJ s.j ([w,x,y,v].map .str) [a_ (.int (mK v 1000000)),c_,c_,c_])=.ok d_:=by
   by_cases f:x∈s.ks
   ·have k:y∉s.ks:=λz=>I ⟨f,z⟩;rw[s_ f]at m1;rw[m_ k]at Y;simp[bV,eJ,WS.j,d,g2,m1,Y]
   ·rw[m_ f]at m1;simp[bV,eJ,WS.j,d,m1]
  rw[t4,aj,g_ rfl];rfl
theorem BG(n:Nat)(s:WS)(I:WI s)(t:WOk x)(r:WOk y):
  ((ic (eW ([w,x,y].map .str) [c_,c_,c_,c_])).bind λJ=>(ib (eW ([w,x,y].map .str) [c_,a_ J,c_,c_])).bind λo=>(cG (eJ s.j ([w,x,y].map .str) [c_,a_ J,a_ o,c_])).bind λb=>if b=d_ then FN (b_,s.j)else
   (i9 (eW ([w,x,y].map .str) [c_,a_ J,a_ o,c_])).bind λd=>okJ s.j.dc.length (d_,{s.j with dc:=s.j.dc++[d]}))=.ok (uN s (iE s [x,y])):=by
 have e1:=jC n t 1000000000;have e2:=jC n r 1000000000;have v:g8 [.str w,.str x,.str y] 1=.ok (.str x):=rfl;have g2:g8 [.str w,.str x,.str y] 2=.ok (.str y):=rfl;have a1:ic (eW ([w,x,y].map .str) [c_,c_,c_,c_])=.ok (.int (mK x 1000000000)):=by simp[ic,eW,v,e1]
 have D:∀J,ib (eW ([w,x,y].map .str) [c_,a_ J,c_,c_])=.ok (.int (mK y 1000000000)):=λJ=>by simp[ib,eW,g2,e2]
 rw[a1,aj,D,aj];have u:s.cs.length<16777216:=by have:=I.cm;omega
 have q:=jv (x:=x) (m:=1000000000) (by decide);have p:=jv (x:=y) (m:=1000000000) (by decide);have t6:cG (eJ s.j ([w,x,y].map .str) [c_,a_ (.int (mK x 1000000000)),a_ (.int (mK y 1000000000)),c_])=.ok (q_ (mK x 1000000000<0\/mK y 1000000000<=mK x 1000000000\/19<s.cs.length)):=by
  by_cases h1:mK x 1000000000<0
  ·simp[cG,eJ,WS.j,ltD,h1]
  ·by_cases h2:mK y 1000000000<=mK x 1000000000
   ·simp[cG,eJ,WS.j,ltD,leD,h1,h2]
   ·by_cases l:19<s.cs.length
    ·have g:(19:Int)<(s.cs.length:Int):=by omega
     simp[cG,eJ,WS.j,ltD,leD,gtD,h1,h2,l,g]
    ·have g:¬(19:Int)<(s.cs.length:Int):=by omega
     simp[cG,eJ,WS.j,ltD,leD,gtD,h1,h2,l,g]
 rw[t6,aj];by_cases a:mK x 1000000000<0\/mK y 1000000000<=mK x 1000000000\/19<s.cs.length
 ·rw[s_ a,g_ rfl];have:iE s [x,y]=c_:=by
   unfold iE;dsimp only;cases ex:dv x with
   |none=>rfl|some i=>
   cases A:dv y with
   |none=>rfl|some j=>
   dsimp only;refine l_ λf=>?_;simp only[o_,FT]at f;obtain⟨G,F,E,B⟩:=(⟨f.1,Ai.mp f.2⟩:s.cs.length<20/\0<=i/\i<j/\j<=1000000000)
   rw[eU ex (by omega),eU A B]at a;omega
  rw[this];rfl
 ·rw[m_ a,l_ (by decide)];simp only[LU]at a;obtain⟨b1,b2,b3⟩:=a;obtain⟨i,hi,e⟩:∃i,dv x=a_ i/\i<=1000000000:=Gi λz=>b1 (q.mpr z);have c:=eU hi e;obtain⟨j,k,Y⟩:∃j,dv y=a_ j/\j<=1000000000:=Gi λz=>by
   have h1:=p.mpr z;omega
  have h:=eU k Y;rw[c,h]at b2 ⊢;rw[c]at b1;have:iE s [x,y]=a_ {s with cs:=s.cs++[(i,j)]}:=by unfold iE;dsimp only;rw[hi,k];dsimp only;refine g_ ?_;rw[o_,FT];exact⟨by omega,Ai.mpr ⟨by omega,by omega,Y⟩⟩
  rw[this];have C:i9 (eW ([w,x,y].map .str) [c_,a_ (.int i),a_ (.int j),c_])=.ok (stD (i,j)):=by simp[i9,eW,stD]
  rw[C,aj,xk (by show(s.cs.map stD).length<_;rw[t_];exact u)];simp[uN,WS.j]
theorem fl_chain{e:M A'}{g f J:A'->M Bool}{Y:M (Bool×Jst)}{X:A'->M (Bool×Jst)}{d:A'}{c b I:Bool}(h:e=.ok d)(j:g d=.ok c)(i:f d=.ok b)(a:J d=.ok I):
  (e.bind λd=>(g d).bind λz=>if z=d_ then Y else(f d).bind λz=>if z=d_ then Y else(J d).bind λz=>if z=d_ then Y else X d)=if (c||(b||I))=d_ then Y else X d:=by
 rw[h,aj,j,aj,i,aj,a,aj];cases c<;>cases b<;>cases I<;>rfl
theorem BF(n:Nat)(s:WS)(I:WI s){k c d:p_}(h1:WOk nm)(ha:WOk a)(hb:WOk b)(hc:WOk c)(hd:WOk d):
  ((i8 (eW ([w,nm,k,a,b,c,d].map .str) [c_,c_,c_,c_])).bind λdn=>
   (eV (eJ s.j ([w,nm,k,a,b,c,d].map .str) [c_,c_,c_,a_ dn])).bind λz=>if z=d_ then FN (b_,s.j)else
   (hV (eJ s.j ([w,nm,k,a,b,c,d].map .str) [c_,c_,c_,a_ dn])).bind λz=>if z=d_ then FN (b_,s.j)else
   (dM (eJ s.j ([w,nm,k,a,b,c,d].map .str) [c_,c_,c_,a_ dn])).bind λz=>if z=d_ then FN (b_,s.j)else
   (fO (eW ([w,nm,k,a,b,c,d].map .str) [c_,c_,c_,a_ dn])).bind λq=>(fN (eJ {s.j with dn:=s.j.dn++[q]} ([w,nm,k,a,b,c,d].map .str) [c_,c_,c_,a_ dn])).bind λf=>if (i7 f&&q_ (s.j.dn.length<f_))=d_ then okJ s.j.df.length (d_,{s.j with dn:=s.j.dn++[q],df:=s.j.df++[f]})else stk)=.ok (uN s (kx s [nm,k,a,b,c,d])):=by
 have e5:=xp n h1;have v1:=jC n ha 1000000000;have v2:=jC n hb 1000000000;have v3:=jC n hc 1000000000;have v4:=jC n hd 1000000000;have n1:=jv (x:=a) (m:=1000000000) (by decide);have n2:=jv (x:=b) (m:=1000000000) (by decide);have n3:=jv (x:=c) (m:=1000000000) (by decide);have n4:=jv (x:=d) (m:=1000000000) (by decide);have m1:=qT k s.ks;have m2:=inS nm (s.nf.map (·.1));generalize G:mK a 1000000000=e at *;generalize E:mK b 1000000000=Y at *;generalize D:mK c 1000000000=j at *;generalize C:mK d 1000000000=g at *;have L:i8 (eW ([w,nm,k,a,b,c,d].map .str) [c_,c_,c_,c_])=.ok (.lst [.int e,.int Y,.int j,.int g]):=by
  have es:de (.lst [.str w,.str nm,.str k,.str a,.str b,.str c,.str d]) (a_ 3) c_=.ok (.lst [.str a,.str b,.str c,.str d]):=by simp[de,Cr,cX]
  have cm:aS (.nm 0) iK (fL (bo) (aa (ai 0) (aa (f2 DF (fC (.int 10)) (fC (.int 9))) aC))) [c_] [.str a,.str b,.str c,.str d]=.ok [.int e,.int Y,.int j,.int g]:=by simp[aS,v1,v2,v3,v4]
  simp[i8,eW,es,cm,iS]
 generalize hW:([w,nm,k,a,b,c,d].map A'.str)=W at L ⊢;have g1:g8 W 1=.ok (.str nm):=by rw[<- hW];rfl
 have g2:g8 W 2=.ok (.str k):=by rw[<- hW];rfl
 have O:g8 [.int e,.int Y,.int j,.int g] 0=.ok (.int e):=rfl;have N:g8 [.int e,.int Y,.int j,.int g] 1=.ok (.int Y):=rfl;have q2:g8 [.int e,.int Y,.int j,.int g] 2=.ok (.int j):=rfl;have q3:g8 [.int e,.int Y,.int j,.int g] 3=.ok (.int g):=rfl;have t8:eV (eJ s.j W [c_,c_,c_,a_ (.lst [.int e,.int Y,.int j,.int g])])=.ok (!jT nm||q_ (nm∈s.nf.map (·.1))):=by
  cases T:jT nm with
  |false=>rw[T]at e5;simp[eV,eJ,g1,e5]|true=>rw[T]at e5;simp[eV,eJ,WS.j,g1,e5,m2,-FL]
 have mn:=min4 e Y j g;have B:=min4_neg e Y j g;have t9:hV (eJ s.j W [c_,c_,c_,a_ (.lst [.int e,.int Y,.int j,.int g])])=.ok (!decide (k∈s.ks)||q_ (e<0\/Y<0\/j<0\/g<0)):=by
  by_cases t:k∈s.ks
  ·rw[s_ t]at m1;rw[s_ t];have:q_ (lE (lE (lE e Y) j) g<0)=q_ (e<0\/Y<0\/j<0\/g<0):=by rw[decide_eq_decide];exact B
   show(((f2 ip (f2 ixD (ai 1) (fC (.int 2))) (ai 2)) _).bind asB).bind (λb=>if b=d_ then .ok d_ else(((fL minD (aa (ai 10) aC)) (eJ s.j W [c_,c_,c_,a_ (.lst [.int e,.int Y,.int j,.int g])])).bind λx=>ltD x (.int 0)).bind asB)=_;have z1:(f2 ip (f2 ixD (ai 1) (fC (.int 2))) (ai 2)) (eJ s.j W [c_,c_,c_,a_ (.lst [.int e,.int Y,.int j,.int g])])=.ok (.bl b_):=by simp[eJ,WS.j,g2,m1]
   rw[z1];show((minD [.lst [.int e,.int Y,.int j,.int g]]).bind λx=>ltD x (.int 0)).bind asB=_;rw[mn,aj];show FN (q_ (lE (lE (lE e Y) j) g<0))=_;rw[this];rfl
  ·rw[m_ t]at m1;rw[m_ t];simp[hV,eJ,WS.j,g2,m1]
 have t10:dM (eJ s.j W [c_,c_,c_,a_ (.lst [.int e,.int Y,.int j,.int g])])=.ok (q_ (Y<e)||q_ (39<s.nf.length)):=by
  by_cases h:Y<e
  ·simp[dM,eJ,O,N,gtD,h]
  ·by_cases h2:39<s.nf.length
   ·have h3:(39:Int)<(s.nf.length:Int):=by omega
    simp[dM,eJ,WS.j,O,N,gtD,h,h2,h3]
   ·have h3:¬(39:Int)<(s.nf.length:Int):=by omega
    simp[dM,eJ,WS.j,O,N,gtD,h,h2,h3]
 refine(fl_chain L t8 t9 t10).trans ?_;generalize U:((fO (eW W [c_,c_,c_,a_ (.lst [.int e,.int Y,.int j,.int g])])).bind λq=>(fN (eJ {s.j with dn:=s.j.dn++[q]} W [c_,c_,c_,a_ (.lst [.int e,.int Y,.int j,.int g])])).bind λf=>if (i7 f&&q_ (s.j.dn.length<f_))=d_ then okJ s.j.df.length (d_,{s.j with dn:=s.j.dn++[q],df:=s.j.df++[f]})else stk)=X;unfold kx;dsimp only;cases T:jT nm with
 |false=>simp[uN]|true=>
 by_cases hm:nm∈s.nf.map (·.1)
 ·rw[s_ hm];simp[uN]
 rw[m_ hm];by_cases t:k∈s.ks
 rotate_left
 ·rw[m_ t];simp[uN]
 rw[s_ t];by_cases h4:s.nf.length<40
 rotate_left
 ·have:q_ ((s.nf.map (·.1)).length<40)=b_:=m_ (by simpa using h4);rw[this,s_ (show 39<s.nf.length by omega)];by_cases J:e<0\/Y<0\/j<0\/g<0
  ·rw[s_ J];simp[uN]
  ·rw[m_ J];simp[uN]
 have h40:q_ ((s.nf.map (·.1)).length<40)=d_:=s_ (by simpa using h4);rw[h40,m_ (show ¬39<s.nf.length by omega)];by_cases J:e<0\/Y<0\/j<0\/g<0
 ·rw[s_ J];have S:∀p,num4 a b c d=a_ p->flB ⟨kI s.ks k,p.1,p.2.1,p.2.2.1,p.2.2.2⟩=b_:=λp P=>by
   unfold num4 at P;split at P
   ·rename_i o l r d' A y v u;cases P;cases H:flB ⟨kI s.ks k,o,l,r,d'⟩with
    |false=>rfl|true=>
     have F:=flB_ok (k:=kI s.ks k+1) H (by simp) (by simp;omega);have f1:=F.a;have f2:=F.b;have f3:=F.c;have f4:=F.d;have f5:=F.e;dsimp only at f1 f2 f3 f4 f5;exfalso;rcases J with h|h|h|h
     ·exact n1.mp h ⟨o,A,by omega⟩
     ·exact n2.mp h ⟨l,y,by omega⟩
     ·exact n3.mp h ⟨r,v,by omega⟩
     ·exact n4.mp h ⟨d',u,by omega⟩
   ·cases P
  cases hq:num4 a b c d with
  |none=>simp[uN]|some p=>obtain⟨o,l,r,d'⟩:=p;have:=S _ hq;dsimp only at this;simp[uN,this]
 rw[m_ J];simp only[LU]at J;obtain⟨i1,i2,i3,i4⟩:=J;obtain⟨o,A,ya⟩:∃i,dv a=a_ i/\i<=1000000000:=Gi λz=>i1 (n1.mpr z);obtain⟨l,y,yb⟩:∃i,dv b=a_ i/\i<=1000000000:=Gi λz=>i2 (n2.mpr z);obtain⟨r,v,yc⟩:∃i,dv c=a_ i/\i<=1000000000:=Gi λz=>i3 (n3.mpr z);obtain⟨d',u,yd⟩:∃i,dv d=a_ i/\i<=1000000000:=Gi λz=>i4 (n4.mpr z);rw[eU A ya]at G;rw[eU y yb]at E;rw[eU v yc]at D;rw[eU u yd]at C;subst G E D C;have Z:num4 a b c d=a_ (o,l,r,d'):=by unfold num4;rw[A,y,v,u]
 rw[Z];dsimp only;have f1:=jz A;have f2:=jz y;have f3:=jz v;have f4:=jz u;by_cases K:l<o
 ·have H:flB ⟨kI s.ks k,o,l,r,d'⟩=b_:=by
   unfold flB;rw[m_ (show ¬o<=l by omega)];rfl
  rw[s_ K];simp[uN,H]
 ·have H:flB ⟨kI s.ks k,o,l,r,d'⟩=d_:=by
   unfold flB rgB;simp only[o_,FT];omega
  rw[m_ K];have hl:s.nf.length<16777216:=by omega
  have x1:=(xw t).1;have a20:fO (eW W [c_,c_,c_,a_ (.lst [.int o,.int l,.int r,.int d'])])=.ok (.str nm):=by simp[fO,eW,g1]
  have a21:fN (eJ {s.j with dn:=s.j.dn++[.str nm]} W [c_,c_,c_,a_ (.lst [.int o,.int l,.int r,.int d'])])=.ok (flD ⟨kI s.ks k,o,l,r,d'⟩):=by simp[fN,eJ,WS.j,g2,O,N,q2,q3,x1,ig,isL,flD]
  rw[a20,aj,a21,aj]at U;have Q:s.j.dn.length<f_:=by rw[FO];show((s.nf.map (·.1)).map A'.str).length<_;simpa using hl
  have R:s.j.df.length<16777216:=by show((s.nf.map (·.2)).map flD).length<_;simpa using hl
  have ff:i7 (flD ⟨kI s.ks k,o,l,r,d'⟩)=d_:=rfl;rw[g_ (by rw[ff,s_ Q];rfl),xk R]at U;rw[<- U];simp[uN,H,WS.j]
end
theorem len0{r:List α}(h:r.length=0):r=[]:=IC.mp h
theorem CH{r:List α}(h:r.length=n+1):∃x t,r=x::t/\t.length=n:=by
 cases r with
 |nil=>cases h|cons x t=>exact⟨x,t,rfl,by simpa using h⟩
section
variable(CR CP CS CW CD:i_)
theorem one_any(n:Nat)(s:WS)(I:WI s)(p:s.g.length<10000000/\s.b.length<10000000)(w:p_)(r:List p_)(J:∀x∈r,WOk x):gr s.j ((w::r).map .str)=.ok (uN s (nW s w r)):=by
 have Y:∀ρ,ai 1 (eJ s.j ((w::r).map .str) ρ)=.ok (.lst ((w::r).map .str)):=λρ=>rfl;unfold gr oneD;dsimp only;have H:oJ (eJ s.j ((w::r).map .str) [c_,c_,c_,c_])=.ok (q_ (w=wK/\r.length=1)):=and_t (Y _) wK 1 2 rfl;have G:oH (eJ s.j ((w::r).map .str) [c_,c_,c_,c_])=.ok (q_ ((w=wG\/w=wB)/\r.length=3)):=and_g (Y _);have F:mS (eJ s.j ((w::r).map .str) [c_,c_,c_,c_])=.ok (q_ (w=wC/\r.length=2)):=and_t (Y _) wC 2 3 rfl;have E:mQ (eJ s.j ((w::r).map .str) [c_,c_,c_,c_])=.ok (!decide (w=wF/\r.length=6)):=or_f (Y _);rw[H,aj];by_cases h1:w=wK/\r.length=1
 ·rw[s_ h1,g_ rfl];obtain⟨x,r',rfl,e⟩:=CH h1.2;cases len0 e;have:=one_kind n s I (w:=w) (J x (by simp));unfold nW;rw[g_ h1.1];exact this
 rw[m_ h1,l_ (by decide),G,aj];by_cases f:(w=wG\/w=wB)/\r.length=3
 ·rw[s_ f,g_ rfl];obtain⟨x,o,rfl,e⟩:=CH f.2;obtain⟨y,r2,rfl,g⟩:=CH e;obtain⟨v,t,rfl,m⟩:=CH g;cases len0 m;have D:w≠wK:=λz=>f.1.elim (λu=>sj.1 (u.symm.trans z)) λu=>sj.2.1 (u.symm.trans z);unfold nW;rw[l_ D];by_cases l:w=wG
  ·rw[g_ l];exact DQ n s b_ p (x:=x) (y:=y) l (J v (by simp))
  ·have q:w=wB:=f.1.elim (λu=>FJ u l) id;rw[l_ l,g_ q];exact DQ n s d_ p (x:=x) (y:=y) q (J v (by simp))
 rw[m_ f,l_ (by decide),F,aj];by_cases j:w=wC/\r.length=2
 ·rw[s_ j,g_ rfl];obtain⟨x,o,rfl,e⟩:=CH j.2;obtain⟨y,r2,rfl,g⟩:=CH e;cases len0 g;have z:=j.1;unfold nW;rw[l_ (λu=>sj.2.2.2.1 (z.symm.trans u)),l_ (λu=>sj.2.2.2.2.1 (z.symm.trans u)),l_ (λu=>sj.2.2.2.2.2.1 (z.symm.trans u)),g_ z];exact BG n s I (J x (by simp)) (J y (by simp))
 rw[m_ j,l_ (by decide),E,aj];by_cases i:w=wF/\r.length=6
 ·rw[s_ i,l_ (by decide)];obtain⟨nm,o,rfl,e⟩:=CH i.2;obtain⟨k,r2,rfl,g⟩:=CH e;obtain⟨a,t,rfl,m⟩:=CH g;obtain⟨b,N,rfl,C⟩:=CH m;obtain⟨c,L,rfl,B⟩:=CH C;obtain⟨d,K,rfl,A⟩:=CH B;cases len0 A;have z:=i.1;unfold nW;rw[l_ (λu=>sj.2.2.2.2.2.2.1 (z.symm.trans u)),l_ (λu=>sj.2.2.2.2.2.2.2.1 (z.symm.trans u)),l_ (λu=>sj.2.2.2.2.2.2.2.2.1 (z.symm.trans u)),l_ (λu=>sj.2.2.2.2.2.2.2.2.2 (z.symm.trans u)),g_ z];exact BF n s I (J nm (by simp)) (J a (by simp)) (J b (by simp)) (J c (by simp)) (J d (by simp))
 rw[m_ i,g_ (show(!false)=d_ from rfl)];have:nW s w r=c_:=by
  unfold nW;split
  ·rename_i h;exact Ej λz=>h1 ⟨h,z⟩
  split
  ·rename_i h;exact AW λz=>f ⟨.inl h,z⟩
  split
  ·rename_i h;exact AW λz=>f ⟨.inr h,z⟩
  split
  ·rename_i h;exact zW λz=>j ⟨h,z⟩
  split
  ·rename_i h;exact zF λz=>i ⟨h,z⟩
  ·rfl
 rw[this];rfl
end
def rowW(s:WS)(x:p_):Option WS:=match jL x with
 |[]=>a_ s|w::r=>if G3 w "#"=d_ then a_ s else nW s w r
def yr:Nat->List p_->WS->Sum Nat WS
 |_,[],s=>.inr s|k,x::xs,s=>match rowW s x with
  |some s'=>yr (k+1) xs s'|none=>.inl k
theorem Au(I:WI s)(h:rowW s x=a_ s'):WI s'/\s'.g.length<=s.g.length+1/\s'.b.length<=s.b.length+1:=by
 unfold rowW at h;split at h
 ·cases h;exact⟨I,Gk _,Gk _⟩
 ·split at h
  ·cases h;exact⟨I,Gk _,Gk _⟩
  ·exact vS I h
theorem yF{r:List Nat}(e:w.cps.toList=c::r):G3 w "#"=q_ (c=35):=by
 have h1:(e_ "#")=⟨#[35]⟩:=by decide +kernel
 rw[h1];obtain⟨⟨l⟩⟩:=w;cases(show l=c::r from e);unfold G3;simp[Builtin.Str.subAt,Str.length];rfl
section
variable(CR CP CS CW CD:i_)
theorem D0(n:Nat)(s:WS)(hw:G3 w "#"=d_):bz s.d.D ((w::r).map .str)=.ok (d_,s.d.D):=by
 have t:(fOr (fB (f2 eqM (ai 1) (fL bP aC))) (lI (fSM nZ (f2 ixD (ai 1) (fC (.int 0))) (fC (.str "#"))))) [c_,a_ (.lst ((w::r).map .str))]=.ok d_:=by
  have I:g8 ((w::r).map A'.str) 0=.ok (.str w):=get0;have e:eqM (.lst ((w::r).map A'.str)) (.lst [])=.ok (.bl b_):=by have h1:I' (.lst ((w::r).map A'.str)) 40=d_:=k8 (w::r) 39;show(if (I' (.lst ((w::r).map A'.str)) 40&&I' (.lst []) 40)=d_ then _ else _)=_;rw[g_ (by rw[h1];rfl)];rfl
  simp[e,I,hw,-C_]
 unfold bz nX;show((fOr _ _ _).bind _)=_;rw[t];rfl
theorem row_prog(n:Nat)(s:WS)(I:WI s)(c:s.g.length<10000000/\s.b.length<10000000)(b:x.length<=1000000):oF (bz s.d.D ((jL x).map .str)) (rowW s x):=by
 have J:=vP b;unfold rowW;cases hw:jL x with
 |nil=>exact row_none n s.d|cons w r=>
  rw[hw]at J;dsimp only;cases Y:G3 w "#" with
  |true=>rw[g_ rfl];exact D0 n s Y|false=>rw[l_ (by decide)];exact take_any n s I c w r Y λy a=>J y (by simp[a])
theorem wA(n:Nat):∀(xs:List p_) (k:Nat) (s:WS),WI s->(∀x∈xs,x.length<=1000000)->s.g.length+xs.length<10000000->s.b.length+xs.length<10000000 ->
  o7 CW "row" (bz) (gw) k (xs.map .str) s.d.D=(match yr k xs s with
   |.inl m=>.error (.exc CW [("row",.int (m:Nat))])|.inr s'=>.ok s'.d.D)
 |[],k,s,_,_,_,_=>rfl|x::xs,k,s,I,Y,h1,h2=>by
  simp only[FV]at h1 h2;have hw:=CQ n (Y x (by simp));have J:=row_prog n s I ⟨by omega,by omega⟩ (Y x (by simp));show((noX (gw [.str x])).bind _)=_;rw[hw];show((noX (bz s.d.D ((jL x).map .str))).bind _)=_;unfold yr;cases a:rowW s x with
  |none=>rw[a]at J;obtain⟨ds,e⟩:=J;rw[e];rfl
  |some s'=>rw[a]at J;have e:bz s.d.D ((jL x).map .str)=.ok (d_,s'.d.D):=J;rw[e];obtain⟨c,d,g2⟩:=Au I a;exact wA n xs (k+1) s' c (λy b=>Y y (by simp[b])) (by omega) (by omega)
theorem Ar(n:Nat)(J:List p_)(a:∀x∈J,x.length<=1000000)(B:J.length<=1000001):∀(m k:Nat) (s:WS),WI s->k+m=J.length->s.g.length+m<10000000->s.b.length+m<10000000 ->
  pI (gr) (cA) (cw) (bh) (cu) (J.map .str) m k s.j=.ok (match yr (k+1) (J.drop k) s with
   |.inl q=>.inl (.int (q:Nat))|.inr s'=>.inr s'.j)
 |0,k,s,_,A,_,_=>by rw[LR (by omega)];rfl|m+1,k,s,I,A,h1,h2=>by
  have b:k<J.length:=by omega
  rw[G8 b];have d:J[k].length<=1000000:=a _ (Hb b);have hw:=BV n d;have f:=vP d;have C:g8 (J.map A'.str) (k:Int)=.ok (.str J[k]):=by have:=iV (ds:=J.map A'.str) (k:=k) (by simpa using b);rw[this];simp
  have fw:cA (eK (J.map .str) k c_)=.ok (.lst ((jL J[k]).map .str)):=by simp[cA,eK,C,hw]
  have Y:∀s',WI s'->s'.g.length<=s.g.length+1->s'.b.length<=s.b.length+1->_:=λs' j o g2=>Ar n J a B m (k+1) s' j (by omega) (by omega) (by omega)
  unfold pI yr;rw[fw,aj];dsimp only;unfold rowW;cases g:jL J[k]with
  |nil=>
   have t3:bh (eK (J.map .str) k (a_ (.lst [])))=.ok b_:=by have e:neM (.lst []) (.lst [])=.ok (.bl b_):=rfl;simp[bh,eK,e]
   show((bh (eK (J.map .str) k (a_ (.lst [])))).bind _)=_;rw[t3,aj,l_ (by decide)];exact Y s I (Gk _) (Gk _)
  |cons w r=>
   rw[g]at f;have t3:bh (eK (J.map .str) k (a_ (.lst ((w::r).map .str))))=.ok d_:=by
    have e:neM (.lst ((w::r).map A'.str)) (.lst [])=.ok (.bl d_):=by have h1:I' (.lst ((w::r).map A'.str)) 40=d_:=k8 (w::r) 39;show(if (I' (.lst ((w::r).map A'.str)) 40&&I' (.lst []) 40)=d_ then _ else _)=_;rw[g_ (by rw[h1];rfl)];rfl
    simp[bh,eK,e,-C_]
   rw[t3,aj,g_ rfl];obtain⟨t,E⟩:=f w (by simp);cases i:w.cps.toList with
   |nil=>exact FJ i t|cons c q=>
   have v:=ix0' i (show w.length<=16777216 by omega);have p:(e_ "#")=⟨#[35]⟩:=by decide +kernel
   have D:g8 ((w::r).map A'.str) 0=.ok (.str w):=get0;have e1:neM (.str ⟨#[c]⟩) (.str "#")=.ok (.bl (!decide (c=35))):=by
    rw[p,neS]
    congr 3
    rw[decide_eq_decide];constructor
    ·intro h;have:=Iv Str.cps h;simpa using this
    ·intro h;rw[h]
   have t4:cu (eK (J.map .str) k (a_ (.lst ((w::r).map .str))))=.ok (!decide (c=35)):=by simp[cu,eK,D,v,e1,-C_]
   rw[t4,aj];dsimp only;rw[yF i];by_cases l:c=35
   ·rw[s_ l,l_ (by decide),g_ rfl];exact Y s I (Gk _) (Gk _)
   ·rw[m_ l,g_ (show(!false)=d_ from rfl),l_ (by decide),one_any n s I ⟨by omega,by omega⟩ w r λy u=>f y (by simp[u]),aj];cases z:nW s w r with
    |some s'=>obtain⟨j,o,g2⟩:=vS I z;exact(g_ rfl).trans (Y s' j o g2)
    |none=>
     have fr:cw (eK (J.map .str) k (a_ (.lst ((w::r).map .str))))=.ok (.int ((k+1:Nat):Int)):=by simp[cw,eK]
     refine(l_ (show ¬(b_=d_) by decide)).trans ?_;rw[fr,aj]
end
noncomputable def w0:WS:=⟨[],[],[],[],[]⟩
theorem CT:WI w0:=⟨.nil,by decide,by simp[w0],λ_ h=>(nomatch h),λ_ h=>(nomatch h),by decide,by simp[w0],.nil,by decide,by simp[w0]⟩
def tbW(ks:List p_)(g:PKs):List (List Int):=ks.map λx=>ks.map λy=>(yu g (x,y)).getD 0
def WS.sh(s:WS):Sht:=⟨s.ks,tbW s.ks s.g,if s.b.isEmpty=d_ then c_ else a_ (tbW s.ks s.b),s.nf,s.cs⟩
theorem getP_in(h:Be ks g)(k:p_×p_):0<=(yu g k).getD 0/\(yu g k).getD 0<=1000000:=by
 unfold yu;cases e:g.find? λp=>q_ (p.1=k)with
 |none=>simp|some p=>exact(h p (List.mem_of_find?_eq_some e)).2.2
theorem Ab(h:Be ks g):eD ks.length (tbW ks g):=by
 refine⟨by unfold tbW;simp,λr I=>?_⟩
 obtain⟨x,_,rfl⟩:=Gz.mp I;refine⟨by simp,λv hv=>?_⟩
 obtain⟨y,_,rfl⟩:=Gz.mp hv;exact getP_in h _
theorem tbW_tb(Y:ks.Nodup)(h:Be ks g):Tb ks.length (enc ks g) (tR (tbW ks g)):=λa c J I=>by
 have d:kI ks ks[a]=a:=by unfold kI;rw[idx_at Y J];rfl
 have b:kI ks ks[c]=c:=by unfold kI;rw[idx_at Y I];rfl
 have e:=zI (Hb J) (Hb I) h;rw[d,b]at e;rw[e];have:tR (tbW ks g) a c=(yu g (ks[a],ks[c])).getD 0:=by show wD ((tbW ks g).getD a []) c=_;unfold wD tbW;simp[List.getD_eq_getElem?_getD,J,I]
 rw[this];cases yu g (ks[a],ks[c])<;>rfl
theorem WS.sg(I:WI s)(J:s.ks≠[]):s.sh.SG where
 k1:=List.length_pos_iff.mpr J
 k6:=I.k6
 kn:=I.kn
 kd:=I.kd
 rows:=Ab I.gi
 o:=λr2 h=>by
  have h:(if s.b.isEmpty=d_ then c_ else a_ (tbW s.ks s.b))=a_ r2:=h;split at h
  ·cases h
  ·cases h;exact Ab I.bi
 nm:=I.nm
 nn:=I.nn
 nd:=I.nd
 cm:=I.cm
 cl:=I.cl
theorem WS.desc(I:WI s):Desc s.d s.sh where
 ks:=rfl
 nf:=rfl
 cs:=rfl
 g:=tbW_tb I.kd I.gi
 b0:=λh=>by
  have h:(if s.b.isEmpty=d_ then c_ else a_ (tbW s.ks s.b))=c_:=h;split at h
  ·rename_i J;have:s.b=[]:=by simpa using J
   show enc s.ks s.b=[]
   rw[this];rfl
  ·cases h
 b1:=λr2 h=>by
  have h:(if s.b.isEmpty=d_ then c_ else a_ (tbW s.ks s.b))=a_ r2:=h;split at h
  ·cases h
  ·rename_i J;cases h;refine⟨λe=>J ?_,tbW_tb I.kd I.bi⟩
   have e:enc s.ks s.b=[]:=e;unfold enc at e;rw[J7]at e;rw[e];rfl
theorem pM:∀(xs:List p_) (k:Nat) (s:WS),WI s->∀s',yr k xs s=.inr s'->WI s'
 |[],_,s,I,s',h=>by cases h;exact I|x::xs,k,s,I,s',h=>by
  unfold yr at h;cases J:rowW s x with
  |none=>rw[J]at h;cases h|some Y=>rw[J]at h;exact pM xs (k+1) Y (Au I J).1 s' h
theorem D1(ks:List p_)(g:PKs):tabJ g ks=aX (tbW ks g):=by
 unfold tabJ aX tbW;rw[FL]
 congr 1
 refine Hs λx _=>?_;show rowJ g ks x=qE _;unfold rowJ qE;rw[FL];rfl
section
variable(CR CP CS CW CD:i_)
def dueW(x:p_):A':=match yr 1 (cM x) w0 with
 |.inl q=>.int (q:Nat)|.inr s=>if s.ks=[]then .int 0 else s.sh.D
theorem BZ(n:Nat)(k:x.length<=1000000):i6 [.str x]=.ok (dueW x):=by
 obtain⟨h1,h2,l⟩:=As x;have c:(e_ "\n").length=1:=by decide +kernel
 have b:x.length+2<=16777216:=by omega
 have f0:fP (eT x)=.ok (.lst ((cM x).map .str)):=by simp[fP,eT,c,b,cM]
 have J:=Ar n (cM x) (λy f=>by have:=h2 y f;omega) (by omega) (cM x).length 0 w0 CT (by omega) (by show 0+_<_;omega) (by show 0+_<_;omega);rw[IJ]at J;have a:tK (gr) (fP) (cA) (cw) (iB) (bh) (cu) (eX) x=.ok (dueW x):=by
  unfold tK;rw[f0,aj];dsimp only;rw[g_ (by rw[FO,t_];omega),t_];have J:pI (gr) (cA) (cw) (bh) (cu) ((cM x).map .str) (cM x).length 0 s0J=_:=J;rw[J,aj];unfold dueW;cases g:yr 1 (cM x) w0 with
  |inl q=>rfl|inr s=>
   dsimp only;have I:=pM _ _ _ CT s g;have e4:eX (eM s.j c_)=.ok (q_ (s.ks=[])):=by
    have e:eqM (.lst (s.ks.map A'.str)) (.lst [])=.ok (.bl (q_ (s.ks=[]))):=by have h1:I' (.lst (s.ks.map A'.str)) 40=d_:=k8 s.ks 39;show(if (I' (.lst (s.ks.map A'.str)) 40&&I' (.lst []) 40)=d_ then _ else _)=_;rw[g_ (by rw[h1];rfl)];cases s.ks<;>rfl
    simp[eX,eM,WS.j,e]
   rw[e4,aj];by_cases Y:s.ks=[]
   ·rw[s_ Y,g_ rfl,g_ Y]
   ·rw[m_ Y,l_ (by decide),l_ Y];rw[show gV s.j.dk=.ok s.ks from ig s.ks,aj,g_ (by rw[FO];have:=I.k6;omega)];have j:zw s.j s.ks=[aX (tbW s.ks s.g),s.sh.bD]:=by
     unfold zw;rw[D1,D1];show [aX (tbW s.ks s.g),if s.b.isEmpty=d_ then A'.non else aX (tbW s.ks s.b)]=_;unfold Sht.bD WS.sh;cases s.b.isEmpty<;>rfl
    rw[j];have i:g8 [aX (tbW s.ks s.g),s.sh.bD] 0=.ok (aX (tbW s.ks s.g)):=rfl;have h:g8 [aX (tbW s.ks s.g),s.sh.bD] 1=.ok s.sh.bD:=rfl;simp[iB,eM,WS.j,i,h,Sht.D,Sht.kD,Sht.nD,Sht.fD,Sht.cD,-FL];exact⟨rfl,rfl,rfl,rfl,rfl⟩
 show(((tK _ _ _ _ _ _ _ _ x).bind λd=>FN (H9.rt d)).bind _)=_;rw[a];rfl
theorem read_any(Y:CR≠CP)(n:Nat)(u:x.length<=1000000):dA CR CP CS CW CD n [.str x]=(match yr 1 (cM x) w0 with
  |.inl q=>.error (.exc CW [("row",.int (q:Nat))])|.inr s=>if s.ks=[]then .error (.exc CW [("row",.int 0)])else .ok (s.sh.obj CR CP CS)):=by
 obtain⟨h1,h2,v⟩:=As x;have l:(e_ "\n").length=1:=by decide +kernel
 have k:x.length+2<=16777216:=by omega
 have o:(fSM oM (ai 0) (fC (.str "\n"))) [a_ (.str x),c_,c_,c_]=.ok (.lst ((cM x).map .str)):=by simp[l,k,cM]
 have g:=wA CW n (cM x) 1 w0 CT (λy m=>by have:=h2 y m;omega) (by show 0+_<_;omega) (by show 0+_<_;omega);have b:iW CR CP CS CW CD n [a_ (.str x),c_,c_,c_]=(match yr 1 (cM x) w0 with
  |.inl q=>.error (.exc CW [("row",.int (q:Nat))])|.inr s=>if s.ks=[]then .error (.exc CW [("row",.int 0)])else .ok (.rt (s.sh.obj CR CP CS))):=by
  unfold iW qC;refine(g_ (show(q_ (1<4)&&q_ (2<4)&&q_ (3<4))=d_ from rfl)).trans ?_;show(noX ((fSM oM (ai 0) (fC (.str "\n"))) [a_ (.str x),c_,c_,c_])).bind _=_;rw[o];show(o7 CW "row" _ _ 1 ((cM x).map .str) ds0).bind _=_;have g:o7 CW "row" (bz) (gw) 1 ((cM x).map .str) ds0=_:=g;rw[g];cases i:yr 1 (cM x) w0 with
  |inl q=>rfl|inr s=>
   have I:=pM _ _ _ CT s i;dsimp only;rw[aj];obtain⟨a1,z,w,f,d,c⟩:=dr_at (CD:=CD) s.d;have a1:bJ [CD] "kinds" (drD CD s.d.D)=.ok (.lst (s.ks.map .str)):=a1;have e:eqM (.lst (s.ks.map A'.str)) (.lst [])=.ok (.bl (q_ (s.ks=[]))):=by have h1:I' (.lst (s.ks.map A'.str)) 40=d_:=k8 s.ks 39;show(if (I' (.lst (s.ks.map A'.str)) 40&&I' (.lst []) 40)=d_ then _ else _)=_;rw[g_ (by rw[h1];rfl)];cases s.ks<;>rfl
   by_cases J:s.ks=[]
   ·rw[s_ J]at e;rw[g_ J];have a:cf CR CP CS CW CD n [a_ (.str x),a_ (drD CD s.d.D),c_,c_]=.error (.exc CW [("row",.int 0)]):=by
     simp[cf,a1,e]
    rw[nI];show((cf CR CP CS CW CD n [a_ (.str x),a_ (drD CD s.d.D),c_,c_]).bind _)=_;rw[a];rfl
   ·rw[m_ J]at e;rw[l_ J];have a:cf CR CP CS CW CD n [a_ (.str x),a_ (drD CD s.d.D),c_,c_]=.ok (.nx [a_ (.str x),a_ (drD CD s.d.D),c_,c_]):=by
     simp[cf,a1,e]
    have h:=WS.sg I J;have r:=Cj (CR:=CR) (CP:=CP) (CS:=CS) (CW:=CW) (CD:=CD) n h (WS.desc I);have p:=text_ok CR CP CS CW CD Y n h.good;have t:newS CS (dZ CR CP CS CW CD n) [.lst (s.ks.map .str),s.sh.ru CR CP,.lst ((s.nf.map (·.1)).map .str),.lst ((s.nf.map (·.2)).map flD),.lst (s.cs.map stD)]=.ok (s.sh.obj CR CP CS):=by show(dZ CR CP CS CW CD n [s.sh.kD,s.sh.ru CR CP,s.sh.nD,s.sh.fD,s.sh.cD]).bind _=_;rw[p];rfl
    have f:bJ [CD] "names" (drD CD s.d.D)=.ok (.lst ((s.nf.map (·.1)).map .str)):=f;have d:bJ [CD] "flights" (drD CD s.d.D)=.ok (.lst ((s.nf.map (·.2)).map flD)):=d;have c:bJ [CD] "closed" (drD CD s.d.D)=.ok (.lst (s.cs.map stD)):=c;rw[nI];show((cf CR CP CS CW CD n [a_ (.str x),a_ (drD CD s.d.D),c_,c_]).bind _)=_;rw[a,aj];have j:(cL (fL (newS CS (dZ CR CP CS CW CD n)) (aa (f1 (bJ [CD] "kinds") (ai 1)) (aa (fL (cv CR CP CS CW CD n) (aa (ai 1) aC)) (aa (f1 (bJ [CD] "names") (ai 1)) (aa (f1 (bJ [CD] "flights") (ai 1)) (aa (f1 (bJ [CD] "closed") (ai 1)) aC))))))) [a_ (.str x),a_ (drD CD s.d.D),c_,c_]=.ok (.rt (s.sh.obj CR CP CS)):=by simp[a1,f,d,c,r,t,-FL]
    show noX (cL _ [a_ (.str x),a_ (drD CD s.d.D),c_,c_])=_;rw[j];rfl
 unfold dA;rw[e_run];rw[g_ (show [A'.str x].length=1 from rfl)];show((iW CR CP CS CW CD n [a_ (.str x),c_,c_,c_]).bind _)=_;rw[b];cases i:yr 1 (cM x) w0 with
 |inl q=>rfl|inr s=>
  dsimp only;by_cases J:s.ks=[]
  ·rw[g_ J,g_ J];rfl
  ·rw[l_ J,l_ J];rfl
end
section
variable(CR CP CS CW CD:i_)
theorem told_any(Y:CR≠CP)(n:Nat)(e:x.length<=1000000):eE CR CP CS CW CD n [.str x]=.ok (match yr 1 (cM x) w0 with
  |.inl q=>.lst [.non,.int (q:Nat),.bl d_,.bl d_,.bl b_]|.inr s=>if s.ks=[]then .lst [.non,.int 0,.bl d_,.bl d_,.bl b_]else .lst [s.sh.obj CR CP CS]):=by
 have I:=read_any CR CP CS CW CD Y n e;have J:∀q:Int,dA CR CP CS CW CD n [.str x]=.error (.exc CW [("row",.int q)])->eE CR CP CS CW CD n [.str x]=.ok (.lst [.non,.int q,.bl d_,.bl d_,.bl b_]):=λq h=>by
  have b:fW CR CP CS CW CD n [a_ (.str x),a_ (.lst []),c_]=.ok (.nx [a_ (.str x),a_ (.lst [.non,.int q,.bl d_,.bl d_,.bl b_]),c_]):=by
   unfold fW;rw[tV (f:=("row",.int q)) (fs:=[]) (by show(((dA CR CP CS CW CD n [.str x]).bind λa=>FN [a]).bind bP).bind _=_;rw[h];rfl)]
   rw[e_xToldN];rfl
  simp[eE,mx,b]
 cases c:yr 1 (cM x) w0 with
 |inl q=>rw[c]at I;exact J _ I|inr s=>
  rw[c]at I;dsimp only at I ⊢;by_cases d:s.ks=[]
  ·rw[g_ d]at I ⊢;exact J _ I
  ·rw[l_ d]at I ⊢;have b:fW CR CP CS CW CD n [a_ (.str x),a_ (.lst []),c_]=.ok (.nx [a_ (.str x),a_ (.lst [s.sh.obj CR CP CS]),c_]):=by
    unfold fW;exact xN (by show(((dA CR CP CS CW CD n [.str x]).bind λa=>FN [a]).bind bP).bind _=_;rw[I,aj,aj];unfold bP;rw[g_ (by show 1<=f_;rw[FO];decide)];rfl)
   simp[eE,mx,b]
theorem wH(a:CR≠CP)(n:Nat)(g:x.length<=1000000):bL CR CP CS CW CD n [.str x]=.ok (.bl d_):=by
 have J:=BZ n g;have Y:=told_any CR CP CS CW CD a n g;unfold dueW at J;have b:∀q:Int,i6 [.str x]=.ok (.int q)->eE CR CP CS CW CD n [.str x]=.ok (.lst [.non,.int q,.bl d_,.bl d_,.bl b_])->bL CR CP CS CW CD n [.str x]=.ok (.bl d_):=λq h1 h2=>by
  have e:eqM (.lst [.non,.int q,.bl d_,.bl d_,.bl b_]) (.lst [.non,.int q,.bl d_,.bl d_,.bl b_])=.ok (.bl d_):=yH rfl;have j:g8 [.non,.int q,.bl d_,.bl d_,.bl b_] 1=.ok (.int q):=rfl;have w1:dB [.int q]=.ok (.bl d_):=by simp[dB,kr,iM]
  have f:eB [a_ (.str x),a_ (.int q),a_ (.lst [.non,.int q,.bl d_,.bl d_,.bl b_])]=.ok (.rt (.bl d_)):=by simp[eB,e,j,w1,iM]
  simp[bL,ku,h1,h2,f]
 cases c:yr 1 (cM x) w0 with
 |inl q=>rw[c]at J Y;exact b _ J Y|inr s=>
  rw[c]at J Y;dsimp only at J Y;by_cases d:s.ks=[]
  ·rw[g_ d]at J Y;exact b _ J Y
  ·rw[l_ d]at J Y;have I:=pM _ _ _ CT s c;have h:=WS.sg I d;have l:=is_ok CR CP CS CW CD a n h.good;have i:iT s.sh.D=.ok (.bl b_):=rfl;have e1:eqM (.int 1) (.int 1)=.ok (.bl d_):=yH rfl;have k:g8 [s.sh.obj CR CP CS] 0=.ok (s.sh.obj CR CP CS):=rfl;have f:eB [a_ (.str x),a_ s.sh.D,a_ (.lst [s.sh.obj CR CP CS])]=.ok (.nx [a_ (.str x),a_ s.sh.D,a_ (.lst [s.sh.obj CR CP CS])]):=by
    simp[eB,i]
   simp[bL,ku,J,Y,f,e1,k,l,iM]
end
def lowA(q:List Nat):Prop:=∀c∈q,lowD c
theorem tM(Y:0<=i)(h:z.cps.toList[i.toNat]?=a_ c)(I:z.length<=100):zA (.str z) (.int i)=.ok (.str ⟨#[c]⟩):=by
 have J:z.length<=f_:=Gb I (by decide);have a:=(w_.mp h).1;have ea:atI z.cps.toList i=a_ c:=by unfold atI ixN;rw[g_ (show 0<=i from Y),g_ (by omega)];exact h
 show(if z.length<=f_ then(match atI z.cps.toList i with
  |some c=>FN (A'.str ⟨#[c]⟩)|none=>stk)else stk)=_
 rw[g_ J,ea]
theorem LT_at:∀i,i<26->LT.cps.toList[i]?=a_ (97+i):=by decide +kernel
theorem DG_at:∀i,i<10->DG.cps.toList[i]?=a_ (48+i):=by decide +kernel
theorem LD_at:∀i,i<36->LD.cps.toList[i]?=a_ (if i<26 then 97+i else 22+i):=by decide +kernel
theorem LD_is:LT++DG=LD:=by decide +kernel
theorem low_at{i:Nat}(h:i<36):∃c,LD.cps.toList[i]?=a_ c/\lowD c:=⟨_,LD_at i h,by unfold lowD;split<;>omega⟩
theorem pL(T:p_)(c:Nat):(T++(⟨#[c]⟩:p_)).cps.toList=T.cps.toList++[c]:=by show(T.cps++#[c]).toList=_;simp
theorem len_is(T:p_):T.length=T.cps.toList.length:=rfl
theorem Nm.of{s:p_}{d:Nat}(e:s.cps.toList=c::d::q)(J:97<=c/\c<=122)(hd:lowD d)(Y:lowA q)(l:q.length<=6):Nm s:=by
 refine⟨⟨by rw[e];simp,λx I=>?_⟩,by rw[len_is,e];simp;omega,c,d::q,e,J⟩
 rw[e]at I;rcases x_.mp I with rfl|I
 ·exact .inl J
 ·rcases x_.mp I with rfl|I
  ·exact hd
  ·exact Y x I
theorem xn(Y:lowD c)(J:lowA q):lowA (c::q):=λx I=>by
 rcases x_.mp I with rfl|I
 ·exact Y
 ·exact J x I
section
variable(CR CP CS CW CD:i_)
theorem nloop(n:Nat)(a1:Option A'):∀(r:Nat) (j x:Int) (T:p_) (J:Option A'),0<=x->x<2305843009213693951->T.length+r<=90->∃(b:Int) (Y:p_) (a:Option A') (q:List Nat),(Y.cps.toList=T.cps.toList++q/\q.length=r/\lowA q)/\lj (.nm 4) (ie) (bQ j r) [a_ (.int x),a1,a_ (.str LT),a_ (.str T),J]=.ok (.nx [a_ (.int b),a1,a_ (.str LT),a_ (.str Y),a])
 |0,j,x,T,J,_,_,h=>⟨x,T,J,[],⟨by simp,rfl,λ_ h=>(nomatch h)⟩,rfl⟩
 |r+1,j,x,T,J,B,h1,A=>by
  have y:=Fz;have hd:=DG_len;have f: -18446744073709551616<x:=by omega
  have d:x<18446744073709551616:=by omega
  obtain⟨c,p,I⟩:=low_at (i:=((x*x+48271*x+j)%2305843009213693951/64%36).toNat) (by omega);have w:=tM (z:=LD) (i:=(x*x+48271*x+j)%2305843009213693951/64%36) (by omega) p (by rw[LD_len];omega);have o:(⟨#[c]⟩:p_).length=1:=rfl;have m:(T++(⟨#[c]⟩:p_)).length+r<=90:=by rw[l9];omega
  have u:LT.length+DG.length<=16777216:=by omega
  have t:T.length+(⟨#[c]⟩:p_).length<=16777216:=by omega
  obtain⟨b,Y,a,q,⟨l,k,g⟩,e⟩:=nloop n a1 r (j+1) ((x*x+48271*x+j)%2305843009213693951) (T++(⟨#[c]⟩:p_)) (a_ (.int j)) (HJ _ (by decide)) (Hy _ (by decide)) m;refine⟨b,Y,a,c::q,⟨by rw[l,pL];simp,by simp[k],xn I g⟩,?_⟩
  have s:ie [a_ (.int x),a1,a_ (.str LT),a_ (.str T),a_ (.int j)]=.ok (.nx [a_ (.int ((x*x+48271*x+j)%2305843009213693951)),a1,a_ (.str LT),a_ (.str (T++(⟨#[c]⟩:p_))),a_ (.int j)]):=by have v:(e_ "0123456789")=DG:=rfl;simp[ie,v,eC,u,t,f,d,w,f_,LD_is]
  rw[lS,lj,e_bnm,aj];simp only[Jo,Kg];rw[s,aj];exact e
theorem name2(n:Nat)(x:Int)(k:Nat)(w:k<26)(j:0<=x)(h1:x<2305843009213693951):∃(s:p_) (c:Nat) (q:List Nat),(s.cps.toList=c::(97+k)::q/\Nm s)/\jA [.int x,.int k]=.ok (.str s):=by
 have v:=Fz;have a:=tM (z:=LT) (i:=x%26) (by omega) (LT_at _ (by omega)) (by omega);have ek:(k:Int)%26=k:=by omega
 have Y:=tM (z:=LT) (i:=(k:Int)) (by omega) (LT_at _ (by omega)) (by omega);rw[show((k:Int)).toNat=k from Nh k]at Y;obtain⟨r,u,l⟩:∃r:Nat,r<=5/\(x/32%6:Int)=r:=⟨(x/32%6).toNat,by omega,by omega⟩
 have d: -4611686018427387904<=(r:Int):=by omega
 have r2:(r:Int)<4611686018427387904:=by omega
 obtain⟨c,g,J⟩:∃c,97+(x%26).toNat=c/\(97<=c/\c<=122):=⟨_,rfl,by omega,by omega⟩
 rw[g]at a;have h:(⟨#[c]⟩:p_).length+(⟨#[97+k]⟩:p_).length<=16777216:=by show 1+1<=_;omega
 obtain⟨p,b,o,q,⟨I,t,f⟩,e⟩:=nloop n (a_ (.int k)) r 0 x ((⟨#[c]⟩:p_)++(⟨#[97+k]⟩:p_)) c_ j h1 (by rw[l9];show 1+1+r<=90;omega);rw[pL]at I;have I:b.cps.toList=c::(97+k)::q:=I;refine⟨b,c,q,⟨I,Nm.of I J (.inl (by omega)) f (by omega)⟩,?_⟩
 have m:(e_ "abcdefghijklmnopqrstuvwxyz")=LT:=rfl;simp[jA,rn,m,a,ek,Y,eC,h,l,d,r2,e,f_]
theorem floop(n:Nat)(a1:Option A'):∀(r:Nat) (j x:Int) (T:p_) (J:Option A'),0<=x->x<2305843009213693951->T.length+r<=90->∃(b:Int) (Y:p_) (a:Option A') (q:List Nat),(Y.cps.toList=T.cps.toList++q/\q.length=r/\lowA q)/\lj (.nm 3) (cq) (bQ j r) [a_ (.int x),a1,a_ (.str T),J]=.ok (.nx [a_ (.int b),a1,a_ (.str Y),a])
 |0,j,x,T,J,_,_,h=>⟨x,T,J,[],⟨by simp,rfl,λ_ h=>(nomatch h)⟩,rfl⟩
 |r+1,j,x,T,J,y,h1,w=>by
  have f: -18446744073709551616<x:=by omega
  have d:x<18446744073709551616:=by omega
  obtain⟨c,p,I⟩:=low_at (i:=((x*x+48271*x+j)%2305843009213693951/64%36).toNat) (by omega);have v:=tM (z:=LD) (i:=(x*x+48271*x+j)%2305843009213693951/64%36) (by omega) p (by rw[LD_len];omega);have o:(⟨#[c]⟩:p_).length=1:=rfl;have m:(T++(⟨#[c]⟩:p_)).length+r<=90:=by rw[l9];omega
  have t:T.length+(⟨#[c]⟩:p_).length<=16777216:=by omega
  obtain⟨b,Y,a,q,⟨l,k,g⟩,e⟩:=floop n a1 r (j+1) ((x*x+48271*x+j)%2305843009213693951) (T++(⟨#[c]⟩:p_)) (a_ (.int j)) (HJ _ (by decide)) (Hy _ (by decide)) m;refine⟨b,Y,a,c::q,⟨by rw[l,pL];simp,by simp[k],xn I g⟩,?_⟩
  have s:cq [a_ (.int x),a1,a_ (.str T),a_ (.int j)]=.ok (.nx [a_ (.int ((x*x+48271*x+j)%2305843009213693951)),a1,a_ (.str (T++(⟨#[c]⟩:p_))),a_ (.int j)]):=by have u:(e_ "abcdefghijklmnopqrstuvwxyz0123456789")=LD:=rfl;simp[cq,u,eC,t,f,d,v,f_]
  rw[lS,lj,e_bnm,aj];simp only[Jo,Kg];rw[s,aj];exact e
theorem fname2(n:Nat)(x:Int)(k:Nat)(u:k<260)(f:0<=x)(h1:x<2305843009213693951):∃(s:p_) (q:List Nat),(s.cps.toList=(97+k%26)::(48+k/26)::q/\Nm s)/\dj [.int x,.int k]=.ok (.str s):=by
 have t:=Fz;have v:=DG_len;have Y:=tM (z:=LT) (i:=(k:Int)%26) (by omega) (LT_at _ (by omega)) (by omega);have J:=tM (z:=DG) (i:=(k:Int)/26) (by omega) (DG_at _ (by omega)) (by omega);rw[show((k:Int)%26).toNat=k%26 by omega]at Y;rw[show((k:Int)/26).toNat=k/26 by omega]at J;obtain⟨r,p,g⟩:∃r:Nat,r<=6/\(x/32%7:Int)=r:=⟨(x/32%7).toNat,by omega,by omega⟩
 have b: -4611686018427387904<=(r:Int):=by omega
 have r2:(r:Int)<4611686018427387904:=by omega
 have d:(⟨#[97+k%26]⟩:p_).length+(⟨#[48+k/26]⟩:p_).length<=16777216:=by show 1+1<=_;omega
 obtain⟨m,a,l,q,⟨I,o,c⟩,e⟩:=floop n (a_ (.int k)) r 0 x ((⟨#[97+k%26]⟩:p_)++(⟨#[48+k/26]⟩:p_)) c_ f h1 (by rw[l9];show 1+1+r<=90;omega);rw[pL]at I;have I:a.cps.toList=(97+k%26)::(48+k/26)::q:=I;refine⟨a,q,⟨I,Nm.of I (by omega) (.inr (by omega)) c (by omega)⟩,?_⟩
 have h:(e_ "abcdefghijklmnopqrstuvwxyz")=LT:=rfl;have j:(e_ "0123456789")=DG:=rfl;simp[dj,iX,h,j,Y,J,eC,d,g,b,r2,e,f_]
end
noncomputable def sD(l:List p_):A':=.lst (l.map .str)
theorem okE_s(l:List p_)(n:Nat):I' (sD l) (n+1)=d_:=k8 l n
theorem okE_ss(rs:List (List p_)):I' (.lst (rs.map sD)) 40=d_:=by show lD (rs.map sD) 39=d_;exact gH _ _ (λl=>okE_s l 38) rs
theorem eq_nil{ds:List A'}(h:I' (.lst ds) 40=d_):eqM (.lst ds) (.lst [])=.ok (.bl ds.isEmpty):=by show(if (I' (.lst ds) 40&&I' (.lst []) 40)=d_ then _ else _)=_;rw[g_ (by rw[h];rfl)];cases ds<;>rfl
theorem ne_nil{ds:List A'}(h:I' (.lst ds) 40=d_):neM (.lst ds) (.lst [])=.ok (.bl !ds.isEmpty):=by show(if (I' (.lst ds) 40&&I' (.lst []) 40)=d_ then _ else _)=_;rw[g_ (by rw[h];rfl)];cases ds<;>rfl
theorem Dh{α:Type}(a b:α)(B:List α):∀A:List α,(A++a::B).set A.length b=A++b::B
 |[]=>rfl|x::A=>by rw[KH,FV,Jo,Dh a b B A];rfl
theorem er_mid{α:Type}(a:α)(B:List α):∀A:List α,(A++a::B).eraseIdx A.length=A++B
 |[]=>rfl|x::A=>by rw[KH,FV,List.eraseIdx_cons_succ,er_mid a B A];rfl
noncomputable def total(rs:List (List p_)):Nat:=rs.flatten.length
section
variable(CR CP CS CW CD:i_)
theorem mix_ok(n:Nat)(ns:List Int)(p:ns.length<=63)(I:Int)(X:0<=I)(W:I<=1000)(a:Option A'):∀(m:Nat) (out:List p_) (rs:List (List p_)),(∀l∈rs,l≠[])->total rs<m->out.length+total rs<=1000->rs.length<=10 ->
  ∃L:List p_,yt 3 4 5 (bK) (cb) (bX) [a,a_ (.lst (ns.map .int)),a_ (.int I),c_,c_,c_] m (out.map .str) (rs.map sD)=.ok (L.map .str)/\L.length=out.length+total rs/\(∀o∈L,o∈out\/o∈rs.flatten)
 |0,_,_,_,h,_,_=>by omega|m+1,out,rs,Y,hm,ho,hl=>by
  have i:=ne_nil (okE_ss rs);cases rs with
  |nil=>
   refine⟨out,?_,by simp[total],λo h=>.inl h⟩
   have i:neM (.lst []) (.lst [])=.ok (.bl b_):=i;simp[yt,bK,lJ,i]
  |cons Z D=>
  generalize f:Z::D=rs at *;have U:0<rs.length:=by rw[<- f];simp
  obtain⟨x,ex,x0,_⟩:=kh n ns p (I+(out.length:Int)) (by omega) (by omega);have T:(0:Int)<(rs.length:Int):=by omega
  obtain⟨j,C,ej⟩:∃j:Nat,j<rs.length/\x/8%(rs.length:Int)=j:=by have a1:=HJ (x/8) (b:=(rs.length:Int)) (by omega);have a2:=Hy (x/8) T;exact⟨(x/8%(rs.length:Int)).toNat,by omega,by omega⟩
  obtain⟨y,es,u⟩:∃y es,rs[j]=y::es:=by
   cases e:rs[j]with
   |nil=>exact FJ e (Y _ (Hb C))|cons y es=>exact⟨y,es,rfl⟩
  obtain⟨A,B,J,v⟩:∃A B,rs=A++(y::es)::B/\A.length=j:=by
   refine⟨rs.take j,rs.drop (j+1),?_,by rw[GC];omega⟩
   rw[<- u,<- G8 C,List.take_append_drop]
  have s:(rs.map sD).set j (.lst (es.map .str))=(A++es::B).map sD:=by have:=Dh (sD (y::es)) (.lst (es.map .str)) (B.map sD) (A.map sD);rw[t_,v]at this;rw[J,FY,FY,C_,C_];exact this
  have S:((A++es::B).map sD).eraseIdx j=(A++B).map sD:=by have:=er_mid (sD es) (B.map sD) (A.map sD);rw[t_,v]at this;rw[FY,C_,FY];exact this
  have d:total rs=1+(A++es::B).flatten.length:=by rw[J];simp[total];omega
  have i1:ixN (rs.map sD).length (j:Int)=a_ j:=by unfold ixN;simp[C]
  have t:rowAt (rs.map sD) (j:Int)=.ok (j,.str y::es.map .str):=by unfold rowAt;rw[i1];simp[C,u,sD]
  have G:out.length<=16777216:=by omega
  have F:rs.length<=16777216:=by omega
  have R:cb (lJ 3 4 [a,a_ (.lst (ns.map .int)),a_ (.int I),c_,c_,c_] (out.map .str) (rs.map sD))=.ok (.int j):=by simp[cb,lJ,G,F,ex,e_mod T,ej]
  have r:((rs.map sD).isEmpty)=b_:=by rw[<- f];rfl
  have Q:bK (lJ 3 4 [a,a_ (.lst (ns.map .int)),a_ (.int I),c_,c_,c_] (out.map .str) (rs.map sD))=.ok d_:=by rw[r]at i;simp[bK,lJ,i]
  have gx:g8 ((A++es::B).map sD) (j:Int)=.ok (sD es):=by
   have N:j<((A++es::B).map sD).length:=by simp[<- v]
   rw[iV N];simp[<- v]
  have q2:=eq_nil (okE_s es 39);have P:bX ((lJ 3 4 [a,a_ (.lst (ns.map .int)),a_ (.int I),c_,c_,c_] (out.map .str++[.str y]) ((A++es::B).map sD)).set 5 (a_ (.int j)))=.ok es.isEmpty:=by
   have q3:eqM (sD es) (.lst [])=.ok (.bl es.isEmpty):=by rw[show es.isEmpty=(es.map A'.str).isEmpty by cases es<;>rfl];exact q2
   simp[bX,lJ,gx,q3,-FY,-C_]
  have k:out.length<f_:=by rw[FO];omega
  have g:rs.length<=f_:=by rw[FO];omega
  have c:yt 3 4 5 (bK) (cb) (bX) [a,a_ (.lst (ns.map .int)),a_ (.int I),c_,c_,c_] (m+1) (out.map .str) (rs.map sD) =
    yt 3 4 5 (bK) (cb) (bX) [a,a_ (.lst (ns.map .int)),a_ (.int I),c_,c_,c_] m ((out++[y]).map .str) ((if es.isEmpty=d_ then A++B else A++es::B).map sD):=by
   rw[yt,Q,aj,g_ rfl,R,aj];simp only[asI,aj];rw[t,aj];simp only[t_];rw[g_ ⟨k,g⟩,s,P,aj,S];have eo:(out++[y]).map A'.str=out.map A'.str++[.str y]:=by simp
   rw[eo];cases es.isEmpty<;>rfl
  rw[c];have q:∀z,z∈(if es.isEmpty=d_ then A++B else A++es::B)->z≠[]:=λz E=>by
   split at E
   ·refine Y z ?_;rw[J];rcases Gn.mp E with h|h<;>simp[h]
   ·rename_i O;rcases Gn.mp E with h|h
    ·exact Y z (by rw[J];simp[h])
    ·rcases x_.mp h with h|h
     ·rw[h];exact λw=>O (by rw[w];rfl)
     ·exact Y z (by rw[J];simp[h])
  have htt:total (if es.isEmpty=d_ then A++B else A++es::B)+1=total rs:=by
   rw[d];split
   ·rename_i O;have:es=[]:=by simpa using O
    subst this;simp[total];omega
   ·simp[total];omega
  have K:(if es.isEmpty=d_ then A++B else A++es::B).length<=10:=by
   have:rs.length=A.length+B.length+1:=by rw[J];simp;omega
   split<;>simp<;>omega
  obtain⟨L,e1,e2,e3⟩:=mix_ok n ns p I X W a m (out++[y]) _ q (by omega) (by rw[FG,Ii];omega) K;refine⟨L,e1,by rw[e2,FG,Ii];omega,λo H=>?_⟩
  rcases e3 o H with h|h
  ·rcases Gn.mp h with h|h
   ·exact .inl h
   ·refine .inr ?_;rw[F_.mp h,J];simp
  ·refine .inr ?_;rw[J];split at h
   ·simp at h ⊢;rcases h with h|h
    ·exact .inl h
    ·exact .inr (.inr (.inr h))
   ·simp at h ⊢;rcases h with h|h|h
    ·exact .inl h
    ·exact .inr (.inr (.inl h))
    ·exact .inr (.inr (.inr h))
theorem vk:∀rs:List (List p_),(rs.filter λl=> !l.isEmpty).flatten=rs.flatten
 |[]=>rfl|[]::rs=>by simp[vk rs]|(x::l)::rs=>by simp[vk rs]
theorem mixed_ok(n:Nat)(ns:List Int)(Y:ns.length<=63)(rs:List (List p_))(i:total rs<=390)(a:rs.length<=10)(I:Int)(f:0<=I)(e:I<=1000):
  ∃L:List p_,gO [.lst (rs.map sD),.lst (ns.map .int),.int I]=.ok (.lst (L.map .str))/\L.length=total rs/\(∀o∈L,o∈rs.flatten):=by
 have c:∀rs:List (List p_),aS (.nm 0) (fB (f2 neM (ai 0) (fL bP aC))) (fL nj (aa (ai 0) aC)) [c_] (rs.map sD)=.ok ((rs.filter λl=> !l.isEmpty).map sD):=by
  intro rs
  induction rs with
  |nil=>rfl|cons l rs d=>
   have q:=ne_nil (okE_s l 39);rw[C_,aS];cases l with
   |nil=>have q:neM (sD []) (.lst [])=.ok (.bl b_):=q;simp[q,d]|cons x l=>
    have q:neM (sD (x::l)) (.lst [])=.ok (.bl d_):=q;have w:nj [sD (x::l)]=.ok (sD (x::l)):=by simp[sD]
    simp[q,d,w]
 have c:=c rs;have b:total (rs.filter λl=> !l.isEmpty)=total rs:=by unfold total;rw[vk]
 obtain⟨L,e1,e2,e3⟩:=mix_ok n ns Y I f e (a_ (.lst (rs.map sD))) 400 [] (rs.filter λl=> !l.isEmpty) (λl a=>by have:=(GL.mp a).2;intro z;rw[z]at this;cases this) (by rw[b];omega) (by rw[b];simp;omega) (Gb (List.length_filter_le _ _) a);rw[HI]at e1;refine⟨L,?_,by rw[e2,b];simp,λo g=>?_⟩
 ·have J:rs.length<=16777216:=by omega
  have h:sMix 400 3 4 5 (cn (fIt (ai 0)) [c_] (.nm 0) (fB (f2 neM (ai 0) (fL bP aC))) (fL nj (aa (ai 0) aC))) (bK) (cb) (bX) (cL (ai 3)) [a_ (.lst (rs.map sD)),a_ (.lst (ns.map .int)),a_ (.int I),a_ (.lst []),c_,c_]=.ok (.rt (.lst (L.map .str))):=by
   have fc:(cn (fIt (ai 0)) [c_] (.nm 0) (fB (f2 neM (ai 0) (fL bP aC))) (fL nj (aa (ai 0) aC))) [a_ (.lst (rs.map sD)),a_ (.lst (ns.map .int)),a_ (.int I),c_,c_,c_]=.ok (.lst ((rs.filter λl=> !l.isEmpty).map sD)):=by simp[c,J,iS]
   unfold sMix;refine(g_ (show(q_ (3<6)&&q_ (4<6)&&q_ (5<6))=d_ from rfl)).trans ?_;show((cn (fIt (ai 0)) [c_] (.nm 0) (fB (f2 neM (ai 0) (fL bP aC))) (fL nj (aa (ai 0) aC))) [a_ (.lst (rs.map sD)),a_ (.lst (ns.map .int)),a_ (.int I),c_,c_,c_]).bind _=_;rw[fc,aj];show(yt 3 4 5 _ _ _ [a_ (.lst (rs.map sD)),a_ (.lst (ns.map .int)),a_ (.int I),c_,c_,c_] 400 [] _).bind _=_;rw[e1,aj];rfl
  simp[gO,oY,h]
 ·have:=(e3 o g).resolve_left (by simp)
  rwa [vk]at this
end
theorem Bc(h:a.length+b.length<=16777216):eC (.str a) (.str b)=.ok (.str (a++b)):=by show(if a.length+b.length<=f_ then _ else _)=_;rw[g_ (by rw[FO];exact h)]
theorem strI(h:i.natAbs<10^10):strD [.int i]=.ok (.str (iw i)):=by rw[EJ,g_ (nY h)]
theorem AQ(I:p_):∀xs:List p_,(G4 I xs).length<=(xs.map (·.length)).sum+xs.length*I.length
 |[]=>G7 _|[a]=>by rw[join_one];simp|a::b::r=>by have J:=AQ I (b::r);rw[AO,l9,l9];simp only[C_,List.sum_cons,FV,Nat.add_mul]at J ⊢;omega
def Bd(rs:List p_):Prop:=∀r∈rs,r.length<=1000
theorem Bd.app{a b:List p_}(h:Bd a)(h':Bd b):Bd (a++b):=λr I=>(Gn.mp I).elim (h r) (h' r)
theorem Bd.take{a:List p_}(h:Bd a)(n:Nat):Bd (a.take n):=λr I=>h r (List.mem_of_mem_take I)
theorem uo(rs:List p_)(k:Nat):de (.lst (rs.map .str)) c_ (a_ (k:Int))=.ok (.lst ((rs.take k).map .str)):=by
 show FN (A'.lst (Cr (rs.map .str) c_ (a_ (k:Int))))=_;have:Cr (rs.map A'.str) c_ (a_ (k:Int))=(rs.take k).map .str:=by unfold Cr cX;simp only[IJ,Nat.sub_zero];rw[l_ (by omega),Lx,t_,Nh,List.take_eq_take_iff,t_];omega
 rw[this]
section
variable(CR CP CS CW CD:i_)
theorem kN(I:CR≠CP)(n:Nat){rs:List p_}(h:Bd rs)(Y:rs.length<=100):rg (.str "\n") (.lst (rs.map .str))=.ok (.str (G4 "\n" rs))/\bL CR CP CS CW CD n [.str (G4 "\n" rs)]=.ok (.bl d_):=by
 have h1:=lenLe rs 1000 h;have J:(e_ "\n").length=1:=by decide +kernel
 have h2:=AQ (e_ "\n") rs;rw[J]at h2;refine⟨?_,wH CR CP CS CW CD I n (by omega)⟩
 rw[rD,ig,aj,g_ (by rw[FO,J];omega)]
theorem kinds_ok(n:Nat)(ns:List Int)(v:ns.length<=63)(m:Nat)(E:m<=7)(t r o l j f a9 Y J I:Option A'):∃(ks:List p_) (b2:Option A'),ks.length=m/\(∀k∈ks,5<=k.length/\k.length<=20)/\lj (.nm 2) (rY) (bQ 0 m) [a_ (.lst (ns.map .int)),a_ (.lst []),c_,t,r,o,l,j,f,a9,Y,J,I]=.ok (.nx [a_ (.lst (ns.map .int)),a_ (.lst (ks.map .str)),b2,t,r,o,l,j,f,a9,Y,J,I]):=by
 have k1:(e_ "kind ").length=5:=by decide +kernel
 obtain⟨ρ',e,ks,b2,rfl,h1,h2⟩:=pT (p:=.nm 2) (g:=rY)
  (λi ρ=>∃(ks:List p_) (b2:Option A'),ρ=[a_ (.lst (ns.map .int)),a_ (.lst (ks.map .str)),b2,t,r,o,l,j,f,a9,Y,J,I]/\ks.length=i/\(∀k∈ks,5<=k.length/\k.length<=20)) (bQ 0 m) 0 [a_ (.lst (ns.map .int)),a_ (.lst []),c_,t,r,o,l,j,f,a9,Y,J,I] ⟨[],c_,rfl,rfl,λ_ h=>(nomatch h)⟩ (by
  rintro i d ρ hd ⟨ks,b2,rfl,h1,h2⟩;rw[Jk]at h1;obtain⟨hi,rfl⟩:=kQ hd;obtain⟨x,ex,y,B⟩:=kh n ns v (i:Int) (by omega) (by omega);obtain⟨s,c,q,⟨C,z⟩,es⟩:=name2 n x i (by omega) y (by omega);have D:=z.l8;have ea:=Bc (a:=e_ "kind ") (b:=s) (by omega);have F:ks.length<=16777216:=by omega
  have w:ks.length<16777216:=by omega
  have A:rY [a_ (.lst (ns.map .int)),a_ (.lst (ks.map .str)),a_ (.int i),t,r,o,l,j,f,a9,Y,J,I]=.ok (.nx [a_ (.lst (ns.map .int)),a_ (.lst ((ks++[e_ "kind "++s]).map .str)),a_ (.int i),t,r,o,l,j,f,a9,Y,J,I]):=by simp[rY,ex,es,ea,w]
  refine⟨_,by simp,_,.inl A,ks++[e_ "kind "++s],a_ (.int i),rfl,by simp;omega,λk u=>?_⟩
  rcases Gn.mp u with u|u
  ·exact h2 k u
  ·rw[F_.mp u,l9];omega)
 rw[Jk,kO]at h1;exact⟨ks,b2,h1,h2,e⟩
theorem slS5(h1:z.length<=20):∃s:p_,s.length<=20/\ux (.str z) (a_ 5) c_=.ok (.str s):=by
 refine⟨J6 z (a_ 5) c_,?_,by rw[EK,g_ (by rw[FO];omega)]⟩
 have hi:(Kf (a_ 5) c_ 1 z.length).length<=z.length:=by unfold Kf sliceRange;simp only[t_,M6];split<;>(try split)<;>(try split)<;>omega
 have:(J6 z (a_ 5) c_).cps.size<=z.cps.size:=by
  unfold J6;split
  ·exact v_ _
  ·simp only[A_];exact Gb (List.length_filterMap_le _ _) hi
 exact Gb this h1
theorem Cf(n:Nat)(ns:List Int)(y:ns.length<=63)(ks:List p_)(hk1:1<=ks.length)(hk7:ks.length<=7)(hk:∀k∈ks,5<=k.length/\k.length<=20)(m:Nat)(hm:m<=42)(G F E D C v a9 Y J I:Option A'):∃(fs:List p_) (b2 t o l f:Option A'),fs.length=m/\Bd fs/\lj (.nm 2) (rX) (bQ 0 m) [a_ (.lst (ns.map .int)),a_ (.lst (ks.map .str)),G,a_ (.lst []),F,E,D,C,v,a9,Y,J,I]=.ok (.nx [a_ (.lst (ns.map .int)),a_ (.lst (ks.map .str)),b2,a_ (.lst (fs.map .str)),t,o,l,f,v,a9,Y,J,I]):=by
 obtain⟨ρ',e,fs,b2,t,o,l,f,rfl,h1,h2⟩:=pT (p:=.nm 2) (g:=rX)
  (λi ρ=>∃(fs:List p_) (b2 t o l f:Option A'),ρ=[a_ (.lst (ns.map .int)),a_ (.lst (ks.map .str)),b2,a_ (.lst (fs.map .str)),t,o,l,f,v,a9,Y,J,I]/\fs.length=i/\Bd fs) (bQ 0 m) 0 [a_ (.lst (ns.map .int)),a_ (.lst (ks.map .str)),G,a_ (.lst []),F,E,D,C,v,a9,Y,J,I] ⟨[],G,F,E,D,C,rfl,rfl,λ_ h=>(nomatch h)⟩ (by
  rintro i d ρ hd ⟨fs,b2,t,o,l,f,rfl,h1,h2⟩;rw[Jk]at h1;obtain⟨hi,rfl⟩:=kQ hd;obtain⟨x,ex,x0,x1⟩:=kh n ns y (20+(i:Int)) (by omega) (by omega);obtain⟨s,q,⟨q1,W⟩,es⟩:=fname2 n (x/512) i (by omega) (by omega) (by omega);have hs:=W.l8;obtain⟨c,w,Z,X,A⟩:∃c:Int,0<c/\c<=6/\c<=ks.length/\lE (ks.length:Int) 6=c:=by
   unfold lE;split
   ·exact⟨6,by omega,by omega,by omega,rfl⟩
   ·exact⟨ks.length,by omega,by omega,by omega,rfl⟩
  obtain⟨j,N,ej⟩:∃j:Nat,j<ks.length/\x/8%c=j:=by have a1:=HJ (x/8) (b:=c) (by omega);have a2:=Hy (x/8) w;exact⟨(x/8%c).toNat,by omega,by omega⟩
  have em:lg (.int (x/8)) (.int c)=.ok (.int j):=by rw[e_mod w,ej]
  have gk:g8 (ks.map A'.str) (j:Int)=.ok (.str ks[j]):=by rw[iV (by simpa using N)];simp
  obtain⟨u,kd1,B⟩:=slS5 (z:=ks[j]) (hk _ (Hb N)).2;have t1:=strI (i:=100+x/8192%100000000) (by omega);have t2:=strI (i:=x/64%100) (by omega);have t3:=strI (i:=x%9) (by omega);have P:=str_len (i:=100+x/8192%100000000) (by omega);have O:=str_len (i:=x/64%100) (by omega);have u3:=str_len (i:=x%9) (by omega);generalize iw (100+x/8192%100000000)=w1 at t1 P;generalize iw (x/64%100)=w2 at t2 O;generalize iw (x%9)=H at t3 u3;have k1:(e_ " ").length=1:=by decide +kernel
  have k2:(e_ " 7 ").length=3:=by decide +kernel
  have k3:(e_ "flight ").length=7:=by decide +kernel
  have p1:=Bc (a:=w2) (b:=e_ " ") (by omega);have p2:=Bc (a:=w2++e_ " ") (b:=w1) (by simp only[l9];omega);have p3:=Bc (a:=w2++e_ " "++w1) (b:=e_ " 7 ") (by simp only[l9];omega);have L:=Bc (a:=w2++e_ " "++w1++e_ " 7 ") (b:=H) (by simp only[l9];omega);obtain⟨T,hT,lT⟩:∃T,w2++e_ " "++w1++e_ " 7 "++H=T/\T.length<=100:=⟨_,rfl,by simp only[l9];omega⟩
  rw[hT]at L;have S:=Bc (a:=e_ "flight ") (b:=s) (by omega);have r2:=Bc (a:=e_ "flight "++s) (b:=e_ " ") (by simp only[l9];omega);have R:=Bc (a:=e_ "flight "++s++e_ " ") (b:=u) (by simp only[l9];omega);have Q:=Bc (a:=e_ "flight "++s++e_ " "++u) (b:=e_ " ") (by simp only[l9];omega);have K:=Bc (a:=e_ "flight "++s++e_ " "++u++e_ " ") (b:=T) (by simp only[l9];omega);obtain⟨U,hU,lU⟩:∃U,e_ "flight "++s++e_ " "++u++e_ " "++T=U/\U.length<=1000:=⟨_,rfl,by simp only[l9];omega⟩
  rw[hU]at K;have hl:fs.length<16777216:=by omega
  have hb:rX [a_ (.lst (ns.map .int)),a_ (.lst (ks.map .str)),a_ (.int i),a_ (.lst (fs.map .str)),t,o,l,f,v,a9,Y,J,I]=.ok (.nx [a_ (.lst (ns.map .int)),a_ (.lst (ks.map .str)),a_ (.int i),a_ (.lst ((fs++[U]).map .str)),a_ (.int x),a_ (.str u),a_ (.str w1),a_ (.str T),v,a9,Y,J,I]):=by simp[rX,ex,A,em,gk,B,t1,t2,t3,p1,p2,p3,L,es,S,r2,R,Q,K,hl,-EJ]
  refine⟨_,by simp,_,.inl hb,fs++[U],a_ (.int i),a_ (.int x),a_ (.str u),a_ (.str w1),a_ (.str T),rfl,by simp;omega,h2.app λr hr=>by rw[F_.mp hr];exact lU⟩)
 rw[Jk,kO]at h1;exact⟨fs,b2,t,o,l,f,h1,h2,e⟩
theorem Fi(n:Nat)(ns:List Int)(q:ns.length<=63)(m:Nat)(G:m<=22)(a1 t o l k j f s Y J I:Option A'):∃(cs:List p_) (b2 c:Option A'),cs.length=m/\Bd cs/\lj (.nm 2) (rW) (bQ 0 m) [a_ (.lst (ns.map .int)),a1,t,o,l,k,j,f,a_ (.lst []),s,Y,J,I]=.ok (.nx [a_ (.lst (ns.map .int)),a1,b2,o,l,k,j,f,a_ (.lst (cs.map .str)),c,Y,J,I]):=by
 obtain⟨ρ',e,cs,b2,c,rfl,h1,h2⟩:=pT (p:=.nm 2) (g:=rW)
  (λi ρ=>∃(cs:List p_) (b2 c:Option A'),ρ=[a_ (.lst (ns.map .int)),a1,b2,o,l,k,j,f,a_ (.lst (cs.map .str)),c,Y,J,I]/\cs.length=i/\Bd cs) (bQ 0 m) 0 [a_ (.lst (ns.map .int)),a1,t,o,l,k,j,f,a_ (.lst []),s,Y,J,I] ⟨[],t,s,rfl,rfl,λ_ h=>(nomatch h)⟩ (by
  rintro i d ρ hd ⟨cs,b2,c,rfl,h1,h2⟩;rw[Jk]at h1;obtain⟨hi,rfl⟩:=kQ hd;obtain⟨x,ex,F,E⟩:=kh n ns q (70+(i:Int)) (by omega) (by omega);have t1:=strI (i:=x/8%100000000) (by omega);have t2:=strI (i:=x/8%100000000+1+i) (by omega);have w:=str_len (i:=x/8%100000000) (by omega);have v:=str_len (i:=x/8%100000000+1+i) (by omega);generalize iw (x/8%100000000)=w1 at t1 w;generalize iw (x/8%100000000+1+i)=w2 at t2 v;have k1:(e_ " ").length=1:=by decide +kernel
  have k3:(e_ "closed ").length=7:=by decide +kernel
  have y:=Bc (a:=e_ "closed ") (b:=w1) (by omega);have r2:=Bc (a:=e_ "closed "++w1) (b:=e_ " ") (by simp only[l9];omega);have u:=Bc (a:=e_ "closed "++w1++e_ " ") (b:=w2) (by simp only[l9];omega);obtain⟨U,D,z⟩:∃U,e_ "closed "++w1++e_ " "++w2=U/\U.length<=1000:=⟨_,rfl,by simp only[l9];omega⟩
  rw[D]at u;have B:cs.length<16777216:=by omega
  have C:rW [a_ (.lst (ns.map .int)),a1,a_ (.int i),o,l,k,j,f,a_ (.lst (cs.map .str)),c,Y,J,I]=.ok (.nx [a_ (.lst (ns.map .int)),a1,a_ (.int i),o,l,k,j,f,a_ (.lst ((cs++[U]).map .str)),a_ (.int (x/8%100000000)),Y,J,I]):=by simp[rW,ex,t1,t2,y,r2,u,B,-EJ]
  refine⟨_,by simp,_,.inl C,cs++[U],a_ (.int i),a_ (.int (x/8%100000000)),rfl,by simp;omega,h2.app λr A=>by rw[F_.mp A];exact z⟩)
 rw[Jk,kO]at h1;exact⟨cs,b2,c,h1,h2,e⟩
end
theorem ixN_last(n:Nat):ixN (n+1) (-1)=a_ n:=by unfold ixN;simp<;>omega
theorem Ew(ds:List A')(d:A'):g8 (ds++[d]) (-1)=.ok d:=by unfold g8 atI;rw[FG,Ii,ixN_last];simp
theorem addL(a b:List p_)(h:a.length+b.length<=16777216):eC (.lst (a.map .str)) (.lst (b.map .str))=.ok (.lst ((a++b).map .str)):=by rw[FY];show(if (a.map A'.str).length+(b.map A'.str).length<=f_ then _ else _)=_;rw[g_ (by rw[FO,t_,t_];exact h)]
section
variable(CR CP CS CW CD:i_)
theorem pZ(n:Nat)(ns:List Int)(j:Nat)(k:Int)(I:0<k):∃x:Nat,(x:Int)<k/\∃y,aW [.lst (ns.map .int),.int j]=.ok (.int y)/\y%k=x:=by obtain⟨y,e,h⟩:=cell_ok n ns j;have a1:=HJ y (b:=k) (by omega);have J:=Hy y I;exact⟨(y%k).toNat,by omega,y,e,by omega⟩
theorem law_true(J:CR≠CP):∀ns:List Int,ns.length<=63->∃n,m_law CR CP CS CW CD n [.lst (ns.map .int)]=.ok (.bl d_):=by
 intro ns I;refine⟨64,?_⟩
 obtain⟨t,l3,y3,Q,m3⟩:=pZ 64 ns 3 4 (by omega);obtain⟨s,l4,y4,P,m4⟩:=pZ 64 ns 4 6 (by omega);obtain⟨p,l5,y5,O,m5⟩:=pZ 64 ns 5 6 (by omega);obtain⟨a,l6,y6,N,m6⟩:=pZ 64 ns 6 5 (by omega);obtain⟨ks,b2,k1,k2,ek⟩:=kinds_ok 64 ns I (4+t) (by omega) c_ c_ c_ c_ c_ c_ c_ c_ c_ c_;obtain⟨fs,d2,d4,d5,d6,d7,fl1,U,ef⟩:=Cf 64 ns I ks (by omega) (by omega) k2 (37+s) (by omega) b2 c_ c_ c_ c_ c_ c_ c_ c_ c_;obtain⟨cs,g2,g9,h1,h2,G⟩:=Fi 64 ns I (17+p) (by omega) (a_ (.lst (ks.map .str))) d2 (a_ (.lst (fs.map .str))) d4 d5 d6 d7 c_ c_ c_ c_;have E:Bd ks:=λk hk=>by have:=k2 k hk;omega
 obtain⟨L,K,R,mL⟩:=mixed_ok 64 ns I [fs,cs] (by simp[total];omega) (by simp) 100 (by omega) (by omega);have K:gO [.lst [.lst (fs.map .str),.lst (cs.map .str)],.lst (ns.map .int),.int 100]=.ok (.lst (L.map .str)):=K;have BL:Bd L:=λo ho=>by
  have:=mL o ho;simp at this;rcases this with h|h
  ·exact U o h
  ·exact h2 o h
 have R:L.length=fs.length+cs.length:=by rw[R];simp[total]
 obtain⟨j1,t1⟩:=kN CR CP CS CW CD J 64 (E.app BL) (by rw[FG];omega);obtain⟨j2,t2⟩:=kN CR CP CS CW CD J 64 (((E.take 6).app (U.take 40)).app (h2.take 20)) (by simp only[FG,GC];omega);have C:=uo ks 6;have B:=uo fs 40;have A:=uo cs 20;have y:=uo ks 1;have a1:=addL ks L (by omega);have a2:=addL (ks.take 6) (fs.take 40) (by simp only[GC];omega);have a3:=addL (ks.take 6++fs.take 40) (cs.take 20) (by simp only[FG,GC];omega);have b:0<cs.length:=by omega
 have T:g8 (cs.map A'.str) 0=.ok (.str cs[0]):=by have:=iV (ds:=cs.map A'.str) (k:=0) (by simpa using b);rw[show((0:Nat):Int)=0 from rfl]at this;rw[this];simp
 obtain⟨X,Y,v⟩:∃X Y,cs=X++[Y]:=by
  have S:cs≠[]:=λz=>by rw[z]at b;simp at b
  exact⟨cs.dropLast,cs.getLast S,(KS S).symm⟩
 have gl:g8 (cs.map A'.str) (-1)=.ok (.str Y):=by rw[v,FY];exact Ew _ _
 have u:cs[0].length<=1000:=h2 _ (Hb _);have D:Y.length<=1000:=h2 _ (by rw[v];simp);generalize cs[0]=l at T u;have B6:Bd [e_ "",e_ "#",e_ "  # kind a",l,Y,e_ "   "]:=λr i=>by
  simp only[x_,GB,IL]at i;rcases i with rfl|rfl|rfl|rfl|rfl|rfl
  ·decide +kernel
  ·decide +kernel
  ·decide +kernel
  ·exact u
  ·exact D
  ·decide +kernel
 obtain⟨bs,bl,Z,H⟩:∃bs:List p_,bs.length=a/\Bd bs/\aS (.nm 0) iK (f2 ixD (ai 2) (f2 lg (f2 jI (fL (aZ) (aa (ai 1) (aa (f2 eC (fC (.int 200)) (ai 0)) aC))) (fC (.int 8))) (fC (.int 6)))) [c_,a_ (.lst (ns.map .int)),a_ (.lst ([e_ "",e_ "#",e_ "  # kind a",l,Y,e_ "   "].map .str))] (bQ 0 a)=.ok (bs.map .str):=by
  have key:∀(m j:Nat),j+m<=10->∃bs:List p_,bs.length=m/\Bd bs/\aS (.nm 0) iK (f2 ixD (ai 2) (f2 lg (f2 jI (fL (aZ) (aa (ai 1) (aa (f2 eC (fC (.int 200)) (ai 0)) aC))) (fC (.int 8))) (fC (.int 6)))) [c_,a_ (.lst (ns.map .int)),a_ (.lst ([e_ "",e_ "#",e_ "  # kind a",l,Y,e_ "   "].map .str))] (bQ j m)=.ok (bs.map .str):=by
   intro m
   induction m with
   |zero=>exact λj _=>⟨[],rfl,λ_ h=>(nomatch h),rfl⟩
   |succ m ih=>
    intro j hj;obtain⟨bs,b1,b2,b3⟩:=ih (j+1) (by omega);obtain⟨x,ex,x0,x1⟩:=kh 64 ns I (200+(j:Int)) (by omega) (by omega);obtain⟨q,hq,eq⟩:∃q:Nat,q<6/\x/8%6=q:=⟨(x/8%6).toNat,by omega,by omega⟩
    generalize hW:[e_ "",e_ "#",e_ "  # kind a",l,Y,e_ "   "]=W at *;have lW:W.length=6:=by rw[<- hW];rfl
    have F:q<W.length:=by omega
    have gq:g8 (W.map A'.str) (q:Int)=.ok (.str W[q]):=by rw[iV (by simpa using F)];simp
    refine⟨W[q]::bs,by simp[b1],λr i=>?_,?_⟩
    ·rcases x_.mp i with rfl|i
     ·exact B6 _ (Hb _)
     ·exact b2 r i
    ·rw[lS,aS];have b3:aS (.nm 0) iK (f2 ixD (ai 2) (f2 lg (f2 jI (fL (aZ) (aa (ai 1) (aa (f2 eC (fC (.int 200)) (ai 0)) aC))) (fC (.int 8))) (fC (.int 6)))) [c_,a_ (.lst (ns.map .int)),a_ (.lst (W.map .str))] (bQ ((j:Int)+1) m)=.ok (bs.map .str):=by
      have:((j:Int)+1)=((j+1:Nat):Int):=by omega
      rw[this];exact b3
     simp[ex,eq,gq,b3]
  exact key a 0 (by omega)
 obtain⟨j3,t3⟩:=kN CR CP CS CW CD J 64 Z (by omega);obtain⟨j4,t4⟩:=kN CR CP CS CW CD J 64 ((E.take 1).app Z) (by simp only[FG,GC];omega);have a4:=addL (ks.take 1) bs (by simp only[GC];omega);have C4:∀b2 g f e d c:Option A',zY CR CP CS CW CD 64 [a_ (.lst (ns.map .int)),a_ (.lst (ks.map .str)),b2,a_ (.lst (fs.map .str)),g,f,e,d,a_ (.lst (cs.map .str)),c,a_ (.lst ((ks++L).map .str)),c_,c_]=.ok (.nx [a_ (.lst (ns.map .int)),a_ (.lst (ks.map .str)),b2,a_ (.lst (fs.map .str)),g,f,e,d,a_ (.lst (cs.map .str)),c,a_ (.lst ((ks++L).map .str)),c_,c_]):=λb2 g f e d c=>by simp[zY,j1,t1,-rD,-FY]
 have C5:∀b2 g f e d c:Option A',zX CR CP CS CW CD 64 [a_ (.lst (ns.map .int)),a_ (.lst (ks.map .str)),b2,a_ (.lst (fs.map .str)),g,f,e,d,a_ (.lst (cs.map .str)),c,a_ (.lst ((ks++L).map .str)),c_,c_]=.ok (.nx [a_ (.lst (ns.map .int)),a_ (.lst (ks.map .str)),b2,a_ (.lst (fs.map .str)),g,f,e,d,a_ (.lst (cs.map .str)),c,a_ (.lst ((ks++L).map .str)),c_,c_]):=λb2 g f e d c=>by have C:de (.lst (ks.map .str)) c_ (a_ 6)=_:=C;have B:de (.lst (fs.map .str)) c_ (a_ 40)=_:=B;have A:de (.lst (cs.map .str)) c_ (a_ 20)=_:=A;simp[zX,C,B,A,a2,a3,j2,t2,-rD,-FY,-Lx,-Hl]
 have y:de (.lst (ks.map .str)) c_ (a_ 1)=_:=y;have q1: -4611686018427387904<=(4+t:Int)/\(4+t:Int)<4611686018427387904:=by omega
 have q2: -4611686018427387904<=(37+s:Int)/\(37+s:Int)<4611686018427387904:=by omega
 have q3: -4611686018427387904<=(17+p:Int)/\(17+p:Int)<4611686018427387904:=by omega
 have q4: -4611686018427387904<=(a:Int)/\(a:Int)<4611686018427387904:=by omega
 have n1:((4:Int)+t).toNat=4+t:=by omega
 have n2:((37:Int)+s).toNat=37+s:=by omega
 have n3:((17:Int)+p).toNat=17+p:=by omega
 have Q:aW [.lst (ns.map .int),.int 3]=_:=Q;have P:aW [.lst (ns.map .int),.int 4]=_:=P;have O:aW [.lst (ns.map .int),.int 5]=_:=O;have N:aW [.lst (ns.map .int),.int 6]=_:=N;have H:aS (.nm 0) iK (f2 ixD (ai 2) (f2 lg (f2 jI (fL (aZ) (aa (ai 1) (aa (f2 eC (fC (.int 200)) (ai 0)) aC))) (fC (.int 8))) (fC (.int 6)))) [c_,a_ (.lst (ns.map .int)),a_ (.lst [.str "",.str "#",.str "  # kind a",.str l,.str Y,.str "   "])] (bQ 0 a)=.ok (bs.map .str):=H;have w:a<=16777216:=by omega
 simp[m_law,g_law,Q,P,O,N,m3,m4,m5,m6,q1,q2,q3,q4,n1,n2,n3,ek,ef,G,K,a1,C4,C5,T,gl,H,kO,w,j3,t3,y,a4,j4,t4,iM,-rD,-FY,-Lx,-Hl]
end
theorem fin_mk{w:GV}{K:Pn}{h:Gv}{fa CR:i_}(_:K.In h)(_:h.Ns Gj mg)(I:mg "law"=a_ (.ref fa))(Z:Zs K mg CR CP CS CW CD AStripError ANoRow ANoRules ANoTime ANoPlace ANotFree ATooMany ANoPlan):
  ∃fd:Hv,(∀(s:y_) (v:j_),Kt s fd ⟨[v],[]⟩ [("_law_script",v)])/\∀base:Gv,K.In base->base.Ns Gj mg->iL P w K mg base CX0 11 fa fd ["_law_script"] (spLaw K):=by
 obtain⟨f,fd,D,J⟩:=Z.d_law;have e:=I.symm.trans D.mg;cases e;refine⟨fd,J,λbase _ _=>law_ok (ro:=b_) (mlaw:=m_law CR CP CS CW CD) (λn=>?_) (law_true CR CP CS CW CD Z.ne)⟩
 obtain⟨a,fd',Y⟩:=ok_law (n:=n) (P:=P) (w:=w) (base:=base) Z;have e:=D.mg.symm.trans Y.d.mg;cases e;rw[D.fn.uniq Y.d.fn];exact Y.o
theorem walk{l:Kk}{q:GH}{I:List p_}{i:(Ld)->Gv->Prop}{Y:GV->Gv->Prop}{d:DefRec}{K:Params->Pn}(b:l.most=a_ 63)(J:d.params.defaults=[])(e:∀(w:GV) (h:Gv),Y w h->(K w.params).In h)(F:∀(w:GV) (mg:Ld) (fa:i_) (h:Gv),(K w.params).In h->h.Ns Gj mg->mg d.name=a_ (.ref fa) ->
   ∃fd:Hv,(∀(s:y_) (u:j_),Kt s fd ⟨[u],[]⟩ [("_law_script",u)])/\∀base:Gv,(K w.params).In base->base.Ns Gj mg->iL l.prog w (K w.params) mg base CX0 11 fa fd ["_law_script"] (spLaw (K w.params))):
  Mw q I i Y l.row.toRowW d [] (λf vs=>Ja f vs):=
 Lake.walk_of (n:=63) (k:=11) (x:="_law_script") (CX:=λ_=>CX0) (sp:=λw=>spLaw (K w.params)) b (by decide) J ⟨rfl,by decide,by decide⟩ e F (λ_ _ a ns c _ g=>⟨a,ns,rfl,g,c,λ_=>rfl⟩) λ_ _ _ _ _ z=>z
end Tactic
end
open PySem PySem.W PyProof.Rows
structure PySem.W.Fast:Prop where (tw10267105446149238118
tw1314802138905838363
tw4151996808763949198
tw4957161019693155193
tw13353019959059715175
tw16347738809543963008
tw2299749151763488201
tw4432665227462211902
tw13069251357498451154
tw16693498348784896390
tw14792688555074338491
tw5735097624359988185
tw16100943488662892715
tw583812647940438854
tw11869911591618483273
tw16178117239211406088
tw16642307378292613467
tw2087203559531370029
tw16400895978672515583
tw6385266011876045190
tw17185113408729993869
tw17174173402007873566
tw8943869704017070696
tw9303460786817279886
tw16768636923962727292
tw14267867482031228244
tw3824665578915437882
tw3739013212375187368
tw15416059176195856755
tw15784782519841917734
tw12750924993833481545
tw6637236965075844784
tw9718804063940067929
tw17829559529279699127
tw14456808077650403656
tw4587173982857014454
tw2585466423719679651
tw3978539472955685639
tw11842731801482686215
tw3259050748273756859
tw15222367555241549888
tw15872064688312573581
tw16822192533706374616
tw4252690798518107915
tw9217228915921252052
tw8554380441069008301
tw12853070011581472578
tw2112111323599563613
tw9560704271771631414
tw8649346980578204131
tw8590211475036135308
tw10409658989507544614
tw7886124055613898472
tw9261309187602719078
tw11654010369662948797
tw8080197689207682983
tw2150308333041818979
tw2436691519730771233
tw9946108389394372624
tw10955126337502992562
tw483469989197432051
tw10379865178634279969
tw10970131328823918311
tw744612498861202822
tw13591252137117356946
tw6888508833192118728
tw7911355810639262515
tw12513548424324127257
tw2781116626086627790
tw8972768766934107105
tw1283249134542784056
tw16028471454984656766
tw17277154651967848640
tw9185438322099524326
tw7662638567265300051
tw3374366297156756637
tw17082264083433979816
tw14197387383232543747
tw13922856249893091602
tw17045448601127959422
tw11180560057626214715
tw16859947035050924136
tw12776916599055931335
tw1399693878291916591
tw4970791107549288524
tw6796397966834439769
tw6751147421545012902
tw4990561754489723757
tw172923931329639715
tw6516857777081495577
tw3017497780973955972
tw4999095850912168539
tw2263061873989865142
tw3841454664595924280
tw14690678058537829259
tw8975366352236416219
tw2781062445615983668
tw15063938924196758870
tw3973618484938668505
tw4660664783999611965
tw9102130795339914471
tw11379399670375959502
tw13439778575154846202
tw553956616746993924
tw12359037432512914697
tw141340064429481061
tw4322136091359000318
tw6754652321062188741
tw13919227800211342758
tw17574994002406589098
tw10550230344672676951
tw14358299197760982191
tw1509242181506987681
tw14598352368738115899
tw325566014415578263
tw13251561938326787574
tw11509929837705331812
tw7164413131339332479
tw10755817020287673537
tw12415422270835206405
tw11435577333380624772
tw587204228804778780
tw1588920379561922501
tw15657916819045605316
tw6639574311972290982
tw15241641803832187045
tw544509756596385426
tw2370848935182879788
tw17397388225466954763
tw10239334450869837055
tw9573722291271223524
tw14070459841436161933
tw12244744044054821544
tw13819246082804612555
tw6169630194130892884
tw15402083930130673150
tw12455402175478898607
tw16695181823642134953
tw4307383763220318929
tw1303910571052504415
tw11317721137867392129
tw15743827354820378056
tw14079025081844096589
tw732674937684895044
tw2471895309240871195
tw8119515610778948912
tw3474622346142231718
tw5454636733799555531
tw16458734886339531570
tw6591969588499557571
tw8471167590995693301
tw4555839144564100580
tw13768690829093977566
tw17317227807249344068
tw6433654848634443791
tw6754563237453695659
tw8207039146859194825
tw9237213876018667237
tw17393206648838111624
tw17073780016478878845
tw13483596415325976998
tw7725880134850283927
tw14441790661880326648
tw7634608768589050206
tw2689333624151225798
tw16031917819724199519
tw2256177078459342847
tw2838793995616718651
tw636813558194620181
tw12306585858432276773
tw5876031258499588798
tw15976775654317215908
tw7115384936277183275
tw17152745426378181114
tw12279633389962653586
tw1238925851658953635
tw6341982997136879383
tw10550750062463973334
tw10403655269435622299
tw322042914671897269
tw8361149900630963043
tw5472921267377668222
tw6268346203101038160
tw2158807565847551587
tw5641237246723268283
tw9013956981617837469
tw13083962007958463962
tw6792401707196408848
tw1437465348195981768
tw6563381188361470417
tw12072798413269879669
tw1458658069174941346
tw16957003240780060326
tw12512503872289380532
tw11725133290253800690
tw2914310168652293042
tw4901286257585661351
tw15660312282365759457
tw10880552870878801148
tw18395432200449741147
tw12162797740929952687
tw2974106400615782624
tw1171370386323200567
tw13975416351552787227
tw18050025468635999539
tw478331784241353106
tw7418537436581907550
tw9976655679402923323
tw4533510842984638212
tw12585216335311144719
tw16425875071161522904
tw6068205812749641486
tw16565715627512118068
tw3999191960881472300
tw7657833442408548631
tw3756809248647997875
tw3867742583306505986
tw16482616859619389501
tw12810392595029502023
tw16640911887548700
tw3365186764702089069
tw3108131420474009003
tw10570473382183361469
tw4634787993257159544
tw18356076608574816603
tw18136179858384099408
tw13363724173913841785
tw16834207977089956472
tw7126327207411222610
tw14432028562374603517
tw12754722230552305636
tw2257841165960389233
tw7872622979742782827
tw1691322435146007246
tw3748246043322648440
tw15901887062849482765
tw17952743139910305365
tw4445557247073561985
tw14679900418528284644
tw714089227038168240
tw16340211154402750085
tw11492312733752163655
tw3369320439741434931
tw17892901655016585940
tw4812567070254465452
tw15604998166045133522
tw5015684970463599390
tw15170252947040464631
tw6397241014807577145
tw3089848750462186631
tw15656701368896080568
tw2421778589100652740
tw10043284733983721054
tw11726701894358743009
tw4812743323289291419
tw16017918052864270628
tw13123331276469973525
tw17842894626642718340
tw7976835232421617066
tw178597376267168917
tw12072321276293737192
tw15104324533813061014
tw6390164178141288707
tw4740541823585405953
tw12803251009252051659
tw12986051181646517276
tw15979315281467501216
tw8246328106808599927
tw13905398674331327257
tw3917097075200308752
tw17501102345514943427
tw9479265528436283162
tw16963551054925218827
tw14195245525630341583
tw10911699603469763011
tw8066873244263267834
tw14919261079779697772
tw3434311189636946270
tw17704996208415596803
tw83574653845115617
tw13194895709413480525
tw11461130299980915041
tw1142240017033705501
tw4316671689885627389
tw10457654547050207305
tw12542247000604743336
tw326105423636883557
tw471214092492523395
tw7487246113807789952
tw3483364484597049496
tw17226867039695439187
tw18114017447947500755
tw1033901746879760717
tw10541218017435793924
tw6170744978768734251
tw16861021369438990504
tw1532941468155056423
tw5967309176895528432
tw3633767005490542599
tw9147069265347454308
tw5637183071544873040
tw3884542085796346783
tw6588114317308025361
tw639761023511999368
tw11874006182255160952
tw3598247845285394756
tw9792722082339935255
tw3047199445923435834
tw15597141226311043462
tw953032595316606965
tw11461695957183283066
tw5576981247436321140
tw5330905686523936505
tw1213119964765169949
tw408115488291947493
tw17596551788214579790
tw7458843840051640256
tw14849999901508538822
tw333060053895853214
tw1696589430357306960
tw14448557488774445576
tw14968631702392006029
tw3729773144324430135
tw12046065784001221449
tw5994826590056608897
tw3839250295159494806
tw3306137600764188415
tw4910283850975980100
tw3990105101229322031
tw17309589841965667622
tw15111556789696043199
tw8341076289446742741
tw653607356073993313
tw7831430434743711990
tw15064959009498221006
tw17527233565086263008
tw16598058858604339123
tw4214787092066288908
tw13994601965883286088
tw14947313965407599265
tw8830392083316702700
tw15782563044869030727
tw1080811210079865980
tw4655056661783117074
tw16250701059628376009
tw8411367828007620816
tw15003837857170808800
tw2415641919341707510
tw11269589709171592678
tw16928972236714318882
tw8881807306133966930
tw1144172315119821627
tw8854909966983722731
tw17428438041430390750
tw11380773876430835639
tw3092966617994869214
tw17922663362974157619
tw10746089585067949937
tw5777941465292804340
tw8338167109727752098
tw6828035142424137062
tw17457267421386059178
tw16638432994708580481:True)
set_option maxRecDepth 100000 in
set_option maxHeartbeats 0 in
theorem PySem.Challenge.cw_wakeorder_k75_greatest_sheets_holds : PySem.Challenge.rw_wakeorder_k75_greatest_sheets.Holds := by
 w_on;o_law;k_head;(case hw=>w_witness2)
 k_fill
 refine Tactic.walk (l:=PySem.Challenge.rw_wakeorder_k75_greatest_sheets) rfl rfl (fun w h Y=>PySem.W.kIn_of Y) ?F
 case F=>
  intro w mg fa h KX G hmg;refine' Tactic.fin_mk KX G hmg ?z
  case z=>
   constructor
   all_goals first|exact Lake.dF KX G|exact PySem.W.mg_none_of KX G (by k_is)|exact ⟨_,mg_of KX G (by k_is)⟩|exact mg_of KX G (by k_is)|exact Lake.mF|exact Lake.kF KX G|exact Lake.xF KX G|exact Lake.xM KX G Lake.mF|exact Lake.lF KX G|exact Lake.rS Lake.mF|k_is|kernel_rfl|decide +kernel|(constructor<;>first|k_is|kernel_rfl|rfl|decide +kernel)|(simp only [List.mem_cons,List.not_mem_nil,or_false,forall_eq_or_imp,forall_eq];repeat' constructor)<;>first|k_is|kernel_rfl
