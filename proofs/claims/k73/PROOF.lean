import PyProof.Rows.All
import PyProof.StrBlockI
import PyProof.StrBlock2
import PyProof.Draws
import PyProof.EnumMake
import PyProof.Rows.StrNews
import KE.KIntText
import PyProof.PureStr
import PyProof.MeetsStr2
import PyProof.Rows.StrItems
import PyProof.StrLawsChain
import PyProof.StrLawsTight
import PyProof.StrLawsIn
import PyProof.StrWalks
import PyProof.FactsAll.str_7
import PyProof.FactsAll.list_1
import PyProof.FitsReplace
import PyProof.FactsAll.str_5
import PyProof.FString
import PyProof.StrLawsJoin
import PyProof.MeetsStr
import KE.KDictSum
import PyProof.Rows.RuleC_int
import PyProof.FactsAll.tuple_1
import KE.KEqDict
import PyProof.Rows.TupTab
import PyProof.AttrMissSeq
import KE.KDictOf
import KE.KPairComp
import PyProof.DictWalks
import PyProof.DictValues
import PyProof.DictItems
import PyProof.Rows.SetFrom
import KE.KRevIter
import PyProof.InstStoreFacts
import PyProof.ExcInit
import PyProof.IsiBase
import PyProof.ExcAttrAll.ValueError
import OpenK.KDescr
import KE.KIsAll
import PyProof.Rows.CatchOwn
import PyProof.RulesTry
import PyProof.RulesAs
import PyProof.RulesDel
import OpenK.KOwn
import PyProof.ExcBaseAll.ValueError
import PyProof.StationsW
import Wide.All
import OpenK.AllK
import Wide.FinOn
import Lean
import PyProof.EqAt
import PyProof.EqKinds
import PyProof.NeKinds
import PyProof.TupleCall
import PySem.Challenge.RW_wakeorder_k73_bad_rows
open Option renaming some->a_,none->c_,isSome_iff_exists->HV,isSome_map->I_,map_some->J1,map_eq_some_iff->LP,isSome_some->My,any_eq_true->Mz,getD_none->M7,toList->ND
open Bool renaming false->b_,true->d_,and_eq_true->l_,false_ne_true->GZ,and_false->Ib,or_eq_true->Jt,eq_iff_iff->Ju,false_eq_true->KC,not_eq_true'->KY,or_true->Ma,not_true->NZ,and_true->N0
open PySem renaming sizeLine->f_,Addr->g_,wpAny_bind->h_,starEach->iF,Value->i_,Str->p_,boot_len->w_,Shared->y_,wpAny_pure->z_,wpAny->Cb,sizeLine_eq->C_,model->D_,eval->Gj,compareOp->Gk,mainGlobals->GA,backTo->GG,wpAny_mono->GK,Program->GO,Heap->GQ,Stmt->GW,Expr->GX,wpAny_truthy_bool->GY,sysModules->G6,attributeBase->Ha,mem_of_lookup->Hd,World->Hg,keywordEach->Hi,wpAny_Call_Name_kw->Hk,cellsFrom->Hl,swapsWith->Hr,cLine->Hw,assignEach->HJ,binaryOp->HK,FuncData->HL,bootBuiltins->HN,foldedSetIterable->HX,codeAny_mono->HY,backToKw->HZ,wpAny_holding->Ic,behindInMarks->Ie,Around->Iy,Keyword->IG,intText?->II,NameKind->IK,strValues->IM,codeAny_call_builtin->IU,tupleKind_room_in1->Jd,wpAny_field->Je,ExcAttrBase->Jf,wpAny_pyIter_list->Jk,wpAny_loadPart_at->Jl,codeAny->Jm,call->Jn,Paired->Jo,ExcBaseFacts->Jp,Within->Jv,wpAny_standAt->Jy,sliceBounds->JB,wpAny_passesOwn->JG,wpAny_execs_nil->JH,holding->JO,assign->JU,wpAny_dictEntries->J6,Obj->J_,wpAny_call_entry->Kc,tupleKind->Kd,wpAny_call->Kk,call_meets->Kl,letOwnedTupleGo->Kp,atKey->Kq,wpAny_setField->KD,excClassObj->KG,bindArgs->KH,setFlight->KO,lastMarks->KP,getItem->KQ,Env->KS,BindsTo->KU,Model->K2,typeIs_str->K7,rawInt->K8,wpAny_newObj_type->Le,valueAt->Lf,standAt->Lg,intKind->Lh,concat_meets->Li,callerA->Lk,Scope->Ln,plainObj_wpAny_Assign_Attribute->Lq,wpAny_execs_cons->Lv,noFill_tuple_add->Lw,getMethod->Lx,checkBuiltinCall->Ly,IsPart->LC,subscripted->LI,pushCells_keeps->LR,wpAny_richCompare_same_room->L7,wpAny_loadPart->Mc,newFunctionEnv->Md,intText_digits->Me,callWith->Mf,wpAny_comprehension_free->MJ,swapsWithSole->MK,swappedStores->ML,seq_tuple_add->MM,noteFrame->MX,meetsH_dict_get_default->MY,bindL->MZ,bindC->M0,DictEntry->M6,wpAny_Assign_Subscript->M9,seqIndex_neg->M_,isTrue->Na,getAttr->Nb,call_meetsIn->Nc,Result->Nh,wpAny_notOrdered_dict->Nn,wpAny_isTrue_Compare1->Np,Tok->Nq,unbindBehindTheSuite->Nx,seqIndex_of->Ny,evalEach->Nz,wpAny_isSubtype_exc->NG,wpAny_setItem_heap->NK,wpAny_Name->NL,wpAny_List_spliced->NM,typeLookup->NO,reduceHash->NP,isInstance->NQ,builtinsNs->NR,wpAny_pyIter_enum->N1,wpAny_assign_Name->N2,wpAny_Call_method->N3,wpAny_Assign_Name->N4,unaryOp->N5,storedH->N6,spliced->N7,slot_list_getitem->N8,setItem->N9,setAttr->N_,leaving->Oa,Sem->Oe,Pos->Of,OwnTail->Og,wpAny_pyIter_zip->Oq,wpAny_lookBehind->Ot,wpAny_isInstance->Ou,wpAny_Dict_empty->Ov,pastItsLine_dict->Ow,getAttrBy->Ox
open List renaming getElem?_set_ne->m_,getElem?_set_self->s_,getElem?_eq_some_iff->tF,mem_cons->t_,length_map->u_,lookup_cons->v_,size_toArray->A_,length_set->B_,map_cons->F_,mem_cons_of_mem->Ga,map_map->Gf,length_cons->Gi,length_append->Gp,getElem?_eq_getElem->Gr,getElem?_map->GB,mem_cons_self->GF,lookup->GH,mem_of_getElem?->GI,mem_map->GJ,exists_cons_of_length_eq_add_one->GP,mem_append_right->GR,mem_append->GU,replicate->GV,find?_cons->G1,not_mem_nil->G4,mem_singleton->G9,mem_filter->G_,getElem?_append_left->Hb,range->Hf,map_append->Hj,length_replicate->Ht,length_take->Hx,all_eq_true->Hy,getElem?_append_right->HM,getElem?_eq_none->HP,map_congr_left->H_,length_eq_zero_iff->Ia,mem_filterMap->Ir,map_nil->Iu,append_nil->IB,getElem_mem->IQ,drop_eq_getElem_cons->IT,nodup_cons->IW,getElem?_replicate->IZ,getElem?_cons_succ->I9,findIdx?_eq_some_iff_getElem->Ja,append_assoc->Jb,all_map->JA,map->JX,length_drop->JY,take_of_length_le->J9,nodup_nil->Kg,mem_append_left->Kh,drop_zero->Kj,map_eq_nil_iff->Kr,getElem_of_mem->Ks,filterMap_cons->Kt,all_cons->Kx,take_add_one->KW,any_eq_true->K5,of_mem_zip->La,nil_append->Lb,length_nil->Lc,any_cons->LQ,getElem?_set_self'->LX,filter_cons_of_pos->LY,filter_cons_of_neg->LZ,drop_eq_nil_of_le->L_,length_singleton->Mr,getElem?_toArray->Ms,mem_of_mem_take->MB,mem_of_mem_drop->MC,length_eraseIdx->MD,length->ME,getElem_toArray->MF,getElem?_range->MV,contains_cons->M8,nodup_append->Nj,mem_range'_1->Nk,getElem?_inj->Nl,take_length->Nt,filter_cons->Nu,ext_getElem->Nv,drop_length->Nw,forIn_nil->NJ,sum_cons->NX,range'->OJ,map_id->OM
open PySem.Heap renaming get?_push_of_some->n_,lt_size->x_,get?_push_size->E_,get?_update_other->Gq,size_push->Hm,get?_update_self->IF,size_update->IP,SameBut->Jz
open PySem.Str renaming ofString->o_,join->Hv,empty->Ii
open Decidable renaming decide->q_,byContradiction->Gz
open Nat renaming le_refl->sy,lt_of_lt_of_le->Gg,ne_of_lt->Gs,le_trans->Gw,le_succ->GC,zero_le->GS,lt_irrefl->G5,lt_succ_self->IS,ne_of_gt->JC,le_of_lt->JD,le_add_right->J5,lt_trans->Ka,lt_succ_of_lt->K1,not_lt->LF,le_of_ble_eq_true->MA,mul_le_mul_right->MU,mul_le_mul->NW,add_assoc->Oo,zero_add->OH,le_of_eq->OI
open PySem.Value renaming ref->FZ,int->G2,str->Hu,none->Io,type->IJ,builtin->Ji,bool->Lm,isInt->Mi,float->Mj,isStrOf->NI,bytes->Od
open Except renaming ok->Ge,error->Im,bind->NY
open PySem.W renaming findIn->Gh,kitOne->GL,emptyDict->G0,instObj->HQ,InstAt->HR,keepIn->HW,cellsFrom_some->Ig,kia_one->Iq,mroIn->Iv,hasDictIn->ID,looks_findIn->IX,lookIn->JI,plainGet_of->Ke,callWith_K->Km,methodObj->Ku,kitx_list->Kv,OpenLaw->KI,specialIn->KR,fnOf->KZ,typeIn->K9,plainGet->Ll,handedIn->Lz,codeIn->LA,clsIn->LB,methodCall_KW->LJ,looks_clsIn->LS,any_some->LU,callWith_K0->L8,kitx_tuple->Mg,isNs_of_in->Mh,kitx_none->Mt,kitx_dict->Mu,kitx_bool->Mv,kitx_str->MO,kitx_int->MP,WalkO->MQ,readsIn->M1,plainOver->M3,findCls->M4,notCls->Nd,makesIn->Nf,keq_eq->Ng,nsIn->NA,kas_sort->NB,findObj_own->NH,Frag->NS,takesIn->Ob,set_plain->Oc
open Option.some renaming inj->Gn,injEq->LO
open PySem.F renaming plainAttrs_list->Gu,slot_list_append->GD,type_list_append->GN,slot_str_join->G3,type_str_join->He,attrBase_ValueError->HE,slot_str_split->Ij,slot_dict_get->Iw,type_str_split->IY,slot_dict_eq->Jh,excBase_ValueError->Jw,args_tuple_add_2->JJ,entry_tuple_add->JP,args_dict_get_3->JQ,slot_tuple_add->JV,entry_dict_get->JW,slot_str_startswith->K3,slot_list_index->Lr,plainAttrs_dict->Ls,args_dict_eq_2->LD,type_dict_get->LL,sub_dict_dict->LM,entry_dict_eq->LN,slot_list_insert->Mn,slot_list_extend->Mo,typeOf_object_class->M5,entry_bexc_ga->Oj
open Ne renaming symm->Gv
open PySem.Builtin.Str renaming occurrences->Gx,partsBetween->K0,strKind->Lu
open False renaming elim->Gy
open True renaming intro->G7
open Nat.succ renaming inj->G8
open PySem.Txt renaming startswith->Ho,split->Ih,mul->Ml
open Pure renaming pure->Hq
open PySem.NameKind renaming cell->Hs
open PySem.Obj renaming mapSeq->Hz,isFreed_of_fields->Jj,mapFields->Kz,data_mapFields->KJ
open PySem.NumText renaming digitsVal->HA
open PyProof.Rows renaming boot_list->HB,boot_str->HF,seqObj->Ik,slot_tuple_getitem->Il,envOfC->IH,boot_int->IV,callWith_type1->Jg,pendingOf->Jx,boot_isinstance->JK,AllBare->J8,boot_all->KL,IntsAre->Lp,SortSt->Mp,subscriptTail->MT,subscriptTail_builtinR->Ni,failedOf->NC,chain_link->NU,Subscript_->NV,IsTup->Om
open Except.ok renaming inj->HD
open Array renaming length_toList->HG,getElem?_eq_some_iff->JE,append_assoc->Ky,toList->KN,getElem?_eq_none->L4,toList_append->MG,find?_toList->MW
open LawfulBEq renaming eq_of_beq->HS
open PySem.Calls renaming spliced_cons->Ip,spliced_nil->JN,callWith_builtin->J0,evalArgs_plain->Kf,Name_function_global->Lo
open PySem.Builtin.Slice renaming slicePlaces->Iz,sliceAdjust->Jq,sliceApplied->Kw,slicePartIndex->OE,sliceFields->OF
open PySem.Builtin.Dict renaming dictSlotArgs->IE,samePairs->K4,showsAll->K_
open PySem.Builtin.Tuple renaming tupleHashOf->IL,tupleItemsOf->OC,tupleExact->OD
open Sum renaming inr->Jc,inl->Ko
open PySem.Builtin.List renaming listTooLong->Js
open PySem.AutoSeq1 renaming wpAny_loadPart'->JF
open Int renaming emod_lt_of_pos->JL,emod_nonneg->Kb,le_refl->Kn,mul_le_mul->LG,ediv_le_ediv->NF,le_trans->OO
open PySem.Paired renaming length->JM,snoc->L9
open List.cons renaming injEq->JR
open ForInStep renaming yield->JS
open PySem.SeqAt renaming EqAt->JZ,ne_of_list_tuple->LV,RcNeAt->LW,RcAt->MS
open PySem.EntryCells renaming newEntry->J7
open PySem.Code renaming quiet_builtin->KA
open Function renaming comp_apply->L0
open PySem.Heap.Ns1 renaming of_empty->Mm
open PySem.StrLaws renaming found_one->Mw
open PySem.PassesOwn renaming never->Mx
open PySem.Within renaming cons->MN
open PySem.W.Looks renaming here->MR
open PySem.Builtin.ObjectAttr renaming storeInOwnDict->Nr
open PySem.Challenge renaming pw_wakeorder_k73_bad_rows->NT
open PySem.Meets renaming of_wp->Oh
open PySem.Heap.IsSliceOf renaming new->Oi
open PySem.CmpOp renaming NotIn->Ol
open PySem.EqMixed renaming ne_str_int->Oy,ne_str_bool->Oz,ne_int_str->OA,ne_bool_str->OB
open PySem.Builtin.Range renaming rangeSize->OG
open List.Pairwise renaming nil->ON
abbrev e_:=@if_pos
abbrev j_:=@decide_eq_false
abbrev k_:=@if_neg
abbrev r_:=@decide_eq_true
abbrev Gb:=@absurd
abbrev Gd:=@decide_eq_true_eq
abbrev HC:=@beq_eq_false_iff_ne
abbrev HI:=@congrArg
abbrev HU:=@beq_iff_eq
abbrev IC:=@of_decide_eq_true
abbrev Jr:=@or_false
abbrev JT:=@beq_self_eq_true
abbrev K6:=@trivial
abbrev LH:=@if_true
abbrev Mb:=@not_or
abbrev MH:=@if_false
abbrev MI:=@decide_false
set_option Elab.async false
set_option linter.all false
set_option maxRecDepth 100000
set_option maxHeartbeats 4000000
open PySem.W (plainGet isFn plainOver takerIn makesIn typeIn keepIn specialIn takesIn kitOne kia_one callWith_K fnOf codeIn nsIn mg_of kitAny)
abbrev Pn:=NS
abbrev Vp:=List (g_×J_)
abbrev Mq:=i_->y_->Prop
abbrev Ld:=p_->Option i_
set_option compiler.extract_closed false
noncomputable section
theorem Jq0(_:True:=by rfl):True:=trivial
local macro_rules|`(~~~$t)=>`(autoParam $t Jq0._auto_1)
theorem Jq1(_:True:=by decide):True:=trivial
local macro_rules|`($t⁻¹)=>`(autoParam $t Jq1._auto_1)
theorem Jq2_(_:True:=by k_is):True:=trivial
def Jq2:Lean.Syntax:=Jq2_._auto_1
theorem Jq3_(_:True:=by first|exact .inl rfl|exact .inr rfl|assumption):True:=trivial
def Jq3:Lean.Syntax:=Jq3_._auto_1
theorem Jq4_(_:True:=by first|exact Or.inl rfl|exact Or.inr (Or.inl rfl)|exact Or.inr (Or.inr rfl)):True:=trivial
def Jq4:Lean.Syntax:=Jq4_._auto_1
theorem Jq5_(_:True:=by intro _;rfl):True:=trivial
def Jq5:Lean.Syntax:=Jq5_._auto_1
theorem Jq6_(_:True:=by first|exact Or.inl rfl|exact Or.inr rfl):True:=trivial
def Jq6:Lean.Syntax:=Jq6_._auto_1
theorem Jq7_(_:True:=by with_unfolding_all rfl):True:=trivial
def Jq7:Lean.Syntax:=Jq7_._auto_1
theorem Jq8_(_:True:=by first|k_is|kernel_rfl):True:=trivial
def Jq8:Lean.Syntax:=Jq8_._auto_1
theorem Jq9_(_:True:=by exact⟨rfl,rfl,rfl,by decide +kernel,rfl,by decide +kernel,by decide +kernel⟩):True:=trivial
def Jq9:Lean.Syntax:=Jq9_._auto_1
theorem Jq10_(_:True:=by first|exact AW _|with_unfolding_all rfl):True:=trivial
def Jq10:Lean.Syntax:=Jq10_._auto_1
theorem Jq11_(_:True:=by intro _ _ _ _ _ _ us hl;repeat' (first|(simp at hl;done)|rfl|(cases us<;>try rename_i us))):True:=trivial
def Jq11:Lean.Syntax:=Jq11_._auto_1
set_option bootstrap.genMatcherCode false
set_option genSizeOf false
set_option genInjectivity false
namespace Lake
open PySem PySem.Spec PyProof.Rows
variable{κ:Type}{a b dx C:g_}{u:i_}{P prog:GO}{w:Hg}{h h':GQ}{x name m qual:p_}{e c tg:GX}{A4:Vp}{s s':y_}{g':Array GenState}{ch fp:List g_}{N:List p_}{i n:Nat}{A:Iy}{E:Mq}{Q:Unit->y_->Prop}{pos pos' p:Of}{op op':CmpOp}{K:Pn}{es:List GX}{g:Int->Int->Int}{body:List GW}{f:i_->i_->Oe i_}{us:List i_}{mA mg:Ld}{pl:Oe Bool}{kw:List (p_×i_)}{outer:List KS}{fd:HL}{scope:Ln}
noncomputable abbrev Key:=Sum Int p_
noncomputable def Cp:Key->i_->Bool
 |.inl k,v=>Mi k v|.inr x,v=>NI x v
noncomputable def keyH(w:Hg):Key->Int
 |.inl k=>hashInt k|.inr x=>hashStr w x
theorem cL:∀{k:Key} {v:i_},Cp k v=d_->(∃i t,k=Ko i/\v=G2 i t)\/(∃x t,k=Jc x/\v=Hu x t)
 |.inl i,v,h=>by obtain⟨t,e⟩:=Value.isInt_shape (k:=i) (v:=v) h;exact .inl ⟨i,t,rfl,e⟩
 |.inr x,v,h=>by obtain⟨t,e⟩:=Value.isStrOf_shape (x:=x) (v:=v) h;exact .inr ⟨x,t,rfl,e⟩
theorem EI(i:Int)(t:Nq):Cp (.inl i) (.int i t)=d_:=by simp[Cp,Mi]
theorem EG(x:p_)(t:Nq):Cp (.inr x) (.str x t)=d_:=by simp[Cp,NI]
theorem key_ll(a b:Int):q_ ((Ko a:Key)=Ko b)=(a==b):=by
 by_cases e:a=b
 ·subst e;simp
 ·have h:¬(Ko a:Key)=Ko b:=λq=>e (Sum.inl.inj q);rw[j_ h];exact(HC.mpr e).symm
theorem key_rr(a b:p_):q_ ((Jc a:Key)=Jc b)=q_ (a=b):=by
 by_cases e:a=b
 ·subst e;simp
 ·have h:¬(Jc a:Key)=Jc b:=λq=>e (Sum.inr.inj q);rw[j_ h,j_ e]
theorem key_lr(a:Int)(b:p_):q_ ((Ko a:Key)=Jc b)=b_:=j_ (λq=>nomatch q)
theorem key_rl(a:p_)(b:Int):q_ ((Jc a:Key)=Ko b)=b_:=j_ (λq=>nomatch q)
def cT(prog:GO)(w:Hg):PySem.KeyKind prog w Key where
 is:=Cp
 hash:=keyH w
 inj:=λv a b c I=>by
  rcases cL c with⟨i,t,rfl,rfl⟩|⟨x,t,rfl,rfl⟩
  ·rcases cL I with⟨j,u,rfl,e⟩|⟨y,u,rfl,e⟩
   ·injection e with e1 _;rw[e1]
   ·exact nomatch e
  ·rcases cL I with⟨j,u,rfl,e⟩|⟨y,u,rfl,e⟩
   ·exact nomatch e
   ·injection e with e1 _;rw[e1]
 byValue:=λk v h=>by rcases cL h with⟨i,t,rfl,rfl⟩|⟨x,t,rfl,rfl⟩<;>rfl
 pyHash:=λhv h=>by
  rcases cL hv with⟨i,t,rfl,rfl⟩|⟨x,t,rfl,rfl⟩
  ·exact wpAny_pyHash_int h
  ·exact wpAny_pyHash_str h
 eqBool:=λY hv h=>by
  rcases cL Y with⟨i,t,rfl,rfl⟩|⟨x,t,rfl,rfl⟩
  ·rcases cL hv with⟨j,u,rfl,rfl⟩|⟨y,u,rfl,rfl⟩
   ·rw[key_ll]at h;exact wpAny_eqBool_int h
   ·rw[key_lr]at h;exact SeqAt.EqAt.int_str i t y u _ _ _ _ h
  ·rcases cL hv with⟨j,u,rfl,rfl⟩|⟨y,u,rfl,rfl⟩
   ·rw[key_rl]at h;exact SeqAt.EqAt.str_int x t j u _ _ _ _ h
   ·rw[key_rr]at h;exact wpAny_eqBool_str h
 «strs»:=λk x t v h=>by
  rcases cL h with⟨i,u,rfl,e⟩|⟨y,u,rfl,e⟩
  ·exact nomatch e
  ·injection e with e1 _
   subst e1;cases v<;>rfl
theorem zr(prog:GO)(w:Hg)(i:Int)(t:Nq):(cT prog w).is (.inl i) (.int i t)=d_:=EI i t
theorem zq(prog:GO)(w:Hg)(x:p_)(t:Nq):(cT prog w).is (.inr x) (.str x t)=d_:=EG x t
set_option genInjectivity true in
set_option bootstrap.genMatcherCode true in
inductive V where
 |non|bl (b:Bool)|int (i:Int)|str (x:p_)|byt (b:Array UInt8)|flt (b:UInt64)|ref (a:g_)|ty (n:String)
 deriving DecidableEq
variable{v y:V}{vs:List V}
def A':V->i_->Prop
 |.non,u=>u=Io|.bl b,u=>u=Lm b|.int i,u=>∃t,u=G2 i t
 |.str x,u=>∃t,u=Hu x t
 |.byt b,u=>∃t,u=Od b t
 |.flt b,u=>∃t,u=Mj b t
 |.ref a,u=>u=FZ a|.ty n,u=>u=IJ n
abbrev B':List V->List i_->Prop:=Jo A'
theorem B'.length{xs:List V}{us:List i_}(r:B' xs us):xs.length=us.length:=JM r
theorem B'.get:∀{xs:List V} {us:List i_} {i:Nat} {x:V},B' xs us->xs[i]?=a_ x->∃u,us[i]?=a_ u/\A' x u
 |_,_,_,_,.nil,e=>by simp at e|_,_,0,_,.cons r _,e=>by simp at e;subst e;exact⟨_,rfl,r⟩|_,_,i+1,x,.cons _ t,e=>by obtain⟨u,h1,h2⟩:=B'.get (i:=i) (x:=x) t (by simpa using e);exact⟨u,by simpa using h1,h2⟩
theorem B'.set{x:V}{u:i_}(r:A' x u):∀{xs:List V} {us:List i_} (i:Nat),B' xs us->B' (xs.set i x) (us.set i u)
 |_,_,_,.nil=>.nil|_,_,0,.cons _ t=>.cons r t|_,_,i+1,.cons q t=>.cons q (B'.set r i t)
theorem B'.append:∀{xs ys:List V} {us ws:List i_},B' xs us->B' ys ws->B' (xs++ys) (us++ws)
 |_,_,_,_,.nil,s=>s|_,_,_,_,.cons r t,s=>.cons r (B'.append t s)
theorem B'.take:∀{xs:List V} {us:List i_} (n:Nat),B' xs us->B' (xs.take n) (us.take n)
 |_,_,0,_=>.nil|_,_,_+1,.nil=>.nil|_,_,n+1,.cons r t=>.cons r (B'.take n t)
theorem B'.drop:∀{xs:List V} {us:List i_} (n:Nat),B' xs us->B' (xs.drop n) (us.drop n)
 |_,_,0,r=>r|_,_,_+1,.nil=>.nil|_,_,n+1,.cons _ t=>B'.drop n t
def p8:Option V->Option i_->Prop
 |some v,a_ u=>A' v u|none,c_=>True|_,_=>False
def KV:List (κ×V)->List (κ×i_)->Prop:=Jo λ(p:κ×V) (q:κ×i_)=>p.1=q.1/\A' p.2 q.2
noncomputable def kV:Key->V
 |.inl i=>.int i|.inr x=>.str x
inductive HO where
  |lst (xs:List V)
  |tup (xs:List V)
  |dK (A7:List (Key×V))|dT (A7:List (List Key×V))
  |set (S:Int->Bool) (n:Nat)
  |ins (C dx:g_) (fs:List (p_×V))
  |own (x:g_)
  |xd (fs:List (p_×V))
  |met (f x:g_)
  |rng (lo hi:Int)
  |frz (o:J_) (u:HO)
  |tbl (ps:Array i_)
  |ext (φ:GQ->Prop)
variable{o:HO}
noncomputable abbrev Hp:=g_->Option HO
variable{H H':Hp}
noncomputable def upd(H:Hp)(a:g_)(o:HO):Hp:=λb=>if b=a then a_ o else H b
theorem aq:upd H a o a=a_ o:=by unfold upd;rw[e_ rfl]
theorem aw(h:b≠a):upd H a o b=H b:=by unfold upd;rw[k_ h]
theorem ne_of{u:HO}(h:H a=a_ o)(h':H b=a_ u)(d:o≠u):a≠b:=by intro e;subst e;rw[h]at h';exact d (Gn h')
theorem aQ(h:H a=a_ o)(h':H b=c_):a≠b:=by intro e;subst e;rw[h]at h';cases h'
section
variable(P:GO)(w:Hg)
def cN(H:Hp)(h:GQ)(a:g_):HO->Prop
 |.lst xs=>xs.length<=f_/\∃(A8:List i_) (n:Nat),B' xs A8/\h.get? a=a_ {cls:=.type "list",data:=.seq A8.toArray n}
 |.tup xs=>xs.length<=f_/\∃A8:List i_,B' xs A8/\Om h a A8.toArray
 |.dK A7=>A7.length<=f_/\(a==G6)=b_/\∃vs,KV A7 vs/\h.DictOf (cT P w) a vs
 |.dT A7=>A7.length<=f_/\(a==G6)=b_/\∃xs:List (List Key×g_×i_),
   Jo (λ(p:List Key×V) (q:List Key×g_×i_)=>p.1=q.1/\H q.2.1=a_ (.tup (p.1.map kV))/\A' p.2 q.2.2) A7 xs /\
   ∃o es ep,h.get? a=a_ o/\o.ExactDict/\o.data=.dict es ep/\es.toList=xs.map (entryOfKey (Kd (cT P w)))/\(xs.map (·.1)).Nodup
 |.set S n=>h.SetOf (Lh P w) a S n|.ins C dx fs=>H dx=a_ (.own a)/\fs.length<=1000/\dx≠a/\h.get? a=a_ (HQ C dx) /\
   ∃mA,h.Ns1 dx mA/\(∀f,p8 (fs.lookup f) (mA f))/\Jv mA (fs.map (·.1))
 |.own _=>∃o,h.get? a=a_ o
 |.xd fs=>∃mA,h.Ns1 a mA/\∀f,p8 (fs.lookup f) (mA f)
 |.rng lo hi=>∃t u v,h.get? a=a_ {cls:=.type "range",data:=.fields #[.int lo t,.int hi u,.int 1 v]}
 |.frz o u=>h.get? a=a_ o/\cN H h a u|.tbl ps=>h.get? a=a_ {cls:=.none,data:=.fields ps}|.met f x=>h.get? a=a_ (Ku (.ref f) (.ref x))|.ext I=>I h/\(∃o,h.get? a=a_ o)/\∀h1 h2:GQ,I h1->(∀o,h1.get? a=a_ o->h2.get? a=a_ o)->I h2
def HOk(H:Hp)(h:GQ):Prop:=∀a o,H a=a_ o->cN P w H h a o
end
theorem cN.lt(x:cN P w H h a o):a<h.objs.size:=by
 cases o with
 |lst xs=>obtain⟨_,_,_,_,e⟩:=x;exact x_ e
 |tup xs=>obtain⟨_,_,_,p⟩:=x;exact p.lt
 |dK A7=>obtain⟨_,_,_,_,o,_,_,e,_⟩:=x;exact x_ e
 |dT A7=>obtain⟨_,_,_,_,o,_,_,e,_⟩:=x;exact x_ e
 |set S n=>obtain⟨o,_,_,_,e,_⟩:=x;exact x_ e
 |ins C dx fs=>obtain⟨_,_,_,e,_⟩:=x;exact x_ e
 |own y=>obtain⟨_,e⟩:=x;exact x_ e
 |xd fs=>obtain⟨_,⟨_,_,_,e,_⟩,_⟩:=x;exact x_ e
 |rng lo hi=>obtain⟨_,_,_,e⟩:=x;exact x_ e
 |frz Y u=>obtain⟨e,_⟩:=x;exact x_ e
 |tbl ps=>exact x_ (show h.get? a=a_ _ from x)|met f y=>exact x_ (show h.get? a=a_ _ from x)|ext I=>obtain⟨_,⟨_,e⟩,_⟩:=x;exact x_ e
theorem Paired.mapP{α c:Type}{F G:α->c->Prop}:∀{Y:List α} {I:List c},Jo F Y I->(∀a b,F a b->G a b)->Jo G Y I
 |_,_,.nil,_=>.nil|_,_,.cons r t,f=>.cons (f _ _ r) (Paired.mapP t f)
theorem cN.yy(x:cN P w H h a o)(k:∀b u,(b=a\/H b=a_ (.own a))->h.get? b=a_ u->h'.get? b=a_ u)(j:∀b,H b=a_ (.own a)->H' b=a_ (.own a))(i:∀b xs,H b=a_ (.tup xs)->H' b=a_ (.tup xs)):cN P w H' h' a o:=by
 induction o with
 |lst xs=>obtain⟨z,A8,n,r,e⟩:=x;exact⟨z,A8,n,r,k _ _ (.inl rfl) e⟩
 |tup xs=>obtain⟨z,A8,r,I,e,c⟩:=x;exact⟨z,A8,r,I,k _ _ (.inl rfl) e,c⟩
 |dK A7=>obtain⟨z,y,vs,r,I,es,ep,e,c⟩:=x;exact⟨z,y,vs,r,I,es,ep,k _ _ (.inl rfl) e,c⟩
 |dT A7=>obtain⟨z,y,xs,r,I,es,ep,e,c⟩:=x;exact⟨z,y,xs,Paired.mapP r λp q z=>⟨z.1,i _ _ z.2.1,z.2.2⟩,I,es,ep,k _ _ (.inl rfl) e,c⟩
 |set S n=>obtain⟨I,es,ep,t,e,c⟩:=x;exact⟨I,es,ep,t,k _ _ (.inl rfl) e,c⟩
 |ins C dx fs=>obtain⟨d,z,Y,e,mA,⟨od,es,ep,e2,c⟩,r⟩:=x;exact⟨j _ d,z,Y,k _ _ (.inl rfl) e,mA,⟨od,es,ep,k _ _ (.inr d) e2,c⟩,r⟩
 |own y=>obtain⟨I,e⟩:=x;exact⟨I,k _ _ (.inl rfl) e⟩
 |xd fs=>obtain⟨mA,⟨od,es,ep,e,c⟩,r⟩:=x;exact⟨mA,⟨od,es,ep,k _ _ (.inl rfl) e,c⟩,r⟩
 |rng lo hi=>obtain⟨t,u,v,e⟩:=x;exact⟨t,u,v,k _ _ (.inl rfl) e⟩
 |frz I u g=>obtain⟨e,q⟩:=x;exact⟨k _ _ (.inl rfl) e,g q⟩
 |tbl ps=>have e:h.get? a=a_ {cls:=.none,data:=.fields ps}:=x;show h'.get? a=a_ {cls:=.none,data:=.fields ps};exact k a _ (.inl rfl) e|met f y=>have e:h.get? a=a_ (Ku (.ref f) (.ref y)):=x;show h'.get? a=a_ (Ku (.ref f) (.ref y));exact k a _ (.inl rfl) e|ext l=>obtain⟨p,⟨o,e⟩,st⟩:=x;exact⟨st _ _ p λo q=>k _ _ (.inl rfl) q,⟨o,k _ _ (.inl rfl) e⟩,st⟩
theorem HOk.lt(x:HOk P w H h)(e:H a=a_ o):a<h.objs.size:=(x a o e).lt
theorem HOk.fresh(x:HOk P w H h)(e:h.objs.size<=a):H a=c_:=by
 cases q:H a with
 |none=>rfl|some u=>exact Gb (Gg (x.lt q) e) (G5 _)
theorem HOk.kept(x:HOk P w H h)(k:∀b u,h.get? b=a_ u->h'.get? b=a_ u):HOk P w H h':=λa o e=>(x a o e).yy (λb u _ q=>k b u q) (λ_ q=>q) λ_ _ q=>q
theorem HOk.laid(x:HOk P w H h)(k:∀b u,h.get? b=a_ u->h'.get? b=a_ u)(f:h.objs.size<=a)(I:cN P w (upd H a o) h' a o):HOk P w (upd H a o) h':=λb u e=>by
 have Y:=x.fresh f;by_cases d:b=a
 ·subst d;rw[aq]at e;cases e;exact I
 ·rw[aw d]at e;exact(x b u e).yy (λc v _ q=>k c v q) (λc q=>by rw[aw (aQ q Y)];exact q) λc xs q=>by rw[aw (aQ q Y)];exact q
def Rd(H:Hp)(a:g_)(u:HO):Prop:=H a=a_ u\/∃o,H a=a_ (.frz o u)
theorem Rd.ok{u:HO}(r:Rd H a u)(x:HOk P w H h):cN P w H h a u:=by
 rcases r with r|⟨o,r⟩
 ·exact x a u r
 ·obtain⟨_,q⟩:=x a _ r;exact q
def Mut:Option HO->Prop
 |some (.lst _)=>True|some (.dK _)=>True|some (.dT _)=>True|some (.set _ _)=>True|some (.ins _ _ _)=>True|some (.ext _)=>True|_=>False
section
variable{x e:g_}{o':HO}
theorem HOk.write(n:HOk P w H h)(d:Mut (H x))(m:e=x\/H e=a_ (.own x))(k:∀b u,b≠e->h.get? b=a_ u->h'.get? b=a_ u)(j:∃u,h'.get? e=a_ u)(i:cN P w (upd H x o') h' x o'):HOk P w (upd H x o') h':=λb u q=>by
 have Y:∀c y,H c=a_ (.own y)->c≠x:=λc y r z=>by subst z;rw[r]at d;exact d
 have a:∀c xs,H c=a_ (.tup xs)->c≠x:=λc xs r z=>by subst z;rw[r]at d;exact d
 by_cases g:b=x
 ·subst g;rw[aq]at q;cases q;exact i
 ·rw[aw g]at q;by_cases I:b=e
  ·have l:H b=a_ (.own x):=by
    rcases m with z|z
    ·exact Gb (I.trans z) g
    ·rw[I];exact z
   rw[q]at l;cases l;obtain⟨v,hv⟩:=j;exact⟨v,by rw[I];exact hv⟩
  ·refine(n b u q).yy (λc v f r=>k c v ?_ r) (λc r=>by rw[aw (Y c b r)];exact r) λc xs r=>by rw[aw (a c xs r)];exact r
   rcases f with rfl|f
   ·exact I
   ·rintro rfl;rcases m with z|z
    ·exact Y c b f z
    ·rw[f]at z;cases z;exact g rfl
end
structure Un(fs ex:List g_)(H H':Hp)(h h':GQ):Prop where
 keep:∀b o,h.get? b=a_ o->H b=c_->b∉fs->b∉ex->h'.get? b=a_ o
 slot:∀b o,h.get? b=a_ o->H b=c_->b∈fs->b∉ex->∃sl,h'.get? b=a_ {o with slots:=sl}
 free:∀b o,h.get? b=a_ o->H b=c_->b∉ex->H' b=c_
 there:∀b o,h.get? b=a_ o->b∉ex->∃o',h'.get? b=a_ o'
 tups:∀b xs,H b=a_ (.tup xs)->H' b=a_ (.tup xs)
 frzs:∀b o u,H b=a_ (.frz o u)->H' b=a_ (.frz o u)
 tbls:∀b ps,H b=a_ (.tbl ps)->∃more,H' b=a_ (.tbl (ps++more))
section
variable{fs ex:List g_}{H1 H2:Hp}{h1 h2:GQ}{x e:g_}
theorem Un.any(u:Un fs ex H H1 h h1){I:J_}(q:h.get? b=a_ I)(n:H b=c_)(Y:b∉ex):∃c,h1.get? b=a_ {I with slots:=c}:=by
 by_cases a:b∈fs
 ·exact u.slot b I q n a Y
 ·exact⟨I.slots,u.keep b I q n a Y⟩
theorem Un.trans(a:Un fs ex H H1 h h1)(b:Un fs ex H1 H2 h1 h2):Un fs ex H H2 h h2 where
 keep:=λc I q n d Y=>b.keep c I (a.keep c I q n d Y) (a.free c I q n Y) d Y
 slot:=λc I q n d Y=>by obtain⟨g,e1⟩:=a.slot c I q n d Y;obtain⟨e,e2⟩:=b.slot c _ e1 (a.free c I q n Y) d Y;exact⟨e,e2⟩
 free:=λc I q n Y=>by obtain⟨o',e1⟩:=a.there c I q Y;exact b.free c o' e1 (a.free c I q n Y) Y
 there:=λc I q Y=>by obtain⟨o',e1⟩:=a.there c I q Y;exact b.there c o' e1 Y
 tups:=λc xs q=>b.tups c xs (a.tups c xs q)
 frzs:=λc I xs q=>b.frzs c I xs (a.frzs c I xs q)
 tbls:=λc ps q=>by obtain⟨m1,e1⟩:=a.tbls c ps q;obtain⟨f,e2⟩:=b.tbls c _ e1;exact⟨m1++f,by rw[e2,Ky]⟩
theorem Un.kept(k:∀b u,h.get? b=a_ u->h'.get? b=a_ u):Un fs ex H H h h':=
 ⟨λb I q _ _ _=>k b I q,λb I q _ _ _=>⟨I.slots,k b I q⟩,λ_ _ _ n _=>n,λb I q _=>⟨I,k b I q⟩,λ_ _ q=>q,λ_ _ _ q=>q,λ_ ps q=>⟨#[],by rw[q];simp⟩⟩
theorem Un.refl:Un fs ex H H h h:=Un.kept λ_ _ q=>q
theorem Un.laid(k:∀b u,h.get? b=a_ u->h'.get? b=a_ u)(Y:h.objs.size<=a)(I:H a=c_):Un fs ex H (upd H a o) h h' where
 keep:=λb u q _ _ _=>k b u q
 slot:=λb u q _ _ _=>⟨u.slots,k b u q⟩
 free:=λb u q n _=>by rw[aw (Gs (Gg (x_ q) Y))];exact n
 there:=λb u q _=>⟨u,k b u q⟩
 tups:=λb xs q=>by rw[aw (aQ q I)];exact q
 frzs:=λb u xs q=>by rw[aw (aQ q I)];exact q
 tbls:=λb ps q=>⟨#[],by rw[aw (aQ q I),q];simp⟩
theorem Un.write(Y:Mut (H x))(g:e=x\/H e=a_ (.own x))(k:∀b u,b≠e->h.get? b=a_ u->h'.get? b=a_ u)(c:∃u,h'.get? e=a_ u):Un fs ex H (upd H x o) h h':=by
 have d:∀b,H b=c_->b≠x:=λb n z=>by subst z;rw[n]at Y;exact Y
 have f:∀b,H b=c_->b≠e:=λb n z=>by
  subst z;rcases g with r|r
  ·exact d b n r
  ·rw[n]at r;cases r
 have a:∀b u,H b=a_ u->¬Mut (a_ u)->b≠x:=λb u q nm z=>by subst z;rw[q]at Y;exact nm Y
 refine⟨λb u q n _ _=>k b u (f b n) q,λb u q n _ _=>⟨u.slots,k b u (f b n) q⟩,λb u q n _=>by rw[aw (d b n)];exact n,λb u q _=>?_,
  λb xs q=>by rw[aw (a b _ q λz=>z)];exact q,λb u xs q=>by rw[aw (a b _ q λz=>z)];exact q,λb ps q=>⟨#[],by rw[aw (a b _ q λz=>z),q];simp⟩⟩
 by_cases I:b=e
 ·subst I;exact c
 ·exact⟨u,k b u I q⟩
end
noncomputable def trk(h:GQ)(H:Hp):List g_:=(Hf h.objs.size).filter λa=>(H a).isSome
def hidT(h:GQ)(H:Hp):GQ:=PySem.W.hideAll h (trk h H)
theorem ES(h:GQ)(H:Hp):(hidT h H).objs.size=h.objs.size:=PySem.W.hideAll_size _ _
theorem hidT_get{o:J_}(e:h.get? b=a_ o)(n:H b=c_):(hidT h H).get? b=a_ o:=
 PySem.W.hideAll_get _ e λI=>by have q:(H b).isSome=d_:=(G_.mp I).2;rw[n]at q;simp at q
theorem of_hidT{o:J_}(e:(hidT h H).get? b=a_ o):h.get? b=a_ o/\H b=c_:=by
 have I:h.get? b=a_ o:=PySem.W.of_hideAll (trk h H) e;refine⟨I,?_⟩
 cases q:H b with
 |none=>rfl|some x=>have Y:b∈trk h H:=G_.mpr ⟨List.mem_range.mpr (x_ I),by simp[q]⟩;have z:(hidT h H).get? b=c_:=PySem.W.hideAll_none (trk h H) Y;rw[z]at e;cases e
structure Mod(K:Pn)(mg:Ld)(base:GQ):Prop where
 kin:K.In base
 glob:base.Ns GA mg
 blt:∃mb,base.Ns NR mb/\∀x:p_,x≠"__name__"->mb x=HN x
 nolimit:base.NoLimit
structure Cx where
 prog:GO
 w:Hg
 K:Pn
 mg:Ld
 base:GQ
 A:Iy
 N:List p_
 s₀:y_
 H₀:Hp
 env:KS
 outer:List KS
 stack:List KS
 ex:List g_
 fn:p_->Bool
 calm:Bool
 pn:Vp
 xe:Mq
variable{X:Cx}
noncomputable def frs(l:List KS):List g_:=l.filterMap (·.frame)
abbrev Cx.fs(X:Cx):List g_:=frs X.outer
def Vis(sc:Ln)(x:p_):Prop:=sc.names.lookup x=a_ .local\/sc.names.lookup x=a_ .cell\/sc.names.lookup x=a_ .free
def Loc(sc:Ln)(x:p_):Prop:=sc.names.lookup x=a_ .local\/sc.names.lookup x=a_ .cell
def Look(env:KS)(h:GQ)(m:Ld)(x:p_)(u:i_):Prop:=
 (env.kindOf x=a_ .local/\m x=a_ u)\/((env.kindOf x=a_ .cell\/env.kindOf x=a_ .free)/\∃c,env.cells.lookup x=a_ c/\h.IsCell c (a_ u))
structure Cx.Ok(X:Cx):Prop where
 mod:Mod X.K X.mg X.base
 kind:X.env.scope.kind=.function
 glob:X.env.globals=GA
 blt:X.env.builtins=NR
 above:X.s₀.heap.objs.size<=X.env.locals
 inj:∀x y c,X.env.cells.lookup x=a_ c->X.env.cells.lookup y=a_ c->x=y
 has:∀x,(X.env.kindOf x=a_ .cell\/X.env.kindOf x=a_ .free)->∃c,X.env.cells.lookup x=a_ c
 cab:∀x c,X.fn x=d_->X.env.cells.lookup x=a_ c->X.s₀.heap.objs.size<=c
 hd:X.calm=d_->X.A.handled=c_
 frames:X.A.frames=a_ X.stack
 stk:X.stack=X.outer\/(X.stack=X.env::X.outer/\X.env.frame=a_ X.env.locals)
 exf:∀b∈X.ex,b≠X.env.locals/\∀x c,X.env.cells.lookup x=a_ c->c≠b
 bs:∀b o,X.base.get? b=a_ o->X.s₀.heap.get? b=a_ o/\X.H₀ b=c_
 bsz:X.base.objs.size<=X.s₀.heap.objs.size
 noex:∀b o,X.base.get? b=a_ o->b∉X.ex
 exfs:∀b∈X.ex,b∉X.fs
 xt:X.s₀.heap.FunFrames X.base X.outer
 frf:∀b∈X.fs,X.H₀ b=c_
structure A6(X:Cx)(A4:Vp)(σ:List (Option V))(H:Hp)(s:y_):Prop where
 ok:X.Ok
 os:s.os=X.s₀.os
 bare:J8 s.gens
 base:Un X.fs X.ex X.H₀ H X.s₀.heap s.heap
 loc:∃m,s.heap.Ns X.env.locals m/\∀(i:Nat) (x:p_) (v:V),X.N[i]?=a_ x->σ[i]?=a_ (a_ v)->Vis X.env.scope x->∃u,A' v u/\Look X.env s.heap m x u
 cell:∀x c,X.env.cells.lookup x=a_ c->∃v,s.heap.IsCell c v
 free:H X.env.locals=c_
 freeC:∀x c,X.env.cells.lookup x=a_ c->H c=c_
 pin:∀p∈X.pn++A4,s.heap.get? p.1=a_ p.2/\H p.1=c_/\p.1≠X.env.locals/\p.1∉X.fs/\∀v,p.2.data≠.cell v
 hok:HOk X.prog X.w H s.heap
 len:σ.length=X.N.length
section
variable{σ:List (Option V)}
theorem Cx.Ok.nofr(I:X.Ok){o:J_}(e:X.base.get? b=a_ o):b∉X.fs:=λY=>by have:=(I.xt.mem Y).1;rw[e]at this;cases this
theorem A6.bs(I:A6 X A4 σ H s):∀b o,X.base.get? b=a_ o->s.heap.get? b=a_ o/\H b=c_:=λb o e=>⟨I.base.keep b o (I.ok.bs b o e).1 (I.ok.bs b o e).2 (I.ok.nofr e) (I.ok.noex b o e),I.base.free b o (I.ok.bs b o e).1 (I.ok.bs b o e).2 (I.ok.noex b o e)⟩
theorem A6.bk(I:A6 X A4 σ H s):∀b o,X.base.get? b=a_ o->s.heap.get? b=a_ o:=λb o e=>(I.bs b o e).1
theorem A6.mod(I:A6 X A4 σ H s):Mod X.K X.mg X.base:=I.ok.mod
theorem A6.kIn(I:A6 X A4 σ H s):X.K.In s.heap:=I.ok.mod.kin.keeps I.bk
theorem A6.lt(I:A6 X A4 σ H s):X.env.locals<s.heap.objs.size:=let ⟨_,Y,_⟩:=I.loc;Y.lt
theorem A6.sz(I:A6 X A4 σ H s):X.s₀.heap.objs.size<=s.heap.objs.size:=Gw I.ok.above (JD I.lt)
theorem A6.nofs(I:A6 X A4 σ H s)(h:s.heap.objs.size<=a):a∉X.fs:=λb=>by obtain⟨_,o,Y,_⟩:=I.ok.xt.mem b;exact Gb (Gg (x_ Y) (Gw I.sz h)) (G5 _)
theorem A6.cne(I:A6 X A4 σ H s):∀x c,X.env.cells.lookup x=a_ c->c≠X.env.locals:=λx c e z=>by obtain⟨v,o,b,hd⟩:=I.cell x c e;obtain⟨m,⟨o',es,ep,Y,a,_⟩,_⟩:=I.loc;rw[z,Y]at b;cases b;rw[a]at hd;cases hd
theorem A6.xt(I:A6 X A4 σ H s):s.heap.FunFrames X.base X.outer:=by
 have d:∀(l:List KS),(∀b∈frs l,b∈X.fs)->X.s₀.heap.FunFrames X.base l->s.heap.FunFrames X.base l:=by
  intro l
  induction l with
  |nil=>intro _ _;trivial|cons env r g=>intro f k;obtain⟨m,⟨L,o,Y,j,i,hd⟩,h⟩:=k;have c:L∈X.fs:=f L (by unfold frs;rw[Kt,Y];exact GF);obtain⟨n,e⟩:=I.base.slot L o i (I.ok.frf L c) c λz=>I.ok.exfs L z c;exact⟨m,⟨L,_,Y,j,e,hd⟩,g (λb a=>f b (by unfold frs;rw[Kt,Y];exact Ga _ a)) h⟩
 exact d X.outer (λ_ a=>a) I.ok.xt
theorem A6.stack(I:A6 X A4 σ H s):s.heap.FunFrames X.base X.stack:=by
 rcases I.ok.stk with e|⟨e,a⟩
 ·rw[e];exact I.xt
 ·rw[e];obtain⟨m,Y,_⟩:=I.loc;refine .cons (by rw[I.ok.kind];decide) a Y ?_ I.xt;exact Heap.get?_none_of_le (Gw I.ok.bsz I.ok.above)
theorem A6.sM(I:A6 X A4 σ H s):∀b∈frs X.stack,b∈X.env.locals::X.fs:=λb Y=>by
 rcases I.ok.stk with e|⟨e,a⟩
 ·rw[e]at Y;exact Ga _ Y
 ·rw[e]at Y;unfold frs at Y;rw[Kt,a]at Y;exact Y
theorem A6.DD(I:A6 X A4 σ H s):∀b∈frs X.stack,H b=c_:=λb Y=>by
 rcases t_.mp (I.sM b Y)with e|Y
 ·rw[e];exact I.free
 ·obtain⟨_,o,a,_⟩:=I.ok.xt.mem Y;exact I.base.free b o a (I.ok.frf b Y) λz=>I.ok.exfs b z Y
theorem A6.step{t':Nat}{d':Drawn}(I:A6 X A4 σ H s)(h:∀b∈ch,(b∈X.ex\/X.s₀.heap.objs.size<=b)/\b≠X.env.locals/\(∀x c,X.env.cells.lookup x=a_ c->c≠b)/\∀p∈X.pn++A4,p.1≠b)(g:∀b o,b≠X.env.locals->b∉X.fs->b∉ch->s.heap.get? b=a_ o->H b=c_->h'.get? b=a_ o)(w:∀b o,b≠X.env.locals->b∈X.fs->b∉ch->s.heap.get? b=a_ o->H b=c_->∃L,h'.get? b=a_ {o with slots:=L})(a:∀b o,b∉ch->s.heap.get? b=a_ o->H b=c_->H' b=c_)(y:∀b o,b∉ch->s.heap.get? b=a_ o->∃o',h'.get? b=a_ o')(C:∀b xs,H b=a_ (.tup xs)->H' b=a_ (.tup xs))(G:∀b o u,H b=a_ (.frz o u)->H' b=a_ (.frz o u))(D:∀b ps,H b=a_ (.tbl ps)->∃F,H' b=a_ (.tbl (ps++F)))(ns:∀m,s.heap.Ns X.env.locals m->h'.Ns X.env.locals m)(N:HOk X.prog X.w H' h')(W:J8 g'):
  A6 X A4 σ H' {s with heap:=h',gens:=g',drawn:=d',toks:=t'}:=by
 have E:∀b o,X.s₀.heap.get? b=a_ o->b≠X.env.locals:=λb o e=>Gs (Gg (x_ e) I.ok.above);have t:∀b o,X.s₀.heap.get? b=a_ o->b∉X.ex->b∉ch:=λb o e Y A=>by
  rcases(h b A).1 with z|z
  ·exact Y z
  ·exact Gb (Gg (x_ e) z) (G5 _)
 have j:∀x c,X.env.cells.lookup x=a_ c->∀v,s.heap.IsCell c v->h'.IsCell c v:=λx c e v ⟨o,B,hd⟩=>by
  have f:c∉ch:=λz=>(h c z).2.2.1 x c e rfl;by_cases R:c∈X.fs
  ·obtain⟨L,q⟩:=w c o (I.cne x c e) R f B (I.freeC x c e);exact⟨_,q,hd⟩
  ·exact⟨o,g c o (I.cne x c e) R f B (I.freeC x c e),hd⟩
 refine⟨I.ok,I.os,W,⟨λb o e n A Y=>?_,λb o e n A Y=>?_,λb o e n Y=>?_,λb o e Y=>?_,λb xs e=>C b xs (I.base.tups b xs e),λb o xs e=>G b o xs (I.base.frzs b o xs e),λb ps e=>?_⟩,?_,λx c e=>?_,?_,λx c e=>?_,λp Q=>?_,N,I.len⟩
 ·exact g b o (E b o e) A (t b o e Y) (I.base.keep b o e n A Y) (I.base.free b o e n Y)
 ·obtain⟨L,e1⟩:=I.base.slot b o e n A Y;obtain⟨K,e2⟩:=w b _ (E b o e) A (t b o e Y) e1 (I.base.free b o e n Y);exact⟨K,e2⟩
 ·obtain⟨o',e1⟩:=I.base.there b o e Y;exact a b o' (t b o e Y) e1 (I.base.free b o e n Y)
 ·obtain⟨o',e1⟩:=I.base.there b o e Y;exact y b o' (t b o e Y) e1
 ·obtain⟨m1,e1⟩:=I.base.tbls b ps e;obtain⟨S,e2⟩:=D b _ e1;exact⟨m1++S,by rw[e2,Ky]⟩
 ·obtain⟨m,T,U⟩:=I.loc;refine⟨m,ns m T,λi x v e1 e2 e3=>?_⟩
  obtain⟨u,r,l⟩:=U i x v e1 e2 e3;refine⟨u,r,?_⟩
  rcases l with l|⟨k,c,e,z⟩
  ·exact .inl l
  ·exact .inr ⟨k,c,e,j x c e _ z⟩
 ·obtain⟨v,z⟩:=I.cell x c e;exact⟨v,j x c e v z⟩
 ·obtain⟨m,⟨o,_,_,B,_⟩,_⟩:=I.loc;exact a _ o (λz=>(h _ z).2.1 rfl) B I.free
 ·obtain⟨v,o,B,hd⟩:=I.cell x c e;exact a c o (λz=>(h c z).2.2.1 x c e rfl) B (I.freeC x c e)
 ·obtain⟨e,n,P,O,d⟩:=I.pin p Q;have f:p.1∉ch:=λz=>(h p.1 z).2.2.2 p Q rfl;exact⟨g p.1 p.2 P O f e n,a p.1 p.2 f e n,P,O,d⟩
theorem A6.un{t':Nat}(I:A6 X A4 σ H s)(u:Un X.fs [] H H' s.heap h')(a:HOk X.prog X.w H' h'):A6 X A4 σ H' {s with heap:=h',toks:=t'}:=by
 obtain⟨m,⟨o,es,ep,f,r⟩,_⟩:=id I.loc;obtain⟨i,h⟩:=u.any f I.free (by simp);exact I.step (g':=s.gens) (d':=s.drawn) (ch:=[]) (λ_ z=>nomatch z) (λb o _ c _ e n=>u.keep b o e n c (by simp)) (λb o _ c _ e n=>u.slot b o e n c (by simp)) (λb o _ e n=>u.free b o e n (by simp)) (λb o _ e=>u.there b o e (by simp)) u.tups u.frzs u.tbls (λj g=>by obtain⟨o',d,ep',Y,r'⟩:=g;rw[f]at Y;cases Y;exact⟨_,d,ep',h,r'⟩) a I.bare
theorem A6.call{t':Nat}{d':Drawn}(I:A6 X A4 σ H s)(u:Un (frs X.stack) ch H H' s.heap h')(f:HOk X.prog X.w H' h')(k:J8 g')(d:∀b∈ch,(b∈X.ex\/X.s₀.heap.objs.size<=b)/\b≠X.env.locals/\(∀x c,X.env.cells.lookup x=a_ c->c≠b)/\∀p∈X.pn++A4,p.1≠b):
  A6 X A4 σ H' {s with heap:=h',gens:=g',drawn:=d',toks:=t'}:=by
 obtain⟨m,⟨o,es,ep,i,r⟩,_⟩:=id I.loc;obtain⟨q,g⟩:=u.any i I.free λz=>(d _ z).2.1 rfl;exact I.step (ch:=ch) d (λb o g l Y e n=>u.keep b o e n (λz=>(t_.mp (I.sM b z)).elim g l) Y) (λb o _ _ Y e n=>u.any e n Y) (λb o Y e n=>u.free b o e n Y) (λb o Y e=>u.there b o e Y) u.tups u.frzs u.tbls (λt j=>by obtain⟨o',h,ep',a,r'⟩:=j;rw[i]at a;cases a;exact⟨_,h,ep',g,r'⟩) f k
theorem A6.turned{t':Nat}{Y:g_}(I:A6 X A4 σ H s)(k:∀b o,b≠Y->s.heap.get? b=a_ o->h'.get? b=a_ o)(h:H Y=c_)(f:Y≠X.env.locals)(h1:Y∈X.ex\/X.s₀.heap.objs.size<=Y)(h2:∀x c,X.env.cells.lookup x=a_ c->c≠Y)(l:∀p∈X.pn++A4,p.1≠Y):A6 X A4 σ H {s with heap:=h',toks:=t'}:=by
 have d:∀b u,H b=a_ u->b≠Y:=λb u e z=>by rw[z,h]at e;cases e
 refine I.step (g':=s.gens) (d':=s.drawn) (ch:=[Y]) (λb j=>?_) (λb o _ _ a e _=>k b o (λz=>a (by simp[z])) e) (λb o _ _ a e _=>⟨o.slots,k b o (λz=>a (by simp[z])) e⟩) (λ_ _ _ _ n=>n)
  (λb o a e=>⟨o,k b o (λz=>a (by simp[z])) e⟩) (λ_ _ e=>e) (λ_ _ _ e=>e) (λb ps e=>⟨#[],by rw[e];simp⟩) (λm i=>?_) (λb u e=>?_) I.bare
 ·have e:b=Y:=by simpa using j
  subst e;exact⟨h1,f,h2,l⟩
 ·obtain⟨o,es,ep,g,r⟩:=i;exact⟨o,es,ep,k _ o (Gv f) g,r⟩
 ·refine(I.hok b u e).yy (λc v a q=>k c v ?_ q) (λ_ q=>q) λ_ _ q=>q;rcases a with z|z
  ·rw[z];exact d b u e
  ·exact d c _ z
theorem A6.tok(I:A6 X A4 σ H s)(t:Nat):A6 X A4 σ H {s with toks:=t}:=I.un (h':=s.heap) (t':=t) Un.refl I.hok
theorem A6.kept{t':Nat}(I:A6 X A4 σ H s)(k:∀b u,s.heap.get? b=a_ u->h'.get? b=a_ u):A6 X A4 σ H {s with heap:=h',toks:=t'}:=I.un (Un.kept k) (I.hok.kept k)
theorem A6.laid{a:g_}{o:HO}{t':Nat}(I:A6 X A4 σ H s)(k:∀b u,s.heap.get? b=a_ u->h'.get? b=a_ u)(c:s.heap.objs.size<=a)(Y:cN X.prog X.w (upd H a o) h' a o):
  A6 X A4 σ (upd H a o) {s with heap:=h',toks:=t'}:=I.un (Un.laid k c (I.hok.fresh c)) (I.hok.laid k c Y)
theorem A6.write{x e:g_}{o:HO}{t':Nat}(I:A6 X A4 σ H s)(c:Mut (H x))(d:e=x\/H e=a_ (.own x))(k:∀b u,b≠e->s.heap.get? b=a_ u->h'.get? b=a_ u)(Y:∃u,h'.get? e=a_ u)(a:cN X.prog X.w (upd H x o) h' x o):A6 X A4 σ (upd H x o) {s with heap:=h',toks:=t'}:=I.un (Un.write c d k Y) (I.hok.write c d k Y a)
theorem A6.weak{σ':List (Option V)}(I:A6 X A4 σ H s)(b:σ'.length=σ.length)(w:∀(i:Nat) v,σ'[i]?=a_ (a_ v)->σ[i]?=a_ (a_ v)):A6 X A4 σ' H s:=
 ⟨I.ok,I.os,I.bare,I.base,let ⟨m,a,Y⟩:=I.loc;⟨m,a,λi x v e1 e2 e3=>Y i x v e1 (w i v e2) e3⟩,I.cell,I.free,I.freeC,I.pin,I.hok,b.trans I.len⟩
theorem A6.uy{pins':Vp}(I:A6 X A4 σ H s)(h:∀p∈pins',s.heap.get? p.1=a_ p.2/\H p.1=c_/\p.1≠X.env.locals/\p.1∉X.fs/\∀v,p.2.data≠.cell v):A6 X pins' σ H s:=
 ⟨I.ok,I.os,I.bare,I.base,I.loc,I.cell,I.free,I.freeC,λp Y=>(GU.mp Y).elim (λz=>I.pin p (Kh _ z)) (h p),I.hok,I.len⟩
theorem uK(I:N.Nodup){j:Nat}(a:N[i]?=a_ x)(b:N[j]?=a_ x):i=j:=by obtain⟨h1,e1⟩:=tF.mp a;obtain⟨h2,e2⟩:=tF.mp b;exact(List.getElem_inj I).mp (e1.trans e2.symm)
theorem vT{M:K2}(I:A6 X A4 σ H s)(hN:X.N.Nodup)(hi:X.N[i]?=a_ x)(l:Loc X.env.scope x)(r:A' v u)(h:∀s',A6 X A4 (σ.set i (a_ v)) H s'->(∃a,Jz a s.heap s'.heap/\(a=X.env.locals\/X.env.cells.lookup x=a_ a))->Q () s')(hf:autoParam (X.fn x=d_\/X.env.scope.names.lookup x=a_ .local) Jq3):Cb M A (storeName X.env x u) Q E s:=by
 obtain⟨m,hn,hl⟩:=id I.loc;have N:(X.env.scope.kind==.class||(X.env.scope.kind==.module&&X.env.locals != X.env.globals))=b_:=by rw[I.ok.kind];rfl
 have B:i<σ.length:=by rw[I.len];exact(tF.mp hi).1
 have G:=I.cne;have f:∀{a:g_} {h':GQ},(∃o,s.heap.get? a=a_ o/\H a=c_)->Jz a s.heap h'->HOk X.prog X.w H h':=λ{a h'} ha Y b ob e=>by
  obtain⟨_,_,t⟩:=ha;refine(I.hok b ob e).yy (λc R g q=>(Y.2 c ?_).trans q) (λ_ q=>q) λ_ _ q=>q;rintro rfl;rcases g with rfl|g
  ·rw[t]at e;cases e
  ·rw[t]at g;cases g
 rcases l with w|w
 ·refine wpAny_storeName_local w hn (λh' hn' Y=>?_) N;obtain⟨oL,_,_,hoL,_⟩:=id hn;refine h _ ⟨I.ok,I.os,I.bare,⟨λb o e n F l=>?_,λb o e n F l=>?_,I.base.free,λb o e l=>?_,I.base.tups,I.base.frzs,I.base.tbls⟩,⟨_,hn',λj y U e1 e2 e3=>?_⟩,λy c e=>?_,I.free,I.freeC,λp hp=>?_,f ⟨oL,hoL,I.free⟩ Y,by simpa using I.len⟩ ⟨_,Y,.inl rfl⟩
  ·exact(Y.2 b (Gs (Gg (x_ e) I.ok.above))).trans (I.base.keep b o e n F l)
  ·obtain⟨Z,e1⟩:=I.base.slot b o e n F l;exact⟨Z,(Y.2 b (Gs (Gg (x_ e) I.ok.above))).trans e1⟩
  ·obtain⟨o',e1⟩:=I.base.there b o e l;exact⟨o',(Y.2 b (Gs (Gg (x_ e) I.ok.above))).trans e1⟩
  ·by_cases C:j=i
   ·subst C;rw[hi]at e1;cases e1;rw[s_ B]at e2;cases e2;exact⟨u,r,.inl ⟨w,by simp⟩⟩
   ·rw[m_ (Gv C)]at e2;obtain⟨W,r',q⟩:=hl j y U e1 e2 e3;refine⟨W,r',?_⟩
    rcases q with⟨k,e⟩|⟨k,c,e,z⟩
    ·refine .inl ⟨k,?_⟩;have:y≠x:=λe=>C (uK hN e1 (e▸hi));simp[this,e]
    ·exact .inr ⟨k,c,e,z.sameBut Y (G y c e)⟩
  ·obtain⟨R,z⟩:=I.cell y c e;exact⟨R,z.sameBut Y (G y c e)⟩
  ·obtain⟨e,n,S,nf,d⟩:=I.pin p hp;exact⟨(Y.2 p.1 S).trans e,n,S,nf,d⟩
 ·have D:X.fn x=d_:=by
   rcases hf with z|z
   ·exact z
   ·rw[z]at w;cases w
  obtain⟨c,g⟩:=I.ok.has x (.inl w);obtain⟨R,z⟩:=I.cell x c g;refine wpAny_storeName_cell I.ok.kind w g z (λh' P Y=>?_);obtain⟨oc,L,K⟩:=id z;refine h {s with heap:=h'} ⟨I.ok,I.os,I.bare,⟨λb o e n F l=>?_,λb o e n F l=>?_,I.base.free,λb o e l=>?_,I.base.tups,I.base.frzs,I.base.tbls⟩,⟨m,hn.sameBut Y (Gv (G x c g)),λj y U e1 e2 e3=>?_⟩,λy T e=>?_,I.free,I.freeC,λp hp=>?_,f ⟨oc,L,I.freeC x c g⟩ Y,by simpa using I.len⟩ ⟨c,Y,.inr g⟩
  ·exact(Y.2 b (Gs (Gg (x_ e) (I.ok.cab x c D g)))).trans (I.base.keep b o e n F l)
  ·obtain⟨Z,e1⟩:=I.base.slot b o e n F l;exact⟨Z,(Y.2 b (Gs (Gg (x_ e) (I.ok.cab x c D g)))).trans e1⟩
  ·obtain⟨o',e1⟩:=I.base.there b o e l;exact⟨o',(Y.2 b (Gs (Gg (x_ e) (I.ok.cab x c D g)))).trans e1⟩
  ·by_cases C:j=i
   ·subst C;rw[hi]at e1;cases e1;rw[s_ B]at e2;cases e2;exact⟨u,r,.inr ⟨.inl w,c,g,P⟩⟩
   ·rw[m_ (Gv C)]at e2;obtain⟨W,r',q⟩:=hl j y U e1 e2 e3;refine⟨W,r',?_⟩
    rcases q with q|⟨k,T,e,z'⟩
    ·exact .inl q
    ·refine .inr ⟨k,T,e,z'.sameBut Y ?_⟩;rintro rfl;exact C (uK hN e1 (I.ok.inj _ _ _ e g▸hi))
  ·by_cases O:T=c
   ·subst O;exact⟨_,P⟩
   ·obtain⟨w2,z2⟩:=I.cell y T e;exact⟨w2,z2.sameBut Y O⟩
  ·obtain⟨e,n,S,nf,d⟩:=I.pin p hp;refine⟨(Y.2 p.1 ?_).trans e,n,S,nf,d⟩
   intro q;rw[q,L]at e;have q':oc=p.2:=Gn e;exact d R (by rw[<- q'];exact K)
theorem mi{M:K2}(I:A6 X A4 σ H s)(b:X.N.Nodup)(hi:X.N[i]?=a_ x)(Y:Loc X.env.scope x)(r:A' v u)(h:∀s',A6 X A4 (σ.set i (a_ v)) H s'->Q () s')(a:autoParam (X.fn x=d_\/X.env.scope.names.lookup x=a_ .local) Jq3):Cb M A (storeName X.env x u) Q E s:=
 vT I b hi Y r (λs' c _=>h s' c) a
theorem A6.call'(I:A6 X A4 σ H s)(d:s'.os=s.os)(u:Un (frs X.stack) ch H H' s.heap s'.heap)(Y:HOk X.prog X.w H' s'.heap)(f:J8 s'.gens)(a:∀b∈ch,(b∈X.ex\/X.s₀.heap.objs.size<=b)/\b≠X.env.locals/\(∀x c,X.env.cells.lookup x=a_ c->c≠b)/\∀p∈X.pn++A4,p.1≠b):A6 X A4 σ H' s':=by obtain⟨h',g',d',t',o'⟩:=s';have e:o'=s.os:=d;subst e;exact I.call (g':=g') (t':=t') (d':=d') u Y f a
end
abbrev XK:=i_->Option g_->Hp->Prop
noncomputable abbrev St:=List (Option V)
variable{σ:St}
abbrev VK:=V->Hp->Prop
abbrev TE:=St->Hp->VK->Prop
variable{ta tb te:TE}
abbrev TT:=St->Hp->(Bool->Hp->Prop)->Prop
abbrev TA:=St->Hp->(List V->Hp->Prop)->Prop
structure Ends where
 nx:St->Hp->Prop
 rt:VK
 bk:St->Hp->Prop:=λ_ _=>False
 ct:St->Hp->Prop:=λ_ _=>False
abbrev TS:=Ends->St->Hp->Prop
def EP(X:Cx)(A4:Vp)(σ:St)(Q:VK)(u:i_)(s':y_):Prop:=∃v H',A6 X A4 σ H' s'/\A' v u/\Q v H'
def TP(X:Cx)(A4:Vp)(σ:St)(Q:Bool->Hp->Prop)(b:Bool)(s':y_):Prop:=∃H',A6 X A4 σ H' s'/\Q b H'
def AP(X:Cx)(A4:Vp)(σ:St)(Q:List V->Hp->Prop)(us:List i_)(s':y_):Prop:=∃vs H',A6 X A4 σ H' s'/\B' vs us/\Q vs H'
def SP(X:Cx)(A4:Vp)(D:Ends)(f:Flow)(s':y_):Prop:=
 match f with
 |.next=>∃σ' H',A6 X A4 σ' H' s'/\D.nx σ' H'
 |.brk=>∃σ' H',A6 X A4 σ' H' s'/\D.bk σ' H'
 |.cont=>∃σ' H',A6 X A4 σ' H' s'/\D.ct σ' H'
 |.ret u=>∃v σ' H',A6 X A4 σ' H' s'/\A' v u/\D.rt v H'
def PE(X:Cx)(e:GX)(t:TE):Prop:=
 ∀(A4:Vp) (s:y_) (σ:St) (H:Hp) (Q:VK),A6 X A4 σ H s->t σ H Q->Cb (D_ X.prog X.w) X.A (Gj e X.env) (EP X A4 σ Q) X.xe s
def PT(X:Cx)(e:GX)(t:TT):Prop:=
 ∀(A4:Vp) (s:y_) (σ:St) (H:Hp) (Q:Bool->Hp->Prop),A6 X A4 σ H s->t σ H Q->Cb (D_ X.prog X.w) X.A (Na e X.env (Gj e X.env)) (TP X A4 σ Q) X.xe s
def PW(X:Cx)(e:GX)(t:TT):Prop:=
 ∀(I:Oe i_) (A4:Vp) (s:y_) (σ:St) (H:Hp) (Q:Bool->Hp->Prop),A6 X A4 σ H s->t σ H Q->Cb (D_ X.prog X.w) X.A (Na e X.env I) (TP X A4 σ Q) X.xe s
theorem PW.pt{t:TT}(h:PW X e t):PT X e t:=h _
def PA(X:Cx)(es:List GX)(t:TA):Prop:=
 ∀(pos:Of) (A4:Vp) (s:y_) (σ:St) (H:Hp) (Q:List V->Hp->Prop),A6 X A4 σ H s->t σ H Q->Cb (D_ X.prog X.w) X.A (N7 (GG pos (iF es X.env))) (AP X A4 σ Q) X.xe s
def PS(X:Cx)(st:GW)(t:TS):Prop:=
 ∀(A4:Vp) (s:y_) (σ:St) (H:Hp) (D:Ends),A6 X A4 σ H s->t D σ H->Cb (D_ X.prog X.w) X.A (exec st X.env) (SP X A4 D) X.xe s
def PSs(X:Cx)(st:List GW)(t:TS):Prop:=
 ∀(A4:Vp) (s:y_) (σ:St) (H:Hp) (D:Ends),A6 X A4 σ H s->t D σ H->Cb (D_ X.prog X.w) X.A (execs st X.env) (SP X A4 D) X.xe s
theorem Bs{α:Type}{t:Oe α}{Q I:α->y_->Prop}{M:K2}(h:Cb M A t Q E s)(Y:∀a s,Q a s->I a s):Cb M A t I E s:=GK h Y λ_ _ x=>x
section
noncomputable def bV(i:Nat):TE:=λσ H Q=>∃v,σ[i]?=a_ (a_ v)/\Q v H
noncomputable def tC(v:V):TE:=λ_ H Q=>Q v H
theorem pe_var(n:X.N[i]?=a_ x)(hv:Vis X.env.scope x)(hd:((x==("__debug__":p_))=b_)⁻¹)(d:((x==("__classdict__":p_))=b_)⁻¹):PE X (.Name x pos) (bV i):=by
 intro A4 s σ H Q I h;obtain⟨v,e,h⟩:=h;obtain⟨m,g,k⟩:=I.loc;obtain⟨u,r,l⟩:=k i x v n e hv;have b:EP X A4 σ Q u s:=⟨v,H,I,r,h⟩
 rcases l with⟨a,j⟩|⟨a,c,f,Y⟩
 ·exact NL (wpAny_loadName_local I.ok.kind a g j b) hd
 ·rcases a with a|a
  ·exact NL (wpAny_loadName_cell I.ok.kind a f Y b) hd
  ·exact NL (wpAny_loadName_free I.ok.kind a f Y b d) hd
theorem AR{i j pos}:PE X (.Constant (.int i) j pos) (tC (.int i)):=λ_ _ _ H _ I h=>wpAny_Constant_int ⟨.int i,H,I.tok _,⟨_,rfl⟩,h⟩
theorem jo{b j pos}:PE X (.Constant (.bool b) j pos) (tC (.bl b)):=λ_ _ _ H _ I h=>Constant_bool ⟨.bl b,H,I,rfl,h⟩
theorem pe_non{j pos}:PE X (.Constant .none j pos) (tC .non):=λ_ _ _ H _ I h=>Constant_none ⟨.non,H,I,rfl,h⟩
theorem sW{x j pos}:PE X (.Constant (.str x) j pos) (tC (.str x)):=λ_ _ _ H _ I h=>Calls.Constant_str ⟨.str x,H,I.tok _,⟨_,rfl⟩,h⟩
def Gl(X:Cx)(x:p_):Prop:=X.env.kindOf x=a_ .globalImplicit
theorem j5{Q:Mq}(I:A6 X A4 σ H s)(a:Gl X x)(Y:X.mg x=a_ u)(h:Q u s)(hd:((x==("__debug__":p_))=b_)⁻¹):Cb (D_ X.prog X.w) X.A (Gj (.Name x pos) X.env) Q E s:=
 Lo I.ok.kind a (Calls.loadGlobal_global (by rw[I.ok.glob];exact I.mod.glob.keeps I.bk) Y h) hd
theorem sY{Q:Mq}(I:A6 X A4 σ H s)(b:Gl X x)(a:X.mg x=c_)(hv:HN x=a_ u)(h:Q u s)(Y:(x≠"__name__")⁻¹)(hd:((x==("__debug__":p_))=b_)⁻¹):Cb (D_ X.prog X.w) X.A (Gj (.Name x pos) X.env) Q E s:=by obtain⟨c,h1,h2⟩:=I.mod.blt;exact Lo I.ok.kind b (Calls.loadGlobal_builtin (by rw[I.ok.glob];exact I.mod.glob.keeps I.bk) a (by rw[I.ok.blt];exact h1.keeps I.bk) ((h2 x Y).trans hv) h) hd
theorem uA(a:Gl X x)(Y:X.mg x=a_ u)(r:A' v u)(hd:((x==("__debug__":p_))=b_)⁻¹):PE X (.Name x pos) (tC v):=
 λ_ _ _ H _ I h=>j5 I a Y ⟨v,H,I,r,h⟩ hd
theorem pe_bltn(b:Gl X x)(a:X.mg x=c_)(hv:HN x=a_ u)(r:A' v u)(Y:(x≠"__name__")⁻¹)(hd:((x==("__debug__":p_))=b_)⁻¹):PE X (.Name x pos) (tC v):=
 λ_ _ _ H _ I h=>sY I b a hv ⟨v,H,I,r,h⟩ Y hd
variable{a b:GX}
def PC(X:Cx)(op:CmpOp)(a b:GX)(t:TE):Prop:=
 ∀(A4:Vp) (s:y_) (σ:St) (H:Hp) (Q:VK),A6 X A4 σ H s->t σ H Q ->
  Cb (D_ X.prog X.w) X.A (Gj a X.env) (λv Y=>Cb (D_ X.prog X.w) X.A (Gj b X.env) (λu I=>Cb (D_ X.prog X.w) X.A (Gk op v u) (EP X A4 σ Q) X.xe I) X.xe Y) X.xe s
theorem nobehind(b:GX)(h:op≠.In)(h2:op≠.NotIn):Ie op b=b_:=by
 have e1:(op==CmpOp.In)=b_:=by cases op<;>first|rfl|exact Gb rfl h
 have e2:(op==Ol)=b_:=by cases op<;>first|rfl|exact Gb rfl h2
 cases b<;>simp[Ie,e1,e2]
noncomputable def tIsN(ta:TE):TE:=λσ H Q=>ta σ H λx H1=>Q (.bl (q_ (x=.non))) H1
theorem A'.none_iff{x:V}{v:i_}(r:A' x v):(v==Io)=q_ (x=.non):=by
 cases x with
 |non=>cases r;rfl|bl _=>cases r;rfl|int _=>obtain⟨t,rfl⟩:=r;rfl
 |str _=>obtain⟨t,rfl⟩:=r;rfl
 |byt _=>obtain⟨t,rfl⟩:=r;rfl
 |flt _=>obtain⟨t,rfl⟩:=r;rfl
 |ref _=>cases r;rfl|ty _=>cases r;rfl
theorem pc_isN{j pos'}(d:PE X a ta):PC X .Is a (.Constant .none j pos') (tIsN ta):=by intro A4 s σ H Q I h;refine Bs (d A4 s σ H _ I h) λv f c=>?_;obtain⟨x,H1,e,Y,b⟩:=c;exact Constant_none (is_none_gen ⟨.bl _,H1,e,by rw[Y.none_iff];rfl,b⟩)
noncomputable def tB(t:TE):TT:=λσ H Q=>t σ H λx H1=>∃c,x=.bl c/\Q c H1
theorem pt_cmp{t:TE}(h:PC X op a b t)(h1:Ie op b=b_:=by first|exact nobehind _ (by decide) (by decide)|rfl):PT X (.Compare a [op] [b] pos) (tB t):=by intro A4 s σ H Q I hw;refine Np (Bs (h A4 s σ H _ I hw) λv k h1=>Bs h1 λu j h2=>Bs h2 λc i f=>?_) h1;obtain⟨x,H1,g,Y,e⟩:=f;obtain⟨d,rfl,q⟩:=e;cases Y;exact GY ⟨H1,g,q⟩
variable{tA tB':TT}{rest:List GX}
noncomputable def tAnd(t u:TT):TT:=λσ H Q=>t σ H λc H1=>if c=d_ then u σ H1 Q else Q b_ H1
noncomputable def tOr(t u:TT):TT:=λσ H Q=>t σ H λc H1=>if c=d_ then Q d_ H1 else u σ H1 Q
noncomputable def tNot(t:TT):TT:=λσ H Q=>t σ H λc H1=>Q (!c) H1
theorem Eb(Y:PT X a tA):PW X (.BoolOp .And [a] pos) tA:=by
 intro b A4 s σ H Q I h;refine isTrue_and (Bs (Y A4 s σ H Q I h) λc d e=>?_);cases c with
 |true=>exact isTrue_and_nil e|false=>exact e
theorem pw_or1(Y:PT X a tA):PW X (.BoolOp .Or [a] pos) tA:=by
 intro b A4 s σ H Q I h;refine isTrue_or (Bs (Y A4 s σ H Q I h) λc d e=>?_);cases c with
 |false=>exact isTrue_or_nil e|true=>exact e
theorem Ec(j:PT X a tA)(i:PW X (.BoolOp .And (b::rest) pos) tB'):PW X (.BoolOp .And (a::b::rest) pos) (tAnd tA tB'):=by
 intro e A4 s σ H Q I h;refine isTrue_and (Bs (j A4 s σ H _ I h) λc f g=>?_);obtain⟨H1,d,Y⟩:=g;cases c with
 |true=>exact i e A4 f σ H1 Q d Y|false=>exact⟨H1,d,Y⟩
theorem pw_or(j:PT X a tA)(i:PW X (.BoolOp .Or (b::rest) pos) tB'):PW X (.BoolOp .Or (a::b::rest) pos) (tOr tA tB'):=by
 intro e A4 s σ H Q I h;refine isTrue_or (Bs (j A4 s σ H _ I h) λc f g=>?_);obtain⟨H1,d,Y⟩:=g;cases c with
 |true=>exact⟨H1,d,Y⟩|false=>exact i e A4 f σ H1 Q d Y
theorem AL(Y:PT X a tA):PT X (.UnaryOp .Not a pos) (tNot tA):=by intro A4 s σ H Q I h;exact isTrue_not (Y A4 s σ H (λc H1=>Q (!c) H1) I h)
noncomputable def tAndV(ta tb:TE):TE:=λσ H Q=>ta σ H λx H1=>∃c,x=.bl c/\if c=d_ then tb σ H1 Q else Q (.bl b_) H1
noncomputable def tOrV(ta tb:TE):TE:=λσ H Q=>ta σ H λx H1=>∃c,x=.bl c/\if c=d_ then Q (.bl d_) H1 else tb σ H1 Q
noncomputable def tNotV(ta:TE):TE:=λσ H Q=>ta σ H λx H1=>∃c,x=.bl c/\Q (.bl (!c)) H1
theorem pe_one{op}{t:TE}(h:PE X a t):PE X (.BoolOp op [a] pos) t:=λA4 s σ H Q I hw=>BoolOp_one (h A4 s σ H Q I hw)
theorem pe_and(j:PE X a ta)(i:PE X (.BoolOp .And (b::rest) pos) tb):PE X (.BoolOp .And (a::b::rest) pos) (tAndV ta tb):=by
 intro A4 s σ H Q I h;refine BoolOp_and (Bs (j A4 s σ H _ I h) λv e g=>?_);obtain⟨x,H1,d,f,Y⟩:=g;obtain⟨c,rfl,Y⟩:=Y;cases f;refine GY ?_;cases c with
 |true=>exact i A4 e σ H1 Q d Y|false=>exact⟨.bl b_,H1,d,rfl,Y⟩
theorem pe_or(j:PE X a ta)(i:PE X (.BoolOp .Or (b::rest) pos) tb):PE X (.BoolOp .Or (a::b::rest) pos) (tOrV ta tb):=by
 intro A4 s σ H Q I h;refine BoolOp_or (Bs (j A4 s σ H _ I h) λv e g=>?_);obtain⟨x,H1,d,f,Y⟩:=g;obtain⟨c,rfl,Y⟩:=Y;cases f;refine GY ?_;cases c with
 |false=>exact i A4 e σ H1 Q d Y|true=>exact⟨.bl d_,H1,d,rfl,Y⟩
theorem pe_not(e:PE X a ta):PE X (.UnaryOp .Not a pos) (tNotV ta):=by intro A4 s σ H Q I h;refine UnaryOp_ (Bs (e A4 s σ H _ I h) λv g d=>?_);obtain⟨x,H1,f,b,Y⟩:=d;obtain⟨c,rfl,Y⟩:=Y;cases b;exact not_of (GY ⟨.bl (!c),H1,f,rfl,Y⟩)
noncomputable def tIf(t:TT)(ta tb:TE):TE:=λσ H Q=>t σ H λc H1=>if c=d_ then ta σ H1 Q else tb σ H1 Q
theorem pe_ifExp(i:PT X c tA)(k:PE X a ta)(j:PE X b tb):PE X (.IfExp c a b pos) (tIf tA ta tb):=by
 intro A4 s σ H Q I h;refine wpAny_IfExp (Bs (i A4 s σ H _ I h) λd Y g=>?_);obtain⟨H1,f,e⟩:=g;cases d with
 |true=>exact k A4 Y σ H1 Q f e|false=>exact j A4 Y σ H1 Q f e
end
def SqL(K:Pn)(H:Hp)(a:g_)(xs:List V):Prop:=
 Rd H a (.lst xs) \/
  ∃(o:J_) (A8:Array i_) (n:Nat),K.lookup a=a_ o/\o.cls=.type "list"/\o.dict=c_/\o.data=.seq A8 n/\A8.size<=f_/\B' xs A8.toList
def SqT(K:Pn)(H:Hp)(a:g_)(xs:List V):Prop:=
 Rd H a (.tup xs) \/
  ∃(o:J_) (A8:Array i_) (n:Nat),K.lookup a=a_ o/\o.cls=.type "tuple"/\o.data=.seq A8 n/\A8.size<=f_/\B' xs A8.toList
def absV:i_->Option V
 |.none=>a_ .non|.bool b=>a_ (.bl b)|.int i _=>a_ (.int i)|.str x _=>a_ (.str x)|.bytes b _=>a_ (.byt b)|.float b _=>a_ (.flt b)|.ref a=>a_ (.ref a)|.type n=>a_ (.ty n)|_=>c_
theorem A'.abs{x:V}(r:A' x u):absV u=a_ x:=by
 cases x with
 |non=>cases r;rfl|bl _=>cases r;rfl|int _=>obtain⟨t,rfl⟩:=r;rfl
 |str _=>obtain⟨t,rfl⟩:=r;rfl
 |byt _=>obtain⟨t,rfl⟩:=r;rfl
 |flt _=>obtain⟨t,rfl⟩:=r;rfl
 |ref _=>cases r;rfl|ty _=>cases r;rfl
theorem A'.inj{x y:V}{u:i_}(r:A' x u)(q:A' y u):x=y:=Gn (r.abs.symm.trans q.abs)
theorem B'.inj:∀{xs ys:List V} {us:List i_},B' xs us->B' ys us->xs=ys
 |_,_,_,.nil,.nil=>rfl|_,_,_,.cons r t,.cons r' t'=>by rw[r.inj r',B'.inj t t']
section
variable{xs ys:List V}
theorem SqL.of(h:H a=a_ (.lst xs)):SqL K H a xs:=.inl (.inl h)
theorem SqT.of(h:H a=a_ (.tup xs)):SqT K H a xs:=.inl (.inl h)
theorem A6.list(I:A6 X A4 σ H s)(h:SqL X.K H a xs):∃A8:List i_,B' xs A8/\PlainL s.heap a A8.toArray/\xs.length<=f_:=by
 rcases h with h|⟨o,A8,n,b,c,hd,Y,d,r⟩
 ·obtain⟨z,A8,n,r,e⟩:=h.ok I.hok;exact⟨A8,r,⟨_,n,e,rfl,rfl,rfl⟩,z⟩
 ·refine⟨A8.toList,r,⟨o,n,I.kIn a o b,c,hd,by simpa using Y⟩,?_⟩
  have e:=r.length;simp only[HG]at e;omega
theorem A6.tuple(I:A6 X A4 σ H s)(h:SqT X.K H a xs):∃A8:List i_,B' xs A8/\Om s.heap a A8.toArray/\xs.length<=f_:=by
 rcases h with h|⟨o,A8,n,b,c,Y,d,r⟩
 ·obtain⟨z,A8,r,p⟩:=h.ok I.hok;exact⟨A8,r,p,z⟩
 ·refine⟨A8.toList,r,⟨o,I.kIn a o b,c,n,by simpa using Y⟩,?_⟩
  have e:=r.length;simp only[HG]at e;omega
theorem A6.pk(I:A6 X A4 σ H s)(h:SqL X.K H a xs)(h':SqL X.K H a ys):xs=ys:=by
 obtain⟨A8,r,⟨o,n,e,_,_,d⟩,_⟩:=I.list h;obtain⟨its',r',⟨o',b,Y,_,_,d'⟩,_⟩:=I.list h';rw[e]at Y;cases Y;rw[d]at d';injection d' with d1 _
 have:A8=its':=by simpa using HI KN d1
 subst this;exact r.inj r'
theorem A6.Dm(I:A6 X A4 σ H s)(h:SqT X.K H a xs)(h':SqT X.K H a ys):xs=ys:=by
 obtain⟨A8,r,⟨o,e,_,n,d⟩,_⟩:=I.tuple h;obtain⟨its',r',⟨o',Y,_,b,d'⟩,_⟩:=I.tuple h';rw[e]at Y;cases Y;rw[d]at d';injection d' with d1 _
 have:A8=its':=by simpa using HI KN d1
 subst this;exact r.inj r'
end
noncomputable abbrev Cx.vJ(X:Cx)(E:Mq):Cx:={X with xe:=E}
abbrev Cx.nox(X:Cx):Cx:=X.vJ λ_ _=>False
theorem Cx.Ok.vJ{X:Cx}(I:X.Ok)(E:Mq):(X.vJ E).Ok:=
 ⟨I.mod,I.kind,I.glob,I.blt,I.above,I.inj,I.has,I.cab,I.hd,I.frames,I.stk,I.exf,I.bs,I.bsz,I.noex,I.exfs,I.xt,I.frf⟩
theorem Cx.Ok.kU(I:(X.vJ E).Ok):X.Ok:=
 ⟨I.mod,I.kind,I.glob,I.blt,I.above,I.inj,I.has,I.cab,I.hd,I.frames,I.stk,I.exf,I.bs,I.bsz,I.noex,I.exfs,I.xt,I.frf⟩
theorem A6.vJ(I:A6 X A4 σ H s)(E:Mq):A6 (X.vJ E) A4 σ H s:=⟨I.ok.vJ E,I.os,I.bare,I.base,I.loc,I.cell,I.free,I.freeC,I.pin,I.hok,I.len⟩
theorem A6.kU(I:A6 (X.vJ E) A4 σ H s):A6 X A4 σ H s:=⟨I.ok.kU,I.os,I.bare,I.base,I.loc,I.cell,I.free,I.freeC,I.pin,I.hok,I.len⟩
theorem SP.kU{D:Ends}{f:Flow}{s':y_}(h:SP (X.vJ E) A4 D f s'):SP X A4 D f s':=by
 cases f with
 |next=>obtain⟨σ',H',I,q⟩:=h;exact⟨σ',H',I.kU,q⟩
 |brk=>obtain⟨σ',H',I,q⟩:=h;exact⟨σ',H',I.kU,q⟩
 |cont=>obtain⟨σ',H',I,q⟩:=h;exact⟨σ',H',I.kU,q⟩
 |ret u=>obtain⟨v,σ',H',I,r,q⟩:=h;exact⟨v,σ',H',I.kU,r,q⟩
theorem PSs.nox{st:List GW}{t:TS}(h:PSs X.nox st t):PSs X st t:=λA4 s σ H D I hw=>GK (h A4 s σ H D (I.vJ _) hw) (λ_ _ q=>q.kU) λ_ _ z=>Gy z
section
variable{st:GW}{rest:List GW}{t u:TS}
def gJ:TS:=λD σ H=>D.nx σ H
def dO(t u:TS):TS:=λD σ H=>t {D with nx:=u D} σ H
theorem bK:PSs X [] gJ:=λ_ _ σ H _ I h=>JH ⟨σ,H,I,h⟩
theorem aB(h1:PS X st t)(h2:PSs X rest u):PSs X (st::rest) (dO t u):=by
 intro A4 s σ H D I h;refine Lv (Bs (h1 A4 s σ H {D with nx:=u D} I h) λf Y q=>?_);cases f with
 |next=>obtain⟨σ',H',a,q⟩:=q;exact h2 A4 Y σ' H' D a q
 |ret v=>exact q|brk=>exact q|cont=>exact q
theorem aX(h1:PS X st t):PSs X [st] t:=by
 intro A4 s σ H D I h;refine Lv (Bs (h1 A4 s σ H D I h) λf Y q=>?_);cases f with
 |next=>exact JH q|ret v=>exact q|brk=>exact q|cont=>exact q
theorem A6.quiet(I:A6 X A4 σ H s):interactive X.env=b_:=by simp[interactive,I.ok.kind]
def pI(te:TE):TS:=λD σ H=>te σ H λ_ H1=>D.nx σ H1
theorem gK(c:PE X e te)(a: ~~~(Hr e c_ pos.line X.env=Hq b_)):PS X (.Expr e pos) (pI te):=by intro A4 s σ H D I h;refine wpAny_Expr_any (Bs (c A4 s σ H _ I h) λv f b=>?_) I.quiet a;obtain⟨x,H1,d,g,Y⟩:=b;exact⟨σ,H1,d,Y⟩
def rG(te:TE):TS:=λD σ H=>te σ H D.rt
theorem cq(c:PE X e te):PS X (.Return (a_ e) pos) (rG te):=by intro A4 s σ H D I h;refine wpAny_Return_some (Bs (c A4 s σ H _ I h) λv f b=>?_);obtain⟨x,H1,d,Y,a⟩:=b;exact⟨x,σ,H1,d,Y,a⟩
def nG(c:TT)(t u:TS):TS:=λD σ H=>c σ H λb H1=>if b=d_ then t D σ H1 else u D σ H1
theorem gU{a b:List GW}{tc:TT}(i:PT X c tc)(k:PSs X a t)(j:PSs X b u):PS X (.If c a b pos) (nG tc t u):=by
 intro A4 s σ H D I h;refine wpAny_If (Bs (i A4 s σ H _ I h) λd Y g=>?_);obtain⟨H1,f,e⟩:=g;cases d with
 |true=>exact k A4 Y σ H1 D f e|false=>exact j A4 Y σ H1 D f e
noncomputable def tNever:TS:=λ_ _ _=>False
theorem wA{sts:List GW}:PSs X sts tNever:=λ_ _ _ _ _ _ h=>h.elim
end
abbrev TG:=V->St->Hp->(St->Hp->Prop)->Prop
abbrev TGs:=List V->St->Hp->(St->Hp->Prop)->Prop
def PG(X:Cx)(I:GX)(t:TG):Prop:=
 ∀(A4:Vp) (s:y_) (σ:St) (H:Hp) (v:V) (u:i_) (Q:St->Hp->Prop),A6 X A4 σ H s->A' v u->t v σ H Q ->
  Cb (D_ X.prog X.w) X.A (JU I X.env u) (λ_ s'=>∃σ' H',A6 X A4 σ' H' s'/\Q σ' H') X.xe s
def PGs(X:Cx)(ts:List GX)(t:TGs):Prop:=
 ∀(A4:Vp) (s:y_) (σ:St) (H:Hp) (vs:List V) (us:List i_) (Q:St->Hp->Prop),A6 X A4 σ H s->B' vs us->t vs σ H Q ->
  Cb (D_ X.prog X.w) X.A (assignInOrder ((HJ ts X.env).map (·.2)) us) (λ_ s'=>∃σ' H',A6 X A4 σ' H' s'/\Q σ' H') X.xe s
abbrev TSet:=V->V->V->Hp->(Hp->Prop)->Prop
def PSet(X:Cx)(t:TSet):Prop:=
 ∀(A4:Vp) (s:y_) (σ:St) (H:Hp) (o i v:V) (I Y u:i_) (Q:Hp->Prop),A6 X A4 σ H s->A' o I->A' i Y->A' v u->t o i v H Q ->
  Cb (D_ X.prog X.w) X.A (N9 I Y u) (λ_ s'=>∃H',A6 X A4 σ H' s'/\Q H') X.xe s
noncomputable def cu(i:Nat):TG:=λv σ H Q=>Q (σ.set i (a_ v)) H
theorem dh(b:X.N.Nodup)(hi:X.N[i]?=a_ x)(Y:Loc X.env.scope x)(a:autoParam (X.fn x=d_\/X.env.scope.names.lookup x=a_ .local) Jq3):PG X (.Name x pos) (cu i):=by intro A4 s σ H v u Q I r h;exact N2 (mi I b hi Y r (λs' c=>⟨_,H,c,h⟩) a)
noncomputable def gNil:TGs:=λvs σ H Q=>vs=[]/\Q σ H
noncomputable def kL(t:TG)(u:TGs):TGs:=λvs σ H Q=>∃v r,vs=v::r/\t v σ H λσ' H'=>u r σ' H' Q
theorem uz:PGs X [] gNil:=by intro A4 s σ H vs us Q I r h;obtain⟨e,h⟩:=h;subst e;cases r;exact assignInOrder_nil ⟨σ,H,I,h⟩
theorem cW{t:TG}{u:TGs}(h1:PG X e t)(h2:PGs X es u)(d: ~~~((HJ (e::es) X.env).map (·.2)=JU e X.env::(HJ es X.env).map (·.2))):PGs X (e::es) (kL t u):=by
 intro A4 s σ H vs us Q I r h;obtain⟨v,i,e1,h⟩:=h;subst e1;cases r with
 |cons r b=>rw[d];refine assignInOrder_cons (Bs (h1 A4 s σ H _ _ _ I r h) λ_ a f=>?_);obtain⟨Y,H1,g,c⟩:=f;exact h2 A4 a Y H1 _ _ Q g b c
def gTup(K:Pn)(n:Nat)(t:TGs):TG:=λv σ H Q=>∃a xs,v=.ref a/\SqT K H a xs/\xs.length=n/\t xs σ H Q
theorem AQ{k:Nat}{t:TGs}(l:X.calm=d_)(h:PGs X es t)(i: ~~~((HJ es X.env).length=n))(Y: ~~~((HJ es X.env).findIdx? (·.1)=c_)):PG X (.Tuple es k pos) (gTup X.K n t):=by intro A4 s σ H v u Q I r hw;obtain⟨a,xs,e1,g,j,hw⟩:=hw;subst e1;cases r;obtain⟨A8,c,f,p⟩:=I.tuple g;refine assign_Tuple_tuple (I.ok.hd l) f (by simp[i,<- j,c.length]) Y λh' d=>?_;have m:A6 X A4 σ H {s with heap:=h'}:=I.kept (t':=s.toks) λb o e=>d b o (Gs (x_ e)) e;exact h A4 _ σ H xs _ Q m (by simpa using c) hw
noncomputable def gSub(to I:TE)(t:TSet):TG:=λv σ H Q=>to σ H λo H1=>I σ H1 λi H2=>t o i v H2 λY=>Q σ Y
theorem pg_sub{o i:GX}{to c:TE}{t:TSet}(m:PE X o to)(hi:PE X i c)(l:PSet X t)(n:autoParam (∀v,JU (.Subscript o i pos) X.env v=(do
   let Y <- JO [v] (Gj o X.env)
   let a <- JO [v,Y] (Gj i X.env)
   Lg pos
   JO [v,Y,a] (N9 Y a v)
   release [v,Y,a] [])) Jq5):PG X (.Subscript o i pos) (gSub to c t):=by
 intro A4 s σ H v u Q I r h;rw[n];refine h_ (Ic (Bs (m A4 s σ H _ I h) λY e b=>?_));obtain⟨x,H1,w,f,k⟩:=b;refine h_ (Ic (Bs (hi A4 e σ H1 _ w k) λa d b=>?_));obtain⟨y,H2,q,r2,j⟩:=b;refine h_ (Jy (h_ (Ic (Bs (l A4 d σ H2 x y v Y a u _ q f r2 r j) λ_ A b=>?_))));obtain⟨z,p,g⟩:=b;exact wpAny_release ⟨σ,z,p,g⟩
def pK(te:TE)(g:TG):TS:=λD σ H=>te σ H λx H1=>g x σ H1 D.nx
theorem AN{g:TG}(i:PE X e te)(f:PG X tg g)(c: ~~~(MK [tg] e pos.line X.env=Hq b_))(hw: ~~~(ML [tg] e X.env=Hq c_))(h1: ~~~((HJ [tg] X.env).map (·.2)=[JU tg X.env])):PS X (.Assign [tg] e pos) (pK te g):=by intro A4 s σ H D I h;refine wpAny_Assign_stores (Bs (i A4 s σ H _ I h) λv Y d=>?_) c hw;obtain⟨x,H1,j,a,b⟩:=d;rw[h1];exact Bs (f A4 Y σ H1 x v _ j a b) λ_ k q=>q
theorem jF(j:X.N.Nodup)(hi:X.N[i]?=a_ x)(b:Loc X.env.scope x)(g:PE X e te)(c: ~~~(Hr e (a_ (.Name x pos')) pos.line X.env=Hq b_))(f:autoParam (X.fn x=d_\/X.env.scope.names.lookup x=a_ .local) Jq3):
  PS X (.Assign [.Name x pos'] e pos) (pK te (cu i)):=by
 intro A4 s σ H D I h;refine N4 (Bs (g A4 s σ H _ I h) λv n d=>?_) c;obtain⟨y,H1,l,Y,a⟩:=d;exact mi l j hi b Y (λm k=>⟨_,H1,k,a⟩) f
structure It where
 go:Nat->Hp->Prop
 yld:Nat->Hp->V->Hp->Prop
 stop:Nat->Hp->Prop
def Dc(X:Cx)(A4:Vp)(H:Hp)(b:g_):Prop:=
 H b=c_/\b≠X.env.locals/\b∉X.fs/\(b∈X.ex\/X.s₀.heap.objs.size<=b)/\(∀x c,X.env.cells.lookup x=a_ c->c≠b)/\∀p∈X.pn++A4,p.1≠b
theorem A6.fpOk(I:A6 X A4 σ H s)(Y:s.heap.objs.size<=b)(d:H' b=c_):Dc X A4 H' b:=by
 refine⟨d,JC (Gg I.lt Y),I.nofs Y,.inr (Gw I.sz Y),λx c e z=>?_,λp a z=>?_⟩
 ·obtain⟨v,q⟩:=I.cell x c e;exact Gb (Gg q.lt (by rw[z];exact Y)) (G5 _)
 ·exact Gb (Gg (x_ (I.pin p a).1) (by rw[z];exact Y)) (G5 _)
structure Turn(P:GO)(w:Hg)(K:Pn)(tg:GX)(J:It)(fp:List g_)(it:g_)(tn:Nat->GQ->Prop):Prop where
 mem:it∈fp
 obj:∀i h,tn i h->∀b∈fp,∃o,h.get? b=a_ o/\∀v,o.data≠.cell v
 keep:∀i h h',tn i h->(∀b∈fp,∀o,h.get? b=a_ o->h'.get? b=a_ o)->tn i h'
 item:∀(X:Cx),X.prog=P->X.w=w->X.K=K->X.calm=d_->∀(i:Nat) (A4:Vp) (s:y_) (σ:St) (H:Hp) (E:Mq),A6 X A4 σ H s->(∀b∈fp,Dc X A4 H b)->tn i s.heap->J.go i H ->
  Cb (D_ P w) X.A (pyNext (.ref it)) (λr s1=>∃u,r=a_ u /\
   Cb (D_ P w) X.A (Kp tg (.ref it) u) (λ_ s2=>∃x H',A6 X A4 σ H' s2/\A' x u/\J.yld i H x H'/\tn (i+1) s2.heap/\∀b∈fp,H' b=c_) E s1) E s
 done:∀(X:Cx),X.prog=P->X.w=w->X.K=K->X.calm=d_->∀(i:Nat) (A4:Vp) (s:y_) (σ:St) (H:Hp) (E:Mq),A6 X A4 σ H s->(∀b∈fp,Dc X A4 H b)->tn i s.heap->J.stop i H ->
  Cb (D_ P w) X.A (pyNext (.ref it)) (λr s1=>r=c_/\A6 X A4 σ H s1) E s
 self:∀(A:Iy) (i:Nat) (s:y_) (Q:Mq) (E:Mq),tn i s.heap->Q (.ref it) s->Cb (D_ P w) A (pyIter (.ref it)) Q E s
abbrev TI:=St->Hp->(It->Hp->Prop)->Prop
def PIE(X:Cx)(A4:Vp)(σ:St)(tg:GX)(R:It->Hp->Prop)(I:i_)(a:y_):Prop:=
 ∃(c:g_) (fp:List g_) (Y:Nat->GQ->Prop) (J:It) (H':Hp),I=.ref c/\A6 X A4 σ H' a/\Turn X.prog X.w X.K tg J fp c Y/\Y 0 a.heap/\(∀b∈fp,Dc X A4 H' b)/\R J H'
def PI(X:Cx)(tg iter:GX)(wi:TI):Prop:=
 ∀(A4:Vp) (s:y_) (σ:St) (H:Hp) (R:It->Hp->Prop),A6 X A4 σ H s->wi σ H R ->
  Cb (D_ X.prog X.w) X.A (Gj iter X.env) (λv I=>Cb (D_ X.prog X.w) X.A (pyIter v) (PIE X A4 σ tg R) X.xe I) X.xe s
theorem go_of{M : K2}{A : Iy}{E : i_ -> y_ -> Prop}{s : y_}{tg : GX}{Y : g_}{u : i_}{o : J_}{n : String}{vs : Array i_}{Q : Unit -> y_ -> Prop}(a : s.heap.get? Y = a_ o)(c : o.cls = .type n)(hd : o.data = .fields vs)(b : ["enumerate", "zip", "dict_itemiterator", "dict_reverseitemiterator", "odict_iterator", "itertools.zip_longest", "itertools.pairwise"].contains n = b_)(I : Q () s): Cb M A (Kp tg (.ref Y) u) Q E s := by
  unfold Kp;cases tg <;> first
    | exact z_ I
    | (cases u <;> first
        | exact z_ I
        | (refine h_ (wpAny_load a ?_)
           rw[c,hd];show Cb M A (if (["enumerate", "zip", "dict_itemiterator", "dict_reverseitemiterator", "odict_iterator", "itertools.zip_longest", "itertools.pairwise"].contains n && vs[0]?== a_ (K8 _)) = d_ then _ else _) Q E s;rw[k_ (by intro h; rw[b,Bool.false_and]at h; cases h)];exact z_ I))
def Itl(K:Pn)(a:g_):It:=
 ⟨λi H=>∃xs x,SqL K H a xs/\xs[i]?=a_ x,λi H x H'=>H'=H/\∀xs,SqL K H a xs->xs[i]?=a_ x,λi H=>∃xs,SqL K H a xs/\xs.length<=i⟩
def Itt(K:Pn)(a:g_):It:=
 ⟨λi H=>∃xs x,SqT K H a xs/\xs[i]?=a_ x,λi H x H'=>H'=H/\∀xs,SqT K H a xs->xs[i]?=a_ x,λi H=>∃xs,SqT K H a xs/\xs.length<=i⟩
noncomputable def Itr(lo:Int)(n:Nat):It:=⟨λi _=>i<n,λi H x H'=>H'=H/\x=.int (lo+i),λi _=>n<=i⟩
theorem vN(a Y:g_):Turn P w K tg (Itl K a) [Y] Y (λi h=>h.IsListIter Y a i) where
 mem:=by simp
 obj:=λi h st b f=>by
  have e:b=Y:=by simpa using f
  subst e;obtain⟨o,e,c,d⟩:=st;exact⟨o,e,λv z=>by rw[d]at z;cases z⟩
 keep:=λi h h' st k=>st.at λo e=>k Y (by simp) o e
 item:=by intro X r hw t y i A4 s σ H E I l st q;subst r hw t;obtain⟨xs,x,j,n⟩:=q;obtain⟨A8,m,p,C⟩:=I.list j;obtain⟨u,F,B⟩:=m.get n;obtain⟨f0,f1,f2,f3,f4,f5⟩:=l Y (by simp);refine wpAny_pyNext_list_item st p.isList (x:=u) (by simpa using F) λh' g A=>?_;have L:A6 X A4 σ H {s with heap:=h'}:=I.turned (t':=s.toks) (λb o f e=>(A.2 b f).trans e) f0 f1 f3 f4 f5;obtain⟨o,e,c,d⟩:=id g;exact⟨u,rfl,go_of (s:={s with heap:=h'}) e c d (by decide) ⟨x,H,L,B,⟨rfl,λys D=>by rw[I.pk D j];exact n⟩,g,λb f=>(l b f).1⟩⟩
 done:=by intro X r hw t y i A4 s σ H E I l st q;subst r hw t;obtain⟨xs,j,n⟩:=q;obtain⟨A8,m,p,C⟩:=I.list j;obtain⟨f0,f1,f2,f3,f4,f5⟩:=l Y (by simp);have N:=m.length;exact wpAny_pyNext_list_end (I.ok.hd y) st p.isList (by simp;omega) λh' G=>⟨rfl,I.turned (t':=s.toks) (λb o f e=>G b o f e) f0 f1 f3 f4 f5⟩
 self:=λ_ _ _ _ _ st h=>wpAny_pyIter_listiter st h
theorem Bx(a Y:g_):Turn P w K tg (Itt K a) [Y] Y (λi h=>h.IsTupleIter Y a i) where
 mem:=by simp
 obj:=λi h st b f=>by
  have e:b=Y:=by simpa using f
  subst e;obtain⟨o,e,c,d⟩:=st;exact⟨o,e,λv z=>by rw[d]at z;cases z⟩
 keep:=λi h h' st k=>st.at λo e=>k Y (by simp) o e
 item:=by intro X r hw t y i A4 s σ H E I l st q;subst r hw t;obtain⟨xs,x,j,n⟩:=q;obtain⟨A8,m,p,C⟩:=I.tuple j;obtain⟨u,F,B⟩:=m.get n;obtain⟨f0,f1,f2,f3,f4,f5⟩:=l Y (by simp);refine wpAny_pyNext_tuple_item st (show s.heap.IsTuple a A8.toArray from p) (x:=u) (by simpa using F) λh' g A=>?_;have L:A6 X A4 σ H {s with heap:=h'}:=I.turned (t':=s.toks) (λb o f e=>(A.2 b f).trans e) f0 f1 f3 f4 f5;obtain⟨o,e,c,d⟩:=id g;exact⟨u,rfl,go_of (s:={s with heap:=h'}) e c d (by decide) ⟨x,H,L,B,⟨rfl,λys D=>by rw[I.Dm D j];exact n⟩,g,λb f=>(l b f).1⟩⟩
 done:=by intro X r hw t y i A4 s σ H E I l st q;subst r hw t;obtain⟨xs,j,n⟩:=q;obtain⟨A8,m,p,C⟩:=I.tuple j;obtain⟨f0,f1,f2,f3,f4,f5⟩:=l Y (by simp);have N:=m.length;exact wpAny_pyNext_tuple_end (I.ok.hd y) st (show s.heap.IsTuple a A8.toArray from p) (by simp;omega) λh' G=>⟨rfl,I.turned (t':=s.toks) (λb o f e=>G b o f e) f0 f1 f3 f4 f5⟩
 self:=λ_ _ _ _ _ st h=>wpAny_pyIter_tupleiter st h
theorem By(Y:g_)(lo:Int)(n:Nat):Turn P w K tg (Itr lo n) [Y] Y (λi h=>IsRangeIter h Y (lo+(i:Nat)*1) ((n:Int)-(i:Nat)) 1) where
 mem:=by simp
 obj:=λi h st b a=>by
  have e:b=Y:=by simpa using a
  subst e;exact⟨_,st,λv z=>by have m:Data.fields _=Data.cell v:=z;cases m⟩
 keep:=λi h h' st k=>k Y (by simp) _ st
 item:=by
  intro X j hw l g i A4 s σ H E I d st f;subst j hw l;obtain⟨f0,f1,f2,f3,f4,f5⟩:=d Y (by simp);have W:=Walks.range (prog:=X.prog) (w:=X.w) (I.ok.hd g) Y lo 1 n;refine W.item i s _ _ f st λv h' tk hv c p=>?_;obtain⟨t,rfl⟩:=hv;have r:A6 X A4 σ H {s with heap:=h',toks:=tk}:=I.turned (λb o a e=>p b o (by simpa using a) e) f0 f1 f3 f4 f5;refine⟨_,rfl,go_of (s:={s with heap:=h',toks:=tk}) (n:="range_iterator") c rfl rfl (by decide) ⟨.int (lo+i),H,r,⟨t,?_⟩,⟨rfl,rfl⟩,c,λb a=>(d b a).1⟩⟩
  rw[Int.mul_one]
 done:=by intro X j hw l g i A4 s σ H E I d st f;subst j hw l;obtain⟨f0,f1,f2,f3,f4,f5⟩:=d Y (by simp);exact wpAny_pyNext_range_end (I.ok.hd g) st (by have:n<=i:=f;omega) λh' q=>⟨rfl,I.turned (t':=s.toks) (λb o a e=>q b o a e) f0 f1 f3 f4 f5⟩
 self:=λ_ _ _ _ _ st h=>wpAny_pyIter_rangeiter st h
def iList(K:Pn)(tl:TE):TI:=λσ H R=>tl σ H λx H1=>∃a,x=.ref a/\(∃xs,SqL K H1 a xs)/\R (Itl K a) H1
theorem yX{l:GX}{tl:TE}(j:PE X l tl):PI X tg l (iList X.K tl):=by
 intro A4 s σ H R I h;refine Bs (j A4 s σ H _ I h) λv Y i=>?_;obtain⟨x,H1,c,d,f⟩:=i;obtain⟨a,e,⟨xs,g⟩,q⟩:=f;subst e;cases d;obtain⟨A8,m,p,n⟩:=c.list g;refine Jk p.isList ?_;refine⟨Y.heap.objs.size,[Y.heap.objs.size],_,_,H1,rfl,c.kept (t':=Y.toks) λb o e=>n_ _ e,vN a _,⟨_,E_ _ rfl,rfl,rfl⟩,λb k=>?_,q⟩
 have e:b=Y.heap.objs.size:=by simpa using k
 subst e;exact c.fpOk (sy _) (c.hok.fresh (sy _))
theorem range_it{R:It->Hp->Prop}{lo hi:Int}{t u v:Nq}{tk:Nat}(I:A6 X A4 σ H s)(h1: -(2^62)<=lo)(h2:lo<2^62)(d: -(2^62)<=hi)(c:hi<2^62)(q:R (Itr lo (hi-lo).toNat) H):Cb (D_ X.prog X.w) X.A (pyIter (.ref s.heap.objs.size)) (PIE X A4 σ tg R) E {s with heap:=s.heap.push {cls:=.type "range",data:=.fields #[.int lo t,.int hi u,.int 1 v]},toks:=tk}:=by
 refine wpAny_pyIter_range (IsRange.new ..) (small_one h1 h2 d c) ?_;have Y:A6 X A4 σ H {s with heap:=s.heap.push {cls:=.type "range",data:=.fields #[.int lo t,.int hi u,.int 1 v]},toks:=tk}:=I.kept λb o e=>n_ _ e;refine⟨(s.heap.push {cls:=.type "range",data:=.fields #[.int lo t,.int hi u,.int 1 v]}).objs.size,[(s.heap.push {cls:=.type "range",data:=.fields #[.int lo t,.int hi u,.int 1 v]}).objs.size],_,_,H,rfl,
  Y.kept (t':=tk) λb o e=>n_ _ e,By _ lo (hi-lo).toNat,?_,λb a=>?_,q⟩
 ·have e1:lo+((0:Nat):Int)*1=lo:=by simp
  have e2:(((hi-lo).toNat:Nat):Int)-((0:Nat):Int)=OG lo hi 1:=by rw[rangeSize_one];split<;>omega
  show IsRangeIter _ _ (lo+((0:Nat):Int)*1) ((((hi-lo).toNat:Nat):Int)-((0:Nat):Int)) 1;rw[e1,e2];exact E_ _ rfl
 ·have e:b=(s.heap.push {cls:=.type "range",data:=.fields #[.int lo t,.int hi u,.int 1 v]}).objs.size:=by simpa using a
  subst e;exact Y.fpOk (sy _) (Y.hok.fresh (sy _))
def iRng1(ta:TA):TI:=λσ H R=>ta σ H λvs H1=>∃j:Int,vs=[.int j]/\ -(2^62)<=j/\j<2^62/\R (Itr 0 j.toNat) H1
theorem wJ{a:GX}{ta:TA}(k:Gl X "range")(i:X.mg "range"=c_)(l:PA X [a] ta)(f: ~~~(iF [a] X.env=[(b_,Gj a X.env)])):PI X tg (.Call (.Name "range" p) [a] [] pos) (iRng1 ta):=by
 intro A4 s σ H R I h;refine Call_ (sY I k i boot_range (Jg (Bs (l pos A4 s σ H _ I h) λus n g=>?_) f rfl));obtain⟨vs,H1,m,c,Y⟩:=g;obtain⟨j,e,Y,d,q⟩:=Y;subst e;cases c with
 |cons r b=>cases b;obtain⟨t,rfl⟩:=r;exact call_range_1 (range_it m (by omega) (by omega) Y d (by simpa using q))
def tFor(wi:TI)(g:TG)(tb:TS):TS:=λD σ H=>wi σ H λJ H1=>∃W:Nat->Nat->St->Hp->Prop,(∃m,W 0 m σ H1)/\∀i m σ H,W i m σ H ->
 (J.stop i H/\D.nx σ H)\/(J.go i H/\∃N:St->Hp->Prop,(∀σ' H',N σ' H'->∃Y,Y<m/\W (i+1) Y σ' H')/\∀x H',J.yld i H x H'->g x σ H' λI H2=>tb {D with nx:=N,ct:=N,bk:=D.nx} I H2)
noncomputable def wH(fp:List g_)(h:GQ):Vp:=fp.filterMap λb=>(h.get? b).map λo=>(b,o)
theorem ky{o:J_}(I:b∈fp)(e:h.get? b=a_ o):(b,o)∈wH fp h:=Ir.mpr ⟨b,I,by rw[e];rfl⟩
theorem Em{p:g_×J_}(I:p∈wH fp h):p.1∈fp/\h.get? p.1=a_ p.2:=by
 obtain⟨b,Y,e⟩:=Ir.mp I;cases q:h.get? b with
 |none=>rw[q]at e;cases e|some o=>rw[q]at e;have a:(b,o)=p:=Gn e;subst a;exact⟨Y,q⟩
theorem A6.pinned(I:A6 X A4 σ H s)(g:∀b∈fp,Dc X A4 H b)(f:∀b∈fp,∃o,s.heap.get? b=a_ o/\∀v,o.data≠.cell v):A6 X (A4++wH fp s.heap) σ H s:=
 I.uy λp c=>(GU.mp c).elim (λz=>I.pin p (GR _ z)) λz=>by obtain⟨Y,e⟩:=Em z;obtain⟨f0,f1,f2,_⟩:=g p.1 Y;obtain⟨o,a,d⟩:=f p.1 Y;rw[e]at a;cases a;exact⟨e,f0,f1,f2,d⟩
theorem A6.tY{pl:Vp}(I:A6 X (A4++pl) σ H s):A6 X A4 σ H s:=I.uy λp Y=>I.pin p (GR _ (Kh _ Y))
theorem AM{iter:GX}{wi:TI}{g:TG}{tb:TS}(a:PassesOwn (D_ X.prog X.w) X.A X.env X.xe)(Z:X.calm=d_)(hi:PI X tg iter wi)(hg:PG X tg g)(k:PSs X body tb)(hs:autoParam (∀x,HX iter X.env x=Hq x) Jq5):PS X (.For tg iter body [] pos) (tFor wi g tb):=by
 intro A4 s σ H D I h;refine wpAny_For (Bs (hi A4 s σ H _ I h) λv s1 h1=>Bs h1 λitv s2 h2=>?_) hs;obtain⟨it,fp,R,J,H2,e,I2,T,K,f2,W,⟨m0,w0⟩,y⟩:=h2;subst e;have j:∀{H':Hp},(∀b∈fp,H' b=c_)->∀b∈fp,Dc X A4 H' b:=λhn b k=>⟨hn b k,(f2 b k).2⟩
 refine codeAny_forLoop_any (λn s'=>∃i σ' H',A6 X A4 σ' H' s'/\R i s'.heap/\(∀b∈fp,H' b=c_)/\W i n σ' H') ?_ m0 ⟨0,σ,H2,I2,K,λb k=>(f2 b k).1,w0⟩;rintro n U ⟨i,c,F,I3,B,E,w3⟩;rcases y i n c F w3 with⟨z,qn⟩|⟨go,N,hN,A⟩
 ·refine JG a (Bs (T.done X rfl rfl rfl Z i A4 U c F X.xe I3 (j E) B z) λr s4 a=>?_);obtain⟨O,I4⟩:=a;subst O;exact JH ⟨c,F,I4,qn⟩
 ·refine JG a (Bs (T.item X rfl rfl rfl Z i A4 U c F X.xe I3 (j E) B go) λr s4 a=>?_);obtain⟨u,O,h4⟩:=a;subst O;refine JG a (Bs h4 λ_ S a=>?_);obtain⟨x,H5,I5,r5,y5,w,P⟩:=a;have Q:=I5.pinned (j P) (T.obj _ _ w);refine JG a (Bs (hg _ S c H5 x u _ Q r5 (A x H5 y5)) λ_ s6 a=>?_);obtain⟨G,H6,I6,q6⟩:=a;refine JG a (Bs (k _ s6 G H6 _ I6 q6) λf L t=>?_);have l:∀{Y:St} {q:Hp},A6 X (A4++wH fp S.heap) Y q L->N Y q->∃m,m<n/\∃i σ' H',A6 X A4 σ' H' L/\R i L.heap/\(∀b∈fp,H' b=c_)/\W i m σ' H':=λ{Y q} p C=>by
   obtain⟨m',hm,w7⟩:=hN Y q C;refine⟨m',hm,i+1,Y,q,p.tY,T.keep _ _ _ w λb k o e=>(p.pin (b,o) (GR _ (GR _ (ky k e)))).1,λb k=>?_,w7⟩
   obtain⟨o,e,d⟩:=T.obj _ _ w b k;exact(p.pin (b,o) (GR _ (GR _ (ky k e)))).2.1
  cases f with
  |next=>obtain⟨Y,q,p,C⟩:=t;exact l p C
  |cont=>obtain⟨Y,q,p,C⟩:=t;exact l p C
  |brk=>obtain⟨Y,q,p,t⟩:=t;exact⟨Y,q,p.tY,t⟩
  |ret v=>obtain⟨x7,Y,q,p,r7,t⟩:=t;exact⟨x7,Y,q,p.tY,r7,t⟩
abbrev R2:=V->V->Hp->VK->Prop
variable{r r':R2}
def OpR(X:Cx)(f:i_->i_->Oe i_)(r:R2):Prop:=
 ∀(A4:Vp) (s:y_) (σ:St) (H:Hp) (x y:V) (v u:i_) (Q:VK),A6 X A4 σ H s->A' x v->A' y u->r x y H Q ->
  Cb (D_ X.prog X.w) X.A (f v u) (EP X A4 σ Q) X.xe s
def UnR(X:Cx)(f:i_->Oe i_)(r:V->Hp->VK->Prop):Prop:=
 ∀(A4:Vp) (s:y_) (σ:St) (H:Hp) (x:V) (v:i_) (Q:VK),A6 X A4 σ H s->A' x v->r x H Q ->
  Cb (D_ X.prog X.w) X.A (f v) (EP X A4 σ Q) X.xe s
def fW(X:Cx)(f:i_)(r:List V->Hp->VK->Prop):Prop:=
 ∀(A4:Vp) (s:y_) (σ:St) (H:Hp) (xs:List V) (us:List i_) (Q:VK),A6 X A4 σ H s->B' xs us->r xs H Q ->
  Cb (D_ X.prog X.w) X.A (Jn f us) (EP X A4 σ Q) X.xe s
def TruR(X:Cx)(r:V->Hp->(Bool->Hp->Prop)->Prop):Prop:=
 ∀(A4:Vp) (s:y_) (σ:St) (H:Hp) (x:V) (v:i_) (Q:Bool->Hp->Prop),A6 X A4 σ H s->A' x v->r x H Q ->
  Cb (D_ X.prog X.w) X.A (truthy v) (TP X A4 σ Q) X.xe s
noncomputable def tOp(r:R2)(ta tb:TE):TE:=λσ H Q=>ta σ H λx H1=>tb σ H1 λy H2=>r x y H2 Q
noncomputable def tUn(r:V->Hp->VK->Prop)(ta:TE):TE:=λσ H Q=>ta σ H λx H1=>r x H1 Q
def rI(C:Int->Int->Prop)(g:Int->Int->V):R2:=λx y H Q=>∃i j,x=.int i/\y=.int j/\C i j/\Q (g i j) H
def rI0(g:Int->Int->V):R2:=λx y H Q=>∃i j,x=.int i/\y=.int j/\Q (g i j) H
def rU(g:Int->V):V->Hp->VK->Prop:=λx H Q=>∃i,x=.int i/\Q (g i) H
section
variable{a b:GX}
theorem binT(n:PE X a ta)(m:PE X b tb){R:V->V->Hp->Prop}(I:A6 X A4 σ H s)(h:ta σ H λx H1=>tb σ H1 λy H2=>R x y H2){Q:Mq}(l:∀v u d x y H2,A6 X A4 σ H2 d->A' x v->A' y u->R x y H2->Cb (D_ X.prog X.w) X.A (f v u) Q X.xe d):
  Cb (D_ X.prog X.w) X.A (Gj a X.env) (λv c=>Cb (D_ X.prog X.w) X.A (Gj b X.env) (λu Y=>Cb (D_ X.prog X.w) X.A (f v u) Q X.xe Y) X.xe c) X.xe s:=by
 refine Bs (n A4 s σ H _ I h) λv g e=>?_;obtain⟨x,H1,p,i,k⟩:=e;refine Bs (m A4 g σ H1 _ p k) λu d e=>?_;obtain⟨y,H2,o,r2,j⟩:=e;exact l v u d x y H2 o i r2 j
theorem pe_op{op:Operator}(e:OpR X (HK op) r)(g:PE X a ta)(f:PE X b tb):PE X (.BinOp a op b pos) (tOp r ta tb):=by intro A4 s σ H Q I h;exact wpAny_BinOp (binT g f I h λv u Y x y H2 i d c q=>e A4 Y σ H2 x y v u Q i d c q)
theorem pe_un{op:UnaryOp}{r:V->Hp->VK->Prop}(e:UnR X (N5 op) r)(f:PE X a ta):PE X (.UnaryOp op a pos) (tUn r ta):=by intro A4 s σ H Q I h;refine UnaryOp_ (Bs (f A4 s σ H _ I h) λv Y d=>?_);obtain⟨x,H1,g,b,c⟩:=d;exact e A4 Y σ H1 x v Q g b c
theorem opI{C:Int->Int->Prop}(Y:∀(i j:Int) (t u:Nq) (s:y_) (Q:Mq) (E:Mq),C i j->Q (.int (g i j) s.toks) {s with toks:=s.toks+1}->Cb (D_ X.prog X.w) X.A (f (.int i t) (.int j u)) Q E s):
  OpR X f (rI C λi j=>.int (g i j)):=by
 intro A4 s σ H x y v u Q I b a h;obtain⟨i,j,rfl,rfl,c,q⟩:=h;obtain⟨t,rfl⟩:=b;obtain⟨t',rfl⟩:=a;exact Y i j t t' s _ _ c ⟨.int (g i j),H,I.tok _,⟨_,rfl⟩,q⟩
theorem opI0(Y:∀(i j:Int) (t u:Nq) (s:y_) (Q:Mq) (E:Mq),Q (.int (g i j) s.toks) {s with toks:=s.toks+1}->Cb (D_ X.prog X.w) X.A (f (.int i t) (.int j u)) Q E s):
  OpR X f (rI0 λi j=>.int (g i j)):=by
 intro A4 s σ H x y v u Q I b a h;obtain⟨i,j,rfl,rfl,q⟩:=h;obtain⟨t,rfl⟩:=b;obtain⟨t',rfl⟩:=a;exact Y i j t t' s _ _ ⟨.int (g i j),H,I.tok _,⟨_,rfl⟩,q⟩
theorem opB0{g:Int->Int->Bool}(Y:∀(i j:Int) (t u:Nq) (s:y_) (Q:Mq) (E:Mq),Q (.bool (g i j)) s->Cb (D_ X.prog X.w) X.A (f (.int i t) (.int j u)) Q E s):
  OpR X f (rI0 λi j=>.bl (g i j)):=by
 intro A4 s σ H x y v u Q I b a h;obtain⟨i,j,rfl,rfl,q⟩:=h;obtain⟨t,rfl⟩:=b;obtain⟨t',rfl⟩:=a;exact Y i j t t' s _ _ ⟨.bl (g i j),H,I,rfl,q⟩
def CPow(i j:Int):Prop:=0<=j/\j<=1000000/\i.natAbs<2^64
def CMul(i j:Int):Prop:=(-(2^64)<i/\i<2^64)\/(-(2^64)<j/\j<2^64)
theorem CMul.ok{i j:Int}(h:CMul i j):IntMulOk i j:=by
 rcases h with⟨h1,h2⟩|⟨h1,h2⟩
 ·exact .of_left (intBits_le_64 h1 h2)
 ·exact .of_right (intBits_le_64 h1 h2)
theorem op_add:OpR X (HK .Add) (rI0 λi j=>.int (i+j)):=opI0 λ_ _ _ _ _ _ _ q=>add_int q
theorem op_mul:OpR X (HK .Mult) (rI CMul λi j=>.int (i*j)):=opI λ_ _ _ _ _ _ _ I q=>mul_int q I.ok
theorem op_mod:OpR X (HK .Mod) (rI (λ_ j=>0<j) λi j=>.int (i%j)):=opI λi j _ _ _ _ _ I q=>by have h1:(0:Int)<j:=I;exact mod_int' (by omega) (by rw[Int.fmod_eq_emod_of_nonneg i (by omega)];exact q)
theorem op_pow:OpR X (HK .Pow) (rI CPow λi j=>.int (i^j.toNat)):=opI λ_ _ _ _ _ _ _ I q=>pow_int_small I.1 I.2.1 I.2.2 q
theorem unI{f:i_->Oe i_}{g:Int->Int}(Y:∀(i:Int) (t:Nq) (s:y_) (Q:Mq) (E:Mq),Q (.int (g i) s.toks) {s with toks:=s.toks+1}->Cb (D_ X.prog X.w) X.A (f (.int i t)) Q E s):
  UnR X f (rU λi=>.int (g i)):=by
 intro A4 s σ H x v Q I a h;obtain⟨i,rfl,q⟩:=h;obtain⟨t,rfl⟩:=a;exact Y i t s _ _ ⟨.int (g i),H,I.tok _,⟨_,rfl⟩,q⟩
theorem un_neg:UnR X (N5 .USub) (rU λi=>.int (-i)):=unI λ_ _ _ _ _ q=>neg_int q
end
noncomputable def scal:V->V->Bool
 |.non,.non=>d_|.non,.int _=>d_|.int _,.non=>d_|.non,.bl _=>d_|.bl _,.non=>d_|.non,.str _=>d_|.str _,.non=>d_|.int _,.int _=>d_|.bl _,.bl _=>d_|.str _,.str _=>d_|.byt _,.byt _=>d_|.int _,.str _=>d_|.str _,.int _=>d_|.bl _,.str _=>d_|.str _,.bl _=>d_|_,_=>b_
def rNe:R2:=λx y H Q=>scal x y=d_/\Q (.bl (!decide (x=y))) H
theorem dec_int{i j:Int}:q_ (V.int i=V.int j)=(i==j):=by rw[Ju];simp
theorem dec_bl{i j:Bool}:q_ (V.bl i=V.bl j)=(i==j):=by rw[Ju];simp
theorem dec_str{i j:p_}:q_ (V.str i=V.str j)=(i==j):=by rw[Ju];simp
theorem dec_byt{i j:Array UInt8}:q_ (V.byt i=V.byt j)=(i.toList==j.toList):=by rw[Ju];cases i;cases j;simp
section
variable{a b:GX}{tc:TE}
theorem fq{Q:VK}{k Y:Bool}(I:A6 X A4 σ H s)(q:Q (.bl k) H)(e:k=Y):EP X A4 σ Q (.bool Y) s:=by subst e;exact⟨.bl k,H,I,rfl,q⟩
theorem op_ne:OpR X (Gk .NotEq) rNe:=by
 intro A4 s σ H x y v u Q I b Y h;obtain⟨a,q⟩:=h;cases x with
 |non=>
  cases b;cases y with
  |non=>cases Y;exact PySem.EqNone.ne_none_none (fq I q (by simp))|bl j=>cases Y;exact PySem.EqNone.ne_none_bool (fq I q (by simp))|int j=>obtain⟨t',rfl⟩:=Y;exact PySem.EqNone.ne_none_int (fq I q (by simp))
  |str j=>obtain⟨t',rfl⟩:=Y;exact PySem.EqNone.ne_none_str (fq I q (by simp))
  |_=>exact Gb (show b_=d_ from a) GZ
 |bl i=>
  cases b;cases y with
  |non=>cases Y;exact PySem.EqNone.ne_bool_none (fq I q (by simp))|bl j=>cases Y;exact ne_bool (fq I q (HI not dec_bl))|str j=>obtain⟨t',rfl⟩:=Y;exact OB (fq I q (by simp))
  |_=>exact Gb (show b_=d_ from a) GZ
 |int i=>
  obtain⟨t,rfl⟩:=b;cases y with
  |non=>cases Y;exact PySem.EqNone.ne_int_none (fq I q (by simp))|int j=>obtain⟨t',rfl⟩:=Y;exact ne_int (fq I q (HI not dec_int))
  |str j=>obtain⟨t',rfl⟩:=Y;exact OA (fq I q (by simp))
  |_=>exact Gb (show b_=d_ from a) GZ
 |str i=>
  obtain⟨t,rfl⟩:=b;cases y with
  |non=>cases Y;exact PySem.EqNone.ne_str_none (fq I q (by simp))|bl j=>cases Y;exact Oz (fq I q (by simp))|int j=>obtain⟨t',rfl⟩:=Y;exact Oy (fq I q (by simp))
  |str j=>obtain⟨t',rfl⟩:=Y;exact ne_str (fq I q (HI not dec_str))
  |_=>exact Gb (show b_=d_ from a) GZ
 |byt i=>
  obtain⟨t,rfl⟩:=b;cases y with
  |byt j=>obtain⟨t',rfl⟩:=Y;exact PySem.W.ne_bytes (fq I q (HI not dec_byt))
  |_=>exact Gb (show b_=d_ from a) GZ
 |_=>cases y<;>exact Gb (show b_=d_ from a) GZ
theorem op_lt:OpR X (Gk .Lt) (rI0 λi j=>.bl (q_ (i<j))):=opB0 λ_ _ _ _ _ _ _ q=>lt_int q
theorem op_le:OpR X (Gk .LtE) (rI0 λi j=>.bl (q_ (i<=j))):=opB0 λ_ _ _ _ _ _ _ q=>le_int q
theorem op_gt:OpR X (Gk .Gt) (rI0 λi j=>.bl (q_ (j<i))):=opB0 λ_ _ _ _ _ _ _ q=>gt_int q
theorem op_ge:OpR X (Gk .GtE) (rI0 λi j=>.bl (q_ (j<=i))):=opB0 λ_ _ _ _ _ _ _ q=>ge_int q
theorem Ei:OpR X (Gk .In) (λx y H Q=>∃i j,x=.str i/\y=.str j/\Q (.bl (!(Gx j i 0 j.length 1).isEmpty)) H):=by intro A4 s σ H x y v u Q I a Y h;obtain⟨i,j,rfl,rfl,q⟩:=h;obtain⟨t,rfl⟩:=a;obtain⟨t',rfl⟩:=Y;exact in_str (fq I q rfl)
theorem op_isN:OpR X (Gk .Is) (λx y H Q=>y=.non/\Q (.bl (q_ (x=.non))) H):=by
 intro A4 s σ H x y v u Q I Y a h;obtain⟨rfl,q⟩:=h;cases a;refine is_none_gen (fq I q ?_);cases x<;>first
  |(cases Y;rfl)
  |(obtain⟨t,rfl⟩:=Y;rfl)
theorem op_notN:OpR X (Gk .IsNot) (λx y H Q=>y=.non/\Q (.bl (!decide (x=.non))) H):=by
 intro A4 s σ H x y v u Q I Y a h;obtain⟨rfl,q⟩:=h;cases a;refine isnot_none_gen (fq I q ?_);cases x<;>first
  |(cases Y;rfl)
  |(obtain⟨t,rfl⟩:=Y;rfl)
theorem wN:OpR X (Gk .NotIn) (λx y H Q=>∃i j,x=.str i/\y=.str j/\Q (.bl (!(!(Gx j i 0 j.length 1).isEmpty))) H):=by intro A4 s σ H x y v u Q I a Y h;obtain⟨i,j,rfl,rfl,q⟩:=h;obtain⟨t,rfl⟩:=a;obtain⟨t',rfl⟩:=Y;exact notIn_str (fq I q rfl)
theorem OpR.or(h:OpR X f r)(h':OpR X f r'):OpR X f (λx y H Q=>r x y H Q\/r' x y H Q):=by
 intro A4 s σ H x y v u Q I a Y q;rcases q with q|q
 ·exact h A4 s σ H x y v u Q I a Y q
 ·exact h' A4 s σ H x y v u Q I a Y q
theorem AW(b:GX)(h:(op≠.In)⁻¹)(h2:(op≠.NotIn)⁻¹):Ie op b=b_:=by
 have e1:(op==CmpOp.In)=b_:=by cases op<;>first|rfl|exact Gb rfl h
 have e2:(op==Ol)=b_:=by cases op<;>first|rfl|exact Gb rfl h2
 cases b<;>simp[Ie,e1,e2]
theorem pe_cmpR(e:OpR X (Gk op) r)(i:PE X a ta)(g:PE X b tb)(f:Ie op b=b_):PE X (.Compare a [op] [b] pos) (tOp r ta tb):=by intro A4 s σ H Q I h;exact wpAny_Compare1 (binT i g I h λv u Y x y H2 j d c q=>e A4 Y σ H2 x y v u Q j d c q) f
noncomputable def tTest(t:TE):TT:=λσ H Q=>t σ H λx H'=>∃k,x=.bl k/\Q k H'
theorem yV(m:OpR X (Gk op) r)(p:PE X a ta)(o:PE X b tb)(n:Ie op b=b_):PT X (.Compare a [op] [b] pos) (tTest (tOp r ta tb)):=by
 intro A4 s σ H Q I h;refine Np (Bs (p A4 s σ H _ I h) λv d ⟨x,H1,w,g,l⟩=>Bs (o A4 d σ H1 _ w l) λu Y ⟨y,H2,t,r2,j⟩=>Bs (m A4 Y σ H2 x y v u _ t g r2 j) λc B ⟨z,A,q,f,k,e,i⟩=>?_) n
 subst e;cases f;exact GY ⟨A,q,i⟩
noncomputable def Dz(r r':R2)(ta tb tc:TE):TE:=λσ H Q=>ta σ H λx H1=>tb σ H1 λy H2=>r x y H2 λz I=>∃k,z=.bl k /\
 (if k=d_ then tc σ I λY a=>r' y Y a Q else Q (.bl b_) I)
theorem pe_chain(D:OpR X (Gk op) r)(Y:OpR X (Gk op') r')(K:PE X a ta)(G:PE X b tb)(F:PE X c tc)(E:autoParam (KP [op,op'] [b,c]=b_) Jq7):PE X (.Compare a [op,op'] [b,c] pos) (Dz r r' ta tb tc):=by
 intro A4 s σ H Q I h;refine Compare_chain (Bs (K A4 s σ H _ I h) λv p ⟨x,H1,O,w,C⟩=>NU (Bs (G A4 p σ H1 _ O C) λu o ⟨y,H2,N,r2,B⟩=>Bs (D A4 o σ H2 x y v u _ N w r2 B) λd n ⟨z,i,g,t,k,e,f⟩=>?_)) E
 subst e;cases t;refine GY ?_;cases k with
 |false=>exact ite_ff ⟨.bl b_,i,g,rfl,f⟩|true=>exact ite_tt (chain_last (Bs (F A4 n σ i _ g f) λl m ⟨j,P,L,q,A⟩=>Y A4 m σ P y j u l Q L r2 q A))
theorem pt_chain(K:OpR X (Gk op) r)(f:OpR X (Gk op') r')(P:PE X a ta)(O:PE X b tb)(N:PE X c tc)(L:autoParam (KP [op,op'] [b,c]=b_) Jq7):PT X (.Compare a [op,op'] [b,c] pos) (tTest (Dz r r' ta tb tc)):=by
 intro A4 s σ H Q I h;refine isTrue_chain (Bs (P A4 s σ H _ I h) λv q ⟨x,H1,W,B,F⟩=>test_link (Bs (O A4 q σ H1 _ W F) λu p ⟨y,H2,U,r2,E⟩=>Bs (K A4 p σ H2 x y v u _ U B r2 E) λd o ⟨z,j,i,A,k,e,g⟩=>?_)) L
 subst e;cases A;refine GY ?_;cases k with
 |false=>obtain⟨k',R,G⟩:=g;cases R;exact ite_ff ⟨j,i,G⟩
 |true=>refine ite_tt (test_last (Bs (N A4 o σ j _ i g) λm n Y=>?_));obtain⟨l,H4,T,w,D⟩:=Y;refine Bs (f A4 n σ H4 y l u m _ T r2 w D) λd' s5 Y=>?_;obtain⟨z2,Z,S,t,k2,e2,C⟩:=Y;subst e2;cases t;exact GY ⟨Z,S,C⟩
def TruV(K:Pn)(x:V)(H:Hp)(k:Bool):Prop:=
 match x with
 |.non=>k=b_|.bl b=>k=b|.int i=>k=(i != 0)|.str y=>y.length<=f_/\k=((y.length:Int) != 0)|.byt y=>y.size<=f_/\k=((y.size:Int) != 0)|.ref p=>(∃xs,SqL K H p xs/\k= !xs.isEmpty)\/(∃xs,SqT K H p xs/\k= !xs.isEmpty)\/∃A7,H p=a_ (.dK A7)/\k= !A7.isEmpty
 |_=>False
theorem Cy{A7:List (κ×V)}{vs:List (κ×i_)}(r:KV A7 vs):(!vs.isEmpty)= !A7.isEmpty:=by cases r<;>rfl
theorem tm{xs:List V}{A8:List i_}(r:B' xs A8):(!A8.toArray.isEmpty)= !xs.isEmpty:=by cases r<;>simp
theorem qC:(f_:Nat)<2^63:=by rw[C_];decide
theorem tru_ok:TruR X (λx H Q=>∃k,TruV X.K x H k/\Q k H):=by
 intro A4 s σ H x v Q I c h;obtain⟨k,e,q⟩:=h;have n:=qC;have l:f_=16777216:=C_;cases x with
 |non=>cases c;have Y:k=b_:=e;subst Y;exact truthy_none ⟨H,I,q⟩|bl b=>cases c;have Y:k=b:=e;subst Y;exact GY ⟨H,I,q⟩|int i=>obtain⟨t,rfl⟩:=c;have Y:k=(i != 0):=e;subst Y;exact PySem.P.truthy_int ⟨H,I,q⟩
 |str y=>obtain⟨t,rfl⟩:=c;obtain⟨g,Y⟩:y.length<=f_/\k=((y.length:Int) != 0):=e;subst Y;exact PySem.P.truthy_str (by omega) ⟨H,I.tok _,q⟩
 |byt y=>obtain⟨t,rfl⟩:=c;obtain⟨g,Y⟩:y.size<=f_/\k=((y.size:Int) != 0):=e;subst Y;exact PySem.W.truthy_bytes (by omega) ⟨H,I.tok _,q⟩
 |ref p=>
  cases c;have Y:(∃xs,SqL X.K H p xs/\k= !xs.isEmpty)\/(∃xs,SqT X.K H p xs/\k= !xs.isEmpty)\/∃A7,H p=a_ (.dK A7)/\k= !A7.isEmpty:=e;rcases Y with⟨xs,d,Y⟩|⟨xs,d,Y⟩|⟨A7,d,Y⟩
  ·subst Y;obtain⟨A8,r,pl,f⟩:=I.list d;have a:=r.length;exact wpAny_truthy_list pl.isList (by simp only[A_];omega) ⟨H,I.tok _,by rw[tm r];exact q⟩
  ·subst Y;obtain⟨A8,r,pl,f⟩:=I.tuple d;have a:=r.length;exact truthy_tuple pl (by simp only[A_];omega) ⟨H,I.tok _,by rw[tm r];exact q⟩
  ·subst Y;obtain⟨f,j,vs,r,m⟩:A7.length<=f_/\(p==G6)=b_/\∃vs,KV A7 vs/\s.heap.DictOf (cT X.prog X.w) p vs:=I.hok p _ d;have a:A7.length=vs.length:=JM r;exact wpAny_truthy_dict j m (by omega) ⟨H,I.tok _,by rw[Cy r];exact q⟩
 |_=>exact(show False from e).elim
theorem pf(g:PE X a ta)(f:∀Y,Na a X.env Y=(do let v <- Y;Lg a.pos;JO [v] (truthy v))):
  PT X a (λσ H Q=>ta σ H λx H'=>∃k,TruV X.K x H' k/\Q k H'):=by
 intro A4 s σ H Q I h;refine isTrue_plain (Bs (g A4 s σ H _ I h) λv b e=>?_) (f _);obtain⟨x,H1,i,c,d⟩:=e;exact tru_ok A4 b σ H1 x v Q i c d
theorem BX:OpR X (HK .Add) (λx y H Q=>∃i j,x=.str i/\y=.str j/\i.length+j.length<=f_/\Q (.str (i++j)) H):=by intro A4 s σ H x y v u Q I a Y h;obtain⟨i,j,rfl,rfl,b,q⟩:=h;obtain⟨t,rfl⟩:=a;obtain⟨t',rfl⟩:=Y;exact add_str (λt' tk=>⟨.str (i++j),H,I.tok _,⟨_,rfl⟩,q⟩) b
theorem vals1{x:V}(r:B' [x] us):∃u,us=[u]/\A' x u:=by
 cases r with
 |cons I r2=>cases r2;exact⟨_,rfl,I⟩
theorem vals2{x:V}(r:B' [x,y] us):∃u I,us=[u,I]/\A' x u/\A' y I:=by
 cases r with
 |cons b r2=>
  cases r2 with
  |cons a Y=>cases Y;exact⟨_,_,rfl,b,a⟩
theorem FK(a:X.calm=d_):fW X (.builtin "min") (λxs H Q=>∃i j,xs=[.int i,.int j]/\Q (.int (if j<i then j else i)) H):=by
 intro A4 s σ H xs us Q I r h;obtain⟨i,j,rfl,q⟩:=h;obtain⟨u,b,rfl,⟨t,rfl⟩,⟨t',rfl⟩⟩:=vals2 r;refine min_two_ints (I.ok.hd a) λh' tk k=>⟨_,H,I.kept k,?_,q⟩
 by_cases Y:j<i
 ·rw[e_ Y,e_ Y];exact⟨_,rfl⟩
 ·rw[k_ Y,k_ Y];exact⟨_,rfl⟩
theorem FN:fW X (.type "int") (λxs H Q=>(∃i,xs=[.int i]/\Q (.int i) H)\/∃k,xs=[.bl k]/\Q (.int (if k then 1 else 0)) H):=by
 intro A4 s σ H xs us Q I r h;rcases h with⟨i,rfl,q⟩|⟨k,rfl,q⟩
 ·obtain⟨u,rfl,t,rfl⟩:=vals1 r;exact call_int_int ⟨.int i,H,I,⟨_,rfl⟩,q⟩
 ·obtain⟨u,rfl,Y⟩:=vals1 r;cases Y;exact call_int_bool ⟨.int (if k then 1 else 0),H,I.tok _,⟨_,rfl⟩,q⟩
theorem xT:fW X (.type "str") (λxs H Q=>∃i,xs=[.int i]/\i.natAbs.log2<1920/\Q (.str (toString i)) H):=by intro A4 s σ H xs us Q I r h;obtain⟨i,rfl,Y,q⟩:=h;obtain⟨u,rfl,t,rfl⟩:=vals1 r;exact PySem.P.str_of_int Y ⟨.str _,H,I.tok _,⟨_,rfl⟩,q⟩
end
structure ObjM(h:GQ)(x dx C:g_)(mA:Ld):Prop where
 obj:h.get? x=a_ (HQ C dx)
 ns:h.Ns1 dx mA
 ne:dx≠x
theorem qB(n:h.Ns1 dx mA):∃od,h.get? dx=a_ od/\∀name,JI name od=a_ (mA name):=by
 obtain⟨o,es,ep,b,hd,d,_,c⟩:=n;refine⟨o,b,λname=>?_⟩
 have e:=c name;unfold nsFind findBy at e;rw[<- MW]at e;unfold JI;rw[hd];dsimp only;split
 ·rename_i y q;rw[q]at e;exact HI a_ e
 ·rename_i q;rw[q]at e;have a:es.toList.any (·.refKey)=b_:=by
   rw[List.any_eq_false];intro y Y;obtain⟨z,t,I⟩:=d y (Array.mem_toList_iff.mp Y);simp[DictEntry.refKey,I]
  have f:¬es.toList.any (·.refKey)=d_:=by rw[a];exact GZ
  rw[k_ f];exact HI a_ e
theorem ObjM.look{x:g_}(I:ObjM h x dx C mA):∃od,HR h x (HQ C dx) C (a_ od)/\∀name,JI name od=a_ (mA name):=
 let ⟨od,Y,a⟩:=qB I.ns
 ⟨od,⟨I.obj,rfl,rfl,Y⟩,a⟩
section
variable{x f:g_}{v:i_}
theorem get_map{Y:Bool}{Q:Mq}(X:K.In s.heap)(I:ObjM s.heap x dx C mA)(c:Ll K C name=d_)(hh:ID K C=d_)(d:Gh K (.ref C) name=a_ c_)(hv:mA name=a_ v)(a:Lz v=d_)(h:Q v {s with toks:=s.toks+1}):
  Cb (D_ prog w) A (Nb (.ref x) name Y) Q E s:=by
 obtain⟨od,J,b⟩:=I.look;exact PySem.W.get_value X J (Ke c).1 (NH hh d rfl (by rw[b,hv])) a h
theorem get_meth{Q:i_×List i_->y_->Prop}(X:K.In s.heap)(I:ObjM s.heap x dx C mA)(Y:Ll K C name=d_)(c:Gh K (.ref C) name=a_ (a_ (.ref f)))(a:isFn K (.ref f)=d_)(hv:mA name=c_)(h:Q (.ref f,[.ref x]) s):
  Cb (D_ prog w) A (Lx (.ref x) name pl) Q E s:=by
 obtain⟨od,J,b⟩:=I.look;exact PySem.W.method_fn X J (Ke Y).1 (Ke Y).2 c (HU.mp a) (by show(JI name od).map (·.isSome)=a_ b_;rw[b,hv];rfl) h
theorem set_map{ns:List p_}(X:K.In s.heap)(I:ObjM s.heap x dx C mA)(k:Gh K (.ref C) "__setattr__"=a_ (a_ (.builtin "object.__setattr__")))(l:M3 K C=d_)(j:takerIn K C name=a_ c_)(hh:ID K C=d_)(hw:Jv mA ns)(hsz:ns.length<=f_)(h:∀h',ObjM h' x dx C (λy=>if y=name then a_ v else mA y)->Jz dx s.heap h'->Q () {s with heap:=h',toks:=s.toks+2}):
  Cb (D_ prog w) A (N_ (.ref x) name v) Q E s:=by
 obtain⟨od,J,q⟩:=I.look;refine Oc X J k (PySem.W.osa_open (s:={s with toks:=s.toks+1}) (r:=c_) X J l j λb=>?_);obtain⟨cd,m,f⟩:=LU hh;have i:s.heap.get? x=a_ ⟨.ref C,a_ dx,.plain,#[]⟩:=I.obj;refine h_ (z_ (h_ (h_ (Mc i (h_ (MR (s:={s with toks:=s.toks+1}) (LS X m) ?_))))));rw[f];refine z_ (a:=a_ dx) (h_ (z_ (h_ ?_)));refine wpAny_nsSet1 (s:={s with toks:=s.toks+1}) I.ns λh' c Y=>?_;obtain⟨p,n,o,d,e,g⟩:=c.count (MN name v hw);refine h_ (Ot d (by rw[e];exact Ow (Gw g (by rw[Gi];omega))) ?_);exact z_ (h _ ⟨(Y.2 _ (Gv I.ne)).trans I.obj,c,I.ne⟩ Y)
theorem make_map{R:Nh->y_->Prop}{vs:List i_}(X:K.In s.heap)(Y:Nf K C=d_)(hi:Gh K (.ref C) "__init__"=a_ (a_ (.ref f)))(a:K9 K (.ref f)=a_ (.type "function"))(h:Jm (D_ prog w) (A.under (.builtin "type.__call__" ⟨.ref C::vs,kw⟩)) (.call (.ref f) ⟨.ref (s.heap.objs.size+1)::vs,kw⟩) (PySem.W.InitBack (s.heap.objs.size+1) R)
   {s with heap:=(s.heap.push G0).push (HQ C s.heap.objs.size)}):
  Jm (D_ prog w) A (.call (.ref C) ⟨vs,kw⟩) R s:=by
 obtain⟨hh,g,d,t,os⟩:=s;exact PySem.W.make_core (PySem.W.makes_of X Y) (IX X hi) (λI=>PySem.W.bind_fn X I a) (.inl rfl) h
end
noncomputable def sU(f:p_)(v:V):List (p_×V)->List (p_×V)
 |[]=>[(f,v)]|(g,x)::r=>if g=f then(g,v)::r else(g,x)::sU f v r
theorem qA(f g:p_)(v:V):∀fs:List (p_×V),(sU f v fs).lookup g=if g=f then a_ v else fs.lookup g
 |[]=>by
  show GH g [(f,v)]=_;by_cases h:g=f
  ·have I:(g==f)=d_:=HU.mpr h;simp only[GH,I,e_ h]
  ·have I:(g==f)=b_:=HC.mpr h;simp only[GH,I,k_ h]
 |(k,x)::r=>by
  have a:=qA f g v r;rw[show sU f v ((k,x)::r)=(if k=f then(k,v)::r else(k,x)::sU f v r)from rfl];by_cases Y:k=f
  ·rw[e_ Y];by_cases h:g=k
   ·have I:(g==k)=d_:=HU.mpr h;simp only[GH,I,e_ (h.trans Y)]
   ·have I:(g==k)=b_:=HC.mpr h;simp only[GH,I,k_ (λe:g=f=>h (e.trans Y.symm))]
  ·rw[k_ Y];by_cases h:g=k
   ·have I:(g==k)=d_:=HU.mpr h;simp only[GH,I,k_ (λe:g=f=>Y (h.symm.trans e))]
   ·have I:(g==k)=b_:=HC.mpr h;simp only[GH,I];exact a
theorem qE(f:p_)(v:V):∀fs:List (p_×V),f∈(sU f v fs).map (·.1)/\∀g,g∈fs.map (·.1)->g∈(sU f v fs).map (·.1)
 |[]=>⟨by simp[sU],λg h=>by simp at h⟩|(k,x)::r=>by
  obtain⟨a,Y⟩:=qE f v r;rw[show sU f v ((k,x)::r)=(if k=f then(k,v)::r else(k,x)::sU f v r)from rfl];by_cases I:k=f
  ·rw[e_ I];subst I;exact⟨by simp,λg h=>by simpa using h⟩
  ·rw[k_ I];refine⟨?_,λg h=>?_⟩
   ·rw[F_];exact Ga _ a
   ·rw[F_]at h ⊢;rcases t_.mp h with e|e
    ·exact t_.mpr (.inl e)
    ·exact Ga _ (Y g e)
theorem qD(f:p_)(v:V):∀fs:List (p_×V),(sU f v fs).length<=fs.length+1
 |[]=>by simp[sU]|(k,x)::r=>by
  have Y:=qD f v r;rw[show sU f v ((k,x)::r)=(if k=f then(k,v)::r else(k,x)::sU f v r)from rfl];by_cases I:k=f
  ·rw[e_ I,Gi,Gi];omega
  ·rw[k_ I,Gi,Gi];omega
theorem p8.some_of{o:Option i_}(r:p8 (a_ v) o):∃u,o=a_ u/\A' v u:=by
 cases o with
 |none=>exact(show False from r).elim|some u=>exact⟨u,rfl,r⟩
theorem p8.none_of{o:Option i_}(r:p8 c_ o):o=c_:=by
 cases o with
 |none=>rfl|some u=>exact(show False from r).elim
theorem qL(r:A' v u):Lz u=d_:=by
 cases v with
 |non=>cases(show u=Io from r);rfl|bl b=>cases(show u=Lm b from r);rfl|int i=>obtain⟨t,e⟩:=(show ∃t,u=G2 i t from r);cases e;rfl
 |str x=>obtain⟨t,e⟩:=(show ∃t,u=Hu x t from r);cases e;rfl
 |byt b=>obtain⟨t,e⟩:=(show ∃t,u=Od b t from r);cases e;rfl
 |flt b=>obtain⟨t,e⟩:=(show ∃t,u=Mj b t from r);cases e;rfl
 |ref a=>cases(show u=FZ a from r);rfl|ty n=>cases(show u=IJ n from r);rfl
section
variable{fs:List (p_×V)}
theorem uQ(I:HOk P w H h)(e:H a=a_ (.ins C dx fs)):∃mA,ObjM h a dx C mA/\(∀f,p8 (fs.lookup f) (mA f))/\Jv mA (fs.map (·.1))/\fs.length<=1000/\H dx=a_ (.own a):=by
 obtain⟨d,z,b,Y,mA,n,r,q⟩:=(show cN P w H h a (.ins C dx fs)from I a _ e)
 exact⟨mA,⟨Y,n,b⟩,r,q,z,d⟩
end
structure Cls(K:Pn)(C:g_):Prop where
 pg:Ll K C Ii=d_
 hd:ID K C=d_
 po:M3 K C=d_
 sa:Gh K (.ref C) "__setattr__"=a_ (a_ (.builtin "object.__setattr__"))
theorem Cls.get(c:Cls K C)(f:p_):Ll K C f=d_:=c.pg
def bq(K:Pn)(C:g_)(f:p_):Prop:=Gh K (.ref C) f=a_ c_
theorem bq.taker{f:p_}(n:bq K C f):takerIn K C f=a_ c_:=by unfold takerIn;rw[show Gh K (.ref C) f=a_ c_ from n];rfl
structure Meth(K:Pn)(C:g_)(m:p_)(f:g_):Prop where
 at_:Gh K (.ref C) m=a_ (a_ (.ref f))
 fn:isFn K (.ref f)=d_
 kp:HW K (.ref f)=d_
section
variable{fs:List (p_×V)}{f:p_}
theorem CA{b:Bool}{Q:Mq}(I:A6 X A4 σ H s)(e:H a=a_ (.ins C dx fs))(c:Cls X.K C)(n:bq X.K C f)(l:fs.lookup f=a_ v)(h:∀u s',A6 X A4 σ H s'->A' v u->Q u s'):Cb (D_ X.prog X.w) A (Nb (.ref a) f b) Q E s:=by obtain⟨mA,O,r,_,_,_⟩:=uQ I.hok e;obtain⟨u,d,Y⟩:=p8.some_of (v:=v) (o:=mA f) (by rw[<- l];exact r f);exact get_map I.kIn O (c.get f) c.hd n d (qL Y) (h u _ (I.tok _) Y)
theorem Cz{g:g_}{Q:i_×List i_->y_->Prop}(I:A6 X A4 σ H s)(e:H a=a_ (.ins C dx fs))(c:Cls X.K C)(k:Meth X.K C m g)(l:fs.lookup m=c_)(h:Q (.ref g,[.ref a]) s):Cb (D_ X.prog X.w) A (Lx (.ref a) m pl) Q E s:=by obtain⟨mA,O,r,_,_,_⟩:=uQ I.hok e;have Y:mA m=c_:=p8.none_of (by rw[<- l];exact r m);exact get_meth I.kIn O (c.get m) k.at_ k.fn Y h
theorem BB(I:A6 X A4 σ H s)(e:H a=a_ (.ins C dx fs))(c:Cls X.K C)(n:bq X.K C f)(p:fs.length<1000)(i:A' y u)(h:∀s',A6 X A4 σ (upd H a (.ins C dx (sU f y fs))) s'->Q () s'):Cb (D_ X.prog X.w) A (N_ (.ref a) f u) Q E s:=by
 obtain⟨mA,O,r,wi,_,Y⟩:=uQ I.hok e;have j:(fs.map (·.1)).length<=f_:=by rw[u_,C_];omega
 refine set_map I.kIn O c.sa c.po n.taker c.hd wi j λh' O' d=>h _ ?_;have hd:∃o,h'.get? dx=a_ o:=let ⟨o,_,_,m,_⟩:=O'.ns;⟨o,m⟩;refine I.write (x:=a) (e:=dx) (by rw[e];exact G7) (.inr Y) (λb q l z=>(d.2 b l).trans z) hd ?_;refine⟨by rw[aw O.ne];exact Y,?_,O.ne,O'.obj,_,O'.ns,λg=>?_,λg k=>?_⟩
 ·have:=qD f y fs;omega
 ·show p8 ((sU f y fs).lookup g) (if g=f then a_ u else mA g);rw[qA];by_cases q:g=f
  ·rw[e_ q,e_ q];exact i
  ·rw[k_ q,k_ q];exact r g
 ·by_cases q:g=f
  ·rw[q];exact(qE f y fs).1
  ·refine(qE f y fs).2 g (wi g λz=>k ?_);show(if g=f then a_ u else mA g)=c_;rw[k_ q];exact z
theorem A6.made(I:A6 X A4 σ H s):A6 X A4 σ (upd (upd H s.heap.objs.size (.own (s.heap.objs.size+1))) (s.heap.objs.size+1) (.ins C s.heap.objs.size []))
  {s with heap:=(s.heap.push G0).push (HQ C s.heap.objs.size)}:=by
 have e1:(s.heap.push G0).get? s.heap.objs.size=a_ G0:=E_ s.heap rfl;have e2:((s.heap.push G0).push (HQ C s.heap.objs.size)).get? (s.heap.objs.size+1)=a_ (HQ C s.heap.objs.size):=by
  have:=E_ (s.heap.push G0) (o:=HQ C s.heap.objs.size) rfl
  rwa [Hm]at this
 have e3:(s.heap.push G0).Ns s.heap.objs.size (λ_=>c_):=⟨G0,#[],_,e1,rfl,(λe d=>Gb d (by simp)),λ_=>rfl⟩
 have f:=I.laid (a:=s.heap.objs.size) (o:=.own (s.heap.objs.size+1)) (h':=s.heap.push G0) (t':=s.toks) (λb u q=>n_ _ q) (sy _) ⟨_,e1⟩;refine f.laid (a:=s.heap.objs.size+1) (o:=.ins C s.heap.objs.size []) (t':=s.toks) (λb u q=>n_ _ q) (OI (Hm _ _)) ?_;have Y:s.heap.objs.size≠s.heap.objs.size+1:=Gs (IS _);refine⟨by rw[aw Y,aq],GS _,Y,e2,λ_=>c_,(Mm e3).at λo q=>n_ _ q,λ_=>G7,λy c=>Gb rfl c⟩
theorem Ae{env:KS}{f:p_}{Q:Mq}(Y:Ha e f env (Gj e env)=Gj e env)(h:Cb (D_ prog w) A (Gj e env) (λo I=>Cb (D_ prog w) A (Nb o f d_) Q E I) E s):Cb (D_ prog w) A (Gj (.Attribute e f pos) env) Q E s:=
 Attribute_any_ h (by rw[arm_eval_Attribute,Y])
end
def uc(K:Pn)(ta:TE)(f:p_):TE:=λσ H Q=>ta σ H λx H1=>∃a C dx fs v,x=.ref a/\H1 a=a_ (.ins C dx fs)/\Cls K C/\bq K C f/\fs.lookup f=a_ v/\Q v H1
def Az(K:Pn)(ta tv:TE)(f:p_):TS:=λD σ H=>tv σ H λy H1=>ta σ H1 λx H2=>∃a C dx fs,x=.ref a/\H2 a=a_ (.ins C dx fs)/\Cls K C/\bq K C f/\fs.length<1000 /\
 D.nx σ (upd H2 a (.ins C dx (sU f y fs)))
section
variable{o value:GX}{f:p_}{tv:TE}
theorem ia(g:PE X e ta)(i:Ha e f X.env (Gj e X.env)=Gj e X.env):PE X (.Attribute e f pos) (uc X.K ta f):=by intro A4 s σ H Q I h;refine Ae i (Bs (g A4 s σ H _ I h) λu r d=>?_);obtain⟨x,H1,m,Y,a,C,dx,fs,v,ex,j,c,n,l,q⟩:=d;subst ex;obtain rfl:u=FZ a:=Y;exact CA m j c n l λo p k b=>⟨v,H1,k,b,q⟩
theorem iJ(k:PE X o ta)(hv:PE X value tv)(j:Hr value (a_ (.Attribute o f pos')) pos.line X.env=Hq b_):PS X (.Assign [.Attribute o f pos'] value pos) (Az X.K ta tv f):=by intro A4 s σ H D I h;refine Lq (Bs (hv A4 s σ H _ I h) λu b Y=>?_) j;obtain⟨y,H1,t,d,q⟩:=Y;refine Bs (k A4 b σ H1 _ t q) λi w Y=>?_;obtain⟨x,H2,r,e,a,C,dx,fs,ex,m,c,n,l,g⟩:=Y;subst ex;obtain rfl:i=FZ a:=e;exact BB r m c n l d λv p=>⟨σ,_,p,g⟩
end
section
variable{Q:Mq}{c:i_}{b:Bool}
inductive D3(K:Pn)(H:Hp):V->i_->Prop where
 |non:D3 K H .non (.type "NoneType")
 |bl (x:Bool):D3 K H (.bl x) (.type "bool")
 |int (i:Int):D3 K H (.int i) (.type "int")
 |str (x:p_):D3 K H (.str x) (.type "str")
 |flt (x:UInt64):D3 K H (.flt x) (.type "float")
 |lst {a:g_} {xs:List V} (e:H a=a_ (.lst xs)):D3 K H (.ref a) (.type "list")
 |frz {a:g_} {o:J_} {xs:List V} (e:H a=a_ (.frz o (.lst xs))):D3 K H (.ref a) (.type "list")
 |tup {a:g_} {xs:List V} (e:H a=a_ (.tup xs)):D3 K H (.ref a) (.type "tuple")
 |dK {a:g_} {A7:List (Key×V)} (e:H a=a_ (.dK A7)):D3 K H (.ref a) (.type "dict")
 |dT {a:g_} {A7:List (List Key×V)} (e:H a=a_ (.dT A7)):D3 K H (.ref a) (.type "dict")
 |ins {a C dx:g_} {fs:List (p_×V)} (e:H a=a_ (.ins C dx fs)) (cl:Cls K C) (ha:Gh K (.ref C) "__class__"=a_ (a_ (.builtin "object.__class__")))
   (hn:KR K (.builtin "object.__class__") "__get__"=a_ (a_ (.builtin "getset_descriptor.__get__"))) (htk:Ob K (.builtin "object.__class__")=a_ d_)
   (hm:Iv K C (.type "object")=a_ d_):D3 K H (.ref a) (.ref C)
theorem EM{x:V}{t:i_}(I:A6 X A4 σ H s)(Y:A' x u)(ty:D3 X.K H x t)(e:GL X.K t c=a_ b)(h:∀tk,Q (.bool b) {s with toks:=tk}):
  Cb (D_ X.prog X.w) A (Jn (.builtin "isinstance") [u,c]) Q E s:=by
 cases ty with
 |non=>cases(show u=Io from Y);exact Iq Mt I.kIn G7 e (λz=>nomatch z) h
 |bl y=>cases(show u=Lm y from Y);exact Iq Mv I.kIn G7 e (λz=>nomatch z) h
 |int i=>obtain⟨t,q⟩:=(show ∃t,u=G2 i t from Y);cases q;exact Iq MP I.kIn G7 e (λz=>nomatch z) h
 |str y=>obtain⟨t,q⟩:=(show ∃t,u=Hu y t from Y);cases q;exact Iq MO I.kIn G7 e (λz=>nomatch z) h
 |flt y=>obtain⟨t,q⟩:=(show ∃t,u=Mj y t from Y);cases q;exact Iq PySem.W.kitx_float I.kIn G7 e (λz=>nomatch z) h
 |@lst a xs d=>
  cases(show u=FZ a from Y);obtain⟨_,_,n,_,h1⟩:=(show cN X.prog X.w H s.heap a (.lst xs)from I.hok a _ d)
  exact Iq Kv I.kIn ⟨_,h1,rfl⟩ e (λz=>nomatch z) h
 |@frz a j xs d=>
  cases(show u=FZ a from Y);obtain⟨_,_,_,n,_,h1⟩:=(show cN X.prog X.w H s.heap a (.frz j (.lst xs))from I.hok a _ d)
  exact Iq Kv I.kIn ⟨_,h1,rfl⟩ e (λz=>nomatch z) h
 |@tup a xs d=>
  cases(show u=FZ a from Y);obtain⟨_,_,_,p⟩:=(show cN X.prog X.w H s.heap a (.tup xs)from I.hok a _ d)
  obtain⟨o,h1,h2,_⟩:=p;exact Iq Mg I.kIn ⟨o,h1,h2⟩ e (λz=>nomatch z) h
 |@dK a A7 d=>
  cases(show u=FZ a from Y);obtain⟨_,_,vs,_,p⟩:=(show cN X.prog X.w H s.heap a (.dK A7)from I.hok a _ d)
  obtain⟨o,es,ep,h1,h2,_⟩:=p;exact Iq Mu I.kIn ⟨o,h1,h2.1⟩ e (λz=>nomatch z) h
 |@dT a A7 d=>
  cases(show u=FZ a from Y);obtain⟨_,_,xs,_,o,es,ep,h1,h2,_⟩:=(show cN X.prog X.w H s.heap a (.dT A7)from I.hok a _ d)
  exact Iq Mu I.kIn ⟨o,h1,h2.1⟩ e (λz=>nomatch z) h
 |@ins a C dx fs d g m k f l=>cases(show u=FZ a from Y);obtain⟨mA,O,_⟩:=uQ I.hok d;obtain⟨od,J,_⟩:=O.look;exact Iq (PySem.W.kitx_own (g.get _) g.hd m k f l) I.kIn J e (λz=>nomatch z) h
end
structure i5(k:Nat)(A:Iy):Prop where
 hd:A.handled=c_
 dp:A.depth+3*k+5<recursionLimit
 un:A.units+16*k+200<Hw
theorem i5.mono{j k:Nat}(r:i5 k A)(h:j<=k):i5 j A:=⟨r.hd,by have:=r.dp;omega,by have:=r.un;omega⟩
theorem i5.deeper{k:Nat}{A:Iy}(r:i5 (k+1) A)(env:KS):i5 k (A.deeper env):=
 ⟨r.hd,by have:=r.dp;show A.depth+1+3*k+5<_;omega,by have:=r.un;show A.units+3+16*k+200<_;omega⟩
theorem Cf:(A.under (.builtin "type.__call__" ⟨.ref C::us,kw⟩)).depth=A.depth+1:=by first|rfl|simp[Around.under,Code.weight,Code.isCreation,Code.isGuard,Code.isCaller,Code.frames,Code.isFrame,guardIds]
theorem Ce:(A.under (.builtin "type.__call__" ⟨.ref C::us,kw⟩)).units=A.units+1:=by first|rfl|simp[Around.under,Code.cUnits,Code.frames,Code.isFrame]
theorem i5.make{k:Nat}(r:i5 (k+1) A)(C:g_)(us:List i_)(kw:List (p_×i_)):i5 k (A.under (.builtin "type.__call__" ⟨.ref C::us,kw⟩)):=
 ⟨r.hd,by have:=r.dp;rw[Cf];omega,by have:=r.un;rw[Ce];omega⟩
theorem i5.depth{k:Nat}{A:Iy}(r:i5 k A):A.depth<recursionLimit:=by have:=r.dp;omega
theorem i5.units{k:Nat}{A:Iy}(r:i5 k A):A.units+64<Hw:=by have:=r.un;omega
noncomputable def dP:TA:=λ_ H Q=>Q [] H
def aR(ta:TE)(I:TA):TA:=λσ H Q=>ta σ H λx H1=>I σ H1 λxs H2=>Q (x::xs) H2
section
variable{t:TA}
theorem aO:PA X [] dP:=λ_ _ _ _ H Q I h=>JN ⟨[],H,I,.nil,h⟩
theorem ax(i:PE X e te)(g:PA X es t)(f: ~~~(iF (e::es) X.env=(b_,Gj e X.env)::iF es X.env)):PA X (e::es) (aR te t):=by intro pos A4 s σ H Q I h;rw[f];show Cb _ _ (N7 ((b_,Gj e X.env)::GG pos (iF es X.env))) _ _ s;refine Ip (Bs (i A4 s σ H _ I h) λu a Y=>?_);obtain⟨x,H1,k,b,d⟩:=Y;refine Bs (g pos A4 a σ H1 _ k d) λus l Y=>?_;obtain⟨xs,H2,j,r2,c⟩:=Y;exact⟨x::xs,H2,j,.cons b r2,c⟩
def tTup(t:TA):TE:=λσ H Q=>t σ H λxs H1=>xs.length<=f_/\∀p,H1 p=c_->Q (.ref p) (upd H1 p (.tup xs))
def Ar(t:TA):TE:=λσ H Q=>t σ H λxs H1=>xs.length<=f_/\∀p,H1 p=c_->Q (.ref p) (upd H1 p (.lst xs))
theorem wM{c}(h:PA X es t):PE X (.Tuple es c pos) (tTup t):=by
 intro A4 s σ H Q I d;refine wpAny_Tuple_spliced (Bs (h pos A4 s σ H _ I d) λus Y f=>?_);obtain⟨xs,H1,a,r,z,q⟩:=f;refine⟨by rw[<- r.length];exact z,?_⟩
 have g:H1 Y.heap.objs.size=c_:=a.hok.fresh (sy _);refine⟨.ref Y.heap.objs.size,upd H1 Y.heap.objs.size (.tup xs),a.laid (t':=Y.toks) (λb u e=>n_ _ e) (sy _) ?_,rfl,q _ g⟩
 exact⟨z,us,r,⟨_,E_ _ rfl,rfl,_,rfl⟩⟩
theorem jG(h:PA X es t):PE X (.List es pos) (Ar t):=by
 intro A4 s σ H Q I c;refine NM (Bs (h pos A4 s σ H _ I c) λus Y d=>?_);obtain⟨xs,H1,a,r,z,q⟩:=d;refine⟨by rw[<- r.length];exact z,?_⟩
 have f:H1 Y.heap.objs.size=c_:=a.hok.fresh (sy _);refine⟨.ref Y.heap.objs.size,upd H1 Y.heap.objs.size (.lst xs),a.laid (t':=Y.toks) (λb u e=>n_ _ e) (sy _) ?_,rfl,q _ f⟩
 exact⟨z,us,0,r,E_ _ rfl⟩
end
abbrev Sp:=List V->Hp->VK->XK->Prop
variable{sp:Sp}
abbrev CXT:=List KS->Hp->y_->XK->Mq
variable{CX:CXT}
structure Env0(P:GO)(w:Hg)(K:Pn)(mg:Ld)(base:GQ)(A:Iy)(outer:List KS)(s:y_)(H:Hp):Prop where
 frames:A.frames=a_ outer
 mod:Mod K mg base
 bs:∀b o,base.get? b=a_ o->s.heap.get? b=a_ o/\H b=c_
 bsz:base.objs.size<=s.heap.objs.size
 xt:s.heap.FunFrames base outer
 frf:∀b∈frs outer,H b=c_
 hok:HOk P w H s.heap
 bare:J8 s.gens
def CE(outer:List KS)(P:GO)(w:Hg)(H:Hp)(s:y_)(Q:VK)(u:i_)(s':y_):Prop:=
 ∃v H',s'.os=s.os/\J8 s'.gens/\Un (frs outer) [] H H' s.heap s'.heap/\HOk P w H' s'.heap/\A' v u/\Q v H'
def CR(CX:CXT)(outer:List KS)(P:GO)(w:Hg)(H:Hp)(s:y_)(Q:VK)(E:XK)(r:Nh)(s':y_):Prop:=
 match r with
 |.ok (.ret u)=>CE outer P w H s Q u s'|.ok _=>False|.error e=>CX outer H s E e s'
structure i6(P:GO)(w:Hg)(K:Pn)(mg:Ld)(base:GQ)(CX:CXT)(k:Nat)(f:g_)(fd:HL)(ps:List p_)(sp:Sp):Prop where
 len:∀vs H Q E,sp vs H Q E->vs.length=ps.length
 run:∀(A:Iy) (outer:List KS) (s:y_) (H:Hp) (args:Args) (us:List i_) (vs:List V) (Q:VK) (E:XK),i5 k A->Env0 P w K mg base A outer s H->KU s fd args (ps.zip us)->B' vs us->sp vs H Q E ->
  Jm (D_ P w) A (.call (.ref f) args) (CR CX outer P w H s Q E) s
theorem Env0.make{base:GQ}(e:Env0 P w K mg base A outer s H)(C:g_)(us:List i_)(kw:List (p_×i_)):
  Env0 P w K mg base (A.under (.builtin "type.__call__" ⟨.ref C::us,kw⟩)) outer s H:=⟨by first|exact e.frames|(simpa[Around.under,Code.envs,Code.isFrame,pushEnvs] using e.frames),e.mod,e.bs,e.bsz,e.xt,e.frf,e.hok,e.bare⟩
theorem A6.env0(I:A6 X A4 σ H s):Env0 X.prog X.w X.K X.mg X.base X.A X.stack s H:=
 ⟨I.ok.frames,I.ok.mod,I.bs,Gw I.ok.bsz I.sz,I.stack,I.DD,I.hok,I.bare⟩
theorem A6.after{Q:VK}(I:A6 X A4 σ H s)(h:CE X.stack X.prog X.w H s Q u s'):EP X A4 σ Q u s':=by obtain⟨v,H',os,Y,e,c,r,q⟩:=h;obtain⟨hh,g,d,t,a⟩:=s';obtain rfl:a=s.os:=os;exact⟨v,H',I.call (h':=hh) (g':=g) (d':=d) (t':=t) (ch:=[]) e c Y (λb z=>Gb z (by simp)),r,q⟩
noncomputable def gS(sp:Sp)(dvs:List V)(E:XK)(t:TA):TE:=λσ H Q=>t σ H λvs H1=>sp (vs++dvs) H1 Q E
def tMeth(C:g_)(m:p_)(sp:Sp)(dvs:List V)(E:XK)(ta:TE)(t:TA):TE:=λσ H Q=>ta σ H λx H1=>∃a dx fs,x=.ref a/\H1 a=a_ (.ins C dx fs)/\fs.lookup m=c_ /\
 t σ H1 λvs H2=>sp (x::(vs++dvs)) H2 Q E
def tMake(C:g_)(sp:Sp)(dvs:List V)(E:XK)(t:TA):TE:=λσ H Q=>t σ H λvs H1=>∀x dx,H1 x=c_->H1 dx=c_->dx≠x ->
 sp (.ref x::(vs++dvs)) (upd (upd H1 dx (.own x)) x (.ins C dx [])) (λv H2=>v=.non/\Q (.ref x) H2) E
def Binds(K:Pn)(fd:HL)(ps:List p_)(ds:List i_):Prop:=
 ∀(s:y_) (us:List i_),K.In s.heap->(us++ds).length=ps.length->KU s fd ⟨us,[]⟩ (ps.zip (us++ds))
theorem Binds.all{ps:List p_}(h:∀us:List i_,us.length=ps.length->KH fd ⟨us,[]⟩=Hq (ps.zip us)):Binds K fd ps []:=λs us _ I=>by rw[IB]at I ⊢;exact .of_eq (h us I)
def Passes(CX:CXT)(X:Cx)(E:XK):Prop:=∀(A4:Vp) (σ:St) (H:Hp) (s:y_) (e:i_) (s':y_),A6 X A4 σ H s->CX X.stack H s E e s'->X.xe e s'
section
variable{k:Nat}{f:g_}{ps:List p_}{dvs:List V}{ds:List i_}{E:XK}{apos:Of}{o:GX}{t:TA}
theorem DN{Q:VK}(F:i6 X.prog X.w X.K X.mg X.base CX k f fd ps sp)(b:i5 k X.A)(d:Binds X.K fd ps ds)(hd:B' dvs ds)(a:Passes CX X E)(I:A6 X A4 σ H s)(r:B' vs us)(h:sp (vs++dvs) H Q E):Cb (D_ X.prog X.w) X.A (Jn (.ref f) us) (EP X A4 σ Q) X.xe s:=by
 have r2:B' (vs++dvs) (us++ds):=r.append hd;have c:(us++ds).length=ps.length:=by rw[<- r2.length];exact F.len _ _ _ _ h
 refine Kk (HY (F.run X.A X.stack s H ⟨us,[]⟩ (us++ds) (vs++dvs) Q E b I.env0 (d s us I.kIn c) r2 h) λr s' Y=>?_);cases r with
 |error e=>exact a A4 σ H s e s' I Y|ok fl=>
  cases fl with
  |ret u=>exact I.after Y|next=>exact Gy Y|brk=>exact Gy Y|cont=>exact Gy Y
theorem qj(F:i6 X.prog X.w X.K X.mg X.base CX k f fd ps sp)(d:i5 k X.A)(l:Gl X x)(i:X.mg x=a_ (.ref f))(j:HW X.K (.ref f)=d_)(n:Binds X.K fd ps ds)(hd:B' dvs ds)(c:Passes CX X E)(o:PA X (e::es) t)(a:((x==("__debug__":p_))=b_)⁻¹)(m: ~~~(iF (e::es) X.env=(b_,Gj e X.env)::iF es X.env))(Y: ~~~((GG pos (iF es X.env)).any (·.1)=b_)):
  PE X (.Call (.Name x p) (e::es) [] pos) (gS sp dvs E t):=by
 intro A4 s σ H Q I h;refine Hk (j5 I l i ?_ a);refine Km (h₀:=X.base) I.ok.mod.kin j (Bs (o pos A4 s σ H _ I h) λus u g=>?_) m Y;obtain⟨vs,H1,b,r,q⟩:=g;refine⟨b.kIn,?_⟩
 exact DN F d n hd c b r q
theorem pe_meth0(p:PE X o ta)(c:Cls X.K C)(d:Meth X.K C m f)(F:i6 X.prog X.w X.K X.mg X.base CX k f fd ps sp)(j:i5 k X.A)(r:Binds X.K fd ps ds)(hd:B' dvs ds)(g:Passes CX X E)(i: ~~~(Gj (.Call (.Attribute o m apos) [] [] pos) X.env=(do
   let b <- Gj o X.env
   Lg apos.atName
   let (f,first) <- JO [b] (Lx b m pl)
   Mf pos f first (GG pos (iF [] X.env)) (HZ pos (Hi [] X.env))))):
  PE X (.Call (.Attribute o m apos) [] [] pos) (tMeth C m sp dvs E ta dP):=by
 intro A4 s σ H Q I h;refine LJ (pl:=pl) (Bs (p A4 s σ H _ I h) λu v n=>?_) i;obtain⟨x,H1,Y,e,a,dx,fs,ex,t,l,q⟩:=n;subst ex;obtain rfl:u=FZ a:=e;refine Cz Y t c d l ?_;exact L8 (first:=[.ref a]) Y.kIn d.kp (DN (us:=[.ref a]) (vs:=[.ref a]) F j r hd g Y (.cons rfl .nil) q)
structure Mk(K:Pn)(C f:g_):Prop where
 makes:Nf K C=d_
 init:Gh K (.ref C) "__init__"=a_ (a_ (.ref f))
 fn:isFn K (.ref f)=d_
 kp:HW K (.ref C)=d_
theorem AA{Q:VK}(M:Mk X.K C f)(F:i6 X.prog X.w X.K X.mg X.base CX k f fd ps sp)(i:i5 (k+1) X.A)(l:Binds X.K fd ps ds)(hd:B' dvs ds)(g:Passes CX X E)(I:A6 X A4 σ H s)(r:B' vs us)(h:∀x dx,H x=c_->H dx=c_->dx≠x->sp (.ref x::(vs++dvs)) (upd (upd H dx (.own x)) x (.ins C dx [])) (λv H2=>v=.non/\Q (.ref x) H2) E):
  Cb (D_ X.prog X.w) X.A (Jn (.ref C) us) (EP X A4 σ Q) X.xe s:=by
 have b:=h (s.heap.objs.size+1) s.heap.objs.size (I.hok.fresh (GC _)) (I.hok.fresh (sy _)) (Gs (IS _));have a:=A6.made (C:=C) I;have r2:B' (V.ref (s.heap.objs.size+1)::(vs++dvs)) (FZ (s.heap.objs.size+1)::(us++ds)):=.cons rfl (r.append hd);have j:(FZ (s.heap.objs.size+1)::us++ds).length=ps.length:=by have e:=r2.length;rw[F.len _ _ _ _ b]at e;exact e.symm
 refine Kk (make_map (f:=f) I.kIn M.makes M.init (HU.mp M.fn) (HY (F.run _ X.stack _ _ ⟨FZ (s.heap.objs.size+1)::us,[]⟩ (FZ (s.heap.objs.size+1)::(us++ds)) _ _ E (i.make C us [])
  (a.env0.make C us []) (l _ (FZ (s.heap.objs.size+1)::us) a.kIn j) r2 b) λr s' Y=>?_))
 cases r with
 |error e=>exact g A4 σ _ _ e s' a Y|ok fl=>
  cases fl with
  |ret u=>obtain⟨v,H',n,c,m,d⟩:=a.after Y;subst m;exact⟨c,⟨V.ref (s.heap.objs.size+1),H',n,rfl,d⟩⟩
  |next=>exact Gy Y|brk=>exact Gy Y|cont=>exact Gy Y
theorem yZ(M:Mk X.K C f)(F:i6 X.prog X.w X.K X.mg X.base CX k f fd ps sp)(d:i5 (k+1) X.A)(j:Gl X x)(i:X.mg x=a_ (.ref C))(m:Binds X.K fd ps ds)(hd:B' dvs ds)(c:Passes CX X E)(n:PA X (e::es) t)(a:((x==("__debug__":p_))=b_)⁻¹)(l: ~~~(iF (e::es) X.env=(b_,Gj e X.env)::iF es X.env))(Y: ~~~((GG pos (iF es X.env)).any (·.1)=b_)):
  PE X (.Call (.Name x p) (e::es) [] pos) (tMake C sp dvs E t):=by
 intro A4 s σ H Q I h;refine Hk (j5 I j i ?_ a);refine Km (h₀:=X.base) I.ok.mod.kin M.kp (Bs (n pos A4 s σ H _ I h) λus o g=>?_) l Y;obtain⟨vs,H1,b,r,q⟩:=g;refine⟨b.kIn,?_⟩
 exact AA M F d m hd c b r q
theorem pe_make0(M:Mk X.K C f)(F:i6 X.prog X.w X.K X.mg X.base CX k f fd ps sp)(b:i5 (k+1) X.A)(d:Gl X x)(c:X.mg x=a_ (.ref C))(e:Binds X.K fd ps ds)(hd:B' dvs ds)(a:Passes CX X E)(Y:((x==("__debug__":p_))=b_)⁻¹):PE X (.Call (.Name x p) [] [] pos) (tMake C sp dvs E dP):=by intro A4 s σ H Q I h;refine Hk (j5 I d c ?_ Y);exact L8 I.kIn M.kp (AA (us:=[]) M F b e hd a I .nil h)
end
structure gr(N P:List p_)(sc:Ln):Prop where
 kind:sc.kind=.function
 co:sc.isCoroutine=b_
 gen:sc.isGenerator=b_
 nd:N.Nodup
 pre:N.take P.length=P
 par:∀x∈P,sc.names.lookup x=a_ .local\/sc.names.lookup x=a_ .cell
 nofree:∀y∈sc.names,y.2≠.free
theorem xX{Y:p_->Option IK}{x:p_}:∀{I:List (p_×i_)} {m:Ld},(∀v,(x,v)∉I)->MZ Y I m x=m x
 |[],_,_=>rfl|(n,v)::r,m,h=>by
  unfold MZ;rw[xX λw hw=>h w (Ga _ hw)];split
  ·have:x≠n:=by rintro rfl;exact h v GF
   simp[this]
  ·rfl
theorem xZ{Y:p_->Option IK}{x:p_}:∀{I:List (p_×i_)} {m:Ld},(∀v,(x,v)∉I)->M0 Y I m x=m x
 |[],_,_=>rfl|(n,v)::r,m,h=>by
  unfold M0;rw[xZ λw hw=>h w (Ga _ hw)];split
  ·rfl
  ·have:x≠n:=by rintro rfl;exact h v GF
   simp[this]
theorem xY{I:p_->Option IK}{x:p_}{v:i_}:∀{P:List p_} {vs:List i_} {i:Nat} {m:Ld},P.Nodup->P[i]?=a_ x->vs[i]?=a_ v->I x=a_ .local ->
  MZ I (P.zip vs) m x=a_ v
 |[],_,_,_,_,h,_,_=>by simp at h|_::_,[],_,_,_,_,h,_=>by simp at h|p::P,w::vs,0,m,Y,h1,h2,a=>by simp at h1 h2;subst h1;subst h2;show MZ I ((p,w)::P.zip vs) m p=_;unfold MZ;rw[xX λv hv=>(IW.mp Y).1 (La hv).1,e_ a];simp|p::P,w::vs,i+1,m,Y,h1,h2,a=>by show MZ I ((p,w)::P.zip vs) m x=_;unfold MZ;exact xY (i:=i) (IW.mp Y).2 (by simpa using h1) (by simpa using h2) a
theorem ye{I:p_->Option IK}{x:p_}{v:i_}:∀{P:List p_} {vs:List i_} {i:Nat} {m:Ld},P.Nodup->P[i]?=a_ x->vs[i]?=a_ v->I x≠a_ .local ->
  M0 I (P.zip vs) m x=a_ v
 |[],_,_,_,_,h,_,_=>by simp at h|_::_,[],_,_,_,_,h,_=>by simp at h|p::P,w::vs,0,m,Y,h1,h2,a=>by simp at h1 h2;subst h1;subst h2;show M0 I ((p,w)::P.zip vs) m p=_;unfold M0;rw[xZ λv hv=>(IW.mp Y).1 (La hv).1,k_ a];simp|p::P,w::vs,i+1,m,Y,h1,h2,a=>by show M0 I ((p,w)::P.zip vs) m x=_;unfold M0;exact ye (i:=i) (IW.mp Y).2 (by simpa using h1) (by simpa using h2) a
noncomputable def start(N:List p_)(vs:List V):St:=vs.map a_++GV (N.length-vs.length) c_
noncomputable def zY(CX:CXT)(P:GO)(w:Hg)(K:Pn)(mg:Ld)(base:GQ)(N:List p_)(qual:p_)(scope:Ln)(f:g_)(cd:i_)(A:Iy)(outer:List KS)(s:y_)(H:Hp)(E:XK):Cx where
 prog:=P
 w:=w
 K:=K
 mg:=mg
 base:=base
 A:=A.deeper (IH qual scope s.heap.objs.size f cd)
 N:=N
 s₀:=s
 H₀:=H
 env:=IH qual scope s.heap.objs.size f cd
 outer:=outer
 stack:=IH qual scope s.heap.objs.size f cd::outer
 ex:=[]
 calm:=d_
 fn:=λ_=>d_
 pn:=[]
 xe:=λe s'=>Cb (D_ P w) (A.deeper (IH qual scope s.heap.objs.size f cd)) (Oa (IH qual scope s.heap.objs.size f cd) e) (λ_ I=>CX outer H s E e I) (λY I=>CX outer H s E Y I) s'
theorem Bp{sc:Ln}(h:sc.names.lookup x=a_ .cell):∃c,(Hl n sc.names []).lookup x=a_ c:=by have q:=Ig sc.names n [] (.inl h);exact HV.mp q
theorem EN{base:GQ}{ps:List p_}{f:g_}{cd:i_}{j:y_}{E:XK}(S:gr N ps scope)(hd:A.handled=c_)(e0:Env0 P w K mg base A outer s H)(C:vs.length=ps.length)(r:B' vs us)(x:InCallC s s.heap.objs.size (MZ (IH qual scope s.heap.objs.size f cd).kindOf (ps.zip us) λ_=>c_) (Hl (s.heap.objs.size+1) scope.names []) (M0 (IH qual scope s.heap.objs.size f cd).kindOf (ps.zip us) λ_=>c_) j):
  A6 (zY CX P w K mg base N qual scope f cd A outer s H E) [] (start N vs) H j:=by
 have t:ps.length<=N.length:=by have:=HI ME S.pre;rw[Hx]at this;omega
 obtain⟨h1,tk,rfl,m⟩:=x.done;have I:∀b:g_,b∉(zY CX P w K mg base N qual scope f cd A outer s H E).ex:=λb z=>Gb (show b∈([]:List g_)from z) (by simp);refine⟨⟨e0.mod,S.kind,rfl,rfl,sy _,λy z c h1 h2=>?_,λy Y=>?_,λy c _ h=>?_,λ_=>hd,Around.frames_deeper e0.frames,.inr ⟨rfl,rfl⟩,λb z=>Gb z (I b),e0.bs,e0.bsz,λb _ _=>I b,λb z=>Gb z (I b),e0.xt,e0.frf⟩,
  rfl,e0.bare,Un.kept m,⟨_,x.toInCall.ns,λi y v h1 h2 D=>?_⟩,λy c h=>⟨_,x.cell y c h⟩,e0.hok.fresh (sy _),λy c h=>?_,λp g=>Gb (show p∈([]:Vp)from g) (by simp),e0.hok.kept m,?_⟩
 ·exact name_of_addr x.apart (Hd h1) (Hd h2)
 ·have Y:scope.names.lookup y=a_ .cell\/scope.names.lookup y=a_ .free:=Y;rcases Y with Y|Y
  ·exact Bp Y
  ·exact Gb rfl (S.nofree _ (Hd Y))
 ·exact JD (x.above y c (Hd h))
 ·have hi:i<vs.length:=by
   unfold start at h2;by_cases hi:i<vs.length
   ·exact hi
   ·rw[HM (by simpa using hi)]at h2;rw[IZ]at h2;split at h2<;>cases h2
  have B:vs[i]?=a_ v:=by
   unfold start at h2;rw[Hb (by simpa using hi),GB]at h2;cases e:vs[i]? with
   |none=>rw[e]at h2;cases h2|some a=>rw[e]at h2;cases h2;rfl
  obtain⟨u,l,o⟩:=r.get B;have g:ps[i]?=a_ y:=by rw[<- S.pre,List.getElem?_take_of_lt (by omega)];exact h1
  have d:ps.Nodup:=by rw[<- S.pre];exact S.nd.sublist (List.take_sublist _ _)
  refine⟨u,o,?_⟩
  rcases S.par y (GI g)with k|k
  ·exact .inl ⟨k,xY d g l k⟩
  ·obtain⟨c,e⟩:=Bp (n:=s.heap.objs.size+1) k;refine .inr ⟨.inl k,c,e,?_⟩;have q:=x.cell y c e;rw[ye d g l (by show scope.names.lookup y≠_;rw[k];decide)]at q;exact q
 ·exact e0.hok.fresh (JD (x.above y c (Hd h)))
 ·unfold start;show _=N.length;rw[Gp,u_,Ht];omega
theorem fn_of{base:GQ}{k:Nat}{f:g_}{Y:Arguments}{B kV doc pm cdv ct oc:i_}{an od:Option g_}{osl:Array (Option i_)}{ps:List p_}(F:K.lookup f=a_ ⟨oc,od,.func (KZ name qual Y body scope B kV doc pm an cdv ct),osl⟩)(p:LA K cdv qual=d_)(S:gr N ps scope)(g:∀vs H Q E,sp vs H Q E->vs.length=ps.length)(c:∀(A:Iy) (outer:List KS) (s:y_) (H:Hp) (vs:List V) (Q:VK) (E:XK),i5 k (A.deeper (IH qual scope s.heap.objs.size f cdv))->sp vs H Q E ->
   ∃t,PSs (zY CX P w K mg base N qual scope f cdv A outer s H E) body t/\t {nx:=λ_ H'=>Q .non H',rt:=Q} (start N vs) H):
  i6 P w K mg base CX (k+1) f (KZ name qual Y body scope B kV doc pm an cdv ct) ps sp:=by
 refine⟨g,λA outer s H C us vs Q E m e0 U r h=>?_⟩
 have R:=g _ _ _ _ h;have D:K.In s.heap:=e0.mod.kin.keeps λb o e=>(e0.bs b o e).1;have l:s.heap.NoLimit:=e0.mod.nolimit.keeps λb o e=>(e0.bs b o e).1;have a:∀y∈ps.zip us,scope.names.lookup y.1=a_ .local\/(scope.names.lookup y.1=a_ .cell/\((Hl (s.heap.objs.size+1) scope.names []).lookup y.1).isSome=d_):=λ⟨n,v⟩ G=>by
  rcases S.par n (La G).1 with q|q
  ·exact .inl q
  ·exact .inr ⟨q,Ig _ _ _ (.inl q)⟩
 refine codeAny_call_function m.depth (D _ _ F) rfl S.co S.gen rfl (PySem.W.codeRec_of D p) (U _ _ _ _ ?_);refine wpAny_newFunctionEnv_cells S.kind a λenv T z x=>?_;subst T;refine⟨l.keeps x.toInCall.keep,codeAny_func ?_⟩
 obtain⟨t,L,O⟩:=c A outer s H vs Q E (m.deeper _) h;have I:A6 (zY CX P w K mg base N qual scope f cdv A outer s H E) [] (start N vs) H z:=EN S m.hd e0 R r x;refine GK (L [] z (start N vs) H _ I O) (λfl s' d=>?_) λe s' d=>d;have i:∀{σ':St} {H':Hp} {v:V} {u:i_},A6 (zY CX P w K mg base N qual scope f cdv A outer s H E) [] σ' H' s'->A' v u->Q v H'->CE outer P w H s Q u s':=
  λ{σ' H' v u} J j q=>⟨v,H',J.os,J.bare,J.base,J.hok,j,q⟩
 cases fl with
 |ret u=>obtain⟨v,σ',H',J,j,q⟩:=d;exact i J j q
 |next=>obtain⟨σ',H',J,q⟩:=d;exact i (v:=V.non) (u:=Io) J rfl q
 |brk=>obtain⟨_,_,_,q⟩:=d;exact Gy q
 |cont=>obtain⟨_,_,_,q⟩:=d;exact Gy q
section
variable{t:TA}{id T:String}{r:List V->Hp->VK->Prop}
noncomputable def tCB(r:List V->Hp->VK->Prop)(t:TA):TE:=λσ H Q=>t σ H λvs H1=>r vs H1 Q
theorem iK(l:fW X (.builtin id) r)(j:Gl X x)(i:X.mg x=c_)(hv:HN x=a_ (.builtin id))(m:PA X (e::es) t)(g:(x≠"__name__")⁻¹)(a:((x==("__debug__":p_))=b_)⁻¹)(k: ~~~(iF (e::es) X.env=(b_,Gj e X.env)::iF es X.env))(Y: ~~~((GG pos (iF es X.env)).any (·.1)=b_)):PE X (.Call (.Name x p) (e::es) [] pos) (tCB r t):=by intro A4 s σ H Q I h;refine Hk (sY I j i hv ?_ g a);refine PyProof.Rows.callWith_builtin1 (Bs (m pos A4 s σ H _ I h) λus b f=>?_) k Y;obtain⟨vs,H1,n,c,d⟩:=f;exact l A4 b σ H1 vs us Q n c d
theorem jO(l:fW X (.type T) r)(j:Gl X x)(i:X.mg x=c_)(hv:HN x=a_ (.type T))(m:PA X (e::es) t)(g:(x≠"__name__")⁻¹)(a:((x==("__debug__":p_))=b_)⁻¹)(k: ~~~(iF (e::es) X.env=(b_,Gj e X.env)::iF es X.env))(Y: ~~~((GG pos (iF es X.env)).any (·.1)=b_)):PE X (.Call (.Name x p) (e::es) [] pos) (tCB r t):=by intro A4 s σ H Q I h;refine Hk (sY I j i hv ?_ g a);refine Jg (Bs (m pos A4 s σ H _ I h) λus b f=>?_) k Y;obtain⟨vs,H1,n,c,d⟩:=f;exact l A4 b σ H1 vs us Q n c d
end
end Lake
namespace Lake.HT
open PySem PyProof.Rows
section
open PySem.SeqAt
open PySem.AutoSeq1 (wpAny_loadPart')
open PySem.MeetsSeq PySem.MeetsSeq2 PySem.MeetsSeq3
end
section
variable{prog:GO}{w:Hg}{A:Iy}{E:Mq}{s:y_}
theorem cat_tup{t b:g_}{vs ws:List i_}{Q:Mq}(k:Om s.heap t vs.toArray)(l:Om s.heap b ws.toArray)(hv:vs≠[])(h1:ws=[]->Q (.ref t) s)(h2:ws≠[]->Q (.ref s.heap.objs.size) {s with heap:=s.heap.push {cls:=.type "tuple",data:=.seq (vs++ws).toArray}})(hsz:vs.length+ws.length<=f_):Cb (D_ prog w) A (HK .Add (.ref t) (.ref b)) Q E s:=by
 obtain⟨⟨cls,dd,data,h⟩,f,i,n,hd⟩:=id k;obtain⟨⟨j,d,g,Y⟩,I,c,n2,a⟩:=id l;simp only at i hd c a;subst i hd c a;have e:vs.toArray++ws.toArray=(vs++ws).toArray:=by simp
 by_cases hw:ws=[]
 ·exact Li ⟨_,f,rfl⟩ ⟨_,I,rfl⟩ Lw MM JV JP (JJ _ _)
   (tuple_addW1 t b vs.toArray ws.toArray n n2 dd d h Y (by simpa using hv) (by simp[hw])) ⟨f,I,h1 hw⟩
 ·refine Li ⟨_,f,rfl⟩ ⟨_,I,rfl⟩ Lw MM JV JP (JJ _ _)
   (tuple_addW2 t b vs.toArray ws.toArray n n2 dd d h Y (by simpa using hv) (by simpa using hw) (by rw[A_,A_];exact hsz)) ⟨f,I,?_⟩
  rw[e];exact h2 hw
def sIx(n d:Nat):Option Int->Nat
 |none=>d|some v=>if v<0 then(v+(n:Int)).toNat else min v.toNat n
theorem sIx_le(n d:Nat)(hd:d<=n)(o:Option Int):sIx n d o<=n:=by
 cases o with
 |none=>exact hd|some v=>
  show(if v<0 then(v+(n:Int)).toNat else min v.toNat n)<=n;by_cases hv:v<0
  ·rw[e_ hv];omega
  ·rw[k_ hv];exact Nat.min_le_right _ _
theorem FH(v:Int)(n d:Nat):(if v<0 then max (v+(n:Int)) 0 else min v (n:Int))=((sIx n d (a_ v):Nat):Int):=by
 show(if v<0 then max (v+(n:Int)) 0 else min v (n:Int))=(((if v<0 then(v+(n:Int)).toNat else min v.toNat n):Nat):Int)
 by_cases hv:v<0
 ·simp only[e_ hv];omega
 ·simp only[k_ hv];omega
theorem D1(lo hi:Option Int)(n:Nat):Jq lo hi 1 (n:Int)=(((sIx n 0 lo:Nat):Int),((sIx n n hi:Nat):Int)):=by
 have h1:¬((1:Int)<0):=by omega
 unfold Jq;simp only[h1,MH];refine Prod.ext ?_ ?_
 ·cases lo with
  |none=>rfl|some v=>exact FH v n 0
 ·cases hi with
  |none=>rfl|some v=>exact FH v n n
theorem BW(i j:Nat):Iz (i:Int) (j:Int) 1=j-i:=by
 unfold Iz;have h1:(1:Int)>0:=by omega
 simp only[h1,LH,Int.ediv_one];split<;>omega
theorem sP{v:i_}{o:Option Int}{Q:Option Int->y_->Prop}(p:LC v o)(h:Q o s):Cb (D_ prog w) A (OE v) Q E s:=by
 cases p with
 |none=>exact slicePart_none h|int i t=>exact slicePart_int h
theorem oN{c:g_}{b a:i_}{lo hi:Option Int}{n:Nat}{Q:Int×Int×Nat->y_->Prop}(e:s.heap.IsSliceOf c b a .none)(pl:LC b lo)(d:LC a hi)(h:Q (((sIx n 0 lo:Nat):Int),1,sIx n n hi-sIx n 0 lo) s):Cb (D_ prog w) A (Kw (.ref c) (Hq (n:Int))) Q E s:=by obtain⟨os,I,f,Y⟩:=id e;unfold Kw OF;refine h_ (h_ (Je I Y (x:=b) rfl (h_ (Je I Y (x:=a) rfl (h_ (Je I Y (x:=.none) rfl (z_ ?_)))))));refine h_ (slicePart_none ?_);show Cb _ _ (if ((1:Int)==0)=d_ then _ else _) _ _ s;rw[k_ (by decide)];refine h_ (sP pl (h_ (sP d (h_ (z_ ?_)))));show Cb _ _ (match Jq lo hi 1 (n:Int)with|(lo,hi)=>Hq (lo,(1:Int),Iz lo hi 1)) _ _ s;rw[D1 lo hi n];show Cb _ _ (Hq (((sIx n 0 lo:Nat):Int),(1:Int),Iz ((sIx n 0 lo:Nat):Int) ((sIx n n hi:Nat):Int) 1)) _ _ s;rw[BW];exact z_ h
theorem pick_gen(xs:Array i_)(i k:Nat):((Hf k).filterMap λ(m:Nat)=>xs[((i:Int)+(m:Int)*1).toNat]?).toArray=((xs.toList.drop i).take k).toArray:=by
 have e:(λ(m:Nat)=>xs[((i:Int)+(m:Int)*1).toNat]?)=λm=>xs[i+m]?:=by
  funext m
  have:((i:Int)+(m:Int)*1).toNat=i+m:=by omega
  rw[this]
 rw[e];have:=pick_run xs i k;rw[List.filterMap_map]at this;have e2:((λx=>xs[x]?)∘λx=>i+x)=λm=>xs[i+m]?:=rfl;rw[e2]at this;rw[this]
theorem nQ{t a:g_}{I:Array i_}{g f:i_}{lo hi:Option Int}{Q:Mq}(Y:Om s.heap t I)(i:s.heap.IsSliceOf a g f .none)(pl:LC g lo)(j:LC f hi)(hw:¬(sIx I.size 0 lo=0/\sIx I.size I.size hi=I.size))(h:Q (.ref s.heap.objs.size) {s with heap:=s.heap.push {cls:=.type "tuple",data:=.seq ((I.toList.drop (sIx I.size 0 lo)).take (sIx I.size I.size hi-sIx I.size 0 lo)).toArray}})(hsz:I.size<=f_):Cb (D_ prog w) A (KQ (.ref t) (.ref a)) Q E s:=by
 have htake:sizeOk (.seq ((I.toList.drop (sIx I.size 0 lo)).take (sIx I.size I.size hi-sIx I.size 0 lo)).toArray):=by show((I.toList.drop (sIx I.size 0 lo)).take (sIx I.size I.size hi-sIx I.size 0 lo)).toArray.size<=f_;rw[A_,Hx,JY,HG];omega
 have o:sIx I.size I.size hi<=I.size:=sIx_le _ _ (sy _) hi;obtain⟨os,b,d,k⟩:=id i;have e:s.TypeIs (.ref a) "slice":=⟨os,b,d⟩
 unfold KQ
 try with_reducible refine Ic ?_
 first|refine h_ (z_ ?_)|skip
 refine h_ (wpAny_sequenceKey Y.typeIs (by decide) ?_);refine h_ (wpAny_callSpecial?_slot (name:=o_ "__getitem__") Y.typeIs Il
  (Kc Il Y.typeIs entry_tuple_getitem ?_ (args_tuple_getitem _ _)))
 show Cb _ _ (OC (.ref t) >>= _) _ _ s;refine h_ (tupleItemsOf_ Y ?_);refine h_ (wpAny_typeOf e ?_);rw[e_ (by decide)];refine h_ (oN i pl j ?_);have c:¬((((sIx I.size 0 lo:Nat):Int)==0&&(1:Int)==1&&(sIx I.size I.size hi-sIx I.size 0 lo)==I.size)=d_):=by intro q;rw[l_,l_]at q;have n:((sIx I.size 0 lo:Nat):Int)=0:=HS q.1.1;have l:sIx I.size I.size hi-sIx I.size 0 lo=I.size:=HS q.2;exact hw ⟨by omega,by omega⟩
 show Cb _ _ (if (((sIx I.size 0 lo:Nat):Int)==0&&(1:Int)==1&&(sIx I.size I.size hi-sIx I.size 0 lo)==I.size)=d_ then _ else _) _ _ s;rw[k_ c,pick_gen]
 first
  |exact h_ (m:=OD _) (Le (z_ ⟨_,rfl,z_ h⟩) htake)
  |exact wpAny_bind (m:=Builtin.Tuple.tupleExact _) (wpAny_newObj_type (wpAny_bind (wpAny_pure (wpAny_pure ⟨_,rfl,wpAny_pure h⟩))) htake)
  |exact wpAny_bind (wpAny_bind (m:=Builtin.Tuple.tupleExact _) (wpAny_newObj_type (wpAny_pure (wpAny_pure ⟨_,rfl,wpAny_pure h⟩)) htake))
  |exact wpAny_bind (wpAny_bind (m:=Builtin.Tuple.tupleExact _) (wpAny_newObj_type (wpAny_pure ⟨_,rfl,wpAny_pure h⟩) htake))
end
end Lake.HT
namespace Lake
open PySem PySem.Spec PyProof.Rows
variable{X:Cx}{e:GX}{pos:Of}{r:V->Option Int->Option Int->Hp->VK->Prop}{us A8 its':List i_}{α:Type}{n:Nat}{i:Int}{A4:Vp}{σ:St}{H:Hp}{s:y_}{T:String}{x:V}
abbrev TO:=St->Hp->(Option Int->Hp->Prop)->Prop
def PO(X:Cx)(e:Option GX)(t:TO):Prop:=
 ∀(A4:Vp) (s:y_) (σ:St) (H:Hp) (Q:Option Int->Hp->Prop),A6 X A4 σ H s->t σ H Q ->
  Cb (D_ X.prog X.w) X.A (evalPart e X.env) (λu s'=>∃o H',A6 X A4 σ H' s'/\LC u o/\Q o H') X.xe s
noncomputable def tNoPart:TO:=λ_ H Q=>Q c_ H
noncomputable def tPart(t:TE):TO:=λσ H Q=>t σ H λx H1=>∃i,x=.int i/\Q (a_ i) H1
theorem intsAre_of{ns:List Int}:∀{us:List i_},B' (ns.map V.int) us->Lp us ns:=by
 induction ns with
 |nil=>intro us r;rw[Iu]at r;cases r;exact .nil|cons n ns Y=>
  intro us r;rw[F_]at r;cases r with
  |cons I r2=>obtain⟨t,e⟩:=I;subst e;exact .cons n t (Y r2)
section
variable{te:TE}{lo hi:Option GX}{tl th:TO}{p2:Of}
theorem po_none:PO X c_ tNoPart:=by intro A4 s σ H Q I h;rw[evalPart_none];exact z_ ⟨c_,H,I,.none,h⟩
theorem po_some(h:PE X e te):PO X (a_ e) (tPart te):=by intro A4 s σ H Q I hw;rw[evalPart_some];refine Bs (h A4 s σ H _ I hw) λu d b=>?_;obtain⟨x,H1,c,Y,a⟩:=b;obtain⟨i,rfl,q⟩:=a;obtain⟨t,rfl⟩:=Y;exact⟨a_ i,H1,c,.int i t,q⟩
def SlR(X:Cx)(r:V->Option Int->Option Int->Hp->VK->Prop):Prop:=
 ∀(A4:Vp) (s:y_) (σ:St) (H:Hp) (x:V) (v Y I:i_) (lo hi:Option Int) (a:g_) (Q:VK),A6 X A4 σ H s->A' x v->s.heap.IsSliceOf a Y I .none->LC Y lo->LC I hi->r x lo hi H Q ->
  ∃T id,NO (.type T) "__getitem__"=Hq (a_ (.builtin id))/\s.TypeIs v T/\Cb (D_ X.prog X.w) X.A (KQ v (.ref a)) (EP X A4 σ Q) X.xe s
theorem SlR.or{r':V->Option Int->Option Int->Hp->VK->Prop}(h:SlR X r)(h':SlR X r'):SlR X (λx lo hi H Q=>r x lo hi H Q\/r' x lo hi H Q):=by
 intro A4 s σ H x v a Y lo hi b Q I c e pl d q;rcases q with q|q
 ·exact h A4 s σ H x v a Y lo hi b Q I c e pl d q
 ·exact h' A4 s σ H x v a Y lo hi b Q I c e pl d q
noncomputable def tSl(r:V->Option Int->Option Int->Hp->VK->Prop)(te:TE)(tl th:TO):TE:=λσ H Q=>te σ H λx H1=>tl σ H1 λl H2=>th σ H2 λu I=>r x l u I Q
theorem pe_slice(w:SlR X r)(A:PE X e te)(y:PO X lo tl)(p:PO X hi th):PE X (.Subscript e (.Slice lo hi c_ p2) pos) (tSl r te tl th):=by intro A4 s σ H Q I h;refine NV (Bs (A A4 s σ H _ I h) λv i a=>?_);obtain⟨x,H1,F,j,n⟩:=a;refine wpAny_Slice (Bs (y A4 i σ H1 _ F n) λd g a=>?_);obtain⟨l,H2,E,pl,m⟩:=a;refine Bs (p A4 g σ H2 _ E m) λc Y a=>?_;obtain⟨u,f,D,o,k⟩:=a;rw[evalPart_none];refine z_ ?_;have C:A6 X A4 σ f {Y with heap:=Y.heap.push {cls:=.type "slice",data:=.fields #[d,c,.none]}}:=D.kept (t':=Y.toks) λb G q=>n_ _ q;obtain⟨T,id,B,t,z⟩:=w A4 {Y with heap:=Y.heap.push {cls:=.type "slice",data:=.fields #[d,c,.none]}} σ f x v d c l u Y.heap.objs.size Q C j (Oi ..) pl o k;show Cb (D_ X.prog X.w) X.A (MT e (.Slice lo hi c_ p2) v (.ref Y.heap.objs.size)) (EP X A4 σ Q) X.xe {Y with heap:=Y.heap.push {cls:=.type "slice",data:=.fields #[d,c,.none]}};exact tail_any (ops:=[.ref Y.heap.objs.size,v]) t B z (by with_unfolding_all rfl)
def cutV(xs:List V)(lo hi:Option Int):List V:=(xs.drop (HT.sIx xs.length 0 lo)).take (HT.sIx xs.length xs.length hi-HT.sIx xs.length 0 lo)
theorem rh(xs:List V)(lo hi:Option Int):(cutV xs lo hi).length<=xs.length:=by unfold cutV;rw[Hx,JY];omega
def rSlT(K:Pn):V->Option Int->Option Int->Hp->VK->Prop:=λx lo hi H Q=>∃a xs,x=.ref a/\SqT K H a xs /\
 ¬(HT.sIx xs.length 0 lo=0/\HT.sIx xs.length xs.length hi=xs.length)/\∀p,H p=c_->Q (.ref p) (upd H p (.tup (cutV xs lo hi)))
theorem sl_tup:SlR X (rSlT X.K):=by
 intro A4 s σ H x v k j lo hi l Q I e i pl f h;obtain⟨a,xs,rfl,g,hw,q⟩:=h;cases e;obtain⟨A8,r,d,c⟩:=I.tuple g;have Y:A8.toArray.size=xs.length:=by rw[A_];exact r.length.symm
 refine⟨"tuple",_,Il.lookup,d.typeIs,?_⟩
 refine HT.nQ d i pl f (by rw[Y];exact hw) ?_ (by rw[Y];exact c);rw[Y];refine⟨.ref s.heap.objs.size,_,I.laid (t':=s.toks) (o:=.tup (cutV xs lo hi)) (λb m q=>n_ _ q) (sy _) ?_,rfl,q _ (I.hok.fresh (sy _))⟩
 exact⟨Gw (rh xs lo hi) c,_,(r.drop (HT.sIx xs.length 0 lo)).take (HT.sIx xs.length xs.length hi-HT.sIx xs.length 0 lo),IsTup.new _ _⟩
def rCatT(K:Pn):R2:=λx y H Q=>∃a b xs ys,x=.ref a/\y=.ref b/\SqT K H a xs/\SqT K H b ys/\xs≠[]/\xs.length+ys.length<=f_ /\
 (ys=[]->Q (.ref a) H)/\(ys≠[]->∀p,H p=c_->Q (.ref p) (upd H p (.tup (xs++ys))))
theorem B'.zg{xs:List V}(r:B' xs us):us=[]↔xs=[]:=by
 cases r with
 |nil=>simp|cons _ _=>simp
theorem op_catT:OpR X (HK .Add) (rCatT X.K):=by
 intro A4 s σ H x y v u Q I f e h;obtain⟨a,b,xs,ys,rfl,rfl,l,k,j,d,i,g⟩:=h;cases f;cases e;obtain⟨A8,Y,p1,_⟩:=I.tuple l;obtain⟨c,r2,p2,_⟩:=I.tuple k;refine HT.cat_tup p1 p2 (λz=>j (Y.zg.mp z)) (λz=>⟨.ref a,H,I,rfl,i (r2.zg.mp z)⟩) (λz=>?_) (by rw[<- Y.length,<- r2.length];exact d);refine⟨.ref s.heap.objs.size,_,I.laid (t':=s.toks) (o:=.tup (xs++ys)) (λb m q=>n_ _ q) (sy _) ?_,rfl,g (λw=>z (r2.zg.mpr w)) _ (I.hok.fresh (sy _))⟩
 exact⟨by rw[Gp];exact d,_,Y.append r2,IsTup.new _ _⟩
end
noncomputable def ixN(n:Nat)(i:Int):Option Nat:=if 0<=i then(if i<n then a_ i.toNat else c_)else if -(n:Int)<=i then a_ (i+n).toNat else c_
def atI(xs:List α)(i:Int):Option α:=(ixN xs.length i).bind λj=>xs[j]?
theorem EK{j:Nat}(h:ixN n i=a_ j):seqIndex? i n=a_ j/\j<n/\ -(n:Int)<=i/\i<n:=by
 unfold ixN at h;by_cases I:0<=i
 ·rw[e_ I]at h;by_cases h1:i<n
  ·rw[e_ h1]at h;have e:i.toNat=j:=Gn h;exact⟨by rw[Ny I h1,e],by omega,by omega,h1⟩
  ·rw[k_ h1]at h;cases h
 ·rw[k_ I]at h;by_cases h1: -(n:Int)<=i
  ·rw[e_ h1]at h;have e:(i+n).toNat=j:=Gn h;exact⟨by rw[M_ (by omega) h1,e],by omega,h1,by omega⟩
  ·rw[k_ h1]at h;cases h
theorem Ag{xs:List α}{v:α}(h:atI xs i=a_ v):∃j,seqIndex? i xs.length=a_ j/\xs[j]?=a_ v/\j<xs.length/\ -(xs.length:Int)<=i/\i<xs.length:=by
 unfold atI at h;cases e:ixN xs.length i with
 |none=>rw[e]at h;cases h|some j=>rw[e]at h;obtain⟨h1,h2,Y,I⟩:=EK e;exact⟨j,h1,h,h2,Y,I⟩
def FU(b:GX):Prop:=∀o i,LI b b_ o i=operate [o,i] (KQ o i)
def IxR(X:Cx)(r:R2):Prop:=
 ∀(value I:GX) (A4:Vp) (s:y_) (σ:St) (H:Hp) (x y:V) (v u:i_) (Q:VK),A6 X A4 σ H s->A' x v->A' y u->r x y H Q ->
  LI I b_ v u=operate [v,u] (KQ v u)->Cb (D_ X.prog X.w) X.A (MT value I v u) (EP X A4 σ Q) X.xe s
def MtR(X:Cx)(id:String)(r:V->List V->Hp->VK->Prop):Prop:=
 ∀(A4:Vp) (s:y_) (σ:St) (H:Hp) (x:V) (xs:List V) (v:i_) (us:List i_) (Q:VK),A6 X A4 σ H s->A' x v->B' xs us->r x xs H Q ->
  Cb (D_ X.prog X.w) X.A (Jn (.builtin id) (v::us)) (EP X A4 σ Q) X.xe s
section
variable{a b:GX}{ta tb:TE}
theorem IxR.or{r r':R2}(h:IxR X r)(h':IxR X r'):IxR X (λx y H Q=>r x y H Q\/r' x y H Q):=by
 intro value Y A4 s σ H x y v u Q I b a q c;rcases q with q|q
 ·exact h value Y A4 s σ H x y v u Q I b a q c
 ·exact h' value Y A4 s σ H x y v u Q I b a q c
theorem pe_ix{r:R2}(f:IxR X r)(i:PE X a ta)(g:PE X b tb)(e:FU b):PE X (.Subscript a b pos) (tOp r ta tb):=by intro A4 s σ H Q I h;exact NV (binT i g I h λv u Y x y H2 j d c q=>f a b A4 Y σ H2 x y v u Q j d c q (e _ _))
def rIxL(K:Pn):R2:=λx y H Q=>∃p xs i v,x=.ref p/\y=.int i/\SqL K H p xs/\atI xs i=a_ v/\Q v H
def rIxT(K:Pn):R2:=λx y H Q=>∃p xs i v,x=.ref p/\y=.int i/\SqT K H p xs/\atI xs i=a_ v/\Q v H
def rIxS:R2:=λx y H Q=>∃z i c,x=.str z/\y=.int i/\z.length<=f_/\atI z.cps.toList i=a_ c/\Q (.str ⟨#[c]⟩) H
theorem ix_list:IxR X (rIxL X.K):=by
 intro value a A4 s σ H x y v u Q I k g h d;obtain⟨p,xs,i,z,rfl,rfl,l,n,q⟩:=h;cases k;obtain⟨t,rfl⟩:=g;obtain⟨A8,r,pl,B⟩:=I.list l;obtain⟨j,h1,h2,D,A,o⟩:=Ag n;obtain⟨w,f,b⟩:=r.get h2;have m:=r.length;have C:=qC;have Y:EP X A4 σ Q w s:=⟨z,H,I,b,q⟩
 by_cases e:0<=i
 ·have c:i.toNat=j:=by
   rw[Ny e o]at h1;exact Gn h1
  exact item_listR pl.isList e (by omega) (by rw[c];simpa using f) Y d
 ·have c:(i+(A8.toArray.size:Int)).toNat=j:=by
   rw[M_ (by omega) A]at h1;rw[A_,<- m];exact Gn h1
  exact Ni (x:=w) pl.isList.typeIs N8.lookup
   (wpAny_getItem_list_neg (Q:=λr s'=>r=w/\EP X A4 σ Q r s') pl.isList (by omega) (by rw[A_]<;>omega) (by omega) (by rw[c];simpa using f) ⟨rfl,Y⟩) d
theorem ix_tup:IxR X (rIxT X.K):=by
 intro value Y A4 s σ H x y v u Q I d c h e;obtain⟨p,xs,i,z,rfl,rfl,f,k,q⟩:=h;cases d;obtain⟨t,rfl⟩:=c;obtain⟨A8,r,pl,m⟩:=I.tuple f;obtain⟨j,h1,h2,B,A,o⟩:=Ag k;obtain⟨w,l,a⟩:=r.get h2;have g:=r.length;have n:=qC;have b:EP X A4 σ Q w s:=⟨z,H,I,a,q⟩
 exact Ni (x:=w) pl.typeIs Il.lookup
  (getItem_tuple (j:=j) (Q:=λr s'=>r=w/\EP X A4 σ Q r s') pl (by omega) (by omega) (by rw[A_,<- g];exact h1) (by simpa using l) ⟨rfl,b⟩) e
theorem ix_str:IxR X rIxS:=by
 intro value Y A4 s σ H x y v u Q I b a h d;obtain⟨z,i,c,rfl,rfl,l,f,q⟩:=h;obtain⟨t,rfl⟩:=b;obtain⟨t',rfl⟩:=a;obtain⟨j,h1,h2,n,k,g⟩:=Ag f;have e:z.cps.toList.length=z.length:=by simp[Str.length]
 rw[e]at h1 k g;have m:=qC;exact tail_any (K7 s z t) slot_str_getitem.lookup (getItem_str (c:=c) (by have e1:q_ (i< -(2^63:Int))=b_:=j_ (by omega);have e2:q_ (i>=2^63)=b_:=j_ (by omega);rw[e1,e2,Bool.or_false]) (by rw[h1];simpa using h2) ⟨.str ⟨#[c]⟩,H,I.tok _,⟨_,rfl⟩,q⟩) d
def rIx(K:Pn):R2:=λx y H Q=>rIxL K x y H Q\/rIxT K x y H Q\/rIxS x y H Q
theorem ix_seq:IxR X (rIx X.K):=ix_list.or (ix_tup.or ix_str)
theorem Cd(A8:List i_)(n j:Nat)(u:i_):Hz (·.setIfInBounds j u) {cls:=.type "list",data:=.seq A8.toArray n}={cls:=.type "list",data:=.seq (A8.set j u).toArray n}:=by simp[Hz]
theorem A6.lst{A4:Vp}{σ:St}{H:Hp}{s:y_}{p:g_}{xs:List V}(I:A6 X A4 σ H s)(h:H p=a_ (.lst xs)):
  ∃(A8:List i_) (n:Nat),B' xs A8/\s.heap.get? p=a_ {cls:=.type "list",data:=.seq A8.toArray n}/\xs.length<=f_:=by
 obtain⟨z,A8,n,r,e⟩:=I.hok p _ h;exact⟨A8,n,r,e,z⟩
theorem A6.lstUpd{p:g_}{xs ys:List V}{Y:Nat}{f:J_->J_}(I:A6 X A4 σ H s)(h:H p=a_ (.lst xs))(d:s.heap.get? p=a_ {cls:=.type "list",data:=.seq A8.toArray n})(a:f {cls:=.type "list",data:=.seq A8.toArray n}={cls:=.type "list",data:=.seq its'.toArray Y})(r:B' ys its')(c:ys.length<=f_)(t:Nat):
  A6 X A4 σ (upd H p (.lst ys)) {s with heap:=s.heap.update p f,toks:=t}:=by
 have e:(s.heap.update p f).get? p=a_ {cls:=.type "list",data:=.seq its'.toArray Y}:=by rw[IF f d (by rw[a]<;>rfl),a]
 refine I.write (x:=p) (e:=p) (by rw[h];trivial) (.inl rfl) (λb u g q=>(Gq _ _ (Gv g)).trans q) ⟨_,e⟩ ?_;exact⟨c,its',Y,r,e⟩
def rSetL:V->V->V->Hp->(Hp->Prop)->Prop:=λo i v H Q=>∃p xs k j,o=.ref p/\i=.int k/\H p=a_ (.lst xs)/\ixN xs.length k=a_ j/\Q (upd H p (.lst (xs.set j v)))
theorem set_list:PSet X rSetL:=by
 intro A4 s σ H o i v x y u Q I ro ri l h;obtain⟨p,xs,k,j,rfl,rfl,c,w,q⟩:=h;cases ro;obtain⟨t,rfl⟩:=ri;obtain⟨A8,n,r,Y,m⟩:=I.lst c;obtain⟨h1,h2,e,d⟩:=EK w;have a:=r.length;have z:=qC;have g:A6 X A4 σ (upd H p (.lst (xs.set j v))) {s with heap:=s.heap.update p (Hz (·.setIfInBounds j u))}:=
  I.lstUpd c Y (Cd A8 n j u) (r.set l j) (by rw[B_];exact m) s.toks
 by_cases f:0<=k
 ·have b:k.toNat=j:=by
   rw[Ny f d]at h1;exact Gn h1
  exact PySem.W.ki_setAt Y f (by omega) (by rw[A_,<- a];exact d) (by rw[b];exact⟨_,g,q⟩)
 ·have b:(k+(A8.toArray.size:Int)).toNat=j:=by
   rw[M_ (by omega) e]at h1;rw[A_,<- a];exact Gn h1
  exact PySem.W.ki_setBack Y (by omega) (by rw[A_,<- a];exact e) (by omega) (by rw[b];exact⟨_,g,q⟩)
theorem vW(lo hi:Option Int)(n:Nat):(JB lo hi c_ n).1=((HT.sIx n 0 lo:Nat):Int)/\(JB lo hi c_ n).2.1=((HT.sIx n n hi:Nat):Int)/\(JB lo hi c_ n).2.2=1:=by
 refine⟨?_,?_,rfl⟩
 ·cases lo with
  |none=>simp[JB,HT.sIx]|some i=>
   simp only[JB,HT.sIx,M7,show(1:Int)>0 by decide,LH];by_cases h:i<0
   ·simp only[h,LH]<;>omega
   ·simp only[h,MH]<;>omega
 ·cases hi with
  |none=>simp[JB,HT.sIx]|some i=>
   simp only[JB,HT.sIx,M7,show(1:Int)>0 by decide,LH];by_cases h:i<0
   ·simp only[h,LH]<;>omega
   ·simp only[h,MH]<;>omega
theorem uf(A8:List i_)(lo hi:Option Int):slicePick A8.toArray lo hi c_=((A8.drop (HT.sIx A8.length 0 lo)).take (HT.sIx A8.length A8.length hi-HT.sIx A8.length 0 lo)).toArray:=by obtain⟨h1,h2,I⟩:=vW lo hi A8.toArray.size;unfold slicePick;rw[h1,h2,I];simp only[sliceRange_one,pick_run,A_]<;>rfl
def rSlL(K:Pn):V->Option Int->Option Int->Hp->VK->Prop:=λx lo hi H Q=>∃a xs,x=.ref a/\SqL K H a xs/\∀p,H p=c_->Q (.ref p) (upd H p (.lst (cutV xs lo hi)))
theorem sl_list:SlR X (rSlL X.K):=by
 intro A4 s σ H x v k j lo hi l Q I d i pl e h;obtain⟨a,xs,rfl,g,q⟩:=h;cases d;obtain⟨A8,r,c,f⟩:=I.list g;have Y:=r.length;refine⟨"list",_,N8.lookup,c.isList.typeIs,?_⟩
 refine wpAny_getItem_list_slice c.isList i pl e .none (by simp) ?_ (by rw[A_]<;>omega);rw[uf,<- Y];refine⟨.ref s.heap.objs.size,_,I.laid (t':=s.toks) (o:=.lst (cutV xs lo hi)) (λb m q=>n_ _ q) (sy _) ?_,rfl,q _ (I.hok.fresh (sy _))⟩
 exact⟨Gw (rh xs lo hi) f,_,0,(r.drop (HT.sIx xs.length 0 lo)).take (HT.sIx xs.length xs.length hi-HT.sIx xs.length 0 lo),E_ _ rfl⟩
noncomputable def flatV:V->Bool
 |.non=>d_|.bl _=>d_|.int _=>d_|.str _=>d_|_=>b_
theorem km:fW X (.builtin "len") (λxs H Q=>∃p ys,xs=[.ref p]/\(SqL X.K H p ys\/SqT X.K H p ys)/\Q (.int ys.length) H):=by
 intro A4 s σ H xs us Q I r h;obtain⟨p,ys,rfl,a,q⟩:=h;obtain⟨u,rfl,b⟩:=vals1 r;cases b;have d:=qC;rcases a with a|a
 ·obtain⟨A8,r',pl,c⟩:=I.list a;have Y:=r'.length;exact Calls.call_len_list pl.isList (by simp only[A_]<;>omega) ⟨.int ys.length,H,I.tok _,⟨s.toks+1,by rw[A_,Y]⟩,q⟩
 ·obtain⟨A8,r',pl,c⟩:=I.tuple a;have Y:=r'.length;exact len_tuple pl (by simp only[A_]<;>omega) ⟨.int ys.length,H,I.tok _,⟨s.toks+1,by rw[A_,Y]⟩,q⟩
theorem xU:fW X (.builtin "len") (λxs H Q=>∃z,xs=[.str z]/\z.length<=f_/\Q (.int z.length) H):=by intro A4 s σ H xs us Q I r h;obtain⟨z,rfl,Y,q⟩:=h;obtain⟨u,rfl,t,rfl⟩:=vals1 r;have a:=qC;exact len_str (by omega) ⟨.int z.length,H,I.tok _,⟨_,rfl⟩,q⟩
theorem fW.or{f:i_}{r r':List V->Hp->VK->Prop}(h:fW X f r)(h':fW X f r'):fW X f (λxs H Q=>r xs H Q\/r' xs H Q):=by
 intro A4 s σ H xs us Q I rs q;rcases q with q|q
 ·exact h A4 s σ H xs us Q I rs q
 ·exact h' A4 s σ H xs us Q I rs q
theorem gG:fW X (.type "list") (λxs H Q=>∃p ys,xs=[.ref p]/\(SqL X.K H p ys\/SqT X.K H p ys)/\∀l,H l=c_->Q (.ref l) (upd H l (.lst ys))):=by
 intro A4 s σ H xs us Q I r h;obtain⟨p,ys,rfl,d,q⟩:=h;obtain⟨u,rfl,k⟩:=vals1 r;cases k;have g:∀(A8:List i_),B' ys A8->ys.length<=f_->∀(h':GQ) (Y:Nat),(∀b o',s.heap.get? b=a_ o'->h'.get? b=a_ o') ->
   h'.get? s.heap.objs.size=a_ {cls:=.type "list",dict:=c_,data:=.seq A8.toArray Y,slots:=#[]}->EP X A4 σ Q (.ref s.heap.objs.size) {s with heap:=h'}:=λA8 r' c h' Y a e=>
  ⟨.ref s.heap.objs.size,_,I.laid (t':=s.toks) a (sy _) (show cN X.prog X.w _ h' _ (.lst ys)from⟨c,A8,Y,r',e⟩),rfl,q _ (I.hok.fresh (sy _))⟩
 rcases d with d|d
 ·obtain⟨A8,r',pl,c⟩:=I.list d;have f:=r'.length;obtain⟨o,i,j,n,hd⟩:=pl.isList;exact call_list_seq p (.inl rfl) i j hd (λh' Y a e=>g A8 r' c h' Y a e) (by simp only[A_]<;>omega)
 ·obtain⟨A8,r',pl,c⟩:=I.tuple d;have f:=r'.length;obtain⟨o,i,j,n,hd⟩:=pl;exact call_list_seq p (.inr rfl) i j hd (λh' Y a e=>g A8 r' c h' Y a e) (by simp only[A_]<;>omega)
def tyV(K:Pn)(T:String)(x:V)(H:Hp):Prop:=match x with
 |.str _=>T="str"|.int _=>T="int"|.ref p=>(T="list"/\∃xs,SqL K H p xs)\/(T="tuple"/\∃o,K.lookup p=a_ o/\o.cls=.type "tuple"/\o.dict=c_) \/
   (T="dict"/\((∃A7,H p=a_ (.dK A7))\/∃A7,H p=a_ (.dT A7)))\/(T="set"/\∃S n,H p=a_ (.set S n))
 |_=>False
theorem tyV_is{v:i_}(I:A6 X A4 σ H s)(r:A' x v)(ty:tyV X.K T x H):
  s.TypeIs v T/\∀a,v=.ref a->∃b,s.heap.get? a=a_ b/\b.dict=c_:=by
 cases x with
 |str z=>obtain⟨t,rfl⟩:=r;cases(show T="str" from ty);exact⟨K7 s z t,λ_ e=>nomatch e⟩
 |int i=>obtain⟨t,rfl⟩:=r;cases(show T="int" from ty);exact⟨typeIs_int s i t,λ_ e=>nomatch e⟩
 |ref p=>
  cases r;rcases ty with⟨rfl,xs,d⟩|⟨rfl,o,Y,f,hd⟩|⟨rfl,Y⟩|⟨rfl,S,n,Y⟩
  ·obtain⟨A8,_,pl,_⟩:=I.list d;refine⟨pl.isList.typeIs,λa e=>?_⟩
   cases e;obtain⟨o,n,e,c,hd,_⟩:=pl;exact⟨o,e,hd⟩
  ·refine⟨⟨o,I.kIn p o Y,f⟩,λa e=>?_⟩
   cases e;exact⟨o,I.kIn _ o Y,hd⟩
  ·have z:∃o,s.heap.get? p=a_ o/\o.ExactDict:=by
    rcases Y with⟨A7,Y⟩|⟨A7,Y⟩
    ·obtain⟨_,_,_,_,o,_,_,e,ex,_⟩:=I.hok p _ Y;exact⟨o,e,ex⟩
    ·obtain⟨_,_,_,_,o,_,_,e,ex,_⟩:=I.hok p _ Y;exact⟨o,e,ex⟩
   obtain⟨o,e,ex⟩:=z;refine⟨⟨o,e,ex.1⟩,λa e2=>?_⟩
   cases e2;exact⟨o,e,ex.2.1⟩
  ·obtain⟨o,_,_,_,e,ex,_⟩:=I.hok p _ Y;refine⟨⟨o,e,ex.1⟩,λa e2=>?_⟩
   cases e2;exact⟨o,e,ex.2.1⟩
 |_=>exact Gy ty
def tBM(K:Pn)(T:String)(r:V->List V->Hp->VK->Prop)(to:TE)(t:TA):TE:=λσ H Q=>to σ H λx H1=>tyV K T x H1/\t σ H1 λxs H2=>r x xs H2 Q
variable{o:GX}{es:List GX}{to:TE}{t:TA}{name:p_}{apos cpos:Of}{id:String}{r:V->List V->Hp->VK->Prop}
theorem nL(q:PlainAttrs T)(c:Slot T name id)(f:typeOf (.builtin id)=Hq (.type "method_descriptor"))(y:MtR X id r)(w:PE X o to)(z:PA X (e::es) t)(b: ~~~(Ha o name X.env (Gj o X.env)=Gj o X.env))(d: ~~~(((GG cpos (iF (e::es) X.env)).all (λx=> !x.1)&&(HZ cpos (Hi [] X.env)).all (λx=>x.1.isSome)
   &&q_ ((e::es).length+([]:List IG).length+(if ([]:List IG).isEmpty then 0 else 1)<30))=d_))(a: ~~~((apos.endLine==cpos.line)=d_))(u: ~~~(iF (e::es) X.env=(b_,Gj e X.env)::iF es X.env))(Y: ~~~((GG cpos (iF es X.env)).any (·.1)=b_)):
  PE X (.Call (.Attribute o name apos) (e::es) [] cpos) (tBM X.K T r to t):=by
 intro A4 s σ H Q I h;refine wpAny_Call_method_late b d a rfl (Bs (w A4 s σ H _ I h) λv m g=>?_);obtain⟨x,H1,k,i,ty,p⟩:=g;obtain⟨h1,h2⟩:=tyV_is k i ty;refine⟨T,id,q,c,f,h1,h2,?_⟩
 have j:=z cpos A4 m σ H1 _ k p;rw[u]at j ⊢;refine J0 (by show(b_||(GG cpos (iF es X.env)).any (·.1))=b_;rw[Y]<;>rfl) (Kf ?_);refine Bs j λus l g=>?_;obtain⟨vs,H2,A,r2,n⟩:=g;exact y A4 l σ H2 x vs v us Q A i r2 n
/- xs.append(e),list.index on a module's tuple .. are MtR facts of 06m -/
end
def MtM(X:Cx)(id:String)(r:V->List V->Hp->VK->Prop):Prop:=
 ∀(A4:Vp) (s:y_) (σ:St) (H:Hp) (x:V) (xs:List V) (v:i_) (us:List i_) (Q:VK),A6 X A4 σ H s->A' x v->B' xs us->r x xs H Q ->
  Cb (D_ X.prog X.w) X.A (Jn (.builtin id) (v::us)) (EP X A4 σ Q) X.xe s
theorem B'.one(h:B' [x] us):∃u,us=[u]/\A' x u:=by
 cases h with
 |cons r t=>cases t;exact⟨_,rfl,r⟩
theorem B'.two{y:V}(h:B' [x,y] us):∃u v,us=[u,v]/\A' x u/\A' y v:=by
 cases h with
 |cons r t=>obtain⟨v,rfl,q⟩:=B'.one t;exact⟨_,_,rfl,r,q⟩
theorem B'.zero:∀{us:List i_},B' [] us->us=[]
 |_,.nil=>rfl
section
variable{l:g_}{xs ys:List V}
theorem A6.lset{f:Array i_->Array i_}{t':Nat}(I:A6 X A4 σ H s)(d:H l=a_ (.lst xs))(e:s.heap.get? l=a_ {cls:=.type "list",data:=.seq A8.toArray n})(b:f A8.toArray=its'.toArray)(hv:B' ys its')(Y:ys.length<=f_):
  A6 X A4 σ (upd H l (.lst ys)) {s with heap:=s.heap.update l (Hz f),toks:=t'}:=by
 have q:=PySem.IsL.update e f;rw[b]at q;refine I.write (x:=l) (e:=l) (by rw[d];exact K6) (.inl rfl) (λg u c a=>(Gq s.heap (Hz f) (Gv c)).trans a) ⟨_,q⟩ ?_;exact⟨Y,its',_,hv,q⟩
theorem A6.lnew{t':Nat}(I:A6 X A4 σ H s)(hv:B' ys A8)(Y:ys.length<=f_):
  A6 X A4 σ (upd H s.heap.objs.size (.lst ys)) {s with heap:=s.heap.push {cls:=.type "list",data:=.seq A8.toArray},toks:=t'}:=
 I.laid (λ_ _ q=>n_ _ q) (sy _) ⟨Y,A8,0,hv,E_ _ rfl⟩
theorem A6.fresh(I:A6 X A4 σ H s):H s.heap.objs.size=c_:=I.hok.fresh (sy _)
theorem A6.lstM(I:A6 X A4 σ H s)(Y:H l=a_ (.lst xs)):xs.length<=f_/\∃(A8:List i_) (n:Nat),B' xs A8/\xs.length=A8.length/\s.heap.get? l=a_ {cls:=.type "list",data:=.seq A8.toArray n}:=by obtain⟨z,A8,n,r,e⟩:=I.hok l _ Y;exact⟨z,A8,n,r,r.length,e⟩
theorem notLongL(h:n<=f_):Js n=b_:=by unfold Js;exact j_ (by omega)
end
def jl:V->List V->Hp->VK->Prop:=λx vs H Q=>∃l xs y,x=.ref l/\vs=[y]/\H l=a_ (.lst xs)/\xs.length<f_/\Q .non (upd H l (.lst (xs++[y])))
theorem eV:MtM X "list.append" jl:=by
 intro A4 s σ H x vs v us Q I a b h;obtain⟨l,xs,y,rfl,rfl,Y,d,q⟩:=h;cases a;obtain⟨u,rfl,c⟩:=b.one;obtain⟨z,A8,n,r,f,e⟩:=I.lstM Y;refine Kl GD ⟨_,e,rfl⟩ F.entry_list_append (F.args_list_append_2 _ _) (PySem.list_append l A8.toArray n u (by rw[A_];omega)) ⟨e,?_⟩;refine⟨.non,_,I.lset (its':=A8++[u]) Y e (by simp) (r.append (.cons c .nil)) ?_,rfl,q⟩
 rw[Gp,Mr];omega
def E8:V->List V->Hp->VK->Prop:=λx vs H Q=>∃l b xs I,x=.ref l/\vs=[.ref b]/\H l=a_ (.lst xs)/\H b=a_ (.lst I)/\xs.length+I.length<=f_/\Q .non (upd H l (.lst (xs++I)))
theorem Ey:MtM X "list.extend" E8:=by
 intro A4 s σ H x vs v us Q I d f h;obtain⟨l,b,xs,k,rfl,rfl,c,j,o,q⟩:=h;cases d;obtain⟨u,rfl,g⟩:=f.one;cases g;obtain⟨z,A8,n,r,p,e⟩:=I.lstM c;obtain⟨m,Y,n2,r2,i,e2⟩:=I.lstM j;have hsz:A8.toArray.size+Y.toArray.size<=f_:=by rw[A_,A_];omega
 have a:¬(!A8.toArray.isEmpty&&Js (A8.toArray.size+Y.toArray.size))=d_:=by rw[notLongL hsz,Ib];exact GZ
 refine Kl Mo ⟨_,e,rfl⟩ F.entry_list_extend (F.args_list_extend_2 _ _)
  (AutoSeq1.list_extend_list_list_0 l A8.toArray n b Y.toArray n2 a (by rw[A_];omega) (by omega)) ⟨e,e2,?_⟩
 refine⟨.non,_,I.lset (its':=A8++Y) c e (by simp) (r.append r2) ?_,rfl,q⟩
 rw[Gp];omega
end Lake
namespace Lake.Att
open PySem PySem.W PySem.Calls PyProof.Rows
theorem qI{P:Params}{h:GQ}:∀(ns:List Int) (vs:List i_),WellAll P h vs (ns.map WData.int)->Lp vs ns:=by
 intro ns
 induction ns with
 |nil=>intro vs w;rw[Iu]at w;cases w;exact .nil|cons n ns I=>
  intro vs w;rw[F_]at w;cases w with
  |cons a b=>cases a;exact .cons _ _ (I _ b)
theorem DF{l:KI}{n:Nat}(m:l.most=a_ n){P:Params}{h:GQ}{args:List WData}{I:List i_}(Y:l.row.toRowW.claim.pre args=d_)(f:WellAll P h I args):
  ∃a vs ns,I=[FZ a]/\args=[WData.list (ns.map WData.int)]/\h.get? a=a_ {cls:=.type "list",data:=.seq vs.toArray}/\Lp vs ns/\ns.length<=n:=by
 have g:WShape.hasAll [] args [.list .int]=d_:=(pre_splitW Y).1;have i:l.pre.holds [] {args:=args}=d_:=(pre_splitW Y).2;obtain⟨d,r,rfl,h1,h2⟩:=hasAllW_cons g;obtain rfl:=hasAllW_nil h2;obtain⟨xs,rfl,o⟩:=hasW_list h1;obtain⟨ns,rfl⟩:=items_int o;have b:ns.length<=n:=by
  unfold OpenLaw.pre at i;have e:(WTm.not (.lt (.lit (.int (n:Int))) (.len (.arg 0)))).holds [] {args:=[.list (ns.map .int)]}=d_:=by have e:=(holds_andW i).1;rw[m]at e;exact e
  have h5:=condW_of e (w_not (w_lt w_lit (w_len_list (w_arg rfl))));rw[u_]at h5;refine Nat.le_of_not_lt λq=>?_;have j:(n:Int)<((ns.length:Nat):Int):=by omega
  first
   |(rw[r_ j]at h5;exact Gb h5 (by decide))
   |(simp at h5;omega)
 cases f with
 |cons w1 w2=>
  cases w2;cases w1 with
  |list k c=>exact⟨_,_,ns,rfl,rfl,k,qI ns _ c,b⟩
theorem Ee(l:KI)(args:List WData):l.row.toRowW.claim.post args (.bool d_) args=d_:=
 postW_of (r:=l.row.toRowW) (X:=(d_==d_))
  (show WShape.has [] (.bool d_) .bool=d_ by first|rfl|decide|simp[WShape.has,WShape.arms,WShape.armsAll])
  (show(WTm.eq .res (.lit (.bool d_))).value [] {args:=args,res:=a_ (.bool d_),after:=args}=a_ (.bool (d_==d_))from w_eq_bool (w_res rfl) w_lit) rfl
theorem Af{l:KI}{n:Nat}{q:GO}{c:List p_}{A:(Ld)->GQ->Prop}{z:Hg->GQ->Prop}{d:DefRec}(E:l.most=a_ n)(s:d.params.defaults=[])(j:∀(w:Hg) (b I:y_) (mg k:Ld) (fa:g_) (o:J_) (pm cd doc:i_) (a:g_) (vs:List i_) (ns:List Int),
   Ground q c [] A w b mg k I.heap->z w I.heap ->
   I.heap.get? fa=a_ o->o.data=.func (docDef d.name d.params d.body d.scope pm cd doc)->I.heap.CodeRec cd d.name->mg d.name=a_ (.ref fa) ->
   I.heap.get? a=a_ {cls:=.type "list",data:=.seq vs.toArray}->Lp vs ns->ns.length<=n->I.gens=#[] ->
   Jm (D_ l.prog w) Lk (.call (.ref fa) ⟨[.ref a],[]⟩) (λr s'=>r=.ok (.ret (.bool d_))/\OldK I.heap s'.heap/\s'.os=I.os/\J8 s'.gens) I):
  MQ q c A z l.row.toRowW d [] (λf vs=>Jn f vs):=by
 intro w b I mg k G Y fa o pm cd doc O kV D hd t x p K y u as g v B m H;obtain rfl:O=.none:=Dflts.none x s;obtain rfl:kV=.none:=Dflts.noKw x;obtain⟨a,vs,ns,rfl,rfl,h,e,i⟩:=DF E g m;refine enter_call (HY (j w b I mg k fa o pm cd doc a vs ns G Y D (fd_plain hd) t p h e i K) λr s' C=>?_);obtain⟨rfl,h2,N,L⟩:=C;exact⟨.inl ⟨.bool d_,.bool d_,[],rfl,λ_=>rfl,.bool d_,Ee l _,λ_=>⟨ON,λ_ F=>(nomatch F)⟩⟩,h2,N,L⟩
end Lake.Att
namespace Lake
open PySem PySem.Spec PyProof.Rows
variable{P prog:GO}{w:Hg}{K:Pn}{mg:Ld}{CX:CXT}{a f l b c L C dx z fad C2 fI C1 CN:g_}{fd fdI:HL}{x qual m nm:p_}{sp:Sp}{n i nN nN2 n2 ep ep' lo di ni ri:Nat}{X:Cx}{st b₀:GW}{oc doc pm cdv ct u hv cd:i_}{od dd:Option g_}{osl:Array (Option i_)}{pos spos py p apos pos' q p2 cpos np hpos p1:Of}{A:Iy}{B T newId initId:String}{H H1 H2 H' F F' H0 F1 F0 FB G Hc:Hp}{scope sc:Ln}{E E1 E2 E3:XK}{s:y_}{A4:Vp}{σ σ':St}{N' N sn:List p_}{ix:List (Option Nat)}{fp as ch:List g_}{R:Bool->Hp->Prop}{elt tg iter e value e1 e2 e3 e4 e5:GX}{ifs es elts:List GX}{tt:TT}{te ta tb tc td:TE}{y v vw:V}{us bmB sub:List i_}{h h':GQ}{cs:List (p_×g_)}{rows:List (List Int)}{dvs vs:List V}{pl:Oe Bool}{S:g_->Prop}{o:HO}{Q:VK}{O O2 OL:List Nat}{ro hdct ab b1 b2 b3:Bool}{α:Type}{op op' op'':CmpOp}{sts body suite:List GW}{r':R2}{κ:SortKind}{A7:List (List Key×V)}{trs:List (TE×TE)}{outer:List KS}{oe:J_}{ts:g_->Option g_->TS}{os:OsState}{tk:Nq}{col:Option Bool}{k0 k2 k3 k5:Option i_}{U:TS}{u3 u4 u5 u6 u7 u8 u9 u10 u11:Option V}
theorem vM:∀{vs:List i_} {ns:List Int},Lp vs ns->B' (ns.map V.int) vs
 |_,_,.nil=>.nil|_,_,.cons n t h=>.cons ⟨t,rfl⟩ (vM h)
def Only(H:Hp):Prop:=∀b,H b=c_\/∃o xs,H b=a_ (.frz o (.lst xs))
theorem law_call{G:Ld}{k:Nat}{fa:g_}{I:y_}{vs:List i_}{ns:List Int}(Z:K.In I.heap)(y:I.heap.Ns GA mg)(c:I.heap.Ns NR G)(O:∀x:p_,x≠"__name__"->G x=HN x)(A:I.heap.NoLimit)(hg:I.gens=#[])(D:I.heap.get? a=a_ {cls:=.type "list",data:=.seq vs.toArray})(hi:Lp vs ns)(U:ns.length<=f_)(hr:i5 k Lk)(F:∀base:GQ,K.In base->base.Ns GA mg->i6 P w K mg base CX k fa fd [x] sp)(i:∀(s:y_) (u:i_),KU s fd ⟨[u],[]⟩ [(x,u)])(L:∀H:Hp,Only H->SqL K H a (ns.map V.int)->sp [.ref a] H (λv _=>v=.bl d_) λ_ _ _=>False)(Q:∀H e s',CX [] H I (λ_ _ _=>False) e s'->False):
  Jm (D_ P w) Lk (.call (.ref fa) ⟨[.ref a],[]⟩) (λr s'=>r=.ok (.ret (.bool d_))/\OldK I.heap s'.heap/\s'.os=I.os/\J8 s'.gens) I:=by
 have T:=vM hi;have l:=hi.length;have g:∀H:Hp,Only H->SqL K H a (ns.map V.int)->HOk P w H I.heap->(∀b,H b≠c_->b=a)->(H a≠c_->K.lookup a=c_) ->
   Jm (D_ P w) Lk (.call (.ref fa) ⟨[.ref a],[]⟩) (λr s'=>r=.ok (.ret (.bool d_))/\OldK I.heap s'.heap/\s'.os=I.os/\J8 s'.gens) I:=by
  intro H W hS t X hK;have Y:∀{b:g_} {o:J_},I.heap.get? b=a_ o->H b=c_->(hidT I.heap H).get? b=a_ o:=λe n=>hidT_get e n;have E:∀{b:g_} {o:J_} {es:Array M6} {ep:Nat},I.heap.get? b=a_ o->o.data=.dict es ep->H b=c_:=λ{b o es ep} e d=>by
   cases q:H b with
   |none=>rfl|some u=>have R:b=a:=X b (by rw[q];simp);subst R;rw[D]at e;cases e;have d':Data.seq vs.toArray _=Data.dict es ep:=d;cases d'
  have f:∀{b:g_} {m:Ld},I.heap.Ns b m->(hidT I.heap H).Ns b m:=λ{b m} ⟨o,es,ep,e,d,r⟩=>⟨o,es,ep,Y e (E e d),d,r⟩
  have B:K.In (hidT I.heap H):=λb o e=>Y (Z b o e) (by
   cases q:H b with
   |none=>rfl|some u=>have R:b=a:=X b (by rw[q];simp);subst R;rw[hK (by rw[q];simp)]at e;cases e)
  have hM:Mod K mg (hidT I.heap H):=⟨B,f y,⟨G,f c,O⟩,let ⟨mc,h1,h2⟩:=A;⟨mc,f h1,h2⟩⟩
  have e0:Env0 P w K mg (hidT I.heap H) Lk [] I H:=⟨rfl,hM,λb o e=>of_hidT e,OI (ES _ _),K6,λb c=>Gb (show b∈([]:List g_)from c) (by simp),t,.of_eq hg⟩
  refine HY ((F _ B (f y)).run Lk [] I H ⟨[.ref a],[]⟩ [.ref a] [.ref a] _ _ hr e0 (i I (.ref a)) (.cons rfl .nil) (L H W hS)) λr s' h=>?_;cases r with
  |error e=>exact(Q H e s' h).elim|ok fl=>
   cases fl with
   |next=>exact Gy h|brk=>exact Gy h|cont=>exact Gy h|ret u=>
    obtain⟨v,H',os,C,S,p,r',q⟩:=h;have q':v=.bl d_:=q;subst q';obtain rfl:u=Lm d_:=r';refine⟨rfl,OldK.of_keep λb o e=>?_,os,C⟩
    cases q:H b with
    |none=>exact S.keep b o e q (by intro z;exact Gb (show b∈([]:List g_)from z) (by simp)) (by simp)|some u=>
     rcases W b with z|⟨ob,xs,z⟩
     ·rw[q]at z;cases z
     ·have z2:=S.frzs b ob _ z;obtain⟨e1,_⟩:=t b _ z;obtain⟨e2,_⟩:=p b _ z2;rw[e]at e1;cases e1;exact e2
 cases N:K.lookup a with
 |some o=>have e:=Z a o N;rw[D]at e;cases e;refine g (λ_=>c_) (λ_=>.inl rfl) (.inr ⟨_,vs.toArray,_,N,rfl,rfl,rfl,by rw[A_,l];exact U,by simpa using T⟩) (λb u z=>by have j:(c_:Option HO)=a_ u:=z;cases j) (λb z=>Gb rfl z) λz=>Gb rfl z|none=>
  refine g (λb=>if b=a then a_ (.frz {cls:=.type "list",data:=.seq vs.toArray} (.lst (ns.map V.int)))else c_) (λb=>?_) (.inl (.inr ⟨{cls:=.type "list",data:=.seq vs.toArray},e_ rfl⟩)) (λb u z=>?_) (λb z=>?_) λ_=>N
  ·by_cases c:b=a
   ·exact .inr ⟨_,_,e_ c⟩
   ·exact .inl (k_ c)
  ·by_cases c:b=a
   ·have j:=(e_ c).symm.trans z;cases j;subst c;exact⟨D,by rw[u_];exact U,vs,_,T,D⟩
   ·have j:=(k_ c).symm.trans z;cases j
  ·by_cases c:b=a
   ·exact c
   ·exact Gb (k_ c) z
theorem walk_of{l:KI}{k:Nat}{q:GO}{b:List p_}{R:(Ld)->GQ->Prop}{z:Hg->GQ->Prop}{d:DefRec}{K:Params->Pn}{CX:Hg->CXT}{sp:Hg->Sp}(C:l.most=a_ n)(m:n<=f_)(r:d.params.defaults=[])(B:i5 k Lk)(N:∀(w:Hg) (h:GQ),z w h->(K w.params).In h)(F:∀(w:Hg) (mg:Ld) (fa:g_) (h:GQ),(K w.params).In h->h.Ns GA mg->mg d.name=a_ (.ref fa) ->
   ∃fd:HL,(∀(s:y_) (u:i_),KU s fd ⟨[u],[]⟩ [(x,u)]) /\
    ∀base:GQ,(K w.params).In base->base.Ns GA mg->i6 l.prog w (K w.params) mg base (CX w) k fa fd [x] (sp w))(j:∀(w:Hg) (H:Hp) (a:g_) (ns:List Int),ns.length<=n->Only H->SqL (K w.params) H a (ns.map V.int)->sp w [.ref a] H (λv _=>v=.bl d_) λ_ _ _=>False)(t:∀(w:Hg) (H:Hp) (s:y_) (e:i_) (s':y_),CX w [] H s (λ_ _ _=>False) e s'->False):
  MQ q b R z l.row.toRowW d [] (λf vs=>Jn f vs):=by
 refine Att.Af C r λw y g mg S fa o pm cd doc a vs ns G Y T hd E p i c I D=>?_;have A:=N w _ Y;obtain⟨fd,L,Q⟩:=F w mg fa _ A G.T.g p;exact law_call A G.T.g G.T.b G.T.builtins G.T.nolimit D i c (Gw I m) B Q L (λH P O=>j w H a ns I P O) λH e s'=>t w H g e s'
def inClass(s:GW)(j:Nat):GW:=match s with
 |.ClassDef _ _ _ body _ _ _ _ _ _ _=>body.getD j (.Pass ⟨0,0,0,0⟩)|_=>.Pass ⟨0,0,0,0⟩
noncomputable def dN(s:GW):Arguments:=match s with
 |.FunctionDef _ a _ _ _ _ _ _ _ _=>a|_=>{posonlyargs:=[],args:=[],vararg:=c_,kwonlyargs:=[],kw_defaults:=[],kwarg:=c_,defaults:=[]}
noncomputable def bS(s:GW):List GW:=match s with
 |.FunctionDef _ _ b _ _ _ _ _ _ _=>b|_=>[]
def aJ(s:GW):Ln:=match s with
 |.FunctionDef _ _ _ _ _ _ sc _ _ _=>sc|_=>{kind:=.function,names:=[],isGenerator:=b_,isCoroutine:=b_}
noncomputable abbrev CX0:CXT:=λ_ _ _ _ _ _=>False
noncomputable abbrev E0:XK:=λ_ _ _=>False
theorem ql:Passes CX0 X E0:=λ_ _ _ _ _ _ _ h=>h.elim
structure Fun(K:Pn)(x qual:p_)(st:GW)(f:g_)(fd:HL):Prop where
 ex:∃(oc:i_) (od:Option g_) (kV doc pm:i_) (an:Option g_) (cdv ct:i_) (osl:Array (Option i_)),
  fd=KZ x qual (dN st) (bS st) (aJ st) .none kV doc pm an cdv ct/\K.lookup f=a_ ⟨oc,od,.func fd,osl⟩/\LA K cdv qual=d_
 kp:HW K (.ref f)=d_
theorem Fun.binds{ps:List p_}(F:Fun K x qual st f fd)(h:∀(kV doc pm:i_) (an:Option g_) (cdv ct:i_) (us:List i_),us.length=ps.length->KH (KZ x qual (dN st) (bS st) (aJ st) .none kV doc pm an cdv ct) ⟨us,[]⟩=Hq (ps.zip us)):Binds K fd ps []:=by obtain⟨oc,od,kV,doc,pm,an,cdv,ct,osl,rfl,Y,I⟩:=F.ex;exact .all (h kV doc pm an cdv ct)
theorem Bd{an:Option g_}{kV:i_}(l:K.lookup f=a_ ⟨oc,od,.func (KZ x qual (dN st) (bS st) (aJ st) .none kV doc pm an cdv ct),osl⟩)(c:LA K cdv qual=d_)(k:HW K (.ref f)=d_):Fun K x qual st f (KZ x qual (dN st) (bS st) (aJ st) .none kV doc pm an cdv ct):=⟨⟨oc,od,kV,doc,pm,an,cdv,ct,osl,rfl,l,c⟩,k⟩
theorem pv(i:Nat)(Y: ~~~(X.N[i]?=a_ x))(hv:autoParam (Vis X.env.scope x) Jq4)(hd:((x==("__debug__":p_))=b_)⁻¹)(I:((x==("__classdict__":p_))=b_)⁻¹):PE X (.Name x pos) (bV i):=pe_var Y hv hd I
theorem iteF{A B:Prop}(h:B):if b_=d_ then A else B:=by rw[k_ GZ];exact h
theorem iteNS{c A B:Prop}[Decidable c](I:c)(h:B):if (!decide c)=d_ then A else B:=by rw[r_ I];exact iteF h
def aL(H H':Hp):Prop:=∀b o,H b=a_ o->H' b=a_ o
theorem aL.refl(H:Hp):aL H H:=λ_ _ h=>h
theorem aL.trans(a:aL H H1)(b:aL H1 H2):aL H H2:=λc o h=>b c o (a c o h)
theorem aL.free(e:aL H H')(h:H' l=c_):H l=c_:=by
 cases q:H l with
 |none=>rfl|some o=>rw[e l o q]at h;cases h
def tO(cells:List (p_×g_)):List (p_×IK)->List (p_×g_)->List (p_×g_)
 |[],I=>I|(x,k)::r,I=>tO cells r (if (k==NameKind.free)=d_ then(x,(cells.lookup x).getD 0)::I else I)
theorem gt_ne(h1:b<a)(h2:a<c):c≠b:=by rintro rfl;exact Gb (Ka h1 h2) (G5 _)
theorem Cn(h1:a<n)(h2:n<=b):a≠b:=by rintro rfl;exact Gb (Gg h1 h2) (G5 _)
theorem tN{cells:List (p_×g_)}{x:p_}{c:g_}:∀(ns:List (p_×IK)) (I:List (p_×g_)),(tO cells ns I).lookup x=a_ c ->
  ((x,NameKind.free)∈ns/\c=(cells.lookup x).getD 0)\/I.lookup x=a_ c
 |[],_,h=>.inr h|(y,k)::r,I,h=>by
  unfold tO at h;rcases tN r _ h with⟨m,e⟩|q
  ·exact .inl ⟨Ga _ m,e⟩
  ·by_cases a:(k==NameKind.free)=d_
   ·rw[e_ a,v_]at q;cases Y:x==y with
    |true=>rw[Y]at q;have e1:=HS Y;have e2:=HS a;subst e1 e2;exact .inl ⟨GF,(Gn q).symm⟩|false=>rw[Y]at q;exact .inr q
   ·rw[k_ a]at q;exact .inr q
theorem rm{cells:List (p_×g_)}{x:p_}:∀(ns:List (p_×IK)) (I:List (p_×g_)),((x,NameKind.free)∈ns\/(I.lookup x).isSome=d_)->((tO cells ns I).lookup x).isSome=d_
 |[],_,h=>h.elim (λz=>nomatch z) id
 |(y,k)::r,I,h=>by
  unfold tO;refine rm r _ ?_;rcases h with h|h
  ·rcases t_.mp h with e|h
   ·cases e;refine .inr ?_;rw[e_ (by decide),v_];simp
   ·exact .inl h
  ·refine .inr ?_;by_cases Y:(k==NameKind.free)=d_
   ·rw[e_ Y,v_];cases a:x==y with
    |true=>rfl|false=>exact h
   ·rw[k_ Y];exact h
theorem lR{x:p_}{c:g_}:∀(ns:List (p_×IK)) (n:Nat) (I:List (p_×g_)),(Hl n ns I).lookup x=a_ c->(n<=c/\(x,Hs)∈ns)\/I.lookup x=a_ c
 |[],_,_,h=>.inr h|(y,k)::r,n,I,h=>by
  unfold Hl at h;by_cases b:(k==Hs)=d_
  ·rw[e_ b]at h;rcases lR r (n+1) _ h with⟨a,m⟩|q
   ·exact .inl ⟨by omega,Ga _ m⟩
   ·rw[v_]at q;cases Y:x==y with
    |true=>rw[Y]at q;have e1:=HS Y;have e2:=HS b;have e3:=Gn q;subst e1 e2 e3;exact .inl ⟨sy _,GF⟩|false=>rw[Y]at q;exact .inr q
  ·rw[k_ b]at h;rcases lR r n I h with⟨a,m⟩|q
   ·exact .inl ⟨a,Ga _ m⟩
   ·exact .inr q
theorem rn:∀(ns:List (p_×IK)) (n:Nat) (I:List (p_×g_)),(∀x y c,I.lookup x=a_ c->I.lookup y=a_ c->x=y)->(∀x c,I.lookup x=a_ c->c<n) ->
  ∀x y c,(Hl n ns I).lookup x=a_ c->(Hl n ns I).lookup y=a_ c->x=y
 |[],_,_,hi,_=>hi|(z,k)::r,n,I,hi,d=>by
  unfold Hl;by_cases e:(k==Hs)=d_
  ·rw[e_ e];refine rn r (n+1) _ (λx y c h1 h2=>?_) (λx c h1=>?_)
   ·rw[v_]at h1 h2;cases Y:x==z with
    |true=>
     rw[Y]at h1;have e1:=Gn h1;cases a:y==z with
     |true=>rw[HS Y,HS a]|false=>rw[a]at h2;have b:=d y c h2;rw[<- e1]at b;exact Gb b (G5 _)
    |false=>
     rw[Y]at h1;cases a:y==z with
     |true=>rw[a]at h2;have e2:=Gn h2;have b:=d x c h1;rw[<- e2]at b;exact Gb b (G5 _)|false=>rw[a]at h2;exact hi x y c h1 h2
   ·rw[v_]at h1;cases Y:x==z with
    |true=>rw[Y]at h1;have e1:=Gn h1;rw[<- e1];exact IS _|false=>rw[Y]at h1;exact K1 (d x c h1)
  ·rw[k_ e];exact rn r n I hi d
theorem nK{x:p_}{c:g_}:∀(ns:List (p_×IK)) (h:GQ) (I:List (p_×g_)),(Hl h.objs.size ns I).lookup x=a_ c ->
  I.lookup x=a_ c\/(h.objs.size<=c/\(pushCells h ns).IsCell c c_)
 |[],_,_,e=>.inl e|(y,k)::r,h,I,e=>by
  unfold Hl at e;unfold pushCells;by_cases a:(k==Hs)=d_
  ·rw[e_ a]at e ⊢;have q:=nK (x:=x) (c:=c) r (h.push {cls:=.type "cell",data:=.cell c_}) ((y,h.objs.size)::I) (by rw[Hm];exact e);rcases q with q|⟨d,b⟩
   ·rw[v_]at q;cases Y:x==y with
    |true=>rw[Y]at q;have e1:=Gn q;subst e1;exact .inr ⟨sy _,Heap.IsCell.keeps ⟨_,E_ _ rfl,rfl⟩ (LR r _)⟩|false=>rw[Y]at q;exact .inl q
   ·rw[Hm]at d;exact .inr ⟨by omega,b⟩
  ·rw[k_ a]at e ⊢;exact nK r h I e
theorem nS{env:KS}(f:p_×IK->List (p_×g_)->Oe (ForInStep (List (p_×g_))))(b:∀n k cs,f (n,k) cs=if (k==NameKind.free)=d_ then(do let a <- cellOf env n;Hq (.yield ((n,a)::cs)))else Hq (.yield cs)):
  ∀(ns:List (p_×IK)) (I:List (p_×g_)),(∀x∈ns,x.2=NameKind.free->∃c,env.cells.lookup x.1=a_ c)->forIn ns I f=(Hq (tO env.cells ns I):Oe _)
 |[],I,_=>by rw[NJ];rfl|(y,k)::r,I,g=>by
  have d:∀x∈r,x.2=NameKind.free->∃c,env.cells.lookup x.1=a_ c:=λx i=>g x (Ga _ i);rw[List.forIn_cons,b];unfold tO;by_cases Y:(k==NameKind.free)=d_
  ·rw[e_ Y,e_ Y];obtain⟨c,e⟩:=g (y,k) GF (HS Y);have h:env.cells.lookup y=a_ c:=e;have e2:cellOf env y=Hq c:=by unfold cellOf;rw[h]
   rw[e2,h];exact nS f b r _ d
  ·rw[k_ Y,k_ Y];exact nS f b r _ d
theorem tM{env:KS}(I:∀x∈scope.names,x.2=NameKind.free->∃c,env.cells.lookup x.1=a_ c):closureFor scope env=Hq (tO env.cells scope.names []):=by simp only[closureFor];rw[nS (env:=env) _ (λn k cs=>by cases h:(k==NameKind.free)<;>simp[h]) scope.names [] I];rfl
theorem Es{M:K2}{E:Mq}{g:g_}{d:List (p_×g_)}{I:KS}{Q:KS->y_->Prop}(i:∀h1:GQ,(∀b o,s.heap.get? b=a_ o->h1.get? b=a_ o)->h1.Ns s.heap.objs.size (λ_=>c_) ->
   (∀x c,(Hl (s.heap.objs.size+1) scope.names d).lookup x=a_ c->d.lookup x=a_ c\/(s.heap.objs.size<c/\h1.IsCell c c_)) ->
   Q {scope:=scope,locals:=s.heap.objs.size,globals:=g,cells:=Hl (s.heap.objs.size+1) scope.names d,qual:=qual,func:=c_,code:=I.code,frame:=I.frame,builtins:=I.builtins} {s with heap:=h1}):
  Cb M A (Md scope g d [] qual c_ .none (a_ I)) Q E s:=by
 simp only[Md,My,LH];refine h_ (wpAny_alloc ?_);refine h_ (wpAny_layCells _ (λname Y cells=>by cases f:Y==Hs<;>simp[f]) _ _ _ _ ?_);rw[show({s with heap:=s.heap.push {cls:=.type "dict",data:=.dict #[]}}:y_).heap.objs.size=s.heap.objs.size+1 from Hm ..];rw[NJ];refine h_ (z_ (z_ ?_));refine i _ (λb o e=>LR _ _ b o (n_ _ e)) ((Heap.Ns.new s.heap (.type "dict")).keeps (LR _ _)) λx c e=>?_;have q:=nK (x:=x) (c:=c) scope.names (s.heap.push {cls:=.type "dict",data:=.dict #[]}) d (by rw[Hm];exact e);rw[Hm]at q;refine q.imp id λh=>?_;obtain⟨a,b⟩:=h;exact⟨by omega,b⟩
theorem sR{env:KS}{x:p_}:∀{ns:List (p_×IK)},ns.lookup x=a_ .free ->
  (ns.map λ(n,k)=>if (k==NameKind.free&&env.scope.kind==.function&&env.kindOf n==a_ .cell)then(n,Hs)else(n,k)).lookup x=a_ .cell \/
  (ns.map λ(n,k)=>if (k==NameKind.free&&env.scope.kind==.function&&env.kindOf n==a_ .cell)then(n,Hs)else(n,k)).lookup x=a_ .free
 |[],h=>by simp at h|(n,k)::r,h=>by
  have Y:=@sR env x r;rw[F_];dsimp only;by_cases a:(k==NameKind.free&&env.scope.kind==.function&&env.kindOf n==a_ .cell)=d_
  ·rw[e_ a,v_];cases I:x==n with
   |true=>exact .inl rfl|false=>rw[v_,I]at h;exact Y h
  ·rw[k_ a,v_];cases I:x==n with
   |true=>rw[v_,I]at h;have e:=Gn h;subst e;exact .inr rfl|false=>rw[v_,I]at h;exact Y h
theorem sS{env:KS}{x:p_}:∀{ns:List (p_×IK)},
  ((ns.map λ(n,k)=>if (k==NameKind.free&&env.scope.kind==.function&&env.kindOf n==a_ .cell)then(n,Hs)else(n,k)).lookup x=a_ .cell \/
  (ns.map λ(n,k)=>if (k==NameKind.free&&env.scope.kind==.function&&env.kindOf n==a_ .cell)then(n,Hs)else(n,k)).lookup x=a_ .free) ->
  ns.lookup x=a_ .cell\/ns.lookup x=a_ .free
 |[],h=>by simp at h|(n,k)::r,h=>by
  have a:=@sS env x r;rw[F_]at h;dsimp only at h;by_cases Y:(k==NameKind.free&&env.scope.kind==.function&&env.kindOf n==a_ .cell)=d_
  ·rw[e_ Y,v_]at h;rw[v_];cases I:x==n with
   |true=>
    have:k=NameKind.free:=by rw[l_,l_]at Y;exact HS Y.1.1
    subst this;exact .inr rfl
   |false=>rw[I]at h;exact a h
  ·rw[k_ Y,v_]at h;rw[v_];cases I:x==n with
   |true=>rw[I]at h;exact h|false=>rw[I]at h;exact a h
def bp(X:Cx)(N':List p_)(sc:Ln)(L:g_)(cs:List (p_×g_))(s:y_)(H:Hp)(fp:List g_):Cx:=
 {X with
  N:=N',s₀:=s,H₀:=H,outer:=X.stack,ex:=fp,pn:=[],xe:=λ_ _=>False
  fn:=λx=> !(sc.names.any λp=>p.1==x&&p.2==NameKind.free)
  env:={scope:=relabel sc X.env,locals:=L,globals:=X.env.globals,cells:=cs,qual:=X.env.qual,func:=c_,code:=X.env.code,frame:=X.env.frame,builtins:=X.env.builtins}}
def inS(ix:List (Option Nat))(σ:St):St:=ix.map λo=>match o with
 |none=>c_|some j=>(σ[j]?).join
def bP(N:List p_)(I:Ln)(N':List p_)(sc:Ln)(ix:List (Option Nat)):Bool:=
 q_ (ix.length=N'.length) &&
 ((Hf ix.length).all λi=>match ix[i]? with
  |some (a_ j)=>(match N'[i]?,N[j]? with
   |some x,a_ y=>x==y&&sc.names.lookup x==a_ NameKind.free|_,_=>b_)
  |_=>d_) &&
 (sc.names.all λp=>(p.2 != NameKind.free||(I.names.lookup p.1==a_ Hs||I.names.lookup p.1==a_ NameKind.free))&&(p.2 != NameKind.local||sc.names.lookup p.1==a_ NameKind.local)) &&
 (sc.names.all λp=>sc.names.all λq=> !(p.1==q.1)||p.2==q.2)
theorem bP.len(I:bP X.N X.env.scope N' sc ix=d_):ix.length=N'.length:=by unfold bP at I;rw[l_,l_,l_]at I;exact IC I.1.1.1
theorem bP.at(I:bP X.N X.env.scope N' sc ix=d_){i j:Nat}{x:p_}(h:ix[i]?=a_ (a_ j))(Y:N'[i]?=a_ x):X.N[j]?=a_ x/\sc.names.lookup x=a_ .free:=by
 unfold bP at I;rw[l_,l_,l_]at I;have q:=Hy.mp I.1.1.2 i (List.mem_range.mpr (tF.mp h).1);rw[h,Y]at q;dsimp only at q;cases e:X.N[j]? with
 |none=>rw[e]at q;cases q|some y=>rw[e]at q;dsimp only at q;rw[l_]at q;exact⟨by rw[HS q.1],HS q.2⟩
theorem bP.fr(I:bP X.N X.env.scope N' sc ix=d_)(h:(x,NameKind.free)∈sc.names):X.env.kindOf x=a_ .cell\/X.env.kindOf x=a_ .free:=by
 unfold bP at I;rw[l_,l_]at I;have q:=Hy.mp I.1.2 _ h;rw[l_]at q;have Y:=q.1;rw[Jt]at Y;rcases Y with z|z
 ·exact Gb z (by simp)
 ·rw[Jt]at z;exact z.imp (λe=>HS e) λe=>HS e
theorem bP.loc(I:bP X.N X.env.scope N' sc ix=d_):∀x∈sc.names,x.2=NameKind.local->sc.names.lookup x.1=a_ .local:=λx a e=>by
 unfold bP at I;rw[l_,l_]at I;have q:=Hy.mp I.1.2 _ a;rw[l_]at q;have Y:=q.2;rw[Jt]at Y;rcases Y with z|z
 ·rw[e]at z;exact Gb z (by decide)
 ·exact HS z
theorem bP.apart(I:bP X.N X.env.scope N' sc ix=d_)(h1:(x,Hs)∈sc.names)(h2:(x,NameKind.free)∈sc.names):False:=by unfold bP at I;rw[l_]at I;have q:=Hy.mp (Hy.mp I.2 _ h1) _ h2;simp at q
theorem rl(I:A6 X A4 σ H s)(Y:bP X.N X.env.scope N' sc ix=d_):∀x∈sc.names,x.2=NameKind.free->∃c,X.env.cells.lookup x.1=a_ c:=λx a e=>by obtain⟨n,k⟩:=x;have b:k=NameKind.free:=e;subst b;exact I.ok.has n (bP.fr Y a)
theorem FG(I:A6 X A4 σ H s)(a:bP X.N X.env.scope N' sc ix=d_)(h:(tO X.env.cells sc.names []).lookup x=a_ c):(x,NameKind.free)∈sc.names/\X.env.cells.lookup x=a_ c:=by
 rcases tN _ _ h with⟨m,e⟩|z
 ·obtain⟨d,hd⟩:=rl I a _ m rfl;have Y:X.env.cells.lookup x=a_ d:=hd;rw[Y]at e;have e2:c=d:=e;subst e2;exact⟨m,Y⟩
 ·simp at z
theorem comp_inv{h1:GQ}(I:A6 X A4 σ H s)(F:∀b∈fp,Dc X A4 H b)(hb:∀b∈fp,∃o,s.heap.get? b=a_ o)(h:bP X.N X.env.scope N' sc ix=d_)(hk:sc.kind=.function)(f:s.heap.objs.size<=L)(E:∀b o,s.heap.get? b=a_ o->h1.get? b=a_ o)(ns:h1.Ns L λ_=>c_)(t:∀x c,(Hl (L+1) sc.names (tO X.env.cells sc.names [])).lookup x=a_ c->(tO X.env.cells sc.names []).lookup x=a_ c\/(L<c/\h1.IsCell c c_)):
  A6 (bp X N' sc L (Hl (L+1) sc.names (tO X.env.cells sc.names [])) s H fp) [] (inS ix σ) H {s with heap:=h1}:=by
 have a:∀x c,(tO X.env.cells sc.names []).lookup x=a_ c->(x,NameKind.free)∈sc.names/\X.env.cells.lookup x=a_ c/\(∃v,s.heap.IsCell c v)/\c<s.heap.objs.size:=λx c e=>by obtain⟨m,W⟩:=FG I h e;obtain⟨v,z⟩:=I.cell x c W;exact⟨m,W,⟨v,z⟩,z.lt⟩
 have B:∀b∈fp,b<s.heap.objs.size:=λb z=>let ⟨o,e⟩:=hb b z;x_ e;have R:∀b∈fp,∀x c,(Hl (L+1) sc.names (tO X.env.cells sc.names [])).lookup x=a_ c->c≠b:=λb z x c e=>by
  have g:=B b z;rcases t x c e with q|⟨q,_⟩
  ·exact(F b z).2.2.2.2.1 x c (a x c q).2.1
  ·exact gt_ne (Gg g f) q
 have K:(bp X N' sc L (Hl (L+1) sc.names (tO X.env.cells sc.names [])) s H fp).Ok:=by
  refine⟨I.ok.mod,hk,I.ok.glob,I.ok.blt,f,?_,?_,?_,I.ok.hd,I.ok.frames,.inl rfl,?_,I.bs,Gw I.ok.bsz I.sz,?_,?_,I.stack,I.DD⟩
  ·refine rn sc.names (L+1) _ (λx y c e1 e2=>I.ok.inj x y c (a x c e1).2.1 (a y c e2).2.1) λx c e=>?_;exact K1 (Gg (a x c e).2.2.2 f)
  ·intro x hx;have N:=sS (env:=X.env) (x:=x) (ns:=sc.names) hx;have q:((Hl (L+1) sc.names (tO X.env.cells sc.names [])).lookup x).isSome=d_:=by
    rcases N with z|z
    ·exact Ig _ _ _ (.inl z)
    ·exact Ig _ _ _ (.inr (rm _ _ (.inl (Hd z))))
   exact HV.mp q
  ·intro x c P e;show s.heap.objs.size<=c;rcases t x c e with q|⟨q,_⟩
   ·have m:=(a x c q).1;have d:(!(sc.names.any λp=>p.1==x&&p.2==NameKind.free))=d_:=P;have z:(sc.names.any λp=>p.1==x&&p.2==NameKind.free)=d_:=K5.mpr ⟨_,m,by simp⟩;rw[z]at d;cases d
   ·exact Gw f (JD q)
  ·intro b z;have g:=B b z;exact⟨Gs (Gg g f),R b z⟩
  ·intro b o e z;rcases(F b z).2.2.2.1 with q|q
   ·exact I.ok.noex b o e q
   ·exact Gb (Gg (x_ e) (Gw I.ok.bsz q)) (G5 _)
  ·intro b z hs;rcases t_.mp (I.sM b hs)with q|q
   ·exact(F b z).2.1 q
   ·exact(F b z).2.2.1 q
 refine⟨K,rfl,I.bare,Un.kept E,⟨_,ns,λi x v Q h2 h3=>?_⟩,λx c e=>?_,I.hok.fresh f,λx c e=>?_,λp hp=>Gb hp (by simp[bp]),I.hok.kept E,?_⟩
 ·have O:∃j,ix[i]?=a_ (a_ j)/\σ[j]?=a_ (a_ v):=by
   unfold inS at h2;rw[GB]at h2;cases e:ix[i]? with
   |none=>rw[e]at h2;cases h2|some o=>
    rw[e]at h2;cases o with
    |none=>cases h2|some j=>
     have Y:(σ[j]?).join=a_ v:=Gn h2;refine⟨j,rfl,?_⟩
     cases e2:σ[j]? with
     |none=>rw[e2]at Y;cases Y|some w=>rw[e2]at Y;have A:w=a_ v:=Y;rw[A]
  obtain⟨j,e1,e2⟩:=O;obtain⟨e3,e4⟩:=bP.at h e1 Q;have n:=bP.fr h (Hd e4);obtain⟨m,hn,hl⟩:=I.loc;obtain⟨u,r,l⟩:=hl j x v e3 e2 (n.elim (λz=>.inr (.inl z)) λz=>.inr (.inr z));refine⟨u,r,.inr ⟨sR (env:=X.env) (x:=x) (ns:=sc.names) e4,?_⟩⟩
  rcases l with⟨k,_⟩|⟨k,c,e,z⟩
  ·rcases n with q|q<;>rw[q]at k<;>cases k
  ·have U:=rm (cells:=X.env.cells) sc.names [] (.inl (Hd e4));obtain⟨c2,D⟩:=HV.mp U;have T:=(a x c2 D).2.1;rw[e]at T;cases T;have Z:=Ig (x:=x) sc.names (L+1) (tO X.env.cells sc.names []) (.inr U);obtain⟨c3,G⟩:=HV.mp Z;rcases t x c3 G with C|⟨C,q7⟩
   ·rw[D]at C;cases C;exact⟨c,G,z.keeps E⟩
   ·exfalso;rcases lR _ _ _ G with⟨_,m'⟩|S
    ·exact bP.apart h m' (Hd e4)
    ·rw[D]at S;cases S;exact Gb (Ka (Gg (a x c D).2.2.2 f) C) (G5 _)
 ·rcases t x c e with q|⟨_,q⟩
  ·obtain⟨v,z⟩:=(a x c q).2.2.1;exact⟨v,z.keeps E⟩
  ·exact⟨_,q⟩
 ·rcases t x c e with q|⟨q,_⟩
  ·exact I.freeC x c (a x c q).2.1
  ·exact I.hok.fresh (Gw f (JD q))
 ·show(inS ix σ).length=N'.length;unfold inS;rw[u_];exact bP.len h
def PTs(X:Cx)(ifs:List GX)(t:TT):Prop:=
 ∀(A4:Vp) (s:y_) (σ:St) (H:Hp) (Q:Bool->Hp->Prop),A6 X A4 σ H s->t σ H Q ->
  Cb (D_ X.prog X.w) X.A (forIn ifs d_ λc r=>if r=d_ then do let I <- Na c X.env (Gj c X.env);Hq (JS I)else Hq (JS r)) (TP X A4 σ Q) X.xe s
noncomputable def tYes:TT:=λ_ H Q=>Q d_ H
theorem yU:PTs X [] tYes:=λ_ _ _ H _ I h=>wpAny_tests_nil ⟨H,I,h⟩
theorem ux{c:GX}{t:TT}(h:PT X c t):PTs X [c] t:=λA4 s σ H Q I q=>wpAny_tests_one (h A4 s σ H Q I q)
theorem xS{R:Nh->y_->Prop}{d I:i_}{env:KS}(J:Nat->y_->Prop)(Y:∀n s,J n s->Cb (D_ prog w) A (pyNext d) (λr f=>match r with
   |none=>R (.ok .next) f|some v=>Cb (D_ prog w) A (Kp tg d v) (λ_ a=>Cb (D_ prog w) A (JU tg env v) (λ_ k=>
     Cb (D_ prog w) A (forIn ifs d_ λc r=>if r=d_ then do let b <- Na c env (Gj c env);Hq (JS b)else Hq (JS r)) (λb e=>
      if b=d_ then Cb (D_ prog w) A (Gj elt env) (λx j=>Cb (D_ prog w) A (Jn (.builtin "list.append") [I,x]) (λ_ i=>∃m,m<n/\J m i) (λ_ _=>False) j) (λ_ _=>False) e
      else ∃m,m<n/\J m e) (λ_ _=>False) k) (λ_ _=>False) a) (λ_ _=>False) f) (λ_ _=>False) s)(n:Nat)(h:J n s):Jm (D_ prog w) A (.compLoop (.ListComp elt [⟨tg,iter,ifs,0⟩] scope pos) 0 d I env) R s:=by
 refine codeAny_loop rfl J (λn s o=>?_) n h;show Cb _ A ((compTurn (.ListComp elt [⟨tg,iter,ifs,0⟩] scope pos) 0 d I env).onRaise (λx=>do MX x env;theTreesLotGoes x)) _ _ s;refine wpAny_noted ?_;rw[compTurn_list];refine h_ (Jy (h_ (GK (Y n s o) (λr f h1=>?_) λ_ _ z=>z.elim)));cases r with
 |none=>exact z_ h1|some v=>
  refine h_ (GK h1 (λ_ a g=>?_) λ_ _ z=>z.elim);refine h_ (GK g (λ_ k h2=>h_ (GK h2 (λb e l=>?_) λ_ _ z=>z.elim)) λ_ _ z=>z.elim);cases b with
  |false=>exact z_ ⟨rfl,l⟩|true=>exact h_ (h_ (GK l (λx j q=>h_ (GK q (λ_ i p=>z_ (z_ ⟨rfl,p⟩)) λ_ _ z=>z.elim)) λ_ _ z=>z.elim))
def nj(J:It)(ix:List (Option Nat))(g:TG)(tt:TT)(te:TE)(σ:St)(F:List V->Hp->Prop)(H:Hp):Prop:=
 ∃W:Nat->Nat->List V->Hp->Prop,(∃m,W 0 m [] H)/\∀i m ys H,W i m ys H ->
  (J.stop i H/\ys.length<=f_/\F ys H)\/(J.go i H/\ys.length<=f_/\∃N:List V->Hp->Prop,(∀Y H',N Y H'->∃a,a<m/\W (i+1) a Y H') /\
   ∀x H',J.yld i H x H'->g x (inS ix σ) H' λI H2=>tt I H2 λb c=>if b=d_ then te I c λy d=>N (ys++[y]) d else N ys c)
theorem A6.slots0(I:A6 X A4 σ' H s)(h:∀(i:Nat) v,(inS ix σ)[i]?=a_ (a_ v)->σ'[i]?=a_ (a_ v))(Y:(inS ix σ).length=X.N.length):A6 X A4 (inS ix σ) H s:=
 I.weak (by rw[Y,I.len]) h
theorem xR{g:TG}{J:It}{it:g_}{tn:Nat->GQ->Prop}{F:List V->Hp->Prop}{E:Mq}(hc:X.calm=d_)(I:A6 X A4 σ H s)(T:Turn X.prog X.w X.K tg J fp it tn)(st:tn 0 s.heap)(hf:∀b∈fp,Dc X A4 H b)(ok:bP X.N X.env.scope N' sc ix=d_)(hk:sc.kind=.function)(hg:∀L cs s H fp,PG (bp X N' sc L cs s H fp) tg g)(hkeep:∀x σ' H' (Q:St->Hp->Prop),g x σ' H' Q->g x σ' H' λσ2 H2=>Q σ2 H2/\∀(i:Nat) v,σ'[i]?=a_ (a_ v)->(∃j,ix[i]?=a_ (a_ j))->σ2[i]?=a_ (a_ v))(ht:∀L cs s H fp,PTs (bp X N' sc L cs s H fp) ifs tt)(he:∀L cs s H fp,PE (bp X N' sc L cs s H fp) elt te)(tr:nj J ix g tt te σ F H):
  Cb (D_ X.prog X.w) X.A (newList []) (λacc s3=>Cb (D_ X.prog X.w) X.A (Md sc X.env.globals (tO X.env.cells sc.names []) [] X.env.qual c_ .none (a_ X.env)) (λf s4=>
   Jm (D_ X.prog X.w) X.A (.compStart (.ListComp elt [⟨tg,iter,ifs,0⟩] sc pos) 0 (.ref it) acc {f with scope:=relabel sc X.env}) (λr s'=>(∃fl,r=.ok fl) /\
    ∃(p:g_) (ys:List V) (H2:Hp),acc=.ref p/\A6 X A4 σ (upd H2 p (.lst ys)) s'/\H2 p=c_/\F ys H2/\(∃m,s'.heap.Ns f.locals m)/\(upd H2 p (.lst ys)) f.locals=c_/\f.locals≠X.env.locals /\
     X.s₀.heap.objs.size<=f.locals/\(∀x c,X.env.cells.lookup x=a_ c->c≠f.locals)/\∀q∈X.pn++A4,q.1≠f.locals) s4) E s3) E s:=by
 obtain⟨W,⟨m0,w0⟩,turn⟩:=tr;refine Le (Es λh1 kp ns hcl=>?_);dsimp only at kp ns hcl ⊢;generalize hH2:s.heap.push {cls:=.type "list",dict:=c_,data:=.seq ([]:List i_).toArray}=w at kp ns hcl ⊢;have eL:w.objs.size=s.heap.objs.size+1:=by rw[<- hH2,Hm]
 have kp0:∀b o,s.heap.get? b=a_ o->h1.get? b=a_ o:=λb o e=>kp b o (hH2▸n_ _ e);have hD0:h1.PlainList s.heap.objs.size #[]:=⟨_,kp _ _ (hH2▸E_ _ rfl)⟩
 have fpo:∀b∈fp,∃o,s.heap.get? b=a_ o:=λb z=>let ⟨o,e,_⟩:=T.obj 0 _ st b z;⟨o,e⟩;have fpl:∀b∈fp,b<s.heap.objs.size:=λb z=>let ⟨o,e⟩:=fpo b z;x_ e;have sL:s.heap.objs.size<=w.objs.size:=by rw[eL];exact GC _
 have U:s.heap.objs.size<w.objs.size:=by rw[eL];exact IS _
 have I0:=comp_inv (h1:=h1) I hf fpo ok hk sL kp0 ns hcl;generalize a:bp X N' sc w.objs.size (Hl (w.objs.size+1) sc.names (tO X.env.cells sc.names [])) s H fp=Y at I0;have B:Y.prog=X.prog:=by subst a;rfl
 have A:Y.w=X.w:=by subst a;rfl
 have eY3:Y.K=X.K:=by subst a;rfl
 have eY4:Y.calm=d_:=by subst a;exact hc
 have K:Y.A=X.A:=by subst a;rfl
 have l:Y.env={scope:=relabel sc X.env,locals:=w.objs.size,globals:=X.env.globals,cells:=Hl (w.objs.size+1) sc.names (tO X.env.cells sc.names []),qual:=X.env.qual,func:=c_,code:=X.env.code,frame:=X.env.frame,builtins:=X.env.builtins}:=by subst a;rfl
 have eY7:Y.xe=λ_ _=>False:=by subst a;rfl
 have eY8:Y.pn=[]:=by subst a;rfl
 have eY9:Y.fs=frs X.stack:=by subst a;rfl
 have N:Y.s₀=s:=by subst a;rfl
 have eY11:Y.H₀=H:=by subst a;rfl
 have eY12:Y.ex=fp:=by subst a;rfl
 have eY13:Y.N=N':=by subst a;rfl
 have hgY:PG Y tg g:=by subst a;exact hg _ _ _ _ _
 have htY:PTs Y ifs tt:=by subst a;exact ht _ _ _ _ _
 have heY:PE Y elt te:=by subst a;exact he _ _ _ _ _
 have lenI:(inS ix σ).length=Y.N.length:=by rw[eY13];unfold inS;rw[u_];exact bP.len ok
 have O:∀(b:g_),b<=w.objs.size->(∀x c,X.env.cells.lookup x=a_ c->c≠b)->∀x c,Y.env.cells.lookup x=a_ c->c≠b:=λb h hx x c e=>by
  rw[l]at e;rcases hcl x c e with q|⟨q,_⟩
  ·exact hx x c (FG I ok q).2
  ·exact(Cn (Nat.lt_of_le_of_lt h (IS _)) q).symm
 have oldc:∀x c,X.env.cells.lookup x=a_ c->c<s.heap.objs.size:=λx c e=>let ⟨v,z⟩:=I.cell x c e;z.lt;have nfs:∀b,s.heap.objs.size<=b->b∉frs X.stack:=λb h z=>by
  rcases t_.mp (I.sM b z)with q|q
  ·exact Cn I.lt h q.symm
  ·exact I.nofs h q
 have fpY:∀(pp:Vp) (H':Hp),(∀b∈fp,H' b=c_)->(∀q∈pp,q.1∉fp)->∀b∈fp,Dc Y pp H' b:=λpp H' hn hq b z=>by
  have hlt:=fpl b z;refine⟨hn b z,?_,?_,.inl (by rw[eY12];exact z),O b (JD (Ka hlt U)) ((hf b z).2.2.2.2.1),λq D e=>?_⟩
  ·rw[l];exact Cn hlt sL
  ·rw[eY9];intro hs;rcases t_.mp (I.sM b hs)with q|q
   ·exact(hf b z).2.1 q
   ·exact(hf b z).2.2.1 q
  ·rw[eY8]at D;exact hq q (by simpa using D) (by rw[e];exact z)
 have Dfp:s.heap.objs.size∉fp:=λz=>Gb (fpl _ z) (G5 _);have Dok:∀(pp:Vp) (H':Hp),H' s.heap.objs.size=c_->(∀q∈pp,q.1≠s.heap.objs.size)->Dc Y pp H' s.heap.objs.size:=λpp H' hn hq=>by
  refine⟨hn,?_,by rw[eY9];exact nfs _ (sy _),.inr (by rw[N];exact sy _),O _ sL (λx c e=>Gs (oldc x c e)),λq D=>?_⟩
  ·rw[l];exact Gs U
  ·rw[eY8]at D;exact hq q (by simpa using D)
 have C:Jm (D_ X.prog X.w) X.A (.compLoop (.ListComp elt [⟨tg,iter,ifs,0⟩] sc pos) 0 (.ref it) (.ref s.heap.objs.size) Y.env) (λr s'=>(∃fl,r=.ok fl) /\
    ∃(p:g_) (ys:List V) (H2:Hp),FZ s.heap.objs.size=.ref p/\A6 X A4 σ (upd H2 p (.lst ys)) s'/\H2 p=c_/\F ys H2/\(∃m,s'.heap.Ns w.objs.size m)/\(upd H2 p (.lst ys)) w.objs.size=c_/\w.objs.size≠X.env.locals /\
     X.s₀.heap.objs.size<=w.objs.size/\(∀x c,X.env.cells.lookup x=a_ c->c≠w.objs.size)/\∀q∈X.pn++A4,q.1≠w.objs.size) {s with heap:=h1}:=by
  refine xS (λn s'=>∃i ys A8 H',A6 Y [] (inS ix σ) H' s'/\tn i s'.heap/\(∀b∈fp,H' b=c_)/\H' s.heap.objs.size=c_/\s'.heap.PlainList s.heap.objs.size A8/\B' ys A8.toList/\W i n ys H') ?_ m0
   ⟨0,[],#[],H,I0,T.keep _ _ _ st λb _ o e=>kp0 b o e,λb z=>(hf b z).1,I.hok.fresh (sy _),hD0,.nil,w0⟩
  rintro n s3 ⟨i,ys,A8,P,I3,st3,fr3,t,pl3,R,w3⟩;obtain⟨Z,oD⟩:=pl3;have hpD:∀q∈[((s.heap.objs.size:g_),({cls:=.type "list",data:=.seq A8 Z}:J_))],q.1∉fp:=λq hq=>by have:q=_:=G9.mp hq;rw[this];exact Dfp
  have I3':A6 Y [((s.heap.objs.size:g_),({cls:=.type "list",data:=.seq A8 Z}:J_))] (inS ix σ) P s3:=I3.uy λq hq=>by have e:q=_:=G9.mp hq;obtain⟨d0,d1,d2,_⟩:=Dok [] P t (λ_ z=>nomatch z);rw[e];exact⟨oD,d0,d1,d2,λv z=>by cases z⟩
  rcases turn i n ys P w3 with⟨stop,ln,qn⟩|⟨go,ln,NN,hNN,step⟩
  ·have h1:=T.done Y B A eY3 eY4 i _ s3 _ P (λ_ _=>False) I3' (fpY _ P fr3 hpD) st3 stop;rw[K]at h1;refine GK h1 (λr s4 G=>?_) λ_ _ z=>z;obtain⟨hr,I4⟩:=G;subst hr;obtain⟨oD4,hD4,_⟩:=I4.pin ((s.heap.objs.size:g_),({cls:=.type "list",data:=.seq A8 Z}:J_)) (by rw[eY8];simp);refine⟨⟨_,rfl⟩,s.heap.objs.size,ys,P,rfl,?_,t,qn,?_,?_,?_,?_,?_,?_⟩
   ·have S:Un (frs X.stack) fp H P s.heap s4.heap:=by
     have:=I4.base;rw[eY9,N,eY11,eY12]at this;exact this
    have hok4:HOk X.prog X.w P s4.heap:=by have:=I4.hok;rw[B,A]at this;exact this
    refine I.call' (ch:=fp) (by have:=I4.os;rw[N]at this;exact this) ⟨S.keep,S.slot,λb o e nn hx=>?_,S.there,λb xs q=>?_,λb o u q=>?_,λb ps q=>?_⟩ (λb u e=>?_) I4.bare (λb h=>?_)
    ·rw[aw (Gs (x_ e))];exact S.free b o e nn hx
    ·rw[aw (aQ (S.tups b xs q) t)];exact S.tups b xs q
    ·rw[aw (aQ (S.frzs b o u q) t)];exact S.frzs b o u q
    ·obtain⟨more,z⟩:=S.tbls b ps q;exact⟨more,by rw[aw (aQ z t)];exact z⟩
    ·by_cases h:b=s.heap.objs.size
     ·subst h;rw[aq]at e;cases e;exact⟨ln,A8.toList,Z,R,by simpa using oD4⟩
     ·rw[aw h]at e;exact(hok4 b u e).yy (λ_ _ _ q=>q) (λc q=>by rw[aw (aQ q t)];exact q) λc xs q=>by rw[aw (aQ q t)];exact q
    ·obtain⟨f0,f1,f2,f3,f4,f5⟩:=hf b h;exact⟨f3,f1,f4,f5⟩
   ·obtain⟨m,hn,_⟩:=I4.loc;rw[l]at hn;exact⟨m,hn⟩
   ·rw[aw (JC U)];have:=I4.free;rw[l]at this;exact this
   ·exact JC (Ka I.lt U)
   ·exact Gw I.sz sL
   ·exact λx c e=>Cn (oldc x c e) sL
   ·exact λq hq=>Cn (x_ (I.pin q hq).1) sL
  ·have h1:=T.item Y B A eY3 eY4 i _ s3 _ P (λ_ _=>False) I3' (fpY _ P fr3 hpD) st3 go;rw[K]at h1;refine GK h1 (λr s4 G=>?_) λ_ _ z=>z;obtain⟨u,hr,h4⟩:=G;subst hr;refine GK h4 (λ_ s5 G=>?_) λ_ _ z=>z;obtain⟨x,H5,I5,r5,y5,st5,fr5⟩:=G;have I5':=I5.pinned (fpY _ H5 fr5 hpD) (T.obj _ _ st5);have h5:=hgY _ s5 _ H5 x u _ I5' r5 (hkeep x _ H5 _ (step x H5 y5));rw[B,A,K,eY7]at h5;refine GK h5 (λ_ s6 G=>?_) λ_ _ z=>z;obtain⟨σ6,H6,I6,q6,k6⟩:=G;have h6:=htY _ s6 σ6 H6 _ I6 q6;rw[B,A,K,eY7]at h6;refine GK h6 (λb s7 G=>?_) λ_ _ z=>z;obtain⟨H7,I7,q7⟩:=G;have back:∀{s8:y_} {H8:Hp},A6 Y ([((s.heap.objs.size:g_),({cls:=.type "list",data:=.seq A8 Z}:J_))]++wH fp s5.heap) σ6 H8 s8->A6 Y [] (inS ix σ) H8 s8/\tn (i+1) s8.heap/\(∀b∈fp,H8 b=c_)/\H8 s.heap.objs.size=c_/\s8.heap.get? s.heap.objs.size=a_ {cls:=.type "list",data:=.seq A8 Z}:=λ{s8 H8} I8=>by
    obtain⟨a1,a2,_⟩:=I8.pin ((s.heap.objs.size:g_),({cls:=.type "list",data:=.seq A8 Z}:J_)) (by rw[eY8];simp);refine⟨(I8.uy (pins':=[]) λ_ z=>nomatch z).slots0 (λk v e=>?_) lenI,T.keep _ _ _ st5 λb h o e=>(I8.pin (b,o) (GR _ (GR _ (ky h e)))).1,λb h=>?_,a2,a1⟩
    ·refine k6 k v e ?_;unfold inS at e;rw[GB]at e;cases e2:ix[k]? with
     |none=>rw[e2]at e;cases e|some o=>
      cases o with
      |none=>rw[e2]at e;cases e|some j=>exact⟨j,rfl⟩
    ·obtain⟨o,e,d⟩:=T.obj _ _ st5 b h;exact(I8.pin (b,o) (GR _ (GR _ (ky h e)))).2.1
   cases b with
   |false=>rw[k_ GZ]at q7 ⊢;obtain⟨m',hm,w7⟩:=hNN _ _ q7;obtain⟨b1,b2,b3,b4,b5⟩:=back I7;exact⟨m',hm,i+1,ys,A8,H7,b1,b2,b3,b4,⟨Z,b5⟩,R,w7⟩
   |true=>
    rw[e_ rfl]at q7 ⊢;have h7:=heY _ s7 σ6 H7 _ I7 q7;rw[B,A,K,eY7,l]at h7;rw[l];refine GK h7 (λuu s8 G=>?_) λ_ _ z=>z;obtain⟨y,H8,I8,r8,q8⟩:=G;obtain⟨m',hm,w8⟩:=hNN _ _ q8;obtain⟨b1,b2,b3,b4,b5⟩:=back I8;have ez:A8.size<=f_:=by
     have h1:=R.length;have h2:A8.toList.length=A8.size:=by simp
     omega
    refine wpAny_list_append_plain (hsz:=ez) ⟨Z,b5⟩ λh9 pl9 sb9=>?_;obtain⟨d0,d1,d2,d3,d4,d5⟩:=Dok [] H8 b4 (λ_ z=>nomatch z);refine⟨m',hm,i+1,ys++[y],A8.push uu,H8,b1.turned (t':=s8.toks) (λb o h e=>(sb9.2 b h).trans e) d0 d1 d3 d4 d5,T.keep _ _ _ b2 λb h o e=>(sb9.2 b ?_).trans e,b3,b4,pl9,?_,w8⟩
    ·exact Cn (fpl b h) (sy _)
    ·rw[Array.toList_push];exact R.append (.cons r8 .nil)
 rw[l]at C;exact codeAny_compStart_list C (T.self X.A 0 _ _ _ (T.keep _ _ _ st λb _ o e=>kp0 b o e) C)
def tComp(wi:TI)(ix:List (Option Nat))(g:TG)(tt:TT)(te:TE):TE:=λσ H Q=>wi σ H λJ H1=>nj J ix g tt te σ (λys H2=>∀p,H2 p=c_->Q (.ref p) (upd H2 p (.lst ys))) H1
def rA(ix:List (Option Nat))(g:TG):Prop:=∀x σ' H' (Q:St->Hp->Prop),g x σ' H' Q->g x σ' H' λI H2=>Q I H2/\∀(i:Nat) v,σ'[i]?=a_ (a_ v)->(∃j,ix[i]?=a_ (a_ j))->I[i]?=a_ (a_ v)
theorem aG{k:Nat}(h:ix[k]?=a_ c_):rA ix (cu k):=λx σ' H' Q q=>⟨q,λi v e ⟨j,I⟩=>by
 have:k≠i:=by rintro rfl;rw[h]at I;cases I
 rw[m_ this];exact e⟩
section
variable{wi:TI}{g:TG}
theorem za(N':List p_)(ix:List (Option Nat))(B:X.calm=d_)(hi:PI X tg iter wi)(z:∀L cs s H fp,PG (bp X N' sc L cs s H fp) tg g)(y:rA ix g)(l:∀L cs s H fp,PTs (bp X N' sc L cs s H fp) ifs tt)(A:∀L cs s H fp,PE (bp X N' sc L cs s H fp) elt te)(a: ~~~(bP X.N X.env.scope N' sc ix=d_))(c: ~~~(sc.kind=.function))(n:autoParam (∀x,HX iter X.env x=Hq x) Jq5):
  PE X (.ListComp elt [⟨tg,iter,ifs,0⟩] sc pos) (tComp wi ix g tt te):=by
 intro A4 s σ H Q I h;rw[eval_ListComp];refine MJ (use:=c_) rfl n (tM (rl I a)) c (bP.loc a) (Bs (hi A4 s σ H _ I h) λv s1 h1=>Bs h1 λk s2 h2=>?_);obtain⟨it,fp,U,J,H2,e,S,T,Y,f2,f⟩:=h2;subst e;refine Bs (xR B S T Y f2 a c z y l A f) λP Z E=>Bs E λd W D=>HY D λr j t=>?_;obtain⟨⟨fl,e1⟩,p,ys,H5,e2,R,u,q,⟨m,w⟩,O,N,K,G,F⟩:=t;subst e1;subst e2;exact⟨m,w,λh' i=>⟨.ref p,_,R.turned (t':=j.toks) (λb o C e=>(i.2 b C).trans e) O N (.inr K) G F,rfl,q p u⟩⟩
def tSetComp(j:Nat)(wi:TI)(ix:List (Option Nat))(g:TG)(tt:TT)(te:TE):TS:=λD σ H=>wi σ H λJ H1=>nj J ix g tt te σ (λys H2=>∀p,H2 p=c_->D.nx (σ.set j (a_ (.ref p))) (upd H2 p (.lst ys))) H1
theorem sV(N':List p_)(ix:List (Option Nat)){j:Nat}{y:p_}(hN:X.N.Nodup)(R:X.N[j]?=a_ y)(l:X.env.scope.names.lookup y=a_ .local)(W:X.calm=d_)(hi:PI X tg iter wi)(S:∀L cs s H fp,PG (bp X N' sc L cs s H fp) tg g)(P:rA ix g)(F:∀L cs s H fp,PTs (bp X N' sc L cs s H fp) ifs tt)(U:∀L cs s H fp,PE (bp X N' sc L cs s H fp) elt te)(i: ~~~(Hr (.ListComp elt [⟨tg,iter,ifs,0⟩] sc pos) (a_ (.Name y py)) spos.line X.env=Hq d_))(f: ~~~(bP X.N X.env.scope N' sc ix=d_))(n: ~~~(sc.kind=.function))(G:autoParam (∀x,HX iter X.env x=Hq x) Jq5):
  PS X (.Assign [.Name y py] (.ListComp elt [⟨tg,iter,ifs,0⟩] sc pos) spos) (tSetComp j wi ix g tt te):=by
 intro A4 s σ H D I h;rw[exec_Assign_Name_used _ _ _ _ i];refine h_ (Jy (h_ ?_));show Cb _ X.A (do let _ <- comprehension (.ListComp elt [⟨tg,iter,ifs,0⟩] sc pos) sc X.env _ (newList []) b_ (Gj iter X.env) (a_ (JU (.Name y py) X.env))) _ _ s;refine h_ (GK (MJ (use:=a_ (JU (.Name y py) X.env)) (Q:=λ_ s'=>SP X A4 D .next s') rfl G (tM (rl I f)) n (bP.loc f) (Bs (hi A4 s σ H _ I h) λv s1 h1=>Bs h1 λE s2 h2=>?_)) (λ_ s' N=>z_ (z_ N)) λ_ _ z=>z);obtain⟨it,fp,tn,J,H2,e,I2,T,c,f2,w⟩:=h2;subst e;refine Bs (xR W I2 T c f2 f n S P F U w) λacc s3 h3=>Bs h3 λY s4 h4=>HY h4 λr C K=>?_;obtain⟨⟨fl,e1⟩,p,ys,H5,e2,I5,k,q,⟨m,O⟩,c0,u,c2,t,c4⟩:=K;subst e1;subst e2;show Cb _ X.A (JU (.Name y py) X.env (.ref p)) _ _ C;refine N2 (vT (v:=.ref p) I5 hN R (.inl l) rfl (λB I6 k=>?_) (.inr l));obtain⟨a,A,ha⟩:=k;have ea:Y.locals≠a:=by
  rcases ha with z|z
  ·rw[z];exact u
  ·exact λe=>t y a z e.symm
 refine⟨m,O.sameBut A ea,λh' d=>?_⟩
 exact⟨_,_,I6.turned (t':=B.toks) (λb o Z e=>(d.2 b Z).trans e) c0 u (.inr c2) t c4,q p k⟩
end
theorem xQ{xs:List V}{g:TG}{F:List V->Hp->Prop}(I:Nat->List V->Hp->Prop)(l:I 0 [] H)(k:∀i ys H,i<=xs.length->I i ys H->SqL K H a xs/\ys.length<=f_)(j:∀i x ys H,xs[i]?=a_ x->I i ys H->g x (inS ix σ) H λY H2=>tt Y H2 λb d=>if b=d_ then te Y d λy n=>I (i+1) (ys++[y]) n else I (i+1) ys d)(hd:∀ys H,I xs.length ys H->F ys H):nj (Itl K a) ix g tt te σ F H:=by
 refine⟨λi m ys H=>m=xs.length-i/\i<=xs.length/\I i ys H,⟨xs.length,by simp,GS _,l⟩,?_⟩
 rintro i m ys H ⟨rfl,hi,p⟩;obtain⟨q,z⟩:=k i ys H hi p;by_cases c:i<xs.length
 ·refine .inr ⟨⟨xs,xs[i],q,by simp[c]⟩,z,I (i+1),λf H' h=>⟨xs.length-(i+1),by omega,rfl,c,h⟩,λx H' y=>?_⟩;obtain⟨e,y⟩:=y;subst e;exact j i x ys _ (y xs q) p
 ·have e:i=xs.length:=by omega
  subst e;exact .inl ⟨⟨xs,q,sy _⟩,z,hd ys H p⟩
theorem Br:∀{bs:List Bool} {us:List i_},B' (bs.map V.bl) us->LSm.BoolsAre us bs
 |[],_,.nil=>.nil|b::r,_,.cons e t=>by cases e;exact .cons b (Br t)
theorem call_all(m:X.calm=d_):fW X (.builtin "all") (λxs H Q=>∃(a:g_) (bs:List Bool),xs=[.ref a]/\SqL X.K H a (bs.map V.bl)/\Q (.bl (bs.all id)) H):=by
 intro A4 s σ H xs us Q I r h;obtain⟨a,bs,rfl,k,q⟩:=h;obtain⟨u,rfl,j⟩:=r.one;cases j;obtain⟨A8,g,p,o⟩:=I.list k;have d:=Br g;have c:=p.isList;have Y:a<s.heap.objs.size:=by obtain⟨_,e,_⟩:=c;exact x_ e
 refine call_all_walk (Jk c ?_);refine⟨s.heap.objs.size,[s.heap.objs.size,a],[s.heap.objs.size],A8.toArray.size,_,_,λi=>(bs[i]?).getD d_,rfl,Walks.list (A:=X.A.in1) (I.ok.hd m) _ a (Gs Y) A8.toArray,
  ⟨⟨_,E_ _ rfl,rfl,rfl⟩,c.push _⟩,λi v s' t w n f=>?_,λh' tk l=>?_⟩
 ·obtain⟨b,e,rfl⟩:=d.get i v (by simpa using n);simp only[e,Option.getD_some]at f;exact GY f
 ·have e:((Hf A8.toArray.size).all λi=>(bs[i]?).getD d_)=bs.all id:=by
   rw[A_,d.length];exact LSm.range_all bs
  rw[e];exact⟨.bl (bs.all id),H,I.kept (LSm.kept_iter l),rfl,q⟩
theorem B'.atA{xs:List V}(r:B' xs us){j:Nat}(h:j<us.toArray.size):∃x,xs[j]?=a_ x/\A' x us.toArray[j]:=by
 have Y:=r.length;have I:j<xs.length:=by rw[Y];simpa using h
 obtain⟨u,e1,e2⟩:=r.get (i:=j) (x:=xs[j]) (by simp[I]);refine⟨xs[j],by simp[I],?_⟩
 have:us.toArray[j]=u:=by
  have h':j<us.length:=by simpa using h
  rw[Gr h']at e1;simpa using Gn e1
 rw[this];exact e2
theorem pe_tyN(a:Gl X x)(Y:X.mg x=c_)(hv:HN x=a_ (.type T))(I:(x≠"__name__")⁻¹)(hd:((x==("__debug__":p_))=b_)⁻¹):PE X (.Name x pos) (tC (.ty T)):=pe_bltn (v:=.ty T) a Y hv rfl I hd
theorem pe_gint{n:Int}(Y:Gl X x)(I:∃t,X.mg x=a_ (.int n t))(hd:((x==("__debug__":p_))=b_)⁻¹):PE X (.Name x pos) (tC (.int n)):=by obtain⟨t,e⟩:=I;exact uA (v:=.int n) Y e ⟨t,rfl⟩ hd
section
variable{base:GQ}
theorem Fun.okX{ps:List p_}{k:Nat}(F:Fun K x qual st f fd)(S:gr N ps (aJ st))(Y:∀vs H Q E,sp vs H Q E->vs.length=ps.length)(I:∀(cdv:i_) (A:Iy) (outer:List KS) (s:y_) (H:Hp) (vs:List V) (Q:VK) (E:XK),i5 k (A.deeper (IH qual (aJ st) s.heap.objs.size f cdv))->sp vs H Q E ->
   ∃t,PSs (zY CX P w K mg base N qual (aJ st) f cdv A outer s H E).nox (bS st) t/\t {nx:=λ_ H'=>Q .non H',rt:=Q} (start N vs) H):i6 P w K mg base CX (k+1) f fd ps sp:=by
 obtain⟨oc,od,kV,doc,pm,an,cdv,ct,osl,rfl,c,b⟩:=F.ex;refine fn_of c b S Y λA outer s H vs Q E d a=>?_;obtain⟨t,h,q⟩:=I cdv A outer s H vs Q E d a;exact⟨t,h.nox,q⟩
structure Def(K:Pn)(mg:Ld)(x:p_)(st:GW)(ps:List p_)(f:g_)(fd:HL):Prop where
 fn:Fun K x x st f fd
 mg:mg x=a_ (.ref f)
 bd:Binds K fd ps []
theorem def_of(Y:K.In h)(G:h.Ns GA mg){ps:List p_}{an:Option g_}{kV:i_}(a:NA K GA x=a_ (a_ (.ref f)))(l:K.lookup f=a_ ⟨oc,od,.func (KZ x x (dN st) (bS st) (aJ st) .none kV doc pm an cdv ct),osl⟩)(c:LA K cdv x=d_)(k:HW K (.ref f)=d_)(I:∀(kV doc pm:i_) (an:Option g_) (cdv ct:i_) (us:List i_),us.length=ps.length->KH (KZ x x (dN st) (bS st) (aJ st) .none kV doc pm an cdv ct) ⟨us,[]⟩=Hq (ps.zip us)):
  Def K mg x st ps f (KZ x x (dN st) (bS st) (aJ st) .none kV doc pm an cdv ct):=
 ⟨Bd l c k,mg_of Y G a,(Bd l c k).binds I⟩
structure Mth(K:Pn)(C:g_)(x qual:p_)(st:GW)(ps:List p_)(f:g_)(fd:HL):Prop where
 fn:Fun K x qual st f fd
 mt:Meth K C x f
 bd:Binds K fd ps []
theorem mth_of{ps:List p_}{an:Option g_}{kV:i_}(a:Gh K (.ref C) x=a_ (a_ (.ref f)))(i:isFn K (.ref f)=d_)(l:K.lookup f=a_ ⟨oc,od,.func (KZ x qual (dN st) (bS st) (aJ st) .none kV doc pm an cdv ct),osl⟩)(c:LA K cdv qual=d_)(k:HW K (.ref f)=d_)(I:∀(kV doc pm:i_) (an:Option g_) (cdv ct:i_) (us:List i_),us.length=ps.length->KH (KZ x qual (dN st) (bS st) (aJ st) .none kV doc pm an cdv ct) ⟨us,[]⟩=Hq (ps.zip us)):
  Mth K C x qual st ps f (KZ x qual (dN st) (bS st) (aJ st) .none kV doc pm an cdv ct):=
 ⟨Bd l c k,⟨a,i,k⟩,(Bd l c k).binds I⟩
structure Kls(K:Pn)(mg:Ld)(x:p_)(C:g_):Prop where
 cl:Cls K C
 mg:mg x=a_ (.ref C)
 mks:Nf K C=d_
 kp:HW K (.ref C)=d_
 c1:Gh K (.ref C) "__class__"=a_ (a_ (.builtin "object.__class__"))
 c2:KR K (.builtin "object.__class__") "__get__"=a_ (a_ (.builtin "getset_descriptor.__get__"))
 c3:Ob K (.builtin "object.__class__")=a_ d_
 c4:Iv K C (.type "object")=a_ d_
theorem Kls.ty{fs:List (p_×V)}(k:Kls K mg x C)(e:H a=a_ (.ins C dx fs)):D3 K H (.ref a) (.ref C):=.ins e k.cl k.c1 k.c2 k.c3 k.c4
theorem kls_of(i:K.In h)(G:h.Ns GA mg)(a:NA K GA x=a_ (a_ (.ref C)))(b:Ll K C Ii=d_)(hd:ID K C=d_)(Y:M3 K C=d_)(I:Gh K (.ref C) "__setattr__"=a_ (a_ (.builtin "object.__setattr__")))(mk:Nf K C=d_)(c:HW K (.ref C)=d_)(g:Gh K (.ref C) "__class__"=a_ (a_ (.builtin "object.__class__")))(f:KR K (.builtin "object.__class__") "__get__"=a_ (a_ (.builtin "getset_descriptor.__get__")))(e:Ob K (.builtin "object.__class__")=a_ d_)(d:Iv K C (.type "object")=a_ d_):Kls K mg x C:=
 ⟨⟨b,hd,Y,I⟩,mg_of i G a,mk,c,g,f,e,d⟩
end
theorem pg_c(a:N'.Nodup)(hi:N'[i]?=a_ x)(I:Loc (bp X N' sc L cs s H fp).env.scope x)(Y:autoParam ((bp X N' sc L cs s H fp).fn x=d_\/(bp X N' sc L cs s H fp).env.scope.names.lookup x=a_ .local) Jq3):PG (bp X N' sc L cs s H fp) (.Name x pos) (cu i):=dh a hi I Y
structure Grid(H:Hp)(a:g_)(as:List g_)(rows:List (List Int)):Prop where
 top:H a=a_ (.lst (as.map V.ref))
 len:as.length=rows.length
 row:∀(i:Nat) (b:g_) (r:List Int),as[i]?=a_ b->rows[i]?=a_ r->H b=a_ (.lst (r.map V.int))
theorem Grid.same(g:Grid H a as rows)(h:aL H H'):Grid H' a as rows:=
 ⟨h _ _ g.top,g.len,λi b r e1 e2=>h _ _ (g.row i b r e1 e2)⟩
theorem aL.upd{H:Hp}{a:g_}{o:HO}(h:H a=c_):aL H (upd H a o):=λb u e=>by rw[aw (aQ e h)];exact e
section
variable{k:Nat}{ps:List p_}{ds:List i_}{t:TA}{mc:i_}
structure Stat(K:Pn)(C:g_)(mc:i_)(m:p_)(f:g_):Prop where
 s1:KR K (.ref C) "__getattribute__"=a_ (a_ (.builtin "type.__getattribute__"))
 s2:M1 K C mc=d_
 s3:M4 K (.ref C) mc m=a_ (.val (.ref f))
 s4:HW K (.ref f)=d_
theorem pe_cmeth(S:Stat X.K C mc m f)(q:Gl X x)(o:X.mg x=a_ (.ref C))(F:i6 X.prog X.w X.K X.mg X.base CX k f fd ps sp)(l:i5 k X.A)(u:Binds X.K fd ps ds)(hd:B' dvs ds)(i:Passes CX X E)(v:PA X (e::es) t)(b:((x==("__debug__":p_))=b_)⁻¹)(Y: ~~~(iF (e::es) X.env=(b_,Gj e X.env)::iF es X.env))(a: ~~~((GG pos (iF es X.env)).any (·.1)=b_))(j: ~~~(Gj (.Call (.Attribute (.Name x p) m apos) (e::es) [] pos) X.env=(do
   let c <- Gj (.Name x p) X.env
   Lg apos.atName
   let (f,first) <- JO [c] (Lx c m pl)
   Mf pos f first (GG pos (iF (e::es) X.env)) (HZ pos (Hi [] X.env))))):
  PE X (.Call (.Attribute (.Name x p) m apos) (e::es) [] pos) (gS sp dvs E t):=by
 intro A4 s σ H Q I h;refine LJ (pl:=pl) (j5 I q o ?_ b) j;refine PySem.W.method_cls I.kIn S.s1 (PySem.W.cls_value I.kIn S.s2 S.s3 rfl ?_);refine Km (first:=[]) (h₀:=X.base) I.ok.mod.kin S.s4 (Bs (v pos A4 _ σ H _ (I.tok (s.toks+1)) h) λus w n=>?_) Y a;obtain⟨vs,H2,d,r,g⟩:=n;refine⟨d.kIn,?_⟩
 exact DN (us:=us) (vs:=vs) F l u hd i d r g
end
def Keeps(S:g_->Prop)(H H':Hp):Prop:=∀b o,H b=a_ o->¬S b->H' b=a_ o
theorem Keeps.same(k:Keeps S H H1)(s:aL H1 H2):Keeps S H H2:=λb o e n=>s b o (k b o e n)
theorem Grid.keeps(g:Grid H a as rows)(k:Keeps S H H')(h1:¬S a)(h2:∀x∈as,¬S x):Grid H' a as rows:=
 ⟨k _ _ g.top h1,g.len,λi b r e1 e2=>k _ _ (g.row i b r e1 e2) (h2 b (GI e1))⟩
section
variable{a:GX}
def Dy(r r' I:R2)(ta tb tc td:TE):TE:=λσ H Q=>ta σ H λx H1=>tb σ H1 λy H2=>r x y H2 λz c=>∃k,z=.bl k /\
 (if k=d_ then tc σ c λY g=>r' y Y g λd b=>∃a,d=.bl a/\(if a=d_ then td σ b λe f=>I Y e f Q else Q (.bl b_) b)else Q (.bl b_) c)
theorem aL.tup{a:g_}{xs:List V}(e:aL H H')(h:SqT K H a xs):SqT K H' a xs:=by
 rcases h with(h|⟨o,h⟩)|h
 ·exact .inl (.inl (e _ _ h))
 ·exact .inl (.inr ⟨o,e _ _ h⟩)
 ·exact .inr h
end
theorem iG{xs:List V}(h:H a=a_ (.lst xs)):tyV K "list" (.ref a) H:=.inl ⟨rfl,_,SqL.of h⟩
set_option genSizeOf true in
set_option genInjectivity true in
inductive A3 where
 |non|bl (b:Bool)|int (i:Int)|str (x:p_)|tup (ds:List A3)|lst (ds:List A3)|ins (C:g_) (fs:List (p_×A3))|dic (ks:List (List Int×A3))|dil (ks:List (Int×List (List Int)))
variable{r:Bool×List A3}{d' d1 d2:A3}{ds' ws:List A3}{ks:List (List Int×A3)}
noncomputable abbrev nC:=List Int×g_×V
noncomputable def tHash(ks:List Int):Int:=NP (IL (ks.map hashInt))
def rowE(x:List Int×g_×i_):M6:=⟨tHash x.1,.ref x.2.1,x.2.2⟩
def nz(p:nC)(q:List Int×g_×i_):Prop:=p.1=q.1/\p.2.1=q.2.1/\A' p.2.2 q.2.2
def o9(h:GQ)(a:g_)(xs:List nC)(ep:Nat):Prop:=∃vs:List (List Int×g_×i_),Jo nz xs vs/\(a==G6)=b_/\xs.length<=f_/\(vs.map (·.1)).Nodup/\∃o es,h.get? a=a_ o/\o.ExactDict/\o.data=.dict es ep/\es.toList=vs.map rowE
def yi(a:g_)(xs:List nC)(ep:Nat):HO:=.ext λh=>o9 h a xs ep
noncomputable abbrev LK:=Int×List (List Int)
def lHash(k:LK):Int:=NP (IL [hashInt k.1,NP (IL (k.2.map tHash))])
def rowL(x:LK×g_):M6:=⟨lHash x.1,.ref x.2,.bool d_⟩
def DilOk(h:GQ)(a:g_)(xs:List (LK×g_))(ep:Nat):Prop:=(a==G6)=b_/\xs.length<=f_/\(xs.map (·.1)).Nodup/\∃o es,h.get? a=a_ o/\o.ExactDict/\o.data=.dict es ep/\es.toList=xs.map rowL
def DilO(a:g_)(xs:List (LK×g_))(ep:Nat):HO:=.ext λh=>DilOk h a xs ep
def LabAt(K:Pn)(F:Hp)(b:g_)(k:LK):Prop:=∃(r:g_) (bs:List g_),SqT K F b [V.int k.1,V.ref r]/\SqT K F r (bs.map V.ref)/\bs.length=k.2.length/\∀(j:Nat) (I:List Int) (c:g_),k.2[j]?=a_ I->bs[j]?=a_ c->SqT K F c (I.map V.int)
def D5(K:Pn)(F:Hp)(ks:List LK)(xs:List (LK×g_)):Prop:=xs.map (·.1)=ks/\∀x∈xs,LabAt K F x.2 x.1
mutual
noncomputable def aT(K:Pn)(F:Hp):A3->V->Prop
 |.non,v=>v=.non|.bl b,v=>v=.bl b|.int i,v=>v=.int i|.str x,v=>v=.str x|.tup ds,v=>∃a xs,v=.ref a/\SqT K F a xs/\aE K F ds xs
 |.lst ds,v=>∃a xs,v=.ref a/\SqL K F a xs/\aE K F ds xs
 |.ins C gs,v=>∃a dx fs,v=.ref a/\F a=a_ (.ins C dx fs)/\jh K F gs fs
 |.dic ks,v=>∃a xs,v=.ref a/\(∃ep,F a=a_ (yi a xs ep))/\cV K F ks xs
 |.dil ks,v=>∃a xs,v=.ref a/\(∃ep,F a=a_ (DilO a xs ep))/\D5 K F ks xs
noncomputable def aE(K:Pn)(F:Hp):List A3->List V->Prop
 |[],xs=>xs=[]|d::ds,xs=>∃v vs,xs=v::vs/\aT K F d v/\aE K F ds vs
noncomputable def jh(K:Pn)(F:Hp):List (p_×A3)->List (p_×V)->Prop
 |[],fs=>fs=[]|(f,d)::gs,fs=>∃v r,fs=(f,v)::r/\aT K F d v/\jh K F gs r
noncomputable def cV(K:Pn)(F:Hp):List (List Int×A3)->List nC->Prop
 |[],xs=>xs=[]|(k,d)::ks,xs=>∃b v r,xs=(k,b,v)::r/\SqT K F b (k.map .int)/\aT K F d v/\cV K F ks r
end
mutual
noncomputable def gL:A3->Bool
 |.tup ds=>oH ds|.lst _=>b_|.ins _ _=>b_|.dic _=>b_|.dil _=>b_|_=>d_
noncomputable def oH:List A3->Bool
 |[]=>d_|d::ds=>gL d&&oH ds
end
theorem aL.lst{xs:List V}(e:aL H H')(h:SqL K H a xs):SqL K H' a xs:=by
 rcases h with(h|⟨o,h⟩)|h
 ·exact .inl (.inl (e _ _ h))
 ·exact .inl (.inr ⟨o,e _ _ h⟩)
 ·exact .inr h
theorem LabAt.mono(s:aL F F'){k:LK}(h:LabAt K F b k):LabAt K F' b k:=
 let ⟨r,bs,t1,t2,l,t3⟩:=h;⟨r,bs,s.tup t1,s.tup t2,l,λj I c e1 e2=>s.tup (t3 j I c e1 e2)⟩
theorem D5.mono{K:Pn}{F F':Hp}(s:aL F F'){ks:List LK}{xs:List (LK×g_)}(h:D5 K F ks xs):D5 K F' ks xs:=⟨h.1,λx I=>(h.2 x I).mono s⟩
mutual
theorem aT.mono{K:Pn}{F F':Hp}(s:aL F F'):∀{d:A3} {v:V},aT K F d v->aT K F' d v
 |.non,_,h=>h|.bl _,_,h=>h|.int _,_,h=>h|.str _,_,h=>h|.tup _,_,⟨a,xs,e,q,r⟩=>⟨a,xs,e,s.tup q,aE.mono s r⟩|.lst _,_,⟨a,xs,e,q,r⟩=>⟨a,xs,e,s.lst q,aE.mono s r⟩|.ins _ _,_,⟨a,dx,fs,e,q,r⟩=>⟨a,dx,fs,e,s _ _ q,jh.mono s r⟩|.dic _,_,⟨a,xs,e,⟨ep,q⟩,r⟩=>⟨a,xs,e,⟨ep,s _ _ q⟩,cV.mono s r⟩|.dil _,_,⟨a,xs,e,⟨ep,q⟩,r⟩=>⟨a,xs,e,⟨ep,s _ _ q⟩,D5.mono s r⟩
theorem aE.mono{K:Pn}{F F':Hp}(s:aL F F'):∀{ds:List A3} {xs:List V},aE K F ds xs->aE K F' ds xs
 |[],_,h=>h|_::_,_,⟨v,vs,e,q,r⟩=>⟨v,vs,e,aT.mono s q,aE.mono s r⟩
theorem jh.mono{K:Pn}{F F':Hp}(s:aL F F'):∀{gs:List (p_×A3)} {fs:List (p_×V)},jh K F gs fs->jh K F' gs fs
 |[],_,h=>h|(_,_)::_,_,⟨v,r,e,q,t⟩=>⟨v,r,e,aT.mono s q,jh.mono s t⟩
theorem cV.mono{K:Pn}{F F':Hp}(s:aL F F'):∀{ks:List (List Int×A3)} {xs:List nC},cV K F ks xs->cV K F' ks xs
 |[],_,h=>h|(_,_)::_,_,⟨b,v,r,e,t,q,z⟩=>⟨b,v,r,e,s.tup t,aT.mono s q,cV.mono s z⟩
end
mutual
theorem aT.flat{K:Pn}{F F':Hp}(s:∀a xs,SqT K F a xs->SqT K F' a xs):∀{d:A3} {v:V},gL d=d_->aT K F d v->aT K F' d v
 |.non,_,_,h=>h|.bl _,_,_,h=>h|.int _,_,_,h=>h|.str _,_,_,h=>h|.tup ds,_,f,⟨a,xs,e,q,r⟩=>⟨a,xs,e,s _ _ q,aE.flat s (by simpa[gL] using f) r⟩|.lst _,_,f,_=>by simp[gL]at f|.ins _ _,_,f,_=>by simp[gL]at f|.dic _,_,f,_=>by simp[gL]at f|.dil _,_,f,_=>by simp[gL]at f
theorem aE.flat{K:Pn}{F F':Hp}(s:∀a xs,SqT K F a xs->SqT K F' a xs):∀{ds:List A3} {xs:List V},oH ds=d_->aE K F ds xs->aE K F' ds xs
 |[],_,_,h=>h|d::ds,_,f,⟨v,vs,e,q,r⟩=>by simp only[oH,l_]at f;exact⟨v,vs,e,aT.flat s f.1 q,aE.flat s f.2 r⟩
end
theorem aE.length{K:Pn}{F:Hp}:∀{ds:List A3} {xs:List V},aE K F ds xs->xs.length=ds.length
 |[],_,h=>by rw[show _=[]from h];rfl|_::_,_,⟨_,_,e,_,r⟩=>by rw[e,Gi,Gi,aE.length r]
theorem aE.get{K:Pn}{F:Hp}:∀{ds:List A3} {xs:List V} {i:Nat} {d:A3},aE K F ds xs->ds[i]?=a_ d->∃v,xs[i]?=a_ v/\aT K F d v
 |[],_,_,_,_,e=>by simp at e|_::_,_,0,_,⟨v,vs,e,q,_⟩,h=>by simp only[List.getElem?_cons_zero,LO]at h;subst h e;exact⟨v,rfl,q⟩|_::_,_,i+1,_,⟨v,vs,e,_,r⟩,h=>by subst e;simp only[I9]at h ⊢;exact aE.get r h
theorem aE.at{K:Pn}{F:Hp}{ds:List A3}{xs:List V}{i:Nat}{v:V}(r:aE K F ds xs)(h:xs[i]?=a_ v):∃d,ds[i]?=a_ d/\aT K F d v:=by
 have hi:i<ds.length:=by rw[<- r.length];exact(tF.mp h).1
 obtain⟨w,e,q⟩:=r.get (i:=i) (d:=ds[i]) (by simp[hi]);rw[h]at e;have I:=Gn e;subst I;exact⟨ds[i],by simp[hi],q⟩
theorem aE.cons{d:A3}{ds:List A3}{xs:List V}(q:aT K F d v)(r:aE K F ds xs):aE K F (d::ds) (v::xs):=⟨v,xs,rfl,q,r⟩
theorem aE.append{K:Pn}{F:Hp}:∀{ds es:List A3} {xs ys:List V},aE K F ds xs->aE K F es ys->aE K F (ds++es) (xs++ys)
 |[],_,_,_,h,r=>by rw[show _=[]from h];exact r|_::_,_,_,_,⟨v,vs,e,q,t⟩,r=>by subst e;exact⟨v,_,rfl,q,aE.append t r⟩
theorem aE.take{K:Pn}{F:Hp}:∀{ds:List A3} {xs:List V} (n:Nat),aE K F ds xs->aE K F (ds.take n) (xs.take n)
 |_,_,0,_=>rfl|[],_,_+1,h=>by rw[show _=[]from h];rfl|_::_,_,n+1,⟨v,vs,e,q,r⟩=>by subst e;exact⟨v,_,rfl,q,aE.take n r⟩
theorem aE.drop{K:Pn}{F:Hp}:∀{ds:List A3} {xs:List V} (n:Nat),aE K F ds xs->aE K F (ds.drop n) (xs.drop n)
 |_,_,0,h=>h|[],_,_+1,h=>by rw[show _=[]from h];rfl|_::_,_,n+1,⟨v,vs,e,q,r⟩=>by subst e;exact aE.drop n r
theorem aE.set{K:Pn}{F:Hp}{d:A3}{v:V}(q:aT K F d v):∀{ds:List A3} {xs:List V} (n:Nat),aE K F ds xs->aE K F (ds.set n d) (xs.set n v)
 |[],_,_,h=>by rw[show _=[]from h];rfl|_::_,_,0,⟨w,vs,e,_,r⟩=>by subst e;exact⟨v,_,rfl,q,r⟩|_::_,_,n+1,⟨w,vs,e,p,r⟩=>by subst e;exact⟨w,_,rfl,p,aE.set q n r⟩
structure A5(F H F' H':Hp):Prop where
 ff:aL F F'
 hh:aL H H'
 fh:aL F' H'
 nw:∀b o,F' b=a_ o->F b=a_ o\/H b=c_
theorem A5.refl{F H:Hp}(s:aL F H):A5 F H F H:=⟨aL.refl _,aL.refl _,s,λ_ _ h=>.inl h⟩
theorem A5.trans{F H F1 H1 F2 H2:Hp}(a:A5 F H F1 H1)(b:A5 F1 H1 F2 H2):A5 F H F2 H2:=
 ⟨a.ff.trans b.ff,a.hh.trans b.hh,b.fh,λx o h=>(b.nw x o h).elim (λz=>a.nw x o z) λz=>.inr (a.hh.free z)⟩
theorem A5.lay{p:g_}(s:aL F H)(I:H p=c_):A5 F H (upd F p o) (upd H p o):=
 ⟨aL.upd (s.free I),aL.upd I,λb u h=>by
  by_cases e:b=p
  ·subst e;rw[aq]at h ⊢;exact h
  ·rw[aw e]at h ⊢;exact s b u h,λb u h=>by
  by_cases e:b=p
  ·subst e;exact .inr I
  ·rw[aw e]at h;exact .inl h⟩
theorem A5.grow{p:g_}(s:aL F H)(I:H p=c_):A5 F H F (upd H p o):=
 ⟨aL.refl _,aL.upd I,s.trans (aL.upd I),λ_ _ h=>.inl h⟩
theorem A5.same(s:aL F H)(h:aL H H'):A5 F H F H':=⟨aL.refl _,h,s.trans h,λ_ _ z=>.inl z⟩
def lZ(K:Pn)(F H0 H:Hp):A3->V->Prop
 |.lst ds,v=>∃a xs,v=.ref a/\H a=a_ (.lst xs)/\F a=c_/\H0 a=c_/\aE K F ds xs
 |.dic ks,v=>∃a xs,v=.ref a/\(∃ep,H a=a_ (yi a xs ep))/\F a=c_/\H0 a=c_/\cV K F ks xs
 |.dil ks,v=>∃a xs,v=.ref a/\(∃ep,H a=a_ (DilO a xs ep))/\F a=c_/\H0 a=c_/\D5 K F ks xs
 |d,v=>aT K F d v
noncomputable def isO:A3->Bool
 |.lst _=>d_|.dic _=>d_|.dil _=>d_|_=>b_
noncomputable def isMu:HO->Bool
 |.lst _=>d_|.ext _=>d_|_=>b_
theorem lZ.non{d:A3}(hd:isO d=b_):lZ K F H0 H d v=aT K F d v:=by cases d<;>first|rfl|cases hd
theorem lZ.top{d:A3}(hd:isO d=d_)(q:lZ K F H0 H d v):∃a o,v=.ref a/\H a=a_ o/\isMu o=d_/\F a=c_/\H0 a=c_:=by
 cases d with
 |lst ds=>obtain⟨a,xs,e,p,f,z,_⟩:=q;exact⟨a,_,e,p,rfl,f,z⟩
 |dic ks=>obtain⟨a,xs,e,⟨ep,p⟩,f,z,_⟩:=q;exact⟨a,_,e,p,rfl,f,z⟩
 |dil ks=>obtain⟨a,xs,e,⟨ep,p⟩,f,z,_⟩:=q;exact⟨a,_,e,p,rfl,f,z⟩
 |_=>cases hd
theorem lZ.re{d:A3}(hd:isO d=d_)(q:lZ K F H0 H d (.ref a))(I:aL F F')(fa:F' a=c_)(hh:∀o,H a=a_ o->H' a=a_ o):lZ K F' H0 H' d (.ref a):=by
 cases d with
 |lst ds=>obtain⟨b,xs,e,p,f,z,r⟩:=q;cases e;exact⟨a,xs,rfl,hh _ p,fa,z,r.mono I⟩
 |dic ks=>obtain⟨b,xs,e,⟨ep,p⟩,f,z,r⟩:=q;cases e;exact⟨a,xs,rfl,⟨ep,hh _ p⟩,fa,z,r.mono I⟩
 |dil ks=>obtain⟨b,xs,e,⟨ep,p⟩,f,z,r⟩:=q;cases e;exact⟨a,xs,rfl,⟨ep,hh _ p⟩,fa,z,r.mono I⟩
 |_=>cases hd
theorem lZ.give{d:A3}(hd:isO d=d_)(q:lZ K F H0 H d (.ref a))(I:aL F F')(fa:F' a=H a):aT K F' d (.ref a):=by
 cases d with
 |lst ds=>obtain⟨b,xs,e,p,f,z,r⟩:=q;cases e;exact⟨a,xs,rfl,SqL.of (fa.trans p),r.mono I⟩
 |dic ks=>obtain⟨b,xs,e,⟨ep,p⟩,f,z,r⟩:=q;cases e;exact⟨a,xs,rfl,⟨ep,fa.trans p⟩,r.mono I⟩
 |dil ks=>obtain⟨b,xs,e,⟨ep,p⟩,f,z,r⟩:=q;cases e;exact⟨a,xs,rfl,⟨ep,fa.trans p⟩,r.mono I⟩
 |_=>cases hd
def Val(K:Pn)(own:Bool)(F H0 H:Hp)(d:A3)(v:V):Prop:=if own=d_ then lZ K F H0 H d v else aT K F d v
theorem lZ.back{d:A3}(s:aL H0 H1)(h:lZ K F H1 H d v):lZ K F H0 H d v:=by
 cases d with
 |lst ds=>obtain⟨a,xs,e,p,q,z,r⟩:=h;exact⟨a,xs,e,p,q,s.free z,r⟩
 |dic ks=>obtain⟨a,xs,e,p,q,z,r⟩:=h;exact⟨a,xs,e,p,q,s.free z,r⟩
 |dil ks=>obtain⟨a,xs,e,p,q,z,r⟩:=h;exact⟨a,xs,e,p,q,s.free z,r⟩
 |_=>exact h
theorem Val.back{K:Pn}{own:Bool}{F H0 H1 H:Hp}{d:A3}{v:V}(s:aL H0 H1)(h:Val K own F H1 H d v):Val K own F H0 H d v:=by
 cases own with
 |true=>exact lZ.back s h|false=>exact h
theorem lZ.freeze{d:A3}(s:aL F H)(h:lZ K F H0 H d v):∃F',aL F F'/\aL F' H/\(∀b o,F' b=a_ o->F b=a_ o\/H0 b=c_)/\aT K F' d v:=by
 cases hd:isO d with
 |true=>
  obtain⟨a,u,e,p,_,q,z⟩:=h.top hd;subst e;refine⟨upd F a u,aL.upd q,λb o h=>?_,λb o h=>?_,h.give hd (aL.upd q) (by rw[aq,p])⟩
  ·by_cases e:b=a
   ·subst e;rw[aq]at h;rw[p,<- h]
   ·rw[aw e]at h;exact s b o h
  ·by_cases e:b=a
   ·subst e;exact .inr z
   ·rw[aw e]at h;exact .inl h
 |false=>rw[lZ.non hd]at h;exact⟨F,aL.refl _,s,λ_ _ z=>.inl z,h⟩
inductive Err where
 |stuck|exc (C:g_) (fs:List (p_×A3))
noncomputable abbrev M:=Except Err
variable{g g' g'':A3->A3->M A3}{mk mf mw:List A3->M A3}{mr:List A3->List A3->M (Bool×List A3)}
noncomputable abbrev ah:=List (Option A3)
variable{ρ ρ':ah}{fa fb fc fe fk f3 f5 fw f8 f0:ah->M A3}{ft fu f4 t1 t3 t4 t5:ah->M Bool}{fl:ah->M (Option Int)}{fx:List (p_×A3)->ah->M ah}
structure eD where
 p:Err->Hp->Hp->Prop
 mono:∀{e:Err} {F H F' H':Hp},p e F H->A5 F H F' H'->p e F' H'
 ns:∀{F H:Hp},p .stuck F H->False
noncomputable def C':eD:=⟨λ_ _ _=>False,λh _=>h,λh=>h⟩
def aN(K:Pn)(W:eD)(own:Bool)(F H:Hp)(r:M A3)(Q:VK):Prop:=match r with
 |.ok d=>∀v F' H',A5 F H F' H'->Val K own F' H H' d v->Q v H'|.error e=>W.p e F H
theorem aN.step{W:eD}{own:Bool}{r:M A3}(p:aN K W own F H r Q)(s:A5 F H F1 H1):aN K W own F1 H1 r Q:=by
 cases r with
 |ok d=>exact λv F' H' t q=>p v F' H' (s.trans t) (q.back s.hh)|error e=>exact W.mono p s
theorem aN.frz{W:eD}{r:M A3}(p:aN K W b_ F H r Q):aN K W d_ F H r Q:=by
 cases r with
 |ok d=>intro v F' H' t q;obtain⟨F2,Y,I,n,z⟩:=lZ.freeze t.fh q;exact p v F2 H' ⟨t.ff.trans Y,t.hh,I,λb o h=>(n b o h).elim (λz=>t.nw b o z) .inr⟩ z
 |error e=>exact p
structure dM(K:Pn)(F:Hp)(σ:St)(ρ:ah):Prop where
 len:ρ.length=σ.length
 sl:∀(i:Nat) (d:A3),ρ[i]?=a_ (a_ d)->∃v,σ[i]?=a_ (a_ v)/\aT K F d v
theorem dM.mono{K:Pn}{F F':Hp}{σ:St}{ρ:ah}(r:dM K F σ ρ)(s:aL F F'):dM K F' σ ρ:=
 ⟨r.len,λi d e=>let ⟨v,h,q⟩:=r.sl i d e;⟨v,h,q.mono s⟩⟩
theorem dM.set{K:Pn}{F:Hp}{σ:St}{ρ:ah}{d:A3}{v:V}(r:dM K F σ ρ)(q:aT K F d v)(i:Nat):dM K F (σ.set i (a_ v)) (ρ.set i (a_ d)):=
 ⟨by rw[B_,B_,r.len],λj e h=>by
  by_cases I:i=j
  ·subst I;have hi:i<ρ.length:=by
    have:=(tF.mp h).1;simpa using this
   rw[s_ hi]at h;cases h;exact⟨v,by rw[s_ (by rw[<- r.len];exact hi)],q⟩
  ·rw[m_ I]at h;obtain⟨w,h1,h2⟩:=r.sl j e h;exact⟨w,by rw[m_ I];exact h1,h2⟩⟩
def tD(K:Pn)(W:eD)(own:Bool)(f:ah->M A3):TE:=λσ H Q=>∃F ρ,dM K F σ ρ/\aL F H/\aN K W own F H (f ρ) Q
theorem aP{W:eD}{own:Bool}{f:ah->M A3}{R:VK}(r:dM K F σ ρ)(s:aL F H)(Y:∀e,f ρ=.error e->W.p e F H)(I:∀d,f ρ=.ok d->∀v F1 H1,A5 F H F1 H1->Val K own F1 H H1 d v->R v H1):tD K W own f σ H R:=by
 refine⟨F,ρ,r,s,?_⟩
 cases e:f ρ with
 |ok d=>exact I d e|error x=>exact Y x e
def tDT(K:Pn)(W:eD)(f:ah->M Bool):TT:=λσ H Q=>∃F ρ,dM K F σ ρ/\aL F H/\(match f ρ with
 |.ok b=>∀F' H',A5 F H F' H'->Q b H'|.error e=>W.p e F H)
theorem i7{W:eD}{f:ah->M Bool}(r:dM K F σ ρ)(s:aL F H)(Y:∀e,f ρ=.error e->W.p e F H)(I:∀b,f ρ=.ok b->∀F1 H1,A5 F H F1 H1->R b H1):tDT K W f σ H R:=by
 refine⟨F,ρ,r,s,?_⟩
 cases e:f ρ with
 |ok d=>exact I d e|error x=>exact Y x e
def tDA(K:Pn)(W:eD)(f:ah->M (List A3)):TA:=λσ H Q=>∃F ρ,dM K F σ ρ/\aL F H/\(match f ρ with
 |.ok ds=>∀vs F' H',A5 F H F' H'->aE K F' ds vs->Q vs H'|.error e=>W.p e F H)
theorem pJ{W:eD}{f:ah->M (List A3)}{R:List V->Hp->Prop}(r:dM K F σ ρ)(s:aL F H)(Y:∀e,f ρ=.error e->W.p e F H)(I:∀ds,f ρ=.ok ds->∀vs F1 H1,A5 F H F1 H1->aE K F1 ds vs->R vs H1):tDA K W f σ H R:=by
 refine⟨F,ρ,r,s,?_⟩
 cases e:f ρ with
 |ok d=>exact I d e|error x=>exact Y x e
def ai(i:Nat):ah->M A3:=λρ=>match ρ[i]? with
 |some (a_ d)=>.ok d|_=>.error .stuck
def fC(d:A3):ah->M A3:=λ_=>.ok d
noncomputable def f1(g:A3->M A3)(fa:ah->M A3):ah->M A3:=λρ=>(fa ρ).bind g
noncomputable def f2(g:A3->A3->M A3)(fa fb:ah->M A3):ah->M A3:=λρ=>(fa ρ).bind λa=>(fb ρ).bind λb=>g a b
noncomputable def aD:ah->M (List A3):=λ_=>.ok []
noncomputable def aa(fa:ah->M A3)(fr:ah->M (List A3)):ah->M (List A3):=λρ=>(fa ρ).bind λa=>(fr ρ).bind λr=>.ok (a::r)
noncomputable def fL(g:List A3->M A3)(fr:ah->M (List A3)):ah->M A3:=λρ=>(fr ρ).bind g
def iC(ds:List A3):M A3:=if ds.length<=f_ then .ok (.tup ds)else .error .stuck
def bu(ds:List A3):M A3:=if ds.length<=f_ then .ok (.lst ds)else .error .stuck
noncomputable def fIte(ft:ah->M Bool)(fa fb:ah->M A3):ah->M A3:=λρ=>(ft ρ).bind λb=>if b=d_ then fa ρ else fb ρ
noncomputable def xw(ft fu:ah->M Bool):ah->M Bool:=λρ=>(ft ρ).bind λb=>if b=d_ then fu ρ else .ok b_
noncomputable def fOr(ft fu:ah->M Bool):ah->M Bool:=λρ=>(ft ρ).bind λb=>if b=d_ then .ok d_ else fu ρ
noncomputable def qS(ft:ah->M Bool):ah->M Bool:=λρ=>(ft ρ).bind λb=>.ok (!b)
noncomputable def asB:A3->M Bool
 |.bl b=>.ok b|_=>.error .stuck
def fB(fa:ah->M A3):ah->M Bool:=λρ=>(fa ρ).bind asB
def iq(fa fb:ah->M A3):ah->M A3:=λρ=>(fa ρ).bind λa=>(asB a).bind λb=>if b=d_ then fb ρ else .ok (.bl b_)
def D9(fa fb:ah->M A3):ah->M A3:=λρ=>(fa ρ).bind λa=>(asB a).bind λb=>if b=d_ then .ok (.bl d_)else fb ρ
noncomputable def notD:A3->M A3
 |.bl b=>.ok (.bl (!b))|_=>.error .stuck
def truD:A3->M Bool
 |.non=>.ok b_|.bl b=>.ok b|.int i=>.ok (i != 0)|.str x=>if x.length<=f_ then .ok ((x.length:Int) != 0)else .error .stuck
 |.tup ds=>.ok (!ds.isEmpty)|.lst ds=>.ok (!ds.isEmpty)|_=>.error .stuck
def kM(fa:ah->M A3):ah->M Bool:=λρ=>(fa ρ).bind truD
def jc(g g':A3->A3->M A3)(fa fb fc:ah->M A3):ah->M A3:=λρ=>(fa ρ).bind λa=>(fb ρ).bind λb=>(g a b).bind λx=>(asB x).bind λk=>if k=d_ then(fc ρ).bind λc=>g' b c else .ok (.bl b_)
def rD2(K:Pn)(W:eD)(own:Bool)(g:A3->A3->M A3):R2:=λx y H Q=>∃F a b,aL F H/\aT K F a x/\aT K F b y/\aN K W own F H (g a b) Q
def rD1(K:Pn)(W:eD)(own:Bool)(g:A3->M A3):V->Hp->VK->Prop:=λx H Q=>∃F a,aL F H/\aT K F a x/\aN K W own F H (g a) Q
def rDL(K:Pn)(W:eD)(own:Bool)(g:List A3->M A3):List V->Hp->VK->Prop:=λxs H Q=>∃F ds,aL F H/\aE K F ds xs/\aN K W own F H (g ds) Q
section
variable{W:eD}{own:Bool}
theorem rd_var(h:tD K W b_ (ai i) σ H Q):bV i σ H Q:=by
 obtain⟨F,ρ,r,s,p⟩:=h;unfold ai at p
 match e:ρ[i]? with
 |some (a_ d)=>rw[e]at p;obtain⟨v,e1,q⟩:=r.sl i d e;exact⟨v,e1,p v F H (A5.refl s) q⟩
 |some c_=>rw[e]at p;exact(W.ns p).elim|none=>rw[e]at p;exact(W.ns p).elim
theorem rd_c{d:A3}(hd:∀F,aT K F d v)(h:tD K W b_ (fC d) σ H Q):tC v σ H Q:=by obtain⟨F,ρ,r,s,p⟩:=h;exact p v F H (A5.refl s) (hd F)
theorem aN.err{x:M A3}{e:Err}(p:aN K W own F H x Q)(h:x=.error e):W.p e F H:=by rw[h]at p;exact p
theorem rd_1{g:A3->M A3}(h:tD K W own (f1 g fa) σ H Q):tUn (rD1 K W own g) (tD K W b_ fa) σ H Q:=by
 obtain⟨F,ρ,r,s,p⟩:=h;refine aP r s (λe b=>p.err (by unfold f1;rw[b];rfl)) λa c x F1 H1 I Y=>?_;refine⟨F1,a,I.fh,Y,?_⟩
 have e:f1 g fa ρ=g a:=by unfold f1;rw[c];rfl
 rw[e]at p;exact p.step I
theorem rd_2(h:tD K W own (f2 g fa fb) σ H Q):tOp (rD2 K W own g) (tD K W b_ fa) (tD K W b_ fb) σ H Q:=by
 obtain⟨F,ρ,r,s,p⟩:=h;refine aP r s (λe c=>p.err (by unfold f2;rw[c];rfl)) λa d x F1 H1 I i=>?_;refine aP (r.mono I.ff) I.fh (λe c=>(p.step I).err (by unfold f2;rw[d];show(fb ρ).bind _=_;rw[c];rfl)) λb j y F2 H2 Y f=>?_;refine⟨F2,a,b,Y.fh,aT.mono Y.ff i,f,?_⟩
 have e:f2 g fa fb ρ=g a b:=by unfold f2;rw[d];show(fb ρ).bind _=_;rw[j];rfl
 rw[e]at p;exact p.step (I.trans Y)
theorem rd_nil{R:List V->Hp->Prop}(h:tDA K W aD σ H R):dP σ H R:=by obtain⟨F,ρ,r,s,p⟩:=h;exact p [] F H (A5.refl s) rfl
theorem rd_cons{fr:ah->M (List A3)}{R:List V->Hp->Prop}(h:tDA K W (aa fa fr) σ H R):aR (tD K W b_ fa) (tDA K W fr) σ H R:=by
 obtain⟨F,ρ,r,s,p⟩:=h;refine aP r s (λe Y=>?_) λa c x F1 H1 I f=>pJ (r.mono I.ff) I.fh (λe Y=>?_) λds hd xs F2 H2 b d=>?_
 ·have z:aa fa fr ρ=.error e:=by unfold aa;rw[Y];rfl
  rw[z]at p;exact p
 ·have z:aa fa fr ρ=.error e:=by unfold aa;rw[c];show(fr ρ).bind _=_;rw[Y];rfl
  rw[z]at p;exact W.mono p I
 ·have z:aa fa fr ρ=.ok (a::ds):=by unfold aa;rw[c];show(fr ρ).bind _=_;rw[hd];rfl
  rw[z]at p;exact p (x::xs) F2 H2 (I.trans b) ⟨x,xs,rfl,aT.mono b.ff f,d⟩
theorem rd_L{g:List A3->M A3}{fr:ah->M (List A3)}(h:tD K W own (fL g fr) σ H Q):tDA K W fr σ H λxs H1=>rDL K W own g xs H1 Q:=by
 obtain⟨F,ρ,r,s,p⟩:=h;refine pJ r s (λe a=>p.err (by unfold fL;rw[a];rfl)) λds hd xs F1 H1 I Y=>⟨F1,ds,I.fh,Y,?_⟩
 have e:fL g fr ρ=g ds:=by unfold fL;rw[hd];rfl
 rw[e]at p;exact p.step I
theorem rd_tup{fr:ah->M (List A3)}(h:tD K W own (fL iC fr) σ H Q):tTup (tDA K W fr) σ H Q:=by
 obtain⟨F,ρ,r,s,p⟩:=rd_L h;refine⟨F,ρ,r,s,?_⟩
 cases e:fr ρ with
 |error x=>rw[e]at p;exact p|ok ds=>
  rw[e]at p;intro vs F' H' t q;obtain⟨F1,es,Y,b,z⟩:=p vs F' H' t q;unfold iC at z;by_cases I:es.length<=f_
  ·rw[e_ I]at z;refine⟨by rw[b.length];exact I,λa c=>z (.ref a) _ _ (A5.lay Y c) ?_⟩
   have:aT K (upd F1 a (.tup vs)) (.tup es) (.ref a):=⟨a,vs,rfl,SqT.of aq,b.mono (aL.upd (Y.free c))⟩
   cases own with
   |true=>exact this|false=>exact this
  ·rw[k_ I]at z;exact(W.ns z).elim
theorem rd_lst{fr:ah->M (List A3)}(h:tD K W d_ (fL bu fr) σ H Q):Ar (tDA K W fr) σ H Q:=by
 obtain⟨F,ρ,r,s,p⟩:=rd_L h;refine⟨F,ρ,r,s,?_⟩
 cases e:fr ρ with
 |error x=>rw[e]at p;exact p|ok ds=>
  rw[e]at p;intro vs F' H' t q;obtain⟨F1,es,b,c,z⟩:=p vs F' H' t q;unfold bu at z;by_cases I:es.length<=f_
  ·rw[e_ I]at z;exact⟨by rw[c.length];exact I,λa Y=>z (.ref a) F1 _ (A5.grow b Y) ⟨a,vs,rfl,aq,b.free Y,Y,c⟩⟩
  ·rw[k_ I]at z;exact(W.ns z).elim
theorem rd_ite(h:tD K W own (fIte ft fa fb) σ H Q):tIf (tDT K W ft) (tD K W own fa) (tD K W own fb) σ H Q:=by
 obtain⟨F,ρ,r,s,p⟩:=h;refine i7 r s (λe Y=>p.err (by unfold fIte;rw[Y];rfl)) λb a F1 H1 I=>?_;have e:fIte ft fa fb ρ=if b=d_ then fa ρ else fb ρ:=by unfold fIte;rw[a];rfl
 rw[e]at p;cases b with
 |true=>exact⟨F1,ρ,r.mono I.ff,I.fh,p.step I⟩|false=>exact⟨F1,ρ,r.mono I.ff,I.fh,p.step I⟩
theorem As{f:ah->M Bool}(r:dM K F σ ρ)(I:A5 F H F1 H1)(p:match f ρ with
 |.ok b=>∀F' H',A5 F H F' H'->R b H'|.error e=>W.p e F H):tDT K W f σ H1 R:=by
 refine⟨F1,ρ,r.mono I.ff,I.fh,?_⟩
 cases e:f ρ with
 |ok b=>rw[e]at p;exact λF' H' t=>p F' H' (I.trans t)|error x=>rw[e]at p;exact W.mono p I
theorem rd_and(h:tDT K W (xw ft fu) σ H R):tAnd (tDT K W ft) (tDT K W fu) σ H R:=by
 obtain⟨F,ρ,r,s,p⟩:=h;refine i7 r s (λe Y=>?_) λb a F1 H1 I=>?_
 ·have z:xw ft fu ρ=.error e:=by unfold xw;rw[Y];rfl
  rw[z]at p;exact p
 ·have z:xw ft fu ρ=if b=d_ then fu ρ else .ok b_:=by unfold xw;rw[a];rfl
  rw[z]at p;cases b with
  |true=>exact As r I p|false=>exact p F1 H1 I
theorem rd_or(h:tDT K W (fOr ft fu) σ H R):tOr (tDT K W ft) (tDT K W fu) σ H R:=by
 obtain⟨F,ρ,r,s,p⟩:=h;refine i7 r s (λe Y=>?_) λb a F1 H1 I=>?_
 ·have z:fOr ft fu ρ=.error e:=by unfold fOr;rw[Y];rfl
  rw[z]at p;exact p
 ·have z:fOr ft fu ρ=if b=d_ then .ok d_ else fu ρ:=by unfold fOr;rw[a];rfl
  rw[z]at p;cases b with
  |false=>exact As r I p|true=>exact p F1 H1 I
theorem rd_not(h:tDT K W (qS ft) σ H R):tNot (tDT K W ft) σ H R:=by
 obtain⟨F,ρ,r,s,p⟩:=h;refine i7 r s (λe Y=>?_) λb a F1 H1 I=>?_
 ·have z:qS ft ρ=.error e:=by unfold qS;rw[Y];rfl
  rw[z]at p;exact p
 ·have z:qS ft ρ=.ok (!b):=by unfold qS;rw[a];rfl
  rw[z]at p;exact p F1 H1 I
theorem rd_B(h:tDT K W (fB fa) σ H R):tTest (tD K W b_ fa) σ H R:=by
 obtain⟨F,ρ,r,s,p⟩:=h;refine aP r s (λe c=>?_) λa d x F1 H1 I Y=>?_
 ·have z:fB fa ρ=.error e:=by unfold fB;rw[c];rfl
  rw[z]at p;exact p
 ·have z:fB fa ρ=asB a:=by unfold fB;rw[d];rfl
  rw[z]at p;cases a with
  |bl b=>exact⟨b,Y,p F1 H1 I⟩|_=>exact(W.ns p).elim
theorem tru_of{a:A3}{x:V}{b:Bool}(s:aL F H1)(q:aT K F a x)(h:truD a=.ok b):TruV K x H1 b:=by
 cases a with
 |non=>rw[show x=.non from q];exact(HD h).symm|bl c=>rw[show x=.bl c from q];exact(HD h).symm|int i=>rw[show x=.int i from q];exact(HD h).symm|str y=>
  rw[show x=.str y from q];have h':(if y.length<=f_ then Ge ((y.length:Int) != 0)else Im Err.stuck)=Ge b:=h;by_cases I:y.length<=f_
  ·rw[e_ I]at h';exact⟨I,(HD h').symm⟩
  ·rw[k_ I]at h';cases h'
 |tup ds=>
  obtain⟨p,xs,e,t,r⟩:=q;subst e;refine .inr (.inl ⟨xs,s.tup t,?_⟩);rw[<- HD h];cases ds with
  |nil=>rw[show xs=[]from r];rfl|cons d ds=>obtain⟨v,vs,e,_⟩:=r;rw[e];rfl
 |lst ds=>
  obtain⟨p,xs,e,t,r⟩:=q;subst e;refine .inl ⟨xs,s.lst t,?_⟩;rw[<- HD h];cases ds with
  |nil=>rw[show xs=[]from r];rfl|cons d ds=>obtain⟨v,vs,e,_⟩:=r;rw[e];rfl
 |ins C fs=>cases h|dic ks=>cases h|dil ks=>cases h
theorem rd_tru(h:tDT K W (kM fa) σ H R):tD K W b_ fa σ H λx H1=>∃k,TruV K x H1 k/\R k H1:=by
 obtain⟨F,ρ,r,s,p⟩:=h;refine aP r s (λe f=>?_) λa g x F1 H1 Y d=>?_
 ·have z:kM fa ρ=.error e:=by unfold kM;rw[f];rfl
  rw[z]at p;exact p
 ·have z:kM fa ρ=truD a:=by unfold kM;rw[g];rfl
  rw[z]at p;cases e:truD a with
  |ok b=>rw[e]at p;exact⟨b,tru_of Y.fh d e,p F1 H1 Y⟩|error x=>
   rw[e]at p;have:x=.stuck:=by
    cases a with
    |str y=>
     have I:(if y.length<=f_ then Ge ((y.length:Int) != 0)else Im Err.stuck)=Im x:=e;by_cases c:y.length<=f_
     ·rw[e_ c]at I;cases I
     ·rw[k_ c]at I;cases I;rfl
    |ins C fs=>cases e;rfl|dic ks=>cases e;rfl|dil ks=>cases e;rfl|_=>cases e
   subst this;exact(W.ns p).elim
theorem rd_andV(h:tD K W b_ (iq fa fb) σ H Q):tAndV (tD K W b_ fa) (tD K W b_ fb) σ H Q:=by
 obtain⟨F,ρ,r,s,p⟩:=h;refine aP r s (λe c=>p.err (by unfold iq;rw[c];rfl)) λa d x F1 H1 I Y=>?_;have z:iq fa fb ρ=(asB a).bind λb=>if b=d_ then fb ρ else .ok (.bl b_):=by unfold iq;rw[d];rfl
 rw[z]at p;cases a with
 |bl b=>
  refine⟨b,Y,?_⟩
  cases b with
  |true=>exact⟨F1,ρ,r.mono I.ff,I.fh,aN.step (own:=b_) (r:=fb ρ) p I⟩|false=>exact p (.bl b_) F1 H1 I rfl
 |_=>exact(W.ns p).elim
theorem rd_orV(h:tD K W b_ (D9 fa fb) σ H Q):tOrV (tD K W b_ fa) (tD K W b_ fb) σ H Q:=by
 obtain⟨F,ρ,r,s,p⟩:=h;refine aP r s (λe c=>p.err (by unfold D9;rw[c];rfl)) λa d x F1 H1 I Y=>?_;have z:D9 fa fb ρ=(asB a).bind λb=>if b=d_ then .ok (.bl d_)else fb ρ:=by unfold D9;rw[d];rfl
 rw[z]at p;cases a with
 |bl b=>
  refine⟨b,Y,?_⟩
  cases b with
  |false=>exact⟨F1,ρ,r.mono I.ff,I.fh,aN.step (own:=b_) (r:=fb ρ) p I⟩|true=>exact p (.bl d_) F1 H1 I rfl
 |_=>exact(W.ns p).elim
theorem rd_notV(h:tD K W b_ (f1 notD fa) σ H Q):tNotV (tD K W b_ fa) σ H Q:=by
 obtain⟨F,ρ,r,s,p⟩:=h;refine aP r s (λe c=>p.err (by unfold f1;rw[c];rfl)) λa d x F1 H1 I Y=>?_;have z:f1 notD fa ρ=notD a:=by unfold f1;rw[d];rfl
 rw[z]at p;cases a with
 |bl b=>exact⟨b,Y,p (.bl (!b)) F1 H1 I rfl⟩|_=>exact(W.ns p).elim
theorem AI(h:tD K W b_ (jc g g' fa fb fc) σ H Q):Dz (rD2 K W b_ g) (rD2 K W b_ g') (tD K W b_ fa) (tD K W b_ fb) (tD K W b_ fc) σ H Q:=by
 obtain⟨F,ρ,r,s,p⟩:=h;refine aP r s (λe f=>p.err (by unfold jc;rw[f];rfl)) λa q x F1 H1 Y A=>?_;refine aP (r.mono Y.ff) Y.fh (λe f=>(p.step Y).err (by unfold jc;rw[q];show(fb ρ).bind _=_;rw[f];rfl)) λb C y F2 H2 i o=>?_;have z:jc g g' fa fb fc ρ=(g a b).bind λx=>(asB x).bind λk=>if k=d_ then(fc ρ).bind λc=>g' b c else .ok (.bl b_):=by unfold jc;rw[q];show(fb ρ).bind _=_;rw[C];rfl
 rw[z]at p;refine⟨F2,a,b,i.fh,aT.mono i.ff A,o,?_⟩
 have p2:=p.step (Y.trans i);cases e:g a b with
 |error x=>rw[e]at p2;exact p2|ok d=>
  rw[e]at p2;intro v n m I u;have p3:aN K W b_ n m ((asB d).bind λk=>if k=d_ then(fc ρ).bind λc=>g' b c else .ok (.bl b_)) Q:=aN.step p2 I;cases d with
  |bl k=>
   refine⟨k,u,?_⟩
   cases k with
   |false=>exact p3 (.bl b_) n m (A5.refl I.fh) rfl|true=>
    have l:aN K W b_ n m ((fc ρ).bind λc=>g' b c) Q:=p3;refine aP (r.mono (Y.trans (i.trans I)).ff) I.fh (λe f=>l.err (by rw[f];rfl)) λc B w D E j t=>⟨D,b,c,j.fh,aT.mono (I.trans j).ff o,t,?_⟩
    rw[B]at l;exact l.step j
  |_=>exact(W.ns p3).elim
end
inductive Pat where
 |nm (i:Nat)|tp (is:List Nat)
def j9:List Nat->List A3->ah->ah
 |i::is,d::ds,ρ=>j9 is ds (ρ.set i (a_ d))|_,_,ρ=>ρ
def jC:Pat->A3->ah->M ah
 |.nm i,d,ρ=>.ok (ρ.set i (a_ d))|.tp is,.tup ds,ρ=>if ds.length=is.length then .ok (j9 is ds ρ)else .error .stuck
 |.tp _,_,_=>.error .stuck
def iU:List Nat->TGs
 |[]=>gNil|i::is=>kL (cu i) (iU is)
def gP(K:Pn):Pat->TG
 |.nm i=>cu i|.tp is=>gTup K is.length (iU is)
theorem tE{K:Pn}{F H:Hp}{R:St->Hp->Prop}:∀{is:List Nat} {ds:List A3} {vs:List V} {σ:St} {ρ:ah},dM K F σ ρ->aE K F ds vs->ds.length=is.length->(∀σ',dM K F σ' (j9 is ds ρ)->R σ' H)->iU is vs σ H R
 |[],[],_,σ,ρ,r,q,_,h=>⟨q,h σ r⟩|[],_::_,_,_,_,_,_,e,_=>by simp at e|_::_,[],_,_,_,_,_,e,_=>by simp at e|i::is,d::ds,_,σ,ρ,r,⟨v,vs,e,q,t⟩,l,h=>⟨v,vs,e,tE (r.set q i) t (by simpa using l) h⟩
theorem gP_run{R:St->Hp->Prop}{p:Pat}{d:A3}(r:dM K F σ ρ)(s:aL F H)(q:aT K F d v)(e:jC p d ρ=.ok ρ')(h:∀σ',dM K F σ' ρ'->R σ' H):gP K p v σ H R:=by
 cases p with
 |nm i=>have:=HD e;subst this;exact h _ (r.set q i)|tp is=>
  cases d with
  |tup ds=>
   have Y:(if ds.length=is.length then Ge (j9 is ds ρ)else Im Err.stuck)=Ge ρ':=e;by_cases I:ds.length=is.length
   ·rw[e_ I]at Y;have:=HD Y;subst this;obtain⟨a,xs,b,t,z⟩:=q;exact⟨a,xs,b,s.tup t,by rw[z.length,I],tE r z I h⟩
   ·rw[k_ I]at Y;cases Y
  |_=>cases e
theorem rq{p:Pat}{d:A3}{e:Err}(h:jC p d ρ=.error e):e=.stuck:=by
 cases p with
 |nm i=>cases h|tp is=>
  cases d with
  |tup ds=>
   have I:(if ds.length=is.length then Ge (j9 is ds ρ)else Im Err.stuck)=Im e:=h;by_cases Y:ds.length=is.length
   ·rw[e_ Y]at I;cases I
   ·rw[k_ Y]at I;cases I;rfl
  |_=>cases h;rfl
structure yh(K:Pn)(F1:Hp)(J:It)(ds:List A3):Prop where
 go:∀(i:Nat) (F H:Hp),aL F1 F->aL F H->i<ds.length->J.go i H
 yl:∀(i:Nat) (F H:Hp) (x:V) (H':Hp) (d:A3),aL F1 F->aL F H->ds[i]?=a_ d->J.yld i H x H'->∃F',A5 F H F' H'/\aT K F' d x
 st:∀(F H:Hp),aL F1 F->aL F H->J.stop ds.length H
def iD(K:Pn)(W:eD)(f:ah->M (List A3)):TI:=λσ H R=>∃F ρ,dM K F σ ρ/\aL F H/\(match f ρ with
 |.ok ds=>∀J F1 H1,A5 F H F1 H1->yh K F1 J ds->R J H1|.error e=>W.p e F H)
def ig:A3->M (List A3)
 |.lst ds=>.ok ds|.tup ds=>.ok ds|_=>.error .stuck
def fIt(fa:ah->M A3):ah->M (List A3):=λρ=>(fa ρ).bind ig
def iSeq(K:Pn)(tl:TE):TI:=λσ H R=>tl σ H λx H1=>∃a,x=.ref a/\((∃xs,SqL K H1 a xs)/\R (Itl K a) H1\/(∃xs,SqT K H1 a xs)/\R (Itt K a) H1)
theorem EL{xs:List V}{ds:List A3}(t:SqL K F a xs)(z:aE K F ds xs):yh K F (Itl K a) ds where
 go:=λi F' H' Y I hi=>⟨xs,xs[i]'(by rw[z.length];exact hi),I.lst (Y.lst t),by simp[z.length,hi]⟩
 yl:=λi F' H' x H2 d Y I hd b=>by obtain⟨e,b⟩:=b;subst e;obtain⟨v,e1,q⟩:=z.get hd;have e2:=b xs (I.lst (Y.lst t));rw[e1]at e2;cases e2;exact⟨F',A5.refl I,q.mono Y⟩
 st:=λF' H' Y I=>⟨xs,I.lst (Y.lst t),by rw[z.length];exact sy _⟩
theorem iter_tup{xs:List V}{ds:List A3}(t:SqT K F a xs)(z:aE K F ds xs):yh K F (Itt K a) ds where
 go:=λi F' H' Y I hi=>⟨xs,xs[i]'(by rw[z.length];exact hi),I.tup (Y.tup t),by simp[z.length,hi]⟩
 yl:=λi F' H' x H2 d Y I hd b=>by obtain⟨e,b⟩:=b;subst e;obtain⟨v,e1,q⟩:=z.get hd;have e2:=b xs (I.tup (Y.tup t));rw[e1]at e2;cases e2;exact⟨F',A5.refl I,q.mono Y⟩
 st:=λF' H' Y I=>⟨xs,I.tup (Y.tup t),by rw[z.length];exact sy _⟩
noncomputable def gQ(lo:Int)(n:Nat):List A3:=(Hf n).map λk:Nat=>A3.int (lo+k)
theorem Cr{lo:Int}:yh K F (Itr lo n) (gQ lo n) where
 go:=λi F' H' a I hi=>by show i<n;simpa[gQ] using hi
 yl:=λi F' H' x H2 d a I hd Y=>by
  obtain⟨e,Y⟩:=Y;subst e Y;unfold gQ at hd;rw[GB]at hd;have hi:i<n:=by have:=(tF.mp (show((Hf n).map λk:Nat=>A3.int (lo+k))[i]?=a_ d by rw[GB];exact hd)).1;simpa using this
  rw[MV hi]at hd;cases hd;exact⟨F',A5.refl I,rfl⟩
 st:=λF' H' a I=>by show n<=_;simp[gQ]
noncomputable def jj(i:Int):Bool:=q_ (-(2^62)<=i)&&q_ (i<2^62)
def rN:List A3->M (List A3)
 |[.int j]=>if jj j=d_ then .ok (gQ 0 j.toNat)else .error .stuck
 |_=>.error .stuck
noncomputable def qR(g:List A3->M (List A3))(fr:ah->M (List A3)):ah->M (List A3):=λρ=>(fr ρ).bind g
section
variable{W:eD}
theorem ri_seq{R:It->Hp->Prop}(h:iD K W (fIt fa) σ H R):iSeq K (tD K W b_ fa) σ H R:=by
 obtain⟨F,ρ,r,s,p⟩:=h;refine aP r s (λe c=>?_) λa d x F1 H1 I Y=>?_
 ·have z:fIt fa ρ=.error e:=by unfold fIt;rw[c];rfl
  rw[z]at p;exact p
 ·have z:fIt fa ρ=ig a:=by unfold fIt;rw[d];rfl
  rw[z]at p;cases a with
  |lst ds=>obtain⟨b,xs,e,t,z⟩:=Y;exact⟨b,e,.inl ⟨⟨xs,I.fh.lst t⟩,p _ F1 H1 I (EL t z)⟩⟩
  |tup ds=>obtain⟨b,xs,e,t,z⟩:=Y;exact⟨b,e,.inr ⟨⟨xs,I.fh.tup t⟩,p _ F1 H1 I (iter_tup t z)⟩⟩
  |_=>exact(W.ns p).elim
theorem ri_rng1{fr:ah->M (List A3)}{R:It->Hp->Prop}(h:iD K W (qR rN fr) σ H R):iRng1 (tDA K W fr) σ H R:=by
 obtain⟨F,ρ,r,s,p⟩:=h;refine pJ r s (λe c=>?_) λds hd xs F1 H1 a b=>?_
 ·have z:qR rN fr ρ=.error e:=by unfold qR;rw[c];rfl
  rw[z]at p;exact p
 ·have z:qR rN fr ρ=rN ds:=by unfold qR;rw[hd];rfl
  rw[z]at p;cases ds with
  |nil=>exact(W.ns p).elim|cons d ds=>
   cases d with
   |int j=>
    cases ds with
    |cons _ _=>exact(W.ns p).elim|nil=>
     obtain⟨v,vs,e,q,t⟩:=b;have Y:match (if jj j=d_ then Ge (gQ 0 j.toNat)else Im Err.stuck:M (List A3))with
      |.ok ds=>∀J F1 H1,A5 F H F1 H1->yh K F1 J ds->R J H1|.error e=>W.p e F H:=p
     by_cases I:jj j=d_
     ·rw[e_ I]at Y;unfold jj at I;simp only[l_,Gd]at I;exact⟨j,by rw[e,show v=.int j from q,show vs=[]from t],I.1,I.2,Y _ F1 H1 a Cr⟩
     ·rw[k_ I]at Y;exact(W.ns Y).elim
   |_=>exact(W.ns p).elim
def jL(ix:List (Option Nat))(ρ:ah):ah:=ix.map λo=>match o with
 |none=>c_|some j=>(ρ[j]?).join
def bw(p:Pat)(ft:ah->M Bool)(fe:ah->M A3)(ρ0:ah):List A3->M (List A3)
 |[]=>.ok []|d::ds=>(jC p d ρ0).bind λρ=>(ft ρ).bind λb=>if b=d_ then(fe ρ).bind λy=>(bw p ft fe ρ0 ds).bind λr=>.ok (y::r)else bw p ft fe ρ0 ds
def cU(fi:ah->M (List A3))(ix:List (Option Nat))(p:Pat)(ft:ah->M Bool)(fe:ah->M A3):ah->M A3:=λρ=>(fi ρ).bind λds=>if ds.length<=f_ then(bw p ft fe (jL ix ρ) ds).bind λr=>.ok (.lst r)else .error .stuck
noncomputable def gZ:ah->M Bool:=λ_=>.ok d_
theorem dM.inS{F:Hp}{ρ:ah}(r:dM K F σ ρ)(ix:List (Option Nat)):dM K F (Lake.inS ix σ) (jL ix ρ):=
 ⟨by simp[Lake.inS,jL],λi d e=>by
  unfold jL at e;unfold Lake.inS;rw[GB]at e ⊢;cases h:ix[i]? with
  |none=>rw[h]at e;cases e|some o=>
   rw[h]at e;cases o with
   |none=>cases e|some j=>
    simp only[J1,LO]at e ⊢;have e1:ρ[j]?=a_ (a_ d):=by
     cases z:ρ[j]? with
     |none=>rw[z]at e;cases e|some w=>rw[z]at e;simp at e;rw[e]
    obtain⟨v,h1,h2⟩:=r.sl j d e1;exact⟨v,by rw[h1];rfl,h2⟩⟩
theorem yM{fi:ah->M (List A3)}{p:Pat}(h:tD K W d_ (cU fi ix p ft fe) σ H Q):
  tComp (iD K W fi) ix (gP K p) (tDT K W ft) (tD K W b_ fe) σ H Q:=by
 obtain⟨F,ρ,r,s,q⟩:=h;refine⟨F,ρ,r,s,?_⟩
 cases T:fi ρ with
 |error e=>exact q.err (by unfold cU;rw[T];rfl)|ok ds=>
  intro J F1 H1 C G;have e0:cU fi ix p ft fe ρ=if ds.length<=f_ then(bw p ft fe (jL ix ρ) ds).bind λr=>.ok (.lst r)else .error .stuck:=by unfold cU;rw[T];rfl
  rw[e0]at q;by_cases S:ds.length<=f_
  ·rw[e_ S]at q;refine⟨λi m ys H2=>m=ds.length-i/\i<=ds.length/\∃F2 I,A5 F1 H1 F2 H2/\aE K F2 I ys/\I.length<=i /\
    (match bw p ft fe (jL ix ρ) (ds.drop i)with
     |.ok Y=>bw p ft fe (jL ix ρ) ds=.ok (I++Y)|.error e=>W.p e F H),⟨ds.length,by omega,GS _,F1,[],A5.refl C.fh,rfl,GS _,?_⟩,?_⟩
   ·rw[Kj];cases e:bw p ft fe (jL ix ρ) ds with
    |ok Y=>rfl|error x=>exact q.err (by rw[e];rfl)
   ·rintro i m ys H2 ⟨rfl,hi,F2,I,f,E,ly,t⟩;have A:ys.length<=f_:=by rw[E.length];omega
    by_cases j:i<ds.length
    ·have ed:ds.drop i=ds[i]::ds.drop (i+1):=IT j;rw[ed]at t;refine .inr ⟨G.go i F2 H2 f.ff f.fh j,A,λw H'=>(i+1<=ds.length/\∃F2 I,A5 F1 H1 F2 H'/\aE K F2 I w/\I.length<=i+1 /\
      (match bw p ft fe (jL ix ρ) (ds.drop (i+1))with
       |.ok Y=>bw p ft fe (jL ix ρ) ds=.ok (I++Y)|.error e=>W.p e F H)),λw H' n=>⟨ds.length-(i+1),by omega,rfl,n⟩,λx H' y=>?_⟩
     obtain⟨X,o,q3⟩:=G.yl i F2 H2 x H' ds[i] f.ff f.fh (by simp[j]) y;have r3:dM K X (Lake.inS ix σ) (jL ix ρ):=(r.mono (C.trans (f.trans o)).ff).inS ix;have z:A5 F H X H':=C.trans (f.trans o);have ec:bw p ft fe (jL ix ρ) (ds[i]::ds.drop (i+1))=(jC p ds[i] (jL ix ρ)).bind λc=>(ft c).bind λb=>if b=d_ then(fe c).bind λy=>(bw p ft fe (jL ix ρ) (ds.drop (i+1))).bind λr=>.ok (y::r)else bw p ft fe (jL ix ρ) (ds.drop (i+1)):=by rw[bw]
     rw[ec]at t;cases D:jC p ds[i] (jL ix ρ)with
     |error e=>rw[D]at t;have:=rq D;subst this;exact(W.ns t).elim|ok c=>
      rw[D]at t;refine gP_run r3 o.fh q3 D λZ R=>?_;have k:match ((ft c).bind λb=>if b=d_ then(fe c).bind λy=>(bw p ft fe (jL ix ρ) (ds.drop (i+1))).bind λr=>.ok (y::r)else bw p ft fe (jL ix ρ) (ds.drop (i+1)))with
       |.ok Y=>bw p ft fe (jL ix ρ) ds=.ok (I++Y)|.error e=>W.p e F H:=t
      refine i7 R o.fh (λe L=>by rw[L]at k;exact W.mono k z) λb N F5 H5 u=>?_;rw[N]at k;cases b with
      |false=>
       have g:match bw p ft fe (jL ix ρ) (ds.drop (i+1))with
        |.ok Y=>bw p ft fe (jL ix ρ) ds=.ok (I++Y)|.error e=>W.p e F H:=k
       exact⟨j,F5,I,f.trans (o.trans u),E.mono (o.trans u).ff,by omega,g⟩
      |true=>
       have g:match ((fe c).bind λy=>(bw p ft fe (jL ix ρ) (ds.drop (i+1))).bind λr=>.ok (y::r))with
        |.ok Y=>bw p ft fe (jL ix ρ) ds=.ok (I++Y)|.error e=>W.p e F H:=k
       refine aP (R.mono u.ff) u.fh (λe L=>by rw[L]at g;exact W.mono g (z.trans u)) λd hd v F6 H6 P q6=>?_;rw[hd]at g;refine⟨j,F6,I++[d],f.trans (o.trans (u.trans P)),aE.append (E.mono (o.trans (u.trans P)).ff) ⟨v,[],rfl,q6,rfl⟩,by simp;omega,?_⟩
       have l:match ((bw p ft fe (jL ix ρ) (ds.drop (i+1))).bind λr=>.ok (d::r):M (List A3))with
        |.ok Y=>bw p ft fe (jL ix ρ) ds=.ok (I++Y)|.error e=>W.p e F H:=g
       cases U:bw p ft fe (jL ix ρ) (ds.drop (i+1))with
       |ok Y=>rw[U]at l;show _=Ge ((I++[d])++Y);rw[Jb];exact l|error x=>rw[U]at l;exact l
    ·have:i=ds.length:=by omega
     subst this;rw[Nw]at t;have B:bw p ft fe (jL ix ρ) ds=.ok (I++[]):=t;rw[IB]at B;rw[B]at q;refine .inl ⟨G.st F2 H2 f.ff f.fh,A,λa O=>?_⟩;have st:A5 F H F2 H2:=C.trans f;exact q (.ref a) F2 _ (st.trans (A5.grow f.fh O)) ⟨a,ys,rfl,aq,f.fh.free O,st.hh.free O,E⟩
  ·rw[k_ S]at q;exact(W.ns q).elim
end
inductive A9 where
 |nx (ρ:ah)|rt (d:A3)|bk (ρ:ah)|ct (ρ:ah)
variable{g2:ah->M A9}
structure Rep(K:Pn)(F0 H0 FB:Hp)(O:List Nat)(F H:Hp)(σ:St)(ρ:ah):Prop where
 st:A5 F0 H0 F H
 fb:aL FB F
 len:ρ.length=σ.length
 fz:∀(i:Nat) (d:A3),ρ[i]?=a_ (a_ d)->i∉O->∃v,σ[i]?=a_ (a_ v)/\aT K F d v
 ow:∀(i:Nat) (d:A3),ρ[i]?=a_ (a_ d)->i∈O->∃v,σ[i]?=a_ (a_ v)/\lZ K F H0 H d v
 ap:∀(i j:Nat) (d e:A3) (a:g_),i∈O->j∈O->(ρ[i]?=a_ (a_ d)/\isO d=d_)->(ρ[j]?=a_ (a_ e)/\isO e=d_)->σ[i]?=a_ (a_ (.ref a))->σ[j]?=a_ (a_ (.ref a))->i=j
def nB(O O2:List Nat)(σ:St)(ρ:ah)(b:g_):Prop:=∃(i:Nat) (d:A3),i∈O/\i∉O2/\isO d=d_/\ρ[i]?=a_ (a_ d)/\σ[i]?=a_ (a_ (.ref b))
open Classical in
noncomputable def plus(F H:Hp)(A:Addr->Prop):Hp:=λb=>if A b then H b else F b
open Classical in
noncomputable def minus(F:Hp)(A:Addr->Prop):Hp:=λb=>if A b then none else F b
theorem jm{A:g_->Prop}(h:A b):plus F H A b=H b:=by unfold plus;rw[e_ h]
theorem cI{A:g_->Prop}(h:¬A b):plus F H A b=F b:=by unfold plus;rw[k_ h]
theorem mC{A:g_->Prop}(h:A b):minus F A b=c_:=by unfold minus;rw[e_ h]
theorem dR{A:g_->Prop}(h:¬A b):minus F A b=F b:=by unfold minus;rw[k_ h]
theorem Rep.own(r:Rep K F0 H0 FB O F H σ ρ)(h:nB O O2 σ ρ b):F b=c_/\H0 b=c_/\∃o,H b=a_ o/\isMu o=d_:=by obtain⟨i,d,hi,_,hd,e1,e2⟩:=h;obtain⟨v,e3,q⟩:=r.ow i _ e1 hi;rw[e2]at e3;cases e3;obtain⟨a,o,e,p,m,f,z⟩:=q.top hd;cases e;exact⟨f,z,o,p,m⟩
theorem Rep.lq(r:Rep K F0 H0 FB O F H σ ρ):aL F (plus F H (nB O O2 σ ρ)):=λb o h=>by
 by_cases I:nB O O2 σ ρ b
 ·rw[(r.own I).1]at h;cases h
 ·rw[cI I];exact h
theorem Rep.jN(r:Rep K F0 H0 FB O F H σ ρ):aL (plus F H (nB O O2 σ ρ)) H:=λb o h=>by
 by_cases I:nB O O2 σ ρ b
 ·rw[jm I]at h;exact h
 ·rw[cI I]at h;exact r.st.fh b o h
theorem Rep.freeze(r:Rep K F0 H0 FB O F H σ ρ)(I:∀i∈O2,i∈O):Rep K F0 H0 FB O2 (plus F H (nB O O2 σ ρ)) H σ ρ where
 st:=⟨r.st.ff.trans r.lq,r.st.hh,r.jN,λb o h=>by
  by_cases m:nB O O2 σ ρ b
  ·exact .inr (r.own m).2.1
  ·rw[cI m]at h;exact r.st.nw b o h⟩
 fb:=r.fb.trans r.lq
 len:=r.len
 fz:=λi d e hi=>by
  by_cases Y:i∈O
  ·obtain⟨v,e3,q⟩:=r.ow i d e Y;refine⟨v,e3,?_⟩
   cases hd:isO d with
   |true=>obtain⟨a,_,l,_⟩:=q.top hd;subst l;exact q.give hd r.lq (jm ⟨i,d,Y,hi,hd,e,e3⟩)
   |false=>rw[lZ.non hd]at q;exact q.mono r.lq
  ·obtain⟨v,e3,q⟩:=r.fz i d e Y;exact⟨v,e3,q.mono r.lq⟩
 ow:=λi d e hi=>by
  obtain⟨v,e3,q⟩:=r.ow i d e (I i hi);refine⟨v,e3,?_⟩
  cases hd:isO d with
  |true=>
   obtain⟨a,o,l,p,_,f,z⟩:=q.top hd;subst l;refine q.re hd r.lq ?_ λ_ h=>h;have:¬nB O O2 σ ρ a:=λ⟨j,d',g,c,k,f1,f2⟩=>by have:=r.ap i j d d' a (I i hi) g ⟨e,hd⟩ ⟨f1,k⟩ e3 f2;subst this;exact c hi
   rw[cI this];exact f
  |false=>rw[lZ.non hd]at q ⊢;exact q.mono r.lq
 ap:=λi j d e a hi g=>r.ap i j d e a (I i hi) (I j g)
theorem Rep.repE(r:Rep K F0 H0 FB [] F H σ ρ):dM K F σ ρ:=⟨r.len,λi d e=>r.fz i d e (by simp)⟩
theorem Rep.pU(r:Rep K F0 H0 FB O F H σ ρ):dM K (plus F H (nB O [] σ ρ)) σ ρ:=(r.freeze (O2:=[]) (by simp)).repE
noncomputable def erase:List Nat->ah->ah
 |[],ρ=>ρ|i::is,ρ=>erase is (ρ.set i c_)
theorem xx:∀(O:List Nat) (ρ:ah),(erase O ρ).length=ρ.length
 |[],_=>rfl|i::is,ρ=>by rw[erase,xx,B_]
theorem xy:∀(O:List Nat) (ρ:ah) (i:Nat) (d:A3),(erase O ρ)[i]?=a_ (a_ d)->ρ[i]?=a_ (a_ d)/\i∉O
 |[],_,_,_,h=>⟨h,by simp⟩|j::is,ρ,i,d,h=>by
  obtain⟨h1,h2⟩:=xy is (ρ.set j c_) i d h;by_cases e:j=i
  ·subst e;have I:j<ρ.length:=by
    have:=(tF.mp h1).1;simpa using this
   rw[s_ I]at h1;cases h1
  ·rw[m_ e]at h1;exact⟨h1,by simp[h2];omega⟩
theorem Rep.iI(r:Rep K F0 H0 FB O F H σ ρ):dM K F σ (erase O ρ):=
 ⟨by rw[xx,r.len],λi d e=>let ⟨h1,h2⟩:=xy O ρ i d e;r.fz i d h1 h2⟩
theorem Rep.step(r:Rep K F0 H0 FB O F H σ ρ)(s:A5 F H F1 H1):Rep K F0 H0 FB O F1 H1 σ ρ where
 st:=r.st.trans s
 fb:=r.fb.trans s.ff
 len:=r.len
 fz:=λi d e hi=>let ⟨v,e3,q⟩:=r.fz i d e hi;⟨v,e3,q.mono s.ff⟩
 ow:=λi d e hi=>by
  obtain⟨v,e3,q⟩:=r.ow i d e hi;refine⟨v,e3,?_⟩
  cases hd:isO d with
  |true=>
   obtain⟨a,u,I,p,_,f,z⟩:=q.top hd;subst I;refine q.re hd s.ff ?_ (s.hh a);cases e1:F1 a with
   |none=>rfl|some o=>
    rcases s.nw a o e1 with h|h
    ·rw[f]at h;cases h
    ·rw[p]at h;cases h
  |false=>rw[lZ.non hd]at q ⊢;exact q.mono s.ff
 ap:=r.ap
theorem Rep.pN(r:Rep K F0 H0 FB O F H σ ρ)(s:A5 (plus F H (nB O [] σ ρ)) H F1 H1):Rep K F0 H0 FB O (minus F1 (nB O [] σ ρ)) H1 σ ρ:=by
 refine r.step ⟨λb o h=>?_,s.hh,λb o h=>?_,λb o h=>?_⟩
 ·by_cases I:nB O [] σ ρ b
  ·rw[(r.own I).1]at h;cases h
  ·rw[dR I];exact s.ff b o (by rw[cI I];exact h)
 ·by_cases I:nB O [] σ ρ b
  ·rw[mC I]at h;cases h
  ·rw[dR I]at h;exact s.fh b o h
 ·by_cases I:nB O [] σ ρ b
  ·rw[mC I]at h;cases h
  ·rw[dR I]at h;rcases s.nw b o h with z|z
   ·rw[cI I]at z;exact .inl z
   ·exact .inr z
theorem Rep.x3(r:Rep K F0 H0 FB O F H σ ρ)(s:A5 (plus F H (nB O [] σ ρ)) H F1 H1)(a:g_)(xs:List V)(h:SqT K F1 a xs):SqT K (minus F1 (nB O [] σ ρ)) a xs:=by
 have key:∀{b:g_} {o:HO},F1 b=a_ o->isMu o=b_->minus F1 (nB O [] σ ρ) b=a_ o:=λ{b o} h n=>by
  by_cases I:nB O [] σ ρ b
  ·obtain⟨_,_,u,e,m⟩:=r.own I;have:=s.ff b u (by rw[jm I];exact e);rw[h]at this;cases this;rw[n]at m;cases m
  ·rw[dR I];exact h
 rcases h with(h|⟨o,h⟩)|h
 ·exact .inl (.inl (key h rfl))
 ·exact .inl (.inr ⟨o,key h rfl⟩)
 ·exact .inr h
theorem Rep.set{d:A3}{v:V}(r:Rep K F0 H0 FB O F H σ ρ)(q:aT K F d v)(i:Nat):Rep K F0 H0 FB (O.filter (· != i)) F H (σ.set i (a_ v)) (ρ.set i (a_ d)) where
 st:=r.st
 fb:=r.fb
 len:=by rw[B_,B_,r.len]
 fz:=λj e h Y=>by
  by_cases I:i=j
  ·subst I;have hi:i<ρ.length:=by
    have:=(tF.mp h).1;simpa using this
   rw[s_ hi]at h;cases h;exact⟨v,by rw[s_ (by rw[<- r.len];exact hi)],q⟩
  ·rw[m_ I]at h;rw[m_ I];exact r.fz j e h λz=>Y (G_.mpr ⟨z,by simpa using Gv I⟩)
 ow:=λj e h Y=>by
  obtain⟨h1,h2⟩:=G_.mp Y;have I:i≠j:=λz=>by simp[z]at h2
  rw[m_ I]at h ⊢;exact r.ow j e h h1
 ap:=λj k ds es a Y g e1 e2 e3 e4=>by
  obtain⟨f,c⟩:=G_.mp Y;obtain⟨k1,k2⟩:=G_.mp g;have I:i≠j:=λz=>by simp[z]at c
  have b:i≠k:=λz=>by simp[z]at k2
  rw[m_ I]at e1 e3;rw[m_ b]at e2 e4;exact r.ap j k ds es a f k1 e1 e2 e3 e4
theorem Rep.setOwn{d:A3}(r:Rep K F0 H0 FB O F H σ ρ)(q:lZ K F H0 H d v)(u:∀a,v=.ref a->isO d=d_->¬nB O [i] σ ρ a):Rep K F0 H0 FB (i::O.filter (· != i)) F H (σ.set i (a_ v)) (ρ.set i (a_ d)) where
 st:=r.st
 fb:=r.fb
 len:=by rw[B_,B_,r.len]
 fz:=λj e h c=>by simp only[t_,Mb]at c;have I:i≠j:=λz=>c.1 z.symm;rw[m_ I]at h ⊢;exact r.fz j e h λz=>c.2 (G_.mpr ⟨z,by simpa using Gv I⟩)
 ow:=λj e h c=>by
  by_cases I:i=j
  ·subst I;have hi:i<ρ.length:=by
    have:=(tF.mp h).1;simpa using this
   rw[s_ hi]at h;cases h;exact⟨v,by rw[s_ (by rw[<- r.len];exact hi)],q⟩
  ·rw[m_ I]at h ⊢;rcases t_.mp c with z|z
   ·exact Gb z.symm I
   ·exact r.ow j e h (G_.mp z).1
 ap:=λj k ds es a c p e1 e2 e3 e4=>by
  have key:∀{f:Nat} {ds' Y:A3},f∈O->f≠i->((ρ.set i (a_ d))[i]?=a_ (a_ ds')/\isO ds'=d_)->((ρ.set i (a_ d))[f]?=a_ (a_ Y)/\isO Y=d_)->(σ.set i (a_ v))[i]?=a_ (a_ (.ref a))->(σ.set i (a_ v))[f]?=a_ (a_ (.ref a))->False:=by
   intro f ds' Y m g f1 f2 f3 f4;have hi:i<ρ.length:=by have:=(tF.mp f1.1).1;simpa using this
   rw[s_ hi]at f1;rw[s_ (by rw[<- r.len];exact hi)]at f3;rw[m_ (Gv g)]at f2 f4;have t:v=.ref a:=by simpa using f3
   have s:d=ds':=by simpa using f1.1
   exact u a t (s▸f1.2) ⟨f,Y,m,by simpa using g,f2.2,f2.1,f4⟩
  rcases t_.mp c with l|l
  ·rcases t_.mp p with b|b
   ·rw[l,b]
   ·obtain⟨k1,k2⟩:=G_.mp b;subst l;exact(key k1 (by simpa using k2) e1 e2 e3 e4).elim
  ·obtain⟨o,w⟩:=G_.mp l;have I:i≠j:=λz=>by simp[z]at w
   rcases t_.mp p with b|b
   ·subst b;exact(key o (Gv I) e2 e1 e4 e3).elim
   ·obtain⟨k1,k2⟩:=G_.mp b;have n:i≠k:=λz=>by simp[z]at k2
    rw[m_ I]at e1 e3;rw[m_ n]at e2 e4;exact r.ap j k ds es a o k1 e1 e2 e3 e4
theorem Rep.sO(r:Rep K F0 H0 FB O F H σ ρ)(s:A5 (plus F H (nB O [] σ ρ)) H F1 H1):aL F (minus F1 (nB O [] σ ρ)):=λb o h=>by
 by_cases I:nB O [] σ ρ b
 ·rw[(r.own I).1]at h;cases h
 ·rw[dR I];exact s.ff b o (by rw[cI I];exact h)
theorem CH(h:i∉O):O.filter (· != i)=O:=by rw[List.filter_eq_self];intro a I;simp;intro e;exact h (e▸I)
theorem Rep.set'{d:A3}(r:Rep K F0 H0 FB O F H σ ρ)(q:aT K F d v)(hi:i∉O):Rep K F0 H0 FB O F H (σ.set i (a_ v)) (ρ.set i (a_ d)):=by have:=r.set q i;rw[CH hi]at this;exact this
theorem Rep.base{I:Hp}(r:Rep K F0 H0 FB O F H σ ρ)(s:aL I FB):Rep K F0 H0 I O F H σ ρ:=⟨r.st,s.trans r.fb,r.len,r.fz,r.ow,r.ap⟩
theorem Rep.writeO{d:A3}{u:HO}(r:Rep K F0 H0 FB O F H σ ρ)(hi:i∈O)(e1:ρ[i]?=a_ (a_ d))(hd:isO d=d_)(e2:σ[i]?=a_ (a_ (.ref a)))(q:F a=c_->H0 a=c_->lZ K F H0 (upd H a u) d' (.ref a)):Rep K F0 H0 FB O F (upd H a u) σ (ρ.set i (a_ d')):=by
 have g:F a=c_/\H0 a=c_/\∃o,H a=a_ o/\isMu o=d_:=r.own (O2:=[]) ⟨i,d,hi,by simp,hd,e1,e2⟩;have m:i<ρ.length:=(tF.mp e1).1;refine⟨⟨r.st.ff,λb o h=>?_,λb o h=>?_,r.st.nw⟩,r.fb,by rw[B_,r.len],λj e h Y=>?_,λj e h Y=>?_,λj k es fs b Y x f1 f2 f3 f4=>?_⟩
 ·rw[aw (aQ h g.2.1)];exact r.st.hh b o h
 ·rw[aw (aQ h g.1)];exact r.st.fh b o h
 ·have I:i≠j:=λz=>Y (z▸hi);rw[m_ I]at h;exact r.fz j e h Y
 ·by_cases I:i=j
  ·subst I;rw[s_ m]at h;cases h;exact⟨.ref a,e2,q g.1 g.2.1⟩
  ·rw[m_ I]at h;obtain⟨v,e3,z⟩:=r.ow j e h Y;refine⟨v,e3,?_⟩
   cases l:isO e with
   |true=>
    obtain⟨b,o,A,p,_,f,_⟩:=z.top l;subst A;have n:b≠a:=λz=>by subst z;exact I (r.ap i j d e b hi Y ⟨e1,hd⟩ ⟨h,l⟩ e2 e3)
    exact z.re l (aL.refl _) f λo h=>by rw[aw n];exact h
   |false=>rw[lZ.non l]at z ⊢;exact z
 ·have c:∀{j:Nat} {e:A3},((ρ.set i (a_ d'))[j]?=a_ (a_ e)/\isO e=d_)->∃w,ρ[j]?=a_ (a_ w)/\isO w=d_:=λ{j e} f=>by
   by_cases I:i=j
   ·subst I;exact⟨d,e1,hd⟩
   ·rw[m_ I]at f;exact⟨e,f⟩
  obtain⟨t,y⟩:=c f1;obtain⟨s,g2⟩:=c f2;exact r.ap j k t s b Y x y g2 f3 f4
theorem Rep.write{ds:List A3}{I:List V}(r:Rep K F0 H0 FB O F H σ ρ)(hi:i∈O)(e1:ρ[i]?=a_ (a_ (.lst ds)))(e2:σ[i]?=a_ (a_ (.ref a)))(q:aE K F ds' I):Rep K F0 H0 FB O F (upd H a (.lst I)) σ (ρ.set i (a_ (.lst ds'))):=
 r.writeO hi e1 rfl e2 λf z=>⟨a,I,rfl,aq,f,z,q⟩
noncomputable def Pat.names:Pat->List Nat
 |.nm i=>[i]|.tp is=>is
theorem tG{R:St->Hp->Prop}:∀{is:List Nat} {ds:List A3} {vs:List V} {σ:St} {ρ:ah},Rep K F0 H0 FB O F H σ ρ->(∀i∈is,i∉O)->aE K F ds vs->ds.length=is.length->(∀σ',Rep K F0 H0 FB O F H σ' (j9 is ds ρ)->R σ' H)->iU is vs σ H R
 |[],[],_,σ,ρ,r,_,q,_,h=>⟨q,h σ r⟩|[],_::_,_,_,_,_,_,_,e,_=>by simp at e|_::_,[],_,_,_,_,_,_,e,_=>by simp at e|i::is,d::ds,_,σ,ρ,r,n,⟨v,vs,e,q,t⟩,l,h=>⟨v,vs,e,tG (r.set' q (n i (by simp))) (λj I=>n j (by simp[I])) t (by simpa using l) h⟩
theorem gP_rep{R:St->Hp->Prop}{p:Pat}{d:A3}(r:Rep K F0 H0 FB O F H σ ρ)(n:∀i∈p.names,i∉O)(q:aT K F d v)(e:jC p d ρ=.ok ρ')(h:∀σ',Rep K F0 H0 FB O F H σ' ρ'->R σ' H):gP K p v σ H R:=by
 cases p with
 |nm i=>have:=HD e;subst this;exact h _ (r.set' q (n i (by simp[Pat.names])))|tp is=>
  cases d with
  |tup ds=>
   have Y:(if ds.length=is.length then Ge (j9 is ds ρ)else Im Err.stuck)=Ge ρ':=e;by_cases I:ds.length=is.length
   ·rw[e_ I]at Y;have:=HD Y;subst this;obtain⟨a,xs,b,t,z⟩:=q;exact⟨a,xs,b,r.st.fh.tup t,by rw[z.length,I],tG r n z I h⟩
   ·rw[k_ I]at Y;cases Y
  |_=>cases e
def iE(K:Pn)(W:eD)(ro:Bool)(F0 H0 FB:Hp)(OL O':List Nat)(D:Ends)(r:M A9):Prop:=match r with
 |.ok (.nx ρ)=>∀σ F H,Rep K F0 H0 FB O' F H σ ρ->D.nx σ H|.ok (.rt d)=>∀v F H,A5 F0 H0 F H->Val K ro F H0 H d v->D.rt v H|.ok (.bk ρ)=>∀σ F H,Rep K F0 H0 FB OL F H σ ρ->D.bk σ H|.ok (.ct ρ)=>∀σ F H,Rep K F0 H0 FB OL F H σ ρ->D.ct σ H|.error e=>W.p e F0 H0
def tS(K:Pn)(W:eD)(ro:Bool)(F0 H0:Hp)(OL O O':List Nat)(g:ah->M A9):TS:=λD σ H=>∃FB F ρ,Rep K F0 H0 FB O F H σ ρ/\iE K W ro F0 H0 FB OL O' D (g ρ)
noncomputable def cE:ah->M A9:=λρ=>.ok (.nx ρ)
noncomputable def br(g h:ah->M A9):ah->M A9:=λρ=>(g ρ).bind λfl=>match fl with
 |.nx ρ'=>h ρ'|fl=>.ok fl
noncomputable def sIf(ft:ah->M Bool)(g h:ah->M A9):ah->M A9:=λρ=>(ft ρ).bind λb=>if b=d_ then g ρ else h ρ
def lM:Bool->A3->Bool
 |true,.lst ds=>oH ds|_,d=>gL d
def uq(own:Bool)(i:Nat)(f:ah->M A3):ah->M A9:=λρ=>(f ρ).bind λd=>if lM own d=d_ then .ok (.nx (ρ.set i (a_ d)))else .error .stuck
def b7(O:List Nat)(i:Nat)(f:ah->M A3):ah->M A9:=λρ=>(f (erase O ρ)).bind λd=>.ok (.nx (ρ.set i (a_ d)))
def rM(O:List Nat)(p:Pat)(f:ah->M A3):ah->M A9:=λρ=>(f (erase O ρ)).bind λd=>(jC p d ρ).bind λρ'=>.ok (.nx ρ')
def j4(ρ:ah)(i:Nat):M (List A3):=match ρ[i]? with
 |some (a_ (.lst ds))=>.ok ds|_=>.error .stuck
def put(ρ:ah)(i:Nat)(ds:List A3):M A9:=.ok (.nx (ρ.set i (a_ (.lst ds))))
def i9(O:List Nat)(i:Nat)(f:ah->M A3):ah->M A9:=λρ=>(j4 ρ i).bind λds=>(f (erase O ρ)).bind λd=>if ds.length<f_ then put ρ i (ds++[d])else .error .stuck
noncomputable def asI:A3->M Int
 |.int i=>.ok i|_=>.error .stuck
def BK(i:Nat)(fi f:ah->M A3):ah->M A9:=λρ=>(f ρ).bind λd=>(j4 ρ i).bind λds=>(fi ρ).bind λk=>(asI k).bind λk=>if gL d=d_ then(match ixN ds.length k with
 |some j=>put ρ i (ds.set j d)|none=>.error .stuck)else .error .stuck
def cC(f:ah->M A3):ah->M A9:=λρ=>(f ρ).bind λd=>.ok (.rt d)
noncomputable def isL:A3->Bool
 |.lst _=>d_|_=>b_
def nU(p:Pat)(g:ah->M A9):List A3->ah->M A9
 |[],ρ=>.ok (.nx ρ)|d::ds,ρ=>(jC p d ρ).bind λY=>(g Y).bind λfl=>match fl with
  |.nx I=>nU p g ds I|.ct I=>nU p g ds I|.bk I=>.ok (.nx I)|.rt d=>.ok (.rt d)
def oO(O:List Nat)(fi:ah->M (List A3))(p:Pat)(g:ah->M A9):ah->M A9:=λρ=>(fi (erase O ρ)).bind λds=>nU p g ds ρ
section
variable{W:eD}{own:Bool}{O':List Nat}{D:Ends}{g h:ah->M A9}{f fi:ah->M A3}
theorem iE.err{x:M A9}{e:Err}(p:iE K W ro F0 H0 FB OL O' D x)(h:x=.error e):W.p e F0 H0:=by rw[h]at p;exact p
theorem iE.nX{x:M A9}{e:Err}(p:iE K W ro F0 H0 FB OL O' D x)(s:A5 F0 H0 F H)(h:x=.error e):W.p e F H:=W.mono (p.err h) s
theorem iE.stuck{x:M A9}{P:Prop}(p:iE K W ro F0 H0 FB OL O' D x)(h:x=.error .stuck):P:=(W.ns (p.err h)).elim
theorem tS.enter(I:∀i∈O2,i∈O)(t:tS K W ro F0 H0 OL O O' g D σ H):tS K W ro F0 H0 OL O2 O' g D σ H:=by obtain⟨FB,F,ρ,r,p⟩:=t;exact⟨FB,_,ρ,r.freeze I,p⟩
theorem rs_next(t:tS K W ro F0 H0 OL O O cE D σ H):gJ D σ H:=by obtain⟨FB,F,ρ,r,p⟩:=t;exact p σ F H r
theorem rs_seq(t:tS K W ro F0 H0 OL O O2 (br g h) D σ H):dO (tS K W ro F0 H0 OL O O' g) (tS K W ro F0 H0 OL O' O2 h) D σ H:=by
 obtain⟨FB,F,ρ,r,p⟩:=t;refine⟨FB,F,ρ,r,?_⟩
 unfold br at p;cases e:g ρ with
 |error x=>exact p.err (by rw[e];rfl)|ok fl=>
  rw[e]at p;cases fl with
  |nx ρ'=>exact λσ' F' H' r'=>⟨FB,F',ρ',r',p⟩|rt d=>exact p|bk ρ'=>exact p|ct ρ'=>exact p
theorem rs_if(t:tS K W ro F0 H0 OL O O' (sIf ft g h) D σ H):nG (tDT K W ft) (tS K W ro F0 H0 OL O O' g) (tS K W ro F0 H0 OL O O' h) D σ H:=by
 obtain⟨FB,F,ρ,r,p⟩:=t;refine i7 r.pU r.jN (λe Y=>p.nX (r.freeze (O2:=[]) (by simp)).st (by unfold sIf;rw[Y];rfl)) λb a F1 H1 I=>?_;have z:sIf ft g h ρ=if b=d_ then g ρ else h ρ:=by unfold sIf;rw[a];rfl
 rw[z]at p;cases b with
 |true=>exact⟨FB,_,ρ,r.pN I,p⟩|false=>exact⟨FB,_,ρ,r.pN I,p⟩
noncomputable def aft(own:Bool)(i:Nat)(O:List Nat):List Nat:=if own=d_ then i::O.filter (· != i)else O.filter (· != i)
theorem Rep.bindV{d:A3}(r:Rep K F0 H0 FB O F H σ ρ)(q:Val K own F H2 H d v)(h2:aL H0 H2)(Y:∀a,nB O [] σ ρ a->∃o,H2 a=a_ o):Rep K F0 H0 FB (aft own i O) F H (σ.set i (a_ v)) (ρ.set i (a_ d)):=by
 cases own with
 |false=>exact r.set q i|true=>refine r.setOwn (lZ.back h2 q) λa c hd z=>?_;subst c;obtain⟨b,_,e,_,_,_,n⟩:=lZ.top hd q;cases e;obtain⟨j,es,h1,h2,h,g,f⟩:=z;obtain⟨o,I⟩:=Y a ⟨j,es,h1,by simp,h,g,f⟩;rw[n]at I;cases I
theorem yL(t:tS K W ro F0 H0 OL O (aft own i O) (b7 O i f) D σ H):pK (tD K W own f) (cu i) D σ H:=by
 obtain⟨FB,F,ρ,r,p⟩:=t;refine aP r.iI r.st.fh (λe Y=>p.nX r.st (by unfold b7;rw[Y];rfl)) λd hd v F1 H1 I q=>?_;have z:b7 O i f ρ=.ok (.nx (ρ.set i (a_ d))):=by unfold b7;rw[hd];rfl
 rw[z]at p;exact p _ F1 H1 ((r.step I).bindV q r.st.hh λa b=>let ⟨_,_,_,e,_⟩:=r.own b;⟨_,e⟩)
theorem Rep.flatV{d:A3}(r:Rep K F0 H0 FB O F H σ ρ)(s:A5 (plus F H (nB O [] σ ρ)) H F1 H1)(q:Val K own F1 H H1 d v)(fl:lM own d=d_):Val K own (minus F1 (nB O [] σ ρ)) H H1 d v:=by
 have I:∀{a:g_},F1 a=c_->minus F1 (nB O [] σ ρ) a=c_:=λ{a} h=>by
  by_cases Y:nB O [] σ ρ a
  ·exact mC Y
  ·rw[dR Y];exact h
 cases own with
 |false=>exact aT.flat (r.x3 s) (by cases d<;>exact fl) q
 |true=>
  cases d with
  |lst ds=>obtain⟨a,xs,e,p,n,z,t⟩:=q;exact⟨a,xs,e,p,I n,z,t.flat (r.x3 s) fl⟩
  |non=>exact q|bl b=>exact q|int i=>exact q|str x=>exact q|tup ds=>exact aT.flat (d:=.tup ds) (r.x3 s) fl q|ins C fs=>exact aT.flat (d:=.ins C fs) (r.x3 s) fl q|dic ks=>cases fl|dil ks=>cases fl
theorem rs_setA(t:tS K W ro F0 H0 OL O (aft own i O) (uq own i f) D σ H):pK (tD K W own f) (cu i) D σ H:=by
 obtain⟨FB,F,ρ,r,p⟩:=t;refine aP r.pU r.jN (λe b=>p.nX (r.freeze (O2:=[]) (by simp)).st (by unfold uq;rw[b];rfl)) λd hd v F1 H1 Y q=>?_;have z:uq own i f ρ=if lM own d=d_ then .ok (.nx (ρ.set i (a_ d)))else .error .stuck:=by unfold uq;rw[hd];rfl
 rw[z]at p;by_cases I:lM own d=d_
 ·rw[e_ I]at p;exact p _ _ H1 ((r.pN Y).bindV (r.flatV Y q I) r.st.hh λa c=>let ⟨_,_,_,e,_⟩:=r.own c;⟨_,e⟩)
 ·rw[k_ I]at p;exact p.stuck rfl
theorem rs_unpB{pt:Pat}(n:∀i∈pt.names,i∉O)(t:tS K W ro F0 H0 OL O O (rM O pt f) D σ H):pK (tD K W b_ f) (gP K pt) D σ H:=by
 obtain⟨FB,F,ρ,r,p⟩:=t;refine aP r.iI r.st.fh (λe Y=>p.nX r.st (by unfold rM;rw[Y];rfl)) λd hd v F1 H1 I q=>?_;have z:rM O pt f ρ=(jC pt d ρ).bind λρ'=>.ok (.nx ρ'):=by unfold rM;rw[hd];rfl
 rw[z]at p;cases e:jC pt d ρ with
 |error x=>have:=rq e;subst this;exact p.stuck (by rw[e];rfl)|ok ρ'=>rw[e]at p;exact gP_rep (r.step I) n q e λσ' r'=>p σ' F1 H1 r'
theorem iO{ds:List A3}(h:j4 ρ i=.ok ds):ρ[i]?=a_ (a_ (.lst ds)):=by
 unfold j4 at h;split at h
 ·cases h;assumption
 ·cases h
theorem mE{e:Err}(h:j4 ρ i=.error e):e=.stuck:=by
 unfold j4 at h;split at h
 ·cases h
 ·cases h;rfl
theorem Rep.AZ{ds:List A3}(r:Rep K F0 H0 FB O F H σ ρ)(hi:i∈O)(e:ρ[i]?=a_ (a_ (.lst ds))):∃a xs,σ[i]?=a_ (a_ (.ref a))/\H a=a_ (.lst xs)/\aE K F ds xs:=by obtain⟨v,e3,a,xs,I,p,_,_,t⟩:=r.ow i _ e hi;subst I;exact⟨a,xs,e3,p,t⟩
def tApp(K:Pn)(i:Nat)(te:TE):TS:=pI (tBM K "list" jl (bV i) (aR te dP))
theorem rs_appB(hi:i∈O)(t:tS K W ro F0 H0 OL O O (i9 O i f) D σ H):tApp K i (tD K W b_ f) D σ H:=by
 obtain⟨FB,F,ρ,r,p⟩:=t;cases I:j4 ρ i with
 |error e=>have:=mE I;subst this;exact p.stuck (by unfold i9;rw[I];rfl)|ok ds=>
  obtain⟨a,xs,e2,c,z⟩:=r.AZ hi (iO I);refine⟨.ref a,e2,iG c,?_⟩
  refine aP r.iI r.st.fh (λe g=>p.nX r.st (by unfold i9;rw[I];show(f (erase O ρ)).bind _=_;rw[g];rfl)) λd hd v F1 H1 Y q=>?_;have h:i9 O i f ρ=if ds.length<f_ then put ρ i (ds++[d])else .error .stuck:=by unfold i9;rw[I];show(f (erase O ρ)).bind _=_;rw[hd];rfl
  rw[h]at p;by_cases b:ds.length<f_
  ·rw[e_ b]at p;exact⟨a,xs,v,rfl,rfl,Y.hh _ _ c,by rw[z.length];exact b,p σ F1 _ ((r.step Y).write hi (iO I) e2 (aE.append (z.mono Y.ff) ⟨v,[],rfl,q,rfl⟩))⟩
  ·rw[k_ b]at p;exact p.stuck rfl
theorem rs_setI(hi:i∈O)(t:tS K W ro F0 H0 OL O O (BK i fi f) D σ H):pK (tD K W b_ f) (gSub (bV i) (tD K W b_ fi) rSetL) D σ H:=by
 obtain⟨FB,F,ρ,r,p⟩:=t;refine aP r.pU r.jN (λe h=>p.nX (r.freeze (O2:=[]) (by simp)).st (by unfold BK;rw[h];rfl)) λd hd v F1 H1 l q=>?_;have u:BK i fi f ρ=(j4 ρ i).bind λds=>(fi ρ).bind λk=>(asI k).bind λk=>if gL d=d_ then(match ixN ds.length k with
  |some j=>put ρ i (ds.set j d)|none=>.error .stuck)else .error .stuck:=by unfold BK;rw[hd];rfl
 rw[u]at p;cases Y:j4 ρ i with
 |error e=>have:=mE Y;subst this;exact p.stuck (by rw[Y];rfl)|ok ds=>
  rw[Y]at p;have p:iE K W ro F0 H0 FB OL O D ((fi ρ).bind λk=>(asI k).bind λk=>if gL d=d_ then(match ixN ds.length k with
   |some j=>put ρ i (ds.set j d)|none=>.error .stuck)else .error .stuck):=p
  have I:=r.pN l;obtain⟨a,xs,e2,s,z⟩:=I.AZ hi (iO Y);refine⟨.ref a,e2,?_⟩
  refine aP I.pU I.jN (λe h=>p.nX (I.freeze (O2:=[]) (by simp)).st (by rw[h];rfl)) λk o w F2 H2 b n=>?_;rw[o]at p;cases k with
  |int k=>
   have p:iE K W ro F0 H0 FB OL O D (if gL d=d_ then(match ixN ds.length k with
    |some j=>put ρ i (ds.set j d)|none=>.error .stuck)else .error .stuck):=p
   by_cases g:gL d=d_
   ·rw[e_ g]at p;cases c:ixN ds.length k with
    |none=>rw[c]at p;exact p.stuck rfl|some j=>
     rw[c]at p;refine⟨a,xs,k,j,rfl,n,b.hh _ _ s,by rw[z.length];exact c,?_⟩
     have m:aT K (minus F1 (nB O [] σ ρ)) d v:=aT.flat (r.x3 l) g q;exact p σ _ _ ((I.pN b).write hi (iO Y) e2 (aE.set (m.mono (I.sO b)) j (z.mono (I.sO b))))
   ·rw[k_ g]at p;exact p.stuck rfl
  |_=>exact p.stuck rfl
theorem rs_ret(t:tS K W ro F0 H0 OL O O' (cC f) D σ H):rG (tD K W ro f) D σ H:=by
 obtain⟨FB,F,ρ,r,p⟩:=t;have I:=r.freeze (O2:=[]) (by simp);refine aP r.pU r.jN (λe a=>p.nX I.st (by unfold cC;rw[a];rfl)) λd hd v F1 H1 Y q=>?_;have z:cC f ρ=.ok (.rt d):=by unfold cC;rw[hd];rfl
 rw[z]at p;exact p v F1 H1 (I.st.trans Y) (q.back r.st.hh)
theorem rs_retV(hi:i∈O)(t:tS K W d_ F0 H0 OL O O' (cC (ai i)) D σ H):rG (bV i) D σ H:=by
 obtain⟨FB,F,ρ,r,p⟩:=t;unfold cC ai at p
 match e:ρ[i]? with
 |some (a_ d)=>rw[e]at p;obtain⟨v,e3,q⟩:=r.ow i d e hi;exact⟨v,e3,p v F H r.st q⟩
 |some c_=>rw[e]at p;exact p.stuck rfl|none=>rw[e]at p;exact p.stuck rfl
theorem rs_for{fs:ah->M (List A3)}{pt:Pat}(n:∀i∈pt.names,i∉O)(t:tS K W ro F0 H0 OL O O (oO O fs pt g) D σ H):tFor (iD K W fs) (gP K pt) (tS K W ro F0 H0 O O O g) D σ H:=by
 obtain⟨FB,F,ρ,r,p⟩:=t;refine⟨F,erase O ρ,r.iI,r.st.fh,?_⟩
 cases e:fs (erase O ρ)with
 |error x=>exact p.nX r.st (by unfold oO;rw[e];rfl)|ok ds=>
  have z:oO O fs pt g ρ=nU pt g ds ρ:=by unfold oO;rw[e];rfl
  rw[z]at p;intro J F1 H1 k l;refine⟨λi m σ H=>∃F ρ,Rep K F0 H0 F1 O F H σ ρ/\i<=ds.length/\m=ds.length-i/\iE K W ro F0 H0 FB OL O D (nU pt g (ds.drop i) ρ),⟨ds.length,F1,ρ,?_,GS _,by omega,by rw[Kj];exact p⟩,?_⟩
  ·have c:=r.step k;exact⟨c.st,aL.refl _,c.len,c.fz,c.ow,c.ap⟩
  ·rintro i m h H2 ⟨F2,I,r2,hi,rfl,p2⟩;by_cases a:i<ds.length
   ·have B:ds.drop i=ds[i]::ds.drop (i+1):=IT a;rw[B]at p2;refine .inr ⟨l.go i F2 H2 r2.fb r2.st.fh a,λσ' H'=>(∃F ρ,Rep K F0 H0 F1 O F H' σ' ρ/\iE K W ro F0 H0 FB OL O D (nU pt g (ds.drop (i+1)) ρ)),λσ' H' ⟨F,ρ,r,p⟩=>⟨ds.length-(i+1),by omega,F,ρ,r,a,rfl,p⟩,λx H' y=>?_⟩;obtain⟨C,u,w⟩:=l.yl i F2 H2 x H' ds[i] r2.fb r2.st.fh (by simp[a]) y;have A:nU pt g (ds[i]::ds.drop (i+1)) I=(jC pt ds[i] I).bind λj=>(g j).bind λfl=>match fl with
     |.nx I=>nU pt g (ds.drop (i+1)) I|.ct I=>nU pt g (ds.drop (i+1)) I|.bk I=>.ok (.nx I)|.rt d=>.ok (.rt d):=by rw[nU]
    rw[A]at p2;cases f:jC pt ds[i] I with
    |error x=>have:=rq f;subst this;exact p2.stuck (by rw[f];rfl)|ok b=>
     rw[f]at p2;have p2:iE K W ro F0 H0 FB OL O D ((g b).bind λfl=>match fl with
      |.nx I=>nU pt g (ds.drop (i+1)) I|.ct I=>nU pt g (ds.drop (i+1)) I|.bk I=>.ok (.nx I)|.rt d=>.ok (.rt d)):=p2
     refine gP_rep (r2.step u) n w f λs v=>⟨F1,C,b,v,?_⟩
     have o:aL FB F1:=(r.step k).fb;cases q:g b with
     |error x=>exact p2.err (by rw[q];rfl)|ok fl=>
      rw[q]at p2;cases fl with
      |nx Y=>exact λσ' F' H' r'=>⟨F',Y,r',p2⟩|ct Y=>exact λσ' F' H' r'=>⟨F',Y,r',p2⟩|bk Y=>exact λσ' F' H' r'=>p2 σ' F' H' (r'.base o)|rt d=>exact p2
   ·have:i=ds.length:=by omega
    subst this;rw[Nw]at p2;exact .inl ⟨l.st F2 H2 r2.fb r2.st.fh,p2 h F2 H2 (r2.base (r.step k).fb)⟩
end
noncomputable def stk:M α:=.error .stuck
def bX:A3->A3->M A3
 |.int i,.int j=>.ok (.int (i+j))|.str x,.str y=>if x.length+y.length<=f_ then .ok (.str (x++y))else stk
 |.lst xs,.lst ys=>if xs.length+ys.length<=f_ then .ok (.lst (xs++ys))else stk
 |.tup xs,.tup ys=>if xs.length+ys.length<=f_ then .ok (.tup (xs++ys))else stk
 |_,_=>stk
noncomputable def eU(i:Int):Bool:=q_ (-(2^64)<i)&&q_ (i<2^64)
def zm:A3->A3->M A3
 |.int i,.int j=>if (eU i||eU j)=d_ then .ok (.int (i*j))else stk
 |_,_=>stk
def gF:A3->A3->M A3
 |.int i,.int j=>if (q_ (0<j)&&q_ (j<18446744073709551616))=d_ then .ok (.int (i/j))else stk
 |_,_=>stk
def jt:A3->A3->M A3
 |.int i,.int j=>if 0<j then .ok (.int (i%j))else stk
 |_,_=>stk
def Ed:A3->A3->M A3
 |.int i,.int j=>if (q_ (0<=j)&&q_ (j<=1000000)&&q_ (i.natAbs<2^64))=d_ then .ok (.int (i^j.toNat))else stk
 |_,_=>stk
def negD:A3->M A3
 |.int i=>.ok (.int (-i))|_=>stk
def ltD:A3->A3->M A3
 |.int i,.int j=>.ok (.bl (q_ (i<j)))|_,_=>stk
def leD:A3->A3->M A3
 |.int i,.int j=>.ok (.bl (q_ (i<=j)))|_,_=>stk
def gtD:A3->A3->M A3
 |.int i,.int j=>.ok (.bl (q_ (j<i)))|_,_=>stk
def geD:A3->A3->M A3
 |.int i,.int j=>.ok (.bl (q_ (j<=i)))|_,_=>stk
noncomputable def b2z(b:Bool):Int:=if b then 1 else 0
mutual
noncomputable def eqD:A3->A3->Bool
 |.non,.non=>d_|.bl a,.bl b=>a==b|.bl a,.int b=>b2z a==b|.int a,.bl b=>a==b2z b|.int a,.int b=>a==b|.str a,.str b=>a==b|.tup xs,.tup ys=>eqDs xs ys|.lst xs,.lst ys=>eqDs xs ys|_,_=>b_
noncomputable def eqDs:List A3->List A3->Bool
 |[],[]=>d_|d::ds,e::es=>eqD d e&&eqDs ds es|_,_=>b_
end
mutual
noncomputable def C6:A3->Nat->Bool
 |.tup ds,n=>(match n with
  |0=>b_|n+1=>l5 ds n)
 |.lst ds,n=>(match n with
  |0=>b_|n+1=>l5 ds n)
 |.ins _ _,_=>b_|.dic _,_=>b_|.dil _,_=>b_|.non,_=>d_|.bl _,_=>d_|.int _,_=>d_|.str _,_=>d_
noncomputable def l5:List A3->Nat->Bool
 |[],_=>d_|d::ds,n=>C6 d n&&l5 ds n
end
def eqM(a b:A3):M A3:=if (C6 a 40&&C6 b 40)=d_ then .ok (.bl (eqD a b))else stk
def neM(a b:A3):M A3:=if (C6 a 40&&C6 b 40)=d_ then .ok (.bl (!eqD a b))else stk
def inM(a b:A3):M A3:=(ig b).bind λds=>if (C6 a 40&&l5 ds 40)=d_ then .ok (.bl (ds.any λd=>eqD d a))else stk
def ib(a b:A3):M A3:=(ig b).bind λds=>if (C6 a 40&&l5 ds 40)=d_ then .ok (.bl (!ds.any λd=>eqD d a))else stk
def isND:A3->A3->M A3
 |.non,.non=>.ok (.bl d_)|_,.non=>.ok (.bl b_)|_,_=>stk
def uJ:A3->A3->M A3
 |.non,.non=>.ok (.bl b_)|_,.non=>.ok (.bl d_)|_,_=>stk
def gE(ds:List A3)(i:Int):M A3:=match atI ds i with
 |some d=>.ok d|none=>stk
def ixD:A3->A3->M A3
 |.lst ds,.int i=>gE ds i|.tup ds,.int i=>gE ds i|_,_=>stk
def gY:List A3->M A3
 |[.lst ds]=>.ok (.int ds.length)|[.tup ds]=>.ok (.int ds.length)|_=>stk
def iB:List A3->M (List Bool)
 |[]=>.ok []|d::ds=>(asB d).bind λb=>(iB ds).bind λr=>.ok (b::r)
def mK:List A3->M (List Int)
 |[]=>.ok []|d::ds=>(asI d).bind λb=>(mK ds).bind λr=>.ok (b::r)
def allD:List A3->M A3
 |[.lst ds]=>(iB ds).bind λbs=>.ok (.bl (bs.all id))|_=>stk
def zv:List A3->M A3
 |[.lst ds]=>.ok (.lst ds)|[.tup ds]=>.ok (.lst ds)|_=>stk
def intD:List A3->M A3
 |[.int i]=>.ok (.int i)|[.bl b]=>.ok (.int (b2z b))|_=>stk
def mD(i j:Int):Int:=if j<i then j else i
def minL:List Int->M A3
 |[]=>stk|i::is=>.ok (.int (is.foldl mD i))
def minD:List A3->M A3
 |[.int i,.int j]=>.ok (.int (mD i j))|[.lst ds]=>(mK ds).bind minL|_=>stk
def iP:A3->M A3
 |.int _=>.ok (.bl d_)|.bl _=>.ok (.bl d_)|.ins _ _=>stk|.dic _=>stk|.dil _=>stk|_=>.ok (.bl b_)
def k7:A3->M A3
 |.bl _=>.ok (.bl d_)|.ins _ _=>stk|.dic _=>stk|.dil _=>stk|_=>.ok (.bl b_)
def jZ:A3->M A3
 |.lst _=>.ok (.bl d_)|.ins _ _=>stk|.dic _=>stk|.dil _=>stk|_=>.ok (.bl b_)
def kB:A3->M A3
 |.tup _=>.ok (.bl d_)|.ins _ _=>stk|.dic _=>stk|.dil _=>stk|_=>.ok (.bl b_)
def mJ:A3->M (List A3)
 |.lst ds=>.ok ds|_=>.error .stuck
def nA:List A3->List A3->List A3
 |d::ds,e::es=>.tup [d,e]::nA ds es|_,_=>[]
def zI(fa fb:ah->M A3):ah->M (List A3):=λρ=>(fa ρ).bind λa=>(fb ρ).bind λb=>(mJ a).bind λds=>(mJ b).bind λes=>.ok (nA ds es)
def bQ(nN n:Nat)(g:ah->M A9)(ds:List A3):M A3:=if ds.length=n then(g (ds.map a_++GV (nN-ds.length) c_)).bind λfl=>match fl with
 |.nx _=>.ok .non|.rt d=>.ok d|_=>stk else stk
@[simp] theorem aj{α I:Type}(a:α)(f:α->M I):NY (Ge a:M α) f=f a:=id rfl
@[simp] theorem vo{α I:Type}(e:Err)(f:α->M I):NY (Im e:M α) f=.error e:=id rfl
@[simp] theorem D0:∀is:List Bool,iB (is.map A3.bl)=.ok is
 |[]=>rfl|i::is=>by simp[iB,asB,D0 is]
theorem kC{ds:List A3}{k:Nat}(h:k<ds.length):gE ds (k:Int)=.ok ds[k]:=by unfold gE atI ixN;rw[e_ (by omega),e_ (by omega)];simp[h]
theorem getI_int{is:List Int}{k:Int}(Y:0<=k)(h:k<is.length):gE (is.map A3.int) k=.ok (.int (is[k.toNat]'(by omega))):=by
 have I:k.toNat<(is.map A3.int).length:=by simp;omega
 have e:k=(k.toNat:Int):=by omega
 have:=kC I;rw[<- e]at this;rw[this];simp
theorem nq{p:Pat}{fe:ah->M A3}{ρ0:ah}(f:A3->A3):∀(ds:List A3),(∀d∈ds,∃ρ,jC p d ρ0=.ok ρ/\fe ρ=.ok (f d))->bw p gZ fe ρ0 ds=.ok (ds.map f)
 |[],_=>rfl|d::ds,h=>by obtain⟨ρ,e1,e2⟩:=h d (by simp);rw[bw,e1];simp only[aj,gZ,e2,nq f ds λx I=>h x (by simp[I])];simp
@[simp] theorem small_def(i:Int):eU i=(q_ (-(2^64)<i)&&q_ (i<2^64)):=id rfl
@[simp] theorem small_def2(i:Int):jj i=(q_ (-(2^62)<=i)&&q_ (i<2^62)):=id rfl
section
variable{fr:ah->M (List A3)}{g h:ah->M A9}
@[simp] theorem e_var0(d:A3)(r:ah):ai 0 (a_ d::r)=.ok d:=id rfl
@[simp] theorem e_varS(i:Nat)(o:Option A3)(r:ah):ai (i+1) (o::r)=ai i r:=by simp[ai]
@[simp] theorem e_c(d:A3):fC d ρ=.ok d:=id rfl
@[simp] theorem e_1(k:A3->M A3):f1 k fa ρ=(fa ρ).bind k:=id rfl
@[simp] theorem e_2(k:A3->A3->M A3):f2 k fa fb ρ=(fa ρ).bind λa=>(fb ρ).bind λb=>k a b:=id rfl
@[simp] theorem e_nil:aD ρ=.ok []:=id rfl
@[simp] theorem e_cons:aa fa fr ρ=(fa ρ).bind λa=>(fr ρ).bind λr=>.ok (a::r):=id rfl
@[simp] theorem e_L(k:List A3->M A3):fL k fr ρ=(fr ρ).bind k:=id rfl
@[simp] theorem e_ite:fIte ft fa fb ρ=(ft ρ).bind λb=>if b=d_ then fa ρ else fb ρ:=id rfl
@[simp] theorem e_and:xw ft fu ρ=(ft ρ).bind λb=>if b=d_ then fu ρ else .ok b_:=id rfl
@[simp] theorem e_or:fOr ft fu ρ=(ft ρ).bind λb=>if b=d_ then .ok d_ else fu ρ:=id rfl
@[simp] theorem e_not:qS ft ρ=(ft ρ).bind λb=>.ok (!b):=id rfl
@[simp] theorem e_B:fB fa ρ=(fa ρ).bind asB:=id rfl
@[simp] theorem e_andV:iq fa fb ρ=(fa ρ).bind λa=>(asB a).bind λb=>if b=d_ then fb ρ else .ok (.bl b_):=id rfl
@[simp] theorem e_orV:D9 fa fb ρ=(fa ρ).bind λa=>(asB a).bind λb=>if b=d_ then .ok (.bl d_)else fb ρ:=id rfl
@[simp] theorem e_tru:kM fa ρ=(fa ρ).bind truD:=id rfl
@[simp] theorem e_chain(k I:A3->A3->M A3):jc k I fa fb fc ρ=(fa ρ).bind λa=>(fb ρ).bind λb=>(k a b).bind λx=>(asB x).bind λz=>if z=d_ then(fc ρ).bind λc=>I b c else .ok (.bl b_):=id rfl
@[simp] theorem e_yes:gZ ρ=.ok d_:=id rfl
@[simp] theorem e_it:fIt fa ρ=(fa ρ).bind ig:=id rfl
@[simp] theorem e_rng(k:List A3->M (List A3)):qR k fr ρ=(fr ρ).bind k:=id rfl
@[simp] theorem e_zip:zI fa fb ρ=(fa ρ).bind λa=>(fb ρ).bind λb=>(mJ a).bind λds=>(mJ b).bind λes=>.ok (nA ds es):=id rfl
@[simp] theorem e_comp(fi:ah->M (List A3))(ix:List (Option Nat))(p:Pat):cU fi ix p ft fa ρ=(fi ρ).bind λds=>if ds.length<=f_ then(bw p ft fa (jL ix ρ) ds).bind λr=>.ok (.lst r)else .error .stuck:=id rfl
@[simp] theorem e_asB(b:Bool):asB (.bl b)=.ok b:=id rfl
@[simp] theorem e_asI(b:Int):asI (.int b)=.ok b:=id rfl
@[simp] theorem e_itemsL(ds:List A3):ig (.lst ds)=.ok ds:=id rfl
@[simp] theorem e_itemsT(ds:List A3):ig (.tup ds)=.ok ds:=id rfl
@[simp] theorem e_notD(b:Bool):notD (.bl b)=.ok (.bl (!b)):=id rfl
@[simp] theorem e_truB(b:Bool):truD (.bl b)=.ok b:=id rfl
@[simp] theorem e_addI(i j:Int):bX (.int i) (.int j)=.ok (.int (i+j)):=id rfl
@[simp] theorem e_negI(i:Int):negD (.int i)=.ok (.int (-i)):=id rfl
@[simp] theorem e_ltI(i j:Int):ltD (.int i) (.int j)=.ok (.bl (q_ (i<j))):=id rfl
@[simp] theorem e_leI(i j:Int):leD (.int i) (.int j)=.ok (.bl (q_ (i<=j))):=id rfl
@[simp] theorem e_gtI(i j:Int):gtD (.int i) (.int j)=.ok (.bl (q_ (j<i))):=id rfl
@[simp] theorem e_geI(i j:Int):geD (.int i) (.int j)=.ok (.bl (q_ (j<=i))):=id rfl
@[simp] theorem e_ixL(ds:List A3)(i:Int):ixD (.lst ds) (.int i)=gE ds i:=id rfl
@[simp] theorem e_ixT(ds:List A3)(i:Int):ixD (.tup ds) (.int i)=gE ds i:=id rfl
@[simp] theorem e_lenL(ds:List A3):gY [.lst ds]=.ok (.int ds.length):=id rfl
@[simp] theorem e_lenT(ds:List A3):gY [.tup ds]=.ok (.int ds.length):=id rfl
@[simp] theorem e_all(ds:List A3):allD [.lst ds]=(iB ds).bind λbs=>.ok (.bl (bs.all id)):=id rfl
@[simp] theorem e_listL(ds:List A3):zv [.lst ds]=.ok (.lst ds):=id rfl
@[simp] theorem e_intB(b:Bool):intD [.bl b]=.ok (.int (b2z b)):=id rfl
@[simp] theorem e_minL(ds:List A3):minD [.lst ds]=(mK ds).bind minL:=id rfl
@[simp] theorem e_isiBI(i:Int):k7 (.int i)=.ok (.bl b_):=id rfl
@[simp] theorem e_isiII(i:Int):iP (.int i)=.ok (.bl d_):=id rfl
@[simp] theorem e_isiLL(ds:List A3):jZ (.lst ds)=.ok (.bl d_):=id rfl
@[simp] theorem e_isiTT(ds:List A3):kB (.tup ds)=.ok (.bl d_):=id rfl
@[simp] theorem e_isN(d:A3):isND d .non=.ok (.bl (match d with|.non=>d_|_=>b_)):=by cases d<;>rfl
@[simp] theorem e_notN(d:A3):uJ d .non=.ok (.bl (match d with|.non=>b_|_=>d_)):=by cases d<;>rfl
@[simp] theorem e_next:cE ρ=.ok (.nx ρ):=id rfl
@[simp] theorem mX:br g h ρ=(g ρ).bind λfl=>match fl with
 |.nx ρ'=>h ρ'|fl=>.ok fl:=id rfl
@[simp] theorem e_if:sIf ft g h ρ=(ft ρ).bind λb=>if b=d_ then g ρ else h ρ:=id rfl
@[simp] theorem e_setB(O:List Nat)(i:Nat):b7 O i fa ρ=(fa (erase O ρ)).bind λd=>.ok (.nx (ρ.set i (a_ d))):=id rfl
@[simp] theorem e_ret:cC fa ρ=(fa ρ).bind λd=>.ok (.rt d):=id rfl
@[simp] theorem e_for(O:List Nat)(fi:ah->M (List A3))(p:Pat):oO O fi p g ρ=(fi (erase O ρ)).bind λds=>nU p g ds ρ:=id rfl
@[simp] theorem e_unpB(O:List Nat)(p:Pat):rM O p fa ρ=(fa (erase O ρ)).bind λd=>(jC p d ρ).bind λρ'=>.ok (.nx ρ'):=id rfl
@[simp] theorem e_appB(O:List Nat)(i:Nat):i9 O i fa ρ=(j4 ρ i).bind λds=>(fa (erase O ρ)).bind λd=>if ds.length<f_ then put ρ i (ds++[d])else .error .stuck:=id rfl
@[simp] theorem e_put(i:Nat)(ds:List A3):put ρ i ds=.ok (.nx (ρ.set i (a_ (.lst ds)))):=id rfl
@[simp] theorem e_lst0(ds:List A3)(r:ah):j4 (a_ (.lst ds)::r) 0=.ok ds:=id rfl
@[simp] theorem e_lstS(i:Nat)(o:Option A3)(r:ah):j4 (o::r) (i+1)=j4 r i:=by simp[j4]
@[simp] theorem e_er0:erase [] ρ=ρ:=id rfl
@[simp] theorem e_erS(i:Nat)(O:List Nat):erase (i::O) ρ=erase O (ρ.set i c_):=id rfl
@[simp] theorem e_bnm(i:Nat)(d:A3):jC (.nm i) d ρ=.ok (ρ.set i (a_ d)):=id rfl
@[simp] theorem e_btp(is:List Nat)(ds:List A3):jC (.tp is) (.tup ds) ρ=if ds.length=is.length then .ok (j9 is ds ρ)else .error .stuck:=id rfl
@[simp] theorem e_sa0(ds:List A3):j9 [] ds ρ=ρ:=by cases ds<;>rfl
@[simp] theorem e_saS(i:Nat)(is:List Nat)(d:A3)(ds:List A3):j9 (i::is) (d::ds) ρ=j9 is ds (ρ.set i (a_ d)):=id rfl
@[simp] theorem e_in0:jL [] ρ=[]:=id rfl
@[simp] theorem e_inN(ix:List (Option Nat)):jL (c_::ix) ρ=c_::jL ix ρ:=id rfl
@[simp] theorem e_inS(j:Nat)(ix:List (Option Nat)):jL (a_ j::ix) ρ=(ρ[j]?).join::jL ix ρ:=id rfl
@[simp] theorem e_tup(ds:List A3):iC ds=if ds.length<=f_ then .ok (.tup ds)else .error .stuck:=id rfl
@[simp] theorem e_lst(ds:List A3):bu ds=if ds.length<=f_ then .ok (.lst ds)else .error .stuck:=id rfl
@[simp] theorem e_line:f_=16777216:=C_
@[simp] theorem e_run(a b:Nat)(ds:List A3):bQ a b g ds=if ds.length=b then(g (ds.map a_++GV (a-ds.length) c_)).bind λfl=>match fl with
 |.nx _=>.ok .non|.rt d=>.ok d|_=>stk else stk:=id rfl
@[simp] theorem e_rng1{j:Int}(h:jj j=d_):rN [.int j]=.ok (gQ 0 j.toNat):=by show(if jj j=d_ then _ else _)=_;rw[e_ h]
@[simp] theorem e_mod{i j:Int}(h:0<j):jt (.int i) (.int j)=.ok (.int (i%j)):=by simp[jt,h]
@[simp] theorem e_mulR{i j:Int}(h:eU j=d_):zm (.int i) (.int j)=.ok (.int (i*j)):=by show(if (eU i||eU j)=d_ then _ else _)=_;rw[h,Ma,e_ rfl]
end
section
variable{W:eD}{own:Bool}{a b c:GX}{rest:List GX}{f:ah->M A3}{fr:ah->M (List A3)}
theorem PE.imp{t t':TE}(h:PE X e t)(q:∀σ H Q,t' σ H Q->t σ H Q):PE X e t':=λA4 s σ H Q I z=>h A4 s σ H Q I (q σ H Q z)
theorem PT.imp{t t':TT}(h:PT X e t)(q:∀σ H Q,t' σ H Q->t σ H Q):PT X e t':=λA4 s σ H Q I z=>h A4 s σ H Q I (q σ H Q z)
theorem PW.imp{t t':TT}(h:PW X e t)(q:∀σ H Q,t' σ H Q->t σ H Q):PW X e t':=λY A4 s σ H Q I z=>h Y A4 s σ H Q I (q σ H Q z)
theorem PA.imp{t t':TA}(h:PA X es t)(q:∀σ H Q,t' σ H Q->t σ H Q):PA X es t':=λps A4 s σ H Q I z=>h ps A4 s σ H Q I (q σ H Q z)
theorem PI.imp{t t':TI}(h:PI X tg e t)(q:∀σ H Q,t' σ H Q->t σ H Q):PI X tg e t':=λA4 s σ H Q I z=>h A4 s σ H Q I (q σ H Q z)
theorem PS.imp{t t':TS}(h:PS X st t)(q:∀D σ H,t' D σ H->t D σ H):PS X st t':=λA4 s σ H D I z=>h A4 s σ H D I (q D σ H z)
theorem PSs.imp{st:List GW}{t t':TS}(h:PSs X st t)(q:∀D σ H,t' D σ H->t D σ H):PSs X st t':=λA4 s σ H D I z=>h A4 s σ H D I (q D σ H z)
abbrev DE(K:Pn)(W:eD)(own:Bool)(X:Cx)(e:GX)(f:ah->M A3):Prop:=PE X e (tD K W own f)
abbrev DT(K:Pn)(W:eD)(X:Cx)(e:GX)(f:ah->M Bool):Prop:=PT X e (tDT K W f)
abbrev DW(K:Pn)(W:eD)(X:Cx)(e:GX)(f:ah->M Bool):Prop:=PW X e (tDT K W f)
abbrev DA(K:Pn)(W:eD)(X:Cx)(es:List GX)(f:ah->M (List A3)):Prop:=PA X es (tDA K W f)
abbrev DI(K:Pn)(W:eD)(X:Cx)(tg e:GX)(f:ah->M (List A3)):Prop:=PI X tg e (iD K W f)
abbrev DG(K:Pn)(X:Cx)(tg:GX)(p:Pat):Prop:=PG X tg (gP K p)
abbrev DS(K:Pn)(W:eD)(ro:Bool)(X:Cx)(OL O O':List Nat)(st:GW)(g:ah->M A9):Prop:=∀F0 H0:Hp,PS X st (tS K W ro F0 H0 OL O O' g)
abbrev DSs(K:Pn)(W:eD)(ro:Bool)(X:Cx)(OL O O':List Nat)(st:List GW)(g:ah->M A9):Prop:=∀F0 H0:Hp,PSs X st (tS K W ro F0 H0 OL O O' g)
abbrev Op2(K:Pn)(W:eD)(own:Bool)(X:Cx)(o:i_->i_->Oe i_)(g:A3->A3->M A3):Prop:=OpR X o (rD2 K W own g)
abbrev rC(K:Pn)(W:eD)(own:Bool)(X:Cx)(v:i_)(g:List A3->M A3):Prop:=fW X v (rDL K W own g)
theorem ao(i:Nat)(Y: ~~~(X.N[i]?=a_ x))(hv:autoParam (Vis X.env.scope x) Jq4)(hd:((x==("__debug__":p_))=b_)⁻¹)(I:((x==("__classdict__":p_))=b_)⁻¹):DE K W b_ X (.Name x pos) (ai i):=(pv i Y hv hd I).imp λ_ _ _=>rd_var
theorem ae{i:Int}{j}:DE K W b_ X (.Constant (.int i) j pos) (fC (.int i)):=AR.imp λ_ _ _=>rd_c λ_=>rfl
theorem kO{k:Bool}{j}:DE K W b_ X (.Constant (.bool k) j pos) (fC (.bl k)):=jo.imp λ_ _ _=>rd_c λ_=>rfl
theorem eN{j}:DE K W b_ X (.Constant .none j pos) (fC .non):=pe_non.imp λ_ _ _=>rd_c λ_=>rfl
theorem ay{z:p_}{j}:DE K W b_ X (.Constant (.str z) j pos) (fC (.str z)):=sW.imp λ_ _ _=>rd_c λ_=>rfl
theorem jz{n:Int}(I:∃t,X.mg x=a_ (.int n t))(Y: ~~~(Gl X x))(hd:((x==("__debug__":p_))=b_)⁻¹):DE K W b_ X (.Name x pos) (fC (.int n)):=(pe_gint Y I hd).imp λ_ _ _=>rd_c λ_=>rfl
theorem av(h:DE K W d_ X e f):DE K W b_ X e f:=PE.imp h λ_ _ _ ⟨F,ρ,r,s,p⟩=>⟨F,ρ,r,s,p.frz⟩
theorem az{op:Operator}(I:Op2 K W own X (HK op) g)(c:DE K W b_ X a fa)(Y:DE K W b_ X b fb):DE K W own X (.BinOp a op b pos) (f2 g fa fb):=(pe_op I c Y).imp λ_ _ _=>rd_2
theorem de_un{op:UnaryOp}{g:A3->M A3}(I:UnR X (N5 op) (rD1 K W own g))(Y:DE K W b_ X a fa):DE K W own X (.UnaryOp op a pos) (f1 g fa):=(pe_un I Y).imp λ_ _ _=>rd_1
theorem jd(I:Op2 K W b_ X (Gk op) g)(d:DE K W b_ X a fa)(c:DE K W b_ X b fb)(Y:autoParam (Ie op b=b_) Jq10):DE K W b_ X (.Compare a [op] [b] pos) (f2 g fa fb):=
 (pe_cmpR I d c Y).imp λ_ _ _=>rd_2
theorem aF(I:Op2 K W b_ X (Gk op) g)(d:DE K W b_ X a fa)(c:DE K W b_ X b fb)(Y:autoParam (Ie op b=b_) Jq10):DT K W X (.Compare a [op] [b] pos) (fB (f2 g fa fb)):=
 (yV I d c Y).imp λσ H Q h=>by have q:=rd_B h;exact rd_2 (own:=b_) q
theorem Bm(Y:Op2 K W b_ X (Gk op) g)(I:Op2 K W b_ X (Gk op') g')(h:DE K W b_ X a fa)(f:DE K W b_ X b fb)(e:DE K W b_ X c fc)(d:autoParam (KP [op,op'] [b,c]=b_) Jq7):DE K W b_ X (.Compare a [op,op'] [b,c] pos) (jc g g' fa fb fc):=(pe_chain Y I h f e d).imp λ_ _ _=>AI
theorem dt_chain(Y:Op2 K W b_ X (Gk op) g)(I:Op2 K W b_ X (Gk op') g')(i:DE K W b_ X a fa)(f:DE K W b_ X b fb)(e:DE K W b_ X c fc)(d:autoParam (KP [op,op'] [b,c]=b_) Jq7):DT K W X (.Compare a [op,op'] [b,c] pos) (fB (jc g g' fa fb fc)):=(pt_chain Y I i f e d).imp λσ H Q h=>by have q:=rd_B h;exact AI q
theorem dW(b:DE K W b_ X a fa)(c: ~~~(X.K=K))(Y:autoParam (∀I,Na a X.env I=(do let v <- I;Lg a.pos;JO [v] (truthy v))) Jq5):DT K W X a (kM fa):=by subst c;exact(pf b Y).imp λ_ _ _=>rd_tru
theorem iZ(I:DT K W X a ft):DT K W X (.UnaryOp .Not a pos) (qS ft):=(AL I).imp λ_ _ _=>rd_not
theorem lN(I:DT K W X a ft):DW K W X (.BoolOp .And [a] pos) ft:=Eb I
theorem dB(I:DT K W X a ft):DW K W X (.BoolOp .Or [a] pos) ft:=pw_or1 I
theorem qU(Y:DT K W X a ft)(I:DW K W X (.BoolOp .And (b::rest) pos) fu):DW K W X (.BoolOp .And (a::b::rest) pos) (xw ft fu):=(Ec Y I).imp λ_ _ _=>rd_and
theorem eO(Y:DT K W X a ft)(I:DW K W X (.BoolOp .Or (b::rest) pos) fu):DW K W X (.BoolOp .Or (a::b::rest) pos) (fOr ft fu):=(pw_or Y I).imp λ_ _ _=>rd_or
theorem n5{op}(h:DE K W b_ X a f):DE K W b_ X (.BoolOp op [a] pos) f:=pe_one h
theorem oJ(Y:DE K W b_ X a fa)(I:DE K W b_ X (.BoolOp .And (b::rest) pos) fb):DE K W b_ X (.BoolOp .And (a::b::rest) pos) (iq fa fb):=(pe_and Y I).imp λ_ _ _=>rd_andV
theorem de_or(Y:DE K W b_ X a fa)(I:DE K W b_ X (.BoolOp .Or (b::rest) pos) fb):DE K W b_ X (.BoolOp .Or (a::b::rest) pos) (D9 fa fb):=(pe_or Y I).imp λ_ _ _=>rd_orV
theorem de_not(I:DE K W b_ X a fa):DE K W b_ X (.UnaryOp .Not a pos) (f1 notD fa):=(pe_not I).imp λ_ _ _=>rd_notV
theorem Bk(I:DT K W X c ft)(d:DE K W own X a fa)(Y:DE K W own X b fb):DE K W own X (.IfExp c a b pos) (fIte ft fa fb):=(pe_ifExp I d Y).imp λ_ _ _=>rd_ite
theorem dZ:DA K W X [] aD:=aO.imp λ_ _ _=>rd_nil
theorem aZ(a:DE K W b_ X e fa)(Y:DA K W X es fr)(I: ~~~(iF (e::es) X.env=(b_,Gj e X.env)::iF es X.env)):DA K W X (e::es) (aa fa fr):=(ax a Y I).imp λ_ _ _=>rd_cons
theorem kj{I}(h:DA K W X es fr):DE K W own X (.Tuple es I pos) (fL iC fr):=(wM h).imp λ_ _ _=>rd_tup
theorem bO(h:DA K W X es fr):DE K W d_ X (.List es pos) (fL bu fr):=(jG h).imp λ_ _ _=>rd_lst
theorem aC{id:String}{g:List A3->M A3}(f:rC K W own X (.builtin id) g)(c:X.mg x=c_)(hv:HN x=a_ (.builtin id))(h:DA K W X (e::es) fr)(d: ~~~(Gl X x))(b:(x≠"__name__")⁻¹)(a:((x==("__debug__":p_))=b_)⁻¹)(I: ~~~(iF (e::es) X.env=(b_,Gj e X.env)::iF es X.env))(Y: ~~~((GG pos (iF es X.env)).any (·.1)=b_)):DE K W own X (.Call (.Name x p) (e::es) [] pos) (fL g fr):=
 (iK f d c hv h b a I Y).imp λ_ _ _=>rd_L
theorem cP{g:List A3->M A3}(f:rC K W own X (.type T) g)(c:X.mg x=c_)(hv:HN x=a_ (.type T))(h:DA K W X (e::es) fr)(d: ~~~(Gl X x))(b:(x≠"__name__")⁻¹)(a:((x==("__debug__":p_))=b_)⁻¹)(I: ~~~(iF (e::es) X.env=(b_,Gj e X.env)::iF es X.env))(Y: ~~~((GG pos (iF es X.env)).any (·.1)=b_)):DE K W own X (.Call (.Name x p) (e::es) [] pos) (fL g fr):=
 (jO f d c hv h b a I Y).imp λ_ _ _=>rd_L
theorem aH(Y:IxR X (rD2 K W own g))(d:DE K W b_ X a fa)(c:DE K W b_ X b fb)(I:FU b:=by exact λ_ _=>rfl):DE K W own X (.Subscript a b pos) (f2 g fa fb):=(pe_ix Y d c I).imp λ_ _ _=>rd_2
theorem qV(a:X.N.Nodup)(hi: ~~~(X.N[i]?=a_ x))(I:autoParam (Loc X.env.scope x) Jq6)(Y:autoParam (X.fn x=d_\/X.env.scope.names.lookup x=a_ .local) Jq3):DG K X (.Name x pos) (.nm i):=dh a hi I Y
theorem dX(m:DE K W b_ X e fa)(n: ~~~(X.K=K)):DI K W X tg e (fIt fa):=by
 subst n;refine PI.imp (t:=iSeq X.K (tD X.K W b_ fa)) ?_ λ_ _ _=>ri_seq;intro A4 s σ H R I h;refine Bs (m A4 s σ H _ I h) λv Y k=>?_;obtain⟨y,H1,a,g,i⟩:=k;obtain⟨l,e1,q⟩:=i;subst e1;cases g;rcases q with⟨⟨xs,c⟩,q⟩|⟨⟨xs,c⟩,q⟩
 ·obtain⟨A8,f,p,j⟩:=a.list c;refine Jk p.isList ?_;refine⟨Y.heap.objs.size,[Y.heap.objs.size],_,_,H1,rfl,a.kept (t':=Y.toks) λb o e=>n_ _ e,vN l _,⟨_,E_ _ rfl,rfl,rfl⟩,λb d=>?_,q⟩
  have e:b=Y.heap.objs.size:=by simpa using d
  subst e;exact a.fpOk (sy _) (a.hok.fresh (sy _))
 ·obtain⟨A8,f,p,j⟩:=a.tuple c;refine wpAny_pyIter_tuple (show Y.heap.IsTuple l A8.toArray from p) ?_;refine⟨Y.heap.objs.size,[Y.heap.objs.size],_,_,H1,rfl,a.kept (t':=Y.toks) λb o e=>n_ _ e,Bx l _,⟨_,E_ _ rfl,rfl,rfl⟩,λb d=>?_,q⟩
  have e:b=Y.heap.objs.size:=by simpa using d
  subst e;exact a.fpOk (sy _) (a.hok.fresh (sy _))
theorem gN(Y:X.mg "range"=c_)(c:DA K W X [a] fr)(b: ~~~(Gl X "range"))(I: ~~~(iF [a] X.env=[(b_,Gj a X.env)])):DI K W X tg (.Call (.Name "range" p) [a] [] pos) (qR rN fr):=(wJ b Y c I).imp λ_ _ _=>ri_rng1
variable{O':List Nat}{g h:ah->M A9}
theorem bB:DSs K W ro X OL O O [] cE:=λ_ _=>bK.imp λ_ _ _=>rs_next
theorem au(h1:DS K W ro X OL O O' st g)(h2:DSs K W ro X OL O' O2 sts h):DSs K W ro X OL O O2 (st::sts) (br g h):=λF0 H0=>(aB (h1 F0 H0) (h2 F0 H0)).imp λ_ _ _=>rs_seq
theorem aA(h1:DS K W ro X OL O O' st g):DSs K W ro X OL O O' [st] g:=λF0 H0=>aX (h1 F0 H0)
theorem gw(h1:DSs K W ro X OL O2 O' sts g)(I:(∀i∈O2,i∈O)⁻¹):DSs K W ro X OL O O' sts g:=λF0 H0=>PSs.imp (h1 F0 H0) λ_ _ _=>tS.enter I
theorem d7{Y I:List GW}(a:DT K W X c ft)(d:DSs K W ro X OL O O' Y g)(b:DSs K W ro X OL O O' I h):DS K W ro X OL O O' (.If c Y I pos) (sIf ft g h):=λF0 H0=>(gU a (d F0 H0) (b F0 H0)).imp λ_ _ _=>rs_if
theorem Fi(c:X.N.Nodup)(b:DE K W own X e f)(hi: ~~~(X.N[i]?=a_ x))(I:autoParam (Loc X.env.scope x) Jq6)(Y: ~~~(Hr e (a_ (.Name x pos')) pos.line X.env=Hq b_))(a:autoParam (X.fn x=d_\/X.env.scope.names.lookup x=a_ .local) Jq3):
  DS K W ro X OL O (aft own i O) (.Assign [.Name x pos'] e pos) (b7 O i f):=λF0 H0=>(jF c hi I b Y a).imp λ_ _ _=>yL
theorem Fj(c:X.N.Nodup)(b:DE K W own X e f)(hi: ~~~(X.N[i]?=a_ x))(I:autoParam (Loc X.env.scope x) Jq6)(Y: ~~~(Hr e (a_ (.Name x pos')) pos.line X.env=Hq b_))(a:autoParam (X.fn x=d_\/X.env.scope.names.lookup x=a_ .local) Jq3):
  DS K W ro X OL O (aft own i O) (.Assign [.Name x pos'] e pos) (uq own i f):=λF0 H0=>(jF c hi I b Y a).imp λ_ _ _=>rs_setA
theorem aK(I:DE K W ro X e f):DS K W ro X OL O O' (.Return (a_ e) pos) (cC f):=λF0 H0=>(cq I).imp λ_ _ _=>rs_ret
theorem Fl(Y:(i∈O)⁻¹)(a: ~~~(X.N[i]?=a_ x))(hv:autoParam (Vis X.env.scope x) Jq4)(hd:((x==("__debug__":p_))=b_)⁻¹)(I:((x==("__classdict__":p_))=b_)⁻¹):DS K W d_ X OL O O' (.Return (a_ (.Name x p)) pos) (cC (ai i)):=λF0 H0=>(cq (pv i a hv hd I)).imp λ_ _ _=>rs_retV Y
theorem iu{fs:ah->M (List A3)}{pt:Pat}(hi:DI K W X tg iter fs)(a:DG K X tg pt)(c:DSs K W ro X O O O body g)(n:(∀i∈pt.names,i∉O)⁻¹)(Y:PassesOwn (D_ X.prog X.w) X.A X.env X.xe:=by exact PassesOwn.never)(b: ~~~(X.calm=d_))(I:autoParam (∀x,HX iter X.env x=Hq x) Jq5):DS K W ro X OL O O (.For tg iter body [] pos) (oO O fs pt g):=λF0 H0=>(AM Y b hi a (c F0 H0) I).imp λ_ _ _=>rs_for n
theorem gj(j:DE K W b_ X e f)(h:(i∈O)⁻¹)(k: ~~~(X.N[i]?=a_ x))(hv:autoParam (Vis X.env.scope x) Jq4)(hd:((x==("__debug__":p_))=b_)⁻¹)(g:((x==("__classdict__":p_))=b_)⁻¹)(l: ~~~(X.K=K))(b: ~~~(iF [e] X.env=[(b_,Gj e X.env)]))(a: ~~~(Ha (.Name x p) "append" X.env (Gj (.Name x p) X.env)=Gj (.Name x p) X.env))(c: ~~~(((GG q (iF [e] X.env)).all (λx=> !x.1)&&(HZ q (Hi [] X.env)).all (λx=>x.1.isSome)&&q_ ([e].length+([]:List IG).length+(if ([]:List IG).isEmpty then 0 else 1)<30))=d_))(I: ~~~((GG q (iF [] X.env)).any (·.1)=b_))(Y: ~~~((apos.endLine==q.line)=d_))(d: ~~~(Hr (.Call (.Attribute (.Name x p) "append" apos) [e] [] q) c_ pos.line X.env=Hq b_)):
  DS K W ro X OL O O (.Expr (.Call (.Attribute (.Name x p) "append" apos) [e] [] q) pos) (i9 O i f):=λF0 H0=>by
 subst l;exact PS.imp (gK (nL Gu GD GN eV (pv i k hv hd g) (ax j aO b) a c Y b I) d) λ_ _ _=>rs_appB h
end
section
variable{W:eD}{own:Bool}
theorem OpR.imp{f:i_->i_->Oe i_}{r:R2}(h:OpR X f r)(q:∀x y H Q,r' x y H Q->r x y H Q):OpR X f r':=λA4 s σ H x y v u Q I a Y z=>h A4 s σ H x y v u Q I a Y (q x y H Q z)
theorem UnR.imp{f:i_->Oe i_}{r r':V->Hp->VK->Prop}(h:UnR X f r)(q:∀x H Q,r' x H Q->r x H Q):UnR X f r':=λA4 s σ H x v Q I Y z=>h A4 s σ H x v Q I Y (q x H Q z)
theorem fW.imp{f:i_}{r r':List V->Hp->VK->Prop}(h:fW X f r)(q:∀x H Q,r' x H Q->r x H Q):fW X f r':=λA4 s σ H x v Q I Y z=>h A4 s σ H x v Q I Y (q x H Q z)
theorem IxR.imp{r:R2}(h:IxR X r)(q:∀x y H Q,r' x y H Q->r x y H Q):IxR X r':=λY a A4 s σ H x y v u Q I c b z e=>h Y a A4 s σ H x y v u Q I c b (q x y H Q z) e
theorem aN.stuck{P:Prop}(p:aN K W own F H (stk) Q):P:=(W.ns p).elim
theorem aN.int{F H:Hp}{Q:VK}{i:Int}(p:aN K W own F H (.ok (.int i)) Q)(s:aL F H):Q (.int i) H:=p _ F H (A5.refl s) (by cases own<;>rfl)
theorem aN.bl{F H:Hp}{Q:VK}{b:Bool}(p:aN K W own F H (.ok (.bl b)) Q)(s:aL F H):Q (.bl b) H:=p _ F H (A5.refl s) (by cases own<;>rfl)
theorem aN.str{F H:Hp}{Q:VK}{x:p_}(p:aN K W own F H (.ok (.str x)) Q)(s:aL F H):Q (.str x) H:=p _ F H (A5.refl s) (by cases own<;>rfl)
theorem aN.tup{F H:Hp}{Q:VK}{ds:List A3}{xs:List V}{a:g_}(p:aN K W own F H (.ok (.tup ds)) Q)(s:aL F H)(q:aE K F ds xs)(I:H a=c_):Q (.ref a) (upd H a (.tup xs)):=
 p _ _ _ (A5.lay s I) (by
  have:aT K (upd F a (.tup xs)) (.tup ds) (.ref a):=⟨a,xs,rfl,SqT.of aq,q.mono (aL.upd (s.free I))⟩
  cases own<;>exact this)
theorem aN.same{ds:List A3}(p:aN K W own F H (.ok (.tup ds)) Q)(s:aL F H)(q:aT K F (.tup ds) v):Q v H:=p _ F H (A5.refl s) (by cases own<;>exact q)
theorem aN.lst{F H:Hp}{Q:VK}{ds:List A3}{xs:List V}{a:g_}(p:aN K W d_ F H (.ok (.lst ds)) Q)(s:aL F H)(q:aE K F ds xs)(I:H a=c_):Q (.ref a) (upd H a (.lst xs)):=
 p _ F _ (A5.grow s I) ⟨a,xs,rfl,aq,s.free I,I,q⟩
theorem iH(c:∀a b,(∃i j,a=.int i/\b=.int j)\/g a b=stk){x:V}(h:rD2 K W own g x y H Q):∃F i j,aL F H/\x=.int i/\y=.int j/\aN K W own F H (g (.int i) (.int j)) Q:=by
 obtain⟨F,a,b,s,Y,I,p⟩:=h;rcases c a b with⟨i,j,rfl,rfl⟩|e
 ·exact⟨F,i,j,s,Y,I,p⟩
 ·rw[e]at p;exact p.stuck
theorem oS:Op2 K W own X (HK .Mult) zm:=op_mul.imp λx y H Q h=>by
 obtain⟨F,i,j,s,e1,e2,p⟩:=iH (λa b=>by cases a<;>cases b<;>first|exact .inr rfl|exact .inl ⟨_,_,rfl,rfl⟩) h;have Y:aN K W own F H (if (eU i||eU j)=d_ then .ok (.int (i*j))else stk) Q:=p;by_cases I:(eU i||eU j)=d_
 ·rw[e_ I]at Y;refine⟨i,j,e1,e2,?_,Y.int s⟩
  unfold eU at I;simp only[Jt,l_,Gd]at I;exact I
 ·rw[k_ I]at Y;exact Y.stuck
theorem EC{j:Int}(I:0<j)(h1:j<18446744073709551616):j.natAbs.log2<9000:=by
 have a:j.natAbs<2^64:=by omega
 have b:=(Nat.log2_lt (n:=j.natAbs) (k:=64) (by omega)).mpr a;omega
theorem Ej:OpR X (HK .FloorDiv) (rI (λ_ j=>0<j/\j<18446744073709551616) λi j=>.int (i/j)):=opI λi j _ _ _ _ _ I q=>by obtain⟨a,Y⟩:=I;exact floordiv_int (by omega) (by rw[Int.fdiv_eq_ediv_of_nonneg i (by omega)];exact q) (.inl (PyProof.noPylong_of_log2 (EC a Y)))
theorem cY:Op2 K W own X (HK .FloorDiv) gF:=Ej.imp λx y H Q h=>by
 obtain⟨F,i,j,s,e1,e2,p⟩:=iH (λa b=>by cases a<;>cases b<;>first|exact .inr rfl|exact .inl ⟨_,_,rfl,rfl⟩) h;have I:aN K W own F H (if (q_ (0<j)&&q_ (j<18446744073709551616))=d_ then .ok (.int (i/j))else stk) Q:=p;by_cases Y:(q_ (0<j)&&q_ (j<18446744073709551616))=d_
 ·rw[e_ Y]at I;simp only[l_,Gd]at Y;exact⟨i,j,e1,e2,Y,I.int s⟩
 ·rw[k_ Y]at I;exact I.stuck
theorem dm:Op2 K W own X (HK .Mod) jt:=op_mod.imp λx y H Q h=>by
 obtain⟨F,i,j,s,e1,e2,p⟩:=iH (λa b=>by cases a<;>cases b<;>first|exact .inr rfl|exact .inl ⟨_,_,rfl,rfl⟩) h;have I:aN K W own F H (if 0<j then .ok (.int (i%j))else stk) Q:=p;by_cases Y:0<j
 ·rw[e_ Y]at I;exact⟨i,j,e1,e2,Y,I.int s⟩
 ·rw[k_ Y]at I;exact I.stuck
theorem wZ:Op2 K W own X (HK .Pow) Ed:=op_pow.imp λx y H Q h=>by
 obtain⟨F,i,j,s,e1,e2,p⟩:=iH (λa b=>by cases a<;>cases b<;>first|exact .inr rfl|exact .inl ⟨_,_,rfl,rfl⟩) h;have Y:aN K W own F H (if (q_ (0<=j)&&q_ (j<=1000000)&&q_ (i.natAbs<2^64))=d_ then .ok (.int (i^j.toNat))else stk) Q:=p;by_cases I:(q_ (0<=j)&&q_ (j<=1000000)&&q_ (i.natAbs<2^64))=d_
 ·rw[e_ I]at Y;simp only[l_,Gd]at I;exact⟨i,j,e1,e2,⟨I.1.1,I.1.2,I.2⟩,Y.int s⟩
 ·rw[k_ I]at Y;exact Y.stuck
theorem o_neg:UnR X (N5 .USub) (rD1 K W own negD):=un_neg.imp λx H Q h=>by
 obtain⟨F,a,s,I,p⟩:=h;cases a with
 |int i=>exact⟨i,I,aN.int (own:=own) p s⟩|_=>exact aN.stuck p
theorem o_lt:Op2 K W own X (Gk .Lt) ltD:=op_lt.imp λx y H Q h=>by obtain⟨F,i,j,s,e1,e2,p⟩:=iH (λa b=>by cases a<;>cases b<;>first|exact .inr rfl|exact .inl ⟨_,_,rfl,rfl⟩) h;exact⟨i,j,e1,e2,p.bl s⟩
theorem En:Op2 K W own X (Gk .LtE) leD:=op_le.imp λx y H Q h=>by obtain⟨F,i,j,s,e1,e2,p⟩:=iH (λa b=>by cases a<;>cases b<;>first|exact .inr rfl|exact .inl ⟨_,_,rfl,rfl⟩) h;exact⟨i,j,e1,e2,p.bl s⟩
theorem Eo:Op2 K W own X (Gk .Gt) gtD:=op_gt.imp λx y H Q h=>by obtain⟨F,i,j,s,e1,e2,p⟩:=iH (λa b=>by cases a<;>cases b<;>first|exact .inr rfl|exact .inl ⟨_,_,rfl,rfl⟩) h;exact⟨i,j,e1,e2,p.bl s⟩
theorem o_ge:Op2 K W own X (Gk .GtE) geD:=op_ge.imp λx y H Q h=>by obtain⟨F,i,j,s,e1,e2,p⟩:=iH (λa b=>by cases a<;>cases b<;>first|exact .inr rfl|exact .inl ⟨_,_,rfl,rfl⟩) h;exact⟨i,j,e1,e2,p.bl s⟩
theorem op_catL:OpR X (HK .Add) (λx y H Q=>∃l b xs e,x=.ref l/\y=.ref b/\SqL X.K H l xs/\SqL X.K H b e/\xs.length+e.length<=f_/\∀p,H p=c_->Q (.ref p) (upd H p (.lst (xs++e)))):=by
 intro A4 s σ H x y v u Q I z w h;obtain⟨l,b,xs,e,rfl,rfl,B,C,K,q⟩:=h;cases z;cases w;obtain⟨A8,r,p1,L⟩:=I.list B;obtain⟨Y,r2,p2,A⟩:=I.list C;have G:=r.length;have F:=r2.length;obtain⟨⟨E,dd,m,t⟩,j,k,n,hd⟩:=id p1.isList;obtain⟨⟨o,g,i,f⟩,a,d,n2,c⟩:=id p2.isList;simp only at k hd d c;subst k hd d c;refine Li ⟨_,j,rfl⟩ ⟨_,a,rfl⟩ noFill_list_add seq_list_add PySem.F.slot_list_add PySem.F.entry_list_add (PySem.F.args_list_add_2 _ _) (list_addW l b A8.toArray Y.toArray n n2 dd g t f (by simp only[A_];omega)) ⟨j,a,?_⟩;have D:A8.toArray++Y.toArray=(A8++Y).toArray:=by simp
 rw[D];exact⟨.ref _,_,I.lnew (t':=s.toks) (r.append r2) (by rw[Gp];omega),rfl,q _ I.fresh⟩
theorem op_cat3:OpR X (HK .Add) (λx y H Q=>∃a b xs ys,x=.ref a/\y=.ref b/\SqT X.K H a xs/\SqT X.K H b ys/\xs.length+ys.length<=f_/\(xs=[]->Q (.ref b) H)/\(ys=[]->Q (.ref a) H)/\∀p,H p=c_->Q (.ref p) (upd H p (.tup (xs++ys)))):=by
 intro A4 s σ H x y v u Q I l k h;obtain⟨a,b,xs,ys,rfl,rfl,t,r,F,E,D,C⟩:=h;by_cases m:xs=[]
 ·subst m;cases l;cases k;obtain⟨A8,B,p1,_⟩:=I.tuple t;obtain⟨Y,r2,p2,_⟩:=I.tuple r;cases B;obtain⟨⟨K,dd,w,A⟩,o,q,n,hd⟩:=id p1;obtain⟨⟨z,i,j,g⟩,c,f,n2,d⟩:=id p2;simp only at q hd f d;subst q hd f d;exact Li ⟨_,o,rfl⟩ ⟨_,c,rfl⟩ Lw MM JV JP (JJ _ _)
   (tuple_addW0 a b #[] Y.toArray n n2 dd i A g rfl) ⟨o,c,⟨.ref b,H,I,rfl,E rfl⟩⟩
 ·exact op_catT A4 s σ H _ _ v u Q I l k ⟨a,b,xs,ys,rfl,rfl,t,r,m,F,λe=>D e,λ_ p G=>C p G⟩
theorem aW(k: ~~~(X.K=K)):Op2 K W d_ X (HK .Add) bX:=by
 subst k;refine(op_add.or (BX.or (op_catL.or op_cat3))).imp λx y H Q h=>?_;obtain⟨F,a,b,s,f,d,p⟩:=h;cases a with
 |int i=>
  cases b with
  |int j=>exact .inl ⟨i,j,f,d,p.int s⟩|_=>exact aN.stuck p
 |str z=>
  cases b with
  |str w=>
   have I:aN X.K W d_ F H (if z.length+w.length<=f_ then .ok (.str (z++w))else stk) Q:=p;by_cases Y:z.length+w.length<=f_
   ·rw[e_ Y]at I;exact .inr (.inl ⟨z,w,f,d,Y,I.str s⟩)
   ·rw[k_ Y]at I;exact I.stuck
  |_=>exact aN.stuck p
 |lst ds=>
  cases b with
  |lst es=>
   obtain⟨a,xs,e1,t1,c⟩:=f;obtain⟨b,ys,e2,t2,r2⟩:=d;have I:aN X.K W d_ F H (if ds.length+es.length<=f_ then .ok (.lst (ds++es))else stk) Q:=p;by_cases Y:ds.length+es.length<=f_
   ·rw[e_ Y]at I;exact .inr (.inr (.inl ⟨a,b,xs,ys,e1,e2,s.lst t1,s.lst t2,by rw[c.length,r2.length];exact Y,λl g=>I.lst s (c.append r2) g⟩))
   ·rw[k_ Y]at I;exact I.stuck
  |_=>exact aN.stuck p
 |tup ds=>
  cases b with
  |tup es=>
   obtain⟨a,xs,e1,t1,c⟩:=f;obtain⟨b,ys,e2,t2,r2⟩:=d;have I:aN X.K W d_ F H (if ds.length+es.length<=f_ then .ok (.tup (ds++es))else stk) Q:=p;by_cases Y:ds.length+es.length<=f_
   ·rw[e_ Y]at I;refine .inr (.inr (.inr ⟨a,b,xs,ys,e1,e2,s.tup t1,s.tup t2,by rw[c.length,r2.length];exact Y,λe=>?_,λe=>?_,λl g=>I.tup s (c.append r2) g⟩))
    ·have z:ds=[]:=by have:=c.length;rw[e]at this;exact Ia.mp this.symm
     subst z;exact I.same s ⟨b,ys,rfl,t2,r2⟩
    ·have z:es=[]:=by have:=r2.length;rw[e]at this;exact Ia.mp this.symm
     subst z;rw[IB]at I;exact I.same s ⟨a,xs,rfl,t1,c⟩
   ·rw[k_ Y]at I;exact I.stuck
  |_=>exact aN.stuck p
 |_=>exact aN.stuck p
theorem o_isN:Op2 K W own X (Gk .Is) isND:=op_isN.imp λx y H Q h=>by
 obtain⟨F,a,b,s,I,Y,p⟩:=h;have key:∀{k:Bool},isND a b=.ok (.bl k)->b=.non->(q_ (x=V.non)=k)->y=V.non/\Q (.bl (q_ (x=V.non))) H:=λ{k} e1 e2 e3=>by subst e2;rw[e1]at p;rw[e3];exact⟨Y,p.bl s⟩
 cases b with
 |non=>
  cases a with
  |non=>exact key rfl rfl (by rw[show x=.non from I];rfl)|bl k=>exact key rfl rfl (by rw[show x=.bl k from I];rfl)|int k=>exact key rfl rfl (by rw[show x=.int k from I];rfl)|str k=>exact key rfl rfl (by rw[show x=.str k from I];rfl)|tup ds=>obtain⟨l,xs,e,_⟩:=I;exact key rfl rfl (by rw[e];rfl)
  |lst ds=>obtain⟨l,xs,e,_⟩:=I;exact key rfl rfl (by rw[e];rfl)
  |ins C fs=>obtain⟨l,dx,xs,e,_⟩:=I;exact key rfl rfl (by rw[e];rfl)
  |dic ks=>obtain⟨l,xs,e,_⟩:=I;exact key rfl rfl (by rw[e];rfl)
  |dil ks=>obtain⟨l,xs,e,_⟩:=I;exact key rfl rfl (by rw[e];rfl)
 |_=>cases a<;>exact aN.stuck p
theorem o_notN:Op2 K W own X (Gk .IsNot) uJ:=op_notN.imp λx y H Q h=>by
 obtain⟨F,a,b,s,I,Y,p⟩:=h;have key:∀{k:Bool},uJ a b=.ok (.bl k)->b=.non->((!decide (x=V.non))=k)->y=V.non/\Q (.bl (!decide (x=V.non))) H:=λ{k} e1 e2 e3=>by subst e2;rw[e1]at p;rw[e3];exact⟨Y,p.bl s⟩
 cases b with
 |non=>
  cases a with
  |non=>exact key rfl rfl (by rw[show x=.non from I];rfl)|bl k=>exact key rfl rfl (by rw[show x=.bl k from I];rfl)|int k=>exact key rfl rfl (by rw[show x=.int k from I];rfl)|str k=>exact key rfl rfl (by rw[show x=.str k from I];rfl)|tup ds=>obtain⟨l,xs,e,_⟩:=I;exact key rfl rfl (by rw[e];rfl)
  |lst ds=>obtain⟨l,xs,e,_⟩:=I;exact key rfl rfl (by rw[e];rfl)
  |ins C fs=>obtain⟨l,dx,xs,e,_⟩:=I;exact key rfl rfl (by rw[e];rfl)
  |dic ks=>obtain⟨l,xs,e,_⟩:=I;exact key rfl rfl (by rw[e];rfl)
  |dil ks=>obtain⟨l,xs,e,_⟩:=I;exact key rfl rfl (by rw[e];rfl)
 |_=>cases a<;>exact aN.stuck p
theorem EU{ds:List A3}{xs:List V}{i:Int}(p:aN K W b_ F H (gE ds i) Q)(s:aL F H)(r:aE K F ds xs):∃v,atI xs i=a_ v/\Q v H:=by
 unfold gE at p;cases e:atI ds i with
 |none=>rw[e]at p;exact aN.stuck p|some d=>
  rw[e]at p;unfold atI at e;cases I:ixN ds.length i with
  |none=>rw[I]at e;cases e|some j=>
   rw[I]at e;obtain⟨v,e1,q⟩:=r.get (show ds[j]?=a_ d from e);refine⟨v,?_,p v F H (A5.refl s) q⟩
   unfold atI;rw[r.length,I];exact e1
theorem bU(d: ~~~(X.K=K)):IxR X (rD2 K W b_ ixD):=by
 subst d;refine ix_seq.imp λx y H Q h=>?_;obtain⟨F,a,b,s,c,Y,p⟩:=h;cases a with
 |lst ds=>
  cases b with
  |int i=>obtain⟨a,xs,e1,t1,I⟩:=c;obtain⟨v,e2,q⟩:=EU p s I;exact .inl ⟨a,xs,i,v,e1,Y,s.lst t1,e2,q⟩
  |_=>exact aN.stuck p
 |tup ds=>
  cases b with
  |int i=>obtain⟨a,xs,e1,t1,I⟩:=c;obtain⟨v,e2,q⟩:=EU p s I;exact .inr (.inl ⟨a,xs,i,v,e1,Y,s.tup t1,e2,q⟩)
  |_=>exact aN.stuck p
 |_=>exact aN.stuck p
theorem de(I: ~~~(X.K=K)):rC K W own X (.builtin "len") gY:=by
 subst I;refine km.imp λxs H Q h=>?_;obtain⟨F,ds,s,q,p⟩:=h;cases ds with
 |nil=>exact aN.stuck p|cons d ds=>
  cases ds with
  |cons _ _=>cases d<;>exact aN.stuck p
  |nil=>
   obtain⟨v,vs,e,q,e2⟩:=q;cases d with
   |lst es=>
    obtain⟨a,ys,e1,t,r⟩:=q;refine⟨a,ys,by rw[e,e1,show vs=[]from e2],.inl (s.lst t),?_⟩
    rw[r.length];exact aN.int (own:=own) p s
   |tup es=>
    obtain⟨a,ys,e1,t,r⟩:=q;refine⟨a,ys,by rw[e,e1,show vs=[]from e2],.inr (s.tup t),?_⟩
    rw[r.length];exact aN.int (own:=own) p s
   |_=>exact aN.stuck p
end
section
variable{W:eD}{own:Bool}
theorem lu{g:List A3->M A3}(Y:∀ds,(∃d,ds=[d])\/g ds=stk){xs:List V}(h:rDL K W own g xs H Q):∃F d x,aL F H/\xs=[x]/\aT K F d x/\aN K W own F H (g [d]) Q:=by
 obtain⟨F,ds,s,q,p⟩:=h;rcases Y ds with⟨d,rfl⟩|e
 ·obtain⟨v,vs,e,I,e2⟩:=q;exact⟨F,d,v,s,by rw[e,show vs=[]from e2],I,p⟩
 ·rw[e]at p;exact p.stuck
theorem two_arg{g:List A3->M A3}(a:∀ds,(∃d,ds=[d])\/(∃d e,ds=[d,e])\/g ds=stk){xs:List V}(h:rDL K W own g xs H Q):(∃F d x,aL F H/\xs=[x]/\aT K F d x/\aN K W own F H (g [d]) Q)\/∃F d e x y,aL F H/\xs=[x,y]/\aT K F d x/\aT K F e y/\aN K W own F H (g [d,e]) Q:=by
 obtain⟨F,ds,s,q,p⟩:=h;rcases a ds with⟨d,rfl⟩|⟨d,e,rfl⟩|e
 ·obtain⟨v,vs,e,I,e2⟩:=q;exact .inl ⟨F,d,v,s,by rw[e,show vs=[]from e2],I,p⟩
 ·obtain⟨v,vs,e1,I,w,ws,e2,Y,e3⟩:=q;exact .inr ⟨F,d,e,v,w,s,by rw[e1,e2,show ws=[]from e3],I,Y,p⟩
 ·rw[e]at p;exact p.stuck
theorem tT{F:Hp}:∀{ds:List A3} {xs:List V} {bs:List Bool},aE K F ds xs->iB ds=.ok bs->xs=bs.map V.bl
 |[],_,_,q,e=>by cases e;exact q|d::ds,_,bs,⟨v,vs,e1,q,r⟩,e=>by
  cases d with
  |bl b=>
   cases e2:iB ds with
   |error x=>simp only[iB,asB,aj,e2,vo]at e;cases e|ok cs=>simp only[iB,asB,aj,e2]at e;cases e;rw[e1,show v=.bl b from q,tT r e2];rfl
  |_=>cases e
theorem tU:∀{ds:List A3} {e:Err},iB ds=.error e->e=.stuck
 |[],_,h=>by cases h|d::ds,e,h=>by
  cases d with
  |bl b=>
   cases e2:iB ds with
   |error x=>simp only[iB,asB,aj,e2,vo]at h;cases h;exact tU e2|ok cs=>simp only[iB,asB,aj,e2]at h;cases h
  |_=>cases h;rfl
theorem qJ{F:Hp}:∀{ds:List A3} {xs:List V} {bs:List Int},aE K F ds xs->mK ds=.ok bs->xs=bs.map V.int
 |[],_,_,q,e=>by cases e;exact q|d::ds,_,bs,⟨v,vs,e1,q,r⟩,e=>by
  cases d with
  |int b=>
   cases e2:mK ds with
   |error x=>simp only[mK,asI,aj,e2,vo]at e;cases e|ok cs=>simp only[mK,asI,aj,e2]at e;cases e;rw[e1,show v=.int b from q,qJ r e2];rfl
  |_=>cases e
theorem qK:∀{ds:List A3} {e:Err},mK ds=.error e->e=.stuck
 |[],_,h=>by cases h|d::ds,e,h=>by
  cases d with
  |int b=>
   cases e2:mK ds with
   |error x=>simp only[mK,asI,aj,e2,vo]at h;cases h;exact qK e2|ok cs=>simp only[mK,asI,aj,e2]at h;cases h
  |_=>cases h;rfl
theorem Ac(f:X.calm=d_)(g: ~~~(X.K=K)):rC K W own X (.builtin "all") allD:=by
 subst g;refine(call_all f).imp λxs H Q h=>?_;obtain⟨F,d,x,s,e,q,p⟩:=lu (λds=>by match ds with|[d]=>exact .inl ⟨d,rfl⟩|[]=>exact .inr rfl|a::b::c=>exact .inr (by cases a<;>rfl)) h;cases d with
 |lst ds=>
  obtain⟨a,ys,e1,t,r⟩:=q;have I:aN X.K W own F H ((iB ds).bind λbs=>.ok (.bl (bs.all id))) Q:=p;cases Y:iB ds with
  |error z=>rw[Y]at I;have:=tU Y;subst this;exact aN.stuck I|ok bs=>
   rw[Y]at I;refine⟨a,bs,by rw[e,e1],?_,aN.bl (own:=own) I s⟩
   rw[<- tT r Y];exact s.lst t
 |_=>exact aN.stuck p
theorem c_list(Y: ~~~(X.K=K)):rC K W d_ X (.type "list") zv:=by
 subst Y;refine gG.imp λxs H Q h=>?_;obtain⟨F,d,x,s,e,q,p⟩:=lu (λds=>by match ds with|[d]=>exact .inl ⟨d,rfl⟩|[]=>exact .inr rfl|a::b::c=>exact .inr (by cases a<;>rfl)) h;cases d with
 |lst ds=>obtain⟨a,ys,e1,t,r⟩:=q;exact⟨a,ys,by rw[e,e1],.inl (s.lst t),λl I=>aN.lst p s r I⟩
 |tup ds=>obtain⟨a,ys,e1,t,r⟩:=q;exact⟨a,ys,by rw[e,e1],.inr (s.tup t),λl I=>aN.lst p s r I⟩
 |_=>exact aN.stuck p
theorem c_int:rC K W own X (.type "int") intD:=FN.imp λxs H Q h=>by
 obtain⟨F,d,x,s,e,q,p⟩:=lu (λds=>by match ds with|[d]=>exact .inl ⟨d,rfl⟩|[]=>exact .inr rfl|a::b::c=>exact .inr (by cases a<;>rfl)) h;cases d with
 |int i=>exact .inl ⟨i,by rw[e,show x=.int i from q],aN.int (own:=own) p s⟩|bl b=>exact .inr ⟨b,by rw[e,show x=.bl b from q],aN.int (own:=own) p s⟩|_=>exact aN.stuck p
theorem fold_min:∀(is:List Int) (i:Int),(is.foldl mD i=i\/is.foldl mD i∈is)/\is.foldl mD i<=i/\∀a∈is,is.foldl mD i<=a
 |[],i=>⟨.inl rfl,Kn _,λ_ h=>nomatch h⟩
 |j::is,i=>by
  obtain⟨h1,h2,Y⟩:=fold_min is (mD i j);have z:(mD i j=i\/mD i j=j)/\mD i j<=i/\mD i j<=j:=by unfold mD;split<;>(refine⟨?_,?_,?_⟩<;>first|exact .inl rfl|exact .inr rfl|omega)
  rw[List.foldl_cons];refine⟨?_,OO h2 z.2.1,λa I=>?_⟩
  ·rcases h1 with h1|h1
   ·rw[h1];rcases z.1 with z|z
    ·exact .inl z
    ·exact .inr (by rw[z];exact GF)
   ·exact .inr (Ga _ h1)
  ·rcases t_.mp I with e|e
   ·rw[e];exact OO h2 z.2.2
   ·exact Y a e
theorem zF{is:List Int}{i m:Int}(h1:m∈i::is)(h2:∀a∈i::is,m<=a):is.foldl mD i=m:=by
 obtain⟨Y,g2,I⟩:=fold_min is i;have a1:m<=is.foldl mD i:=by
  rcases Y with g|g
  ·rw[g];exact h2 i GF
  ·exact h2 _ (Ga _ g)
 have b:is.foldl mD i<=m:=by
  rcases t_.mp h1 with e|e
  ·rw[e];exact g2
  ·exact I m e
 omega
theorem FJ(n:X.calm=d_):fW X (.builtin "min") (λxs H Q=>∃a i is,xs=[.ref a]/\SqL X.K H a ((i::is).map V.int)/\Q (.int (is.foldl mD i)) H):=by
 intro A4 s σ H xs us Q I r h;obtain⟨a,i,is,rfl,g,q⟩:=h;obtain⟨u,rfl,f⟩:=r.one;cases f;obtain⟨A8,d,p,w⟩:=I.list g;have hi:=intsAre_of d;obtain⟨xs,e⟩:=hi.allInts.items;have Y:i::is=xs.toList.map (·.1):=by rw[<- hi.numsOf,<- nums_intItems,<- e]
 have hsz:0<xs.size:=by have o:=HI ME Y;simp at o;omega
 have b:=p.isList;rw[e]at b;refine min_intList (I.ok.hd n) b hsz λv h' tk hv k=>?_;obtain⟨t,rfl⟩:=intItems_at hv;obtain⟨h1,h2⟩:=argBest_lt (numAt xs) (xs.size-1);refine⟨.int _,H,I.kept k,⟨t,rfl⟩,?_⟩
 have:=zF (is:=is) (i:=i) (m:=numAt xs (argBest (λi j=>q_ (numAt xs i<numAt xs j)) (xs.size-1))) (by
   rw[Y,numAt_eq];exact getD_mem (by rw[u_,HG];omega)) (λa c=>by
   rw[Y]at c;obtain⟨j,l,rfl⟩:=mem_getD c;rw[u_,HG]at l;rw[<- numAt_eq];exact h2 j (by omega))
 rw[<- this];exact q
theorem c_min(f:X.calm=d_)(k: ~~~(X.K=K)):rC K W own X (.builtin "min") minD:=by
 subst k;refine((FK f).or (FJ f)).imp λxs H Q h=>?_;rcases two_arg (λds=>by match ds with|[d]=>exact .inl ⟨d,rfl⟩|[d,e]=>exact .inr (.inl ⟨d,e,rfl⟩)|[]=>exact .inr (.inr rfl)|a::b::c::d=>exact .inr (.inr (by cases a<;>cases b<;>rfl))) h with⟨F,d,x,s,e,q,p⟩|⟨F,d,d2,x,y,s,e,q,g,p⟩
 ·cases d with
  |lst ds=>
   obtain⟨a,ys,e1,t,r⟩:=q;have I:aN X.K W own F H ((mK ds).bind minL) Q:=p;cases Y:mK ds with
   |error z=>rw[Y]at I;have:=qK Y;subst this;exact aN.stuck I|ok is=>
    rw[Y]at I;cases is with
    |nil=>exact aN.stuck I|cons i is=>refine .inr ⟨a,i,is,by rw[e,e1],?_,aN.int (own:=own) I s⟩;rw[<- qJ r Y];exact s.lst t
  |_=>exact aN.stuck p
 ·cases d with
  |int i=>
   cases d2 with
   |int j=>exact .inl ⟨i,j,by rw[e,show x=.int i from q,show y=.int j from g],aN.int (own:=own) p s⟩|_=>exact aN.stuck p
  |_=>cases d2<;>exact aN.stuck p
end
theorem SqL.inj{A4:Vp}{σ:St}{H:Hp}{s:y_}{a:g_}{xs ys:List V}(I:A6 X A4 σ H s)(h:SqL X.K H a xs)(h':SqL X.K H a ys):xs=ys:=by
 obtain⟨f,b,p1,_⟩:=I.list h;obtain⟨c,r2,p2,_⟩:=I.list h';obtain⟨o,n,e,_,_,d⟩:=p1;obtain⟨o',g,Y,_,_,d'⟩:=p2;rw[e]at Y;cases Y;rw[d]at d';injection d' with d1 _
 have:f=c:=by simpa using HI KN d1
 subst this;exact b.inj r2
theorem SqT.inj{A4:Vp}{σ:St}{H:Hp}{s:y_}{a:g_}{xs ys:List V}(I:A6 X A4 σ H s)(h:SqT X.K H a xs)(h':SqT X.K H a ys):xs=ys:=by
 obtain⟨f,b,p1,_⟩:=I.tuple h;obtain⟨c,r2,p2,_⟩:=I.tuple h';obtain⟨o,e,_,n,d⟩:=p1;obtain⟨o',Y,_,g,d'⟩:=p2;rw[e]at Y;cases Y;rw[d]at d';injection d' with d1 _
 have:f=c:=by simpa using HI KN d1
 subst this;exact b.inj r2
theorem aE.all_eq{F:Hp}(e:Nat->Bool):∀{ds es:List A3},ds.length=es.length->(∀(j:Nat) a b,ds[j]?=a_ a->es[j]?=a_ b->e j=eqD a b)->(Hf ds.length).all e=eqDs ds es:=by
 intro ds
 induction ds generalizing e with
 |nil=>intro es h _;cases es with
  |nil=>rfl|cons _ _=>simp at h
 |cons d ds I=>
  intro es h q;cases es with
  |nil=>simp at h|cons b es=>
   rw[Gi,List.range_succ_eq_map,Kx,JA,eqDs];rw[q 0 d b rfl rfl]
   congr 1
   exact I (e∘Nat.succ) (by simpa using h) λj x y c Y=>q (j+1) x y (by simpa using c) (by simpa using Y)
theorem pz:∀{ds es:List A3},ds.length≠es.length->eqDs ds es=b_
 |[],[],h=>Gb rfl h|[],_::_,_=>rfl|_::_,[],_=>rfl|d::ds,e::es,h=>by rw[eqDs,pz (ds:=ds) (es:=es) (λz=>h (by simp[z])),Ib]
theorem Bf(e:Nat->Bool):∀{ds es:List A3},(∀(j:Nat) a b,ds[j]?=a_ a->es[j]?=a_ b->e j=eqD a b)->((Hf (min ds.length es.length)).all e&&ds.length==es.length)=eqDs ds es:=by
 intro ds es q;by_cases I:ds.length=es.length
 ·have e1:min ds.length es.length=ds.length:=by omega
  rw[e1,aE.all_eq (F:=λ_=>c_) e I q,I,JT,N0]
 ·rw[pz I];have:(ds.length==es.length)=b_:=by simpa using I
  rw[this,Ib]
mutual
theorem pA:∀{d:A3} {n:Nat},C6 d n=d_->eqD d d=d_
 |.non,_,_=>rfl|.bl b,_,_=>by simp[eqD]|.int i,_,_=>by simp[eqD]|.str x,_,_=>by simp[eqD]|.tup ds,0,h=>by simp[C6]at h|.tup ds,n+1,h=>by simp only[C6]at h;simp only[eqD];exact qT h|.lst ds,0,h=>by simp[C6]at h|.lst ds,n+1,h=>by simp only[C6]at h;simp only[eqD];exact qT h|.ins _ _,_,h=>by simp[C6]at h|.dic _,_,h=>by simp[C6]at h|.dil _,_,h=>by simp[C6]at h
theorem qT:∀{ds:List A3} {n:Nat},l5 ds n=d_->eqDs ds ds=d_
 |[],_,_=>rfl|d::ds,n,h=>by simp only[l5,l_]at h;simp only[eqDs,pA h.1,qT h.2,Bool.and_self]
end
theorem uI:∀{ds:List A3} {n i:Nat} {d:A3},l5 ds n=d_->ds[i]?=a_ d->C6 d n=d_
 |[],_,_,_,_,h=>by simp at h|_::_,_,0,_,h,e=>by simp only[l5,l_]at h;simp at e;rw[<- e];exact h.1|_::_,_,i+1,_,h,e=>by simp only[l5,l_]at h;exact uI h.2 (by simpa using e)
def kN(ds es:List A3)(j:Nat):Bool:=match ds[j]?,es[j]? with
 |some a,a_ b=>eqD a b|_,_=>d_
inductive Sh(s:y_):A3->i_->Prop
 |non:Sh s .non .none
 |bl (b:Bool):Sh s (.bl b) (.bool b)
 |int (i:Int) (t:Nat):Sh s (.int i) (.int i t)
 |str (x:p_) (t:Nat):Sh s (.str x) (.str x t)
 |tup {ds:List A3} {l:g_} {is:Array i_} (p:s.heap.IsTuple l is):Sh s (.tup ds) (.ref l)
 |lst {ds:List A3} {l:g_} {is:Array i_} (p:s.heap.IsList l is):Sh s (.lst ds) (.ref l)
noncomputable def sq:A3->A3->Bool
 |.tup _,.tup _=>d_|.lst _,.lst _=>d_|_,_=>b_
theorem vV{a b:A3}(h:sq a b=d_):(∃ds es,a=.tup ds/\b=.tup es)\/∃ds es,a=.lst ds/\b=.lst es:=by
 unfold sq at h;split at h
 ·exact .inl ⟨_,_,rfl,rfl⟩
 ·exact .inr ⟨_,_,rfl,rfl⟩
 ·cases h
theorem eqAt_U{a b:A3}{v:i_}(c:Sh s a u)(Y:Sh s b v)(I:A.units<Hw):sq a b=d_\/JZ A s u v (eqD a b):=match c,Y with
 |.non,.non=>.inr (.same _)|.non,.bl b=>.inr (.none_bool b)|.non,.int b t2=>.inr (.none_int b t2)|.non,.str b t2=>.inr (.none_str b t2)|.non,.tup q=>.inr (.none_tuple q I)|.non,.lst q=>.inr (.none_list q I)|.bl a,.non=>.inr (.bool_none a)|.bl a,.bl b=>.inr (.bool_bool a b)|.bl a,.int b t2=>.inr (.bool_int a b t2)|.bl a,.str b t2=>.inr (.bool_str a b t2)|.bl a,.tup q=>.inr (.bool_tuple a q I)|.bl a,.lst q=>.inr (.bool_list a q I)|.int a t,.non=>.inr (.int_none a t)|.int a t,.bl b=>.inr (.int_bool a t b)|.int a t,.int b t2=>.inr (.int_int a t b t2)|.int a t,.str b t2=>.inr (.int_str a t b t2)|.int a t,.tup q=>.inr (.int_tuple a t q I)|.int a t,.lst q=>.inr (.int_list a t q I)|.str a t,.non=>.inr (.str_none a t)|.str a t,.bl b=>.inr (.str_bool a t b)|.str a t,.int b t2=>.inr (.str_int a t b t2)|.str a t,.str b t2=>.inr (.str_str a t b t2)|.str a t,.tup q=>.inr (.str_tuple a t q I)|.str a t,.lst q=>.inr (.str_list a t q I)|.tup p,.non=>.inr (.tuple_none p I)|.tup p,.bl b=>.inr (.tuple_bool b p I)|.tup p,.int b t2=>.inr (.tuple_int b t2 p I)|.tup p,.str b t2=>.inr (.tuple_str b t2 p I)|.tup _,.tup _=>.inl rfl|.tup p,.lst q=>.inr (.tuple_list p q I)|.lst p,.non=>.inr (.list_none p I)|.lst p,.bl b=>.inr (.list_bool b p I)|.lst p,.int b t2=>.inr (.list_int b t2 p I)|.lst p,.str b t2=>.inr (.list_str b t2 p I)|.lst p,.tup q=>.inr (.list_tuple p q I)|.lst _,.lst _=>.inl rfl
theorem rcAt_U{a b:A3}{v:i_}(c:Sh s a u)(Y:Sh s b v)(I:A.units<Hw):sq a b=d_\/MS A s u v (eqD a b):=match c,Y with
 |.non,.non=>.inr (.none_none)|.non,.bl b=>.inr (.none_bool b)|.non,.int b t2=>.inr (.none_int b t2)|.non,.str b t2=>.inr (.none_str b t2)|.non,.tup q=>.inr (.none_tuple q I)|.non,.lst q=>.inr (.none_list q I)|.bl a,.non=>.inr (.bool_none a)|.bl a,.bl b=>.inr (.bool_bool a b)|.bl a,.int b t2=>.inr (.bool_int a b t2)|.bl a,.str b t2=>.inr (.bool_str a b t2)|.bl a,.tup q=>.inr (.bool_tuple a q I)|.bl a,.lst q=>.inr (.bool_list a q I)|.int a t,.non=>.inr (.int_none a t)|.int a t,.bl b=>.inr (.int_bool a t b)|.int a t,.int b t2=>.inr (.int_int a t b t2)|.int a t,.str b t2=>.inr (.int_str a t b t2)|.int a t,.tup q=>.inr (.int_tuple a t q I)|.int a t,.lst q=>.inr (.int_list a t q I)|.str a t,.non=>.inr (.str_none a t)|.str a t,.bl b=>.inr (.str_bool a t b)|.str a t,.int b t2=>.inr (.str_int a t b t2)|.str a t,.str b t2=>.inr (.str_str a t b t2)|.str a t,.tup q=>.inr (.str_tuple a t q I)|.str a t,.lst q=>.inr (.str_list a t q I)|.tup p,.non=>.inr (.tuple_none p I)|.tup p,.bl b=>.inr (.tuple_bool b p I)|.tup p,.int b t2=>.inr (.tuple_int b t2 p I)|.tup p,.str b t2=>.inr (.tuple_str b t2 p I)|.tup _,.tup _=>.inl rfl|.tup p,.lst q=>.inr (.tuple_list p q I)|.lst p,.non=>.inr (.list_none p I)|.lst p,.bl b=>.inr (.list_bool b p I)|.lst p,.int b t2=>.inr (.list_int b t2 p I)|.lst p,.str b t2=>.inr (.list_str b t2 p I)|.lst p,.tup q=>.inr (.list_tuple p q I)|.lst _,.lst _=>.inl rfl
theorem rcNeAt_U{a b:A3}{v:i_}(c:Sh s a u)(Y:Sh s b v)(I:A.units<Hw):sq a b=d_\/LW A s u v (!eqD a b):=match c,Y with
 |.non,.non=>.inr (.none_none)|.non,.bl b=>.inr (.none_bool b)|.non,.int b t2=>.inr (.none_int b t2)|.non,.str b t2=>.inr (.none_str b t2)|.non,.tup q=>.inr (.none_tuple q I)|.non,.lst q=>.inr (.none_list q I)|.bl a,.non=>.inr (.bool_none a)|.bl a,.bl b=>.inr (.bool_bool a b)|.bl a,.int b t2=>.inr (.bool_int a b t2)|.bl a,.str b t2=>.inr (.bool_str a b t2)|.bl a,.tup q=>.inr (.bool_tuple a q I)|.bl a,.lst q=>.inr (.bool_list a q I)|.int a t,.non=>.inr (.int_none a t)|.int a t,.bl b=>.inr (.int_bool a t b)|.int a t,.int b t2=>.inr (.int_int a t b t2)|.int a t,.str b t2=>.inr (.int_str a t b t2)|.int a t,.tup q=>.inr (.int_tuple a t q I)|.int a t,.lst q=>.inr (.int_list a t q I)|.str a t,.non=>.inr (.str_none a t)|.str a t,.bl b=>.inr (.str_bool a t b)|.str a t,.int b t2=>.inr (.str_int a t b t2)|.str a t,.str b t2=>.inr (.str_str a t b t2)|.str a t,.tup q=>.inr (.str_tuple a t q I)|.str a t,.lst q=>.inr (.str_list a t q I)|.tup p,.non=>.inr (.tuple_none p I)|.tup p,.bl b=>.inr (.tuple_bool b p I)|.tup p,.int b t2=>.inr (.tuple_int b t2 p I)|.tup p,.str b t2=>.inr (.tuple_str b t2 p I)|.tup _,.tup _=>.inl rfl|.tup p,.lst q=>.inr (.tuple_list p q I)|.lst p,.non=>.inr (.list_none p I)|.lst p,.bl b=>.inr (.list_bool b p I)|.lst p,.int b t2=>.inr (.list_int b t2 p I)|.lst p,.str b t2=>.inr (.list_str b t2 p I)|.lst p,.tup q=>.inr (.list_tuple p q I)|.lst _,.lst _=>.inl rfl
theorem vX(I:A6 X A4 σ H s)(Y:aL F H){d:A3}{x:V}(o:C6 d n=d_)(q:aT X.K F d x)(r:A' x u):Sh s d u:=by
 cases d with
 |non=>cases(show x=.non from q);cases r;exact .non|bl b=>cases(show x=.bl b from q);cases r;exact .bl b|int i=>cases(show x=.int i from q);obtain⟨t,rfl⟩:=r;exact .int i t
 |str y=>cases(show x=.str y from q);obtain⟨t,rfl⟩:=r;exact .str y t
 |tup ds=>obtain⟨l,xs,e,t,_⟩:=q;subst e;cases r;obtain⟨is,_,p,_⟩:=I.tuple (Y.tup t);exact .tup (show s.heap.IsTuple l is.toArray from p)
 |lst ds=>obtain⟨l,xs,e,t,_⟩:=q;subst e;cases r;obtain⟨is,_,p,_⟩:=I.list (Y.lst t);exact .lst p.isList
 |_=>simp[C6]at o
theorem qW{n:Nat}(a:∀(d e:A3) {v:V},aT X.K F d v->aT X.K F e v->C6 d n=d_->C6 e n=d_->d=e):∀(ds es:List A3) {xs:List V},aE X.K F ds xs->aE X.K F es xs->l5 ds n=d_->l5 es n=d_->ds=es
 |[],[],_,_,_,_,_=>rfl|[],_::_,_,q,⟨_,_,e,_⟩,_,_=>by rw[show _=[]from q]at e;cases e|_::_,[],_,⟨_,_,e,_⟩,q,_,_=>by rw[show _=[]from q]at e;cases e|d::ds,e::es,_,⟨v,vs,e1,f,b⟩,⟨w,ws,e2,c,r2⟩,Y,I=>by rw[e1]at e2;cases e2;simp only[l5,l_]at Y I;rw[a d e f c Y.1 I.1,qW a ds es b r2 Y.2 I.2]
theorem pB{d e:A3}(hd:sq d d=b_)(q:aT X.K F d v)(r:aT X.K F e v)(Y:C6 d n=d_)(I:C6 e n=d_):d=e:=by
 cases d<;>first|(cases hd;done)|(simp[C6]at Y;done)|(simp only[aT]at q;subst q)
 all_goals cases e<;>first|(simp[C6]at I;done)|(simp only[aT]at r;first|(obtain⟨_,_,z,_⟩:=r;cases z;done)|(cases r<;>rfl))
theorem uW(I:A6 X A4 σ H s)(b:aL F H):∀(n:Nat) (d e:A3) {v:V},aT X.K F d v->aT X.K F e v->C6 d n=d_->C6 e n=d_->d=e
 |n,.tup ds,e,v,⟨l,xs,e1,h1,c⟩,r,Y,a=>by
  subst e1;cases n with
  |zero=>simp[C6]at Y|succ n=>
   cases e with
   |tup es=>obtain⟨f,ys,e2,h2,r2⟩:=r;cases e2;cases SqT.inj I (b.tup h1) (b.tup h2);rw[qW (uW I b n) _ _ c r2 (by simpa only[C6] using Y) (by simpa only[C6] using a)]
   |lst es=>obtain⟨f,ys,e2,h2,r2⟩:=r;cases e2;obtain⟨h,_,p1,_⟩:=I.list (b.lst h2);obtain⟨g,_,p2,_⟩:=I.tuple (b.tup h1);exact Gb rfl (LV p1.isList (show s.heap.IsTuple l g.toArray from p2))
   |_=>first|(simp[C6]at a;done)|(simp only[aT]at r;cases r)
 |n,.lst ds,e,v,⟨l,xs,e1,h1,c⟩,r,Y,a=>by
  subst e1;cases n with
  |zero=>simp[C6]at Y|succ n=>
   cases e with
   |lst es=>obtain⟨f,ys,e2,h2,r2⟩:=r;cases e2;cases SqL.inj I (b.lst h1) (b.lst h2);rw[qW (uW I b n) _ _ c r2 (by simpa only[C6] using Y) (by simpa only[C6] using a)]
   |tup es=>obtain⟨f,ys,e2,h2,r2⟩:=r;cases e2;obtain⟨h,_,p1,_⟩:=I.list (b.lst h1);obtain⟨g,_,p2,_⟩:=I.tuple (b.tup h2);exact Gb rfl (LV p1.isList (show s.heap.IsTuple l g.toArray from p2))
   |_=>first|(simp[C6]at a;done)|(simp only[aT]at r;cases r)
 |_,.non,_,_,q,r,Y,a=>pB rfl q r Y a|_,.bl _,_,_,q,r,Y,a=>pB rfl q r Y a|_,.int _,_,_,q,r,Y,a=>pB rfl q r Y a|_,.str _,_,_,q,r,Y,a=>pB rfl q r Y a|_,.ins _ _,_,_,_,_,Y,_=>by simp[C6]at Y|_,.dic _,_,_,_,_,Y,_=>by simp[C6]at Y|_,.dil _,_,_,_,_,Y,_=>by simp[C6]at Y
termination_by n=>n
theorem rcAt_S{a b:A3}{x:V}{v:i_}(I:A6 X A4 σ H s)(c:aL F H)(E:sq a b=d_)(o:aT X.K F a x)(n:aT X.K F b y)(m:A' x u)(l:A' y v)(i:A.units<Hw)(t:∀(ds es:List A3) (j:Nat) (d1 d2:A3) (x y:V) (u v:i_),(a=.tup ds/\b=.tup es\/a=.lst ds/\b=.lst es)->ds[j]?=a_ d1->es[j]?=a_ d2->aT X.K F d1 x->aT X.K F d2 y->A' x u->A' y v->JZ A.in1 s u v (eqD d1 d2)):MS A s u v (eqD a b):=by
 rcases vV E with⟨ds,es,rfl,rfl⟩|⟨ds,es,rfl,rfl⟩
 ·skip;obtain⟨r,xs,e1,h1,Y⟩:=o;subst e1;cases m;obtain⟨is,w1,p1,_⟩:=I.tuple (c.tup h1);obtain⟨p,ys,e2,h2,r2⟩:=n;subst e2;cases l;obtain⟨h,w2,p2,_⟩:=I.tuple (c.tup h2);have B:=w1.length;have z:=w2.length;have D:=Y.length;have C:=r2.length;have q:=SeqAt.RcAt.tuples (A:=A) (e:=kN ds es) (show s.heap.IsTuple r is.toArray from p1) (show s.heap.IsTuple p h.toArray from p2) i (λj h1 h2=>by
   obtain⟨f,f1,k⟩:=w1.atA h1;obtain⟨d,f2,g2⟩:=w2.atA h2;obtain⟨d1,k1,m1⟩:=Y.at f1;obtain⟨d2,k2,g⟩:=r2.at f2;rw[show kN ds es j=eqD d1 d2 by simp only[kN,k1,k2]];exact t ds es j d1 d2 f d _ _ (.inl ⟨rfl,rfl⟩) k1 k2 m1 g k g2)
  rw[show is.toArray.size=ds.length by simp;omega,show h.toArray.size=es.length by simp;omega,Bf _ (λj a b h1 h2=>by simp only[kN,h1,h2])]at q;exact q
 ·skip;obtain⟨r,xs,e1,h1,Y⟩:=o;subst e1;cases m;obtain⟨is,w1,p1,_⟩:=I.list (c.lst h1);obtain⟨p,ys,e2,h2,r2⟩:=n;subst e2;cases l;obtain⟨h,w2,p2,_⟩:=I.list (c.lst h2);have B:=w1.length;have z:=w2.length;have D:=Y.length;have C:=r2.length;by_cases w:ds.length=es.length
  ·have q:=SeqAt.RcAt.lists (A:=A) (e:=kN ds es) p1.isList p2.isList (by simp;omega) i (λj h1 h2=>by
   obtain⟨f,f1,k⟩:=w1.atA h1;obtain⟨d,f2,g2⟩:=w2.atA h2;obtain⟨d1,k1,m1⟩:=Y.at f1;obtain⟨d2,k2,g⟩:=r2.at f2;rw[show kN ds es j=eqD d1 d2 by simp only[kN,k1,k2]];exact t ds es j d1 d2 f d _ _ (.inr ⟨rfl,rfl⟩) k1 k2 m1 g k g2)
   rw[show is.toArray.size=ds.length by simp;omega,aE.all_eq (F:=F) _ w (λj a b h1 h2=>by simp only[kN,h1,h2])]at q;exact q
  ·rw[show eqD (.lst ds) (.lst es)=b_ from pz w];exact SeqAt.RcAt.lists_lengths (A:=A) p1.isList p2.isList (by simp;omega) i
theorem rcNeAt_S{a b:A3}{x:V}{v:i_}(I:A6 X A4 σ H s)(c:aL F H)(E:sq a b=d_)(o:aT X.K F a x)(n:aT X.K F b y)(m:A' x u)(l:A' y v)(i:A.units<Hw)(t:∀(ds es:List A3) (j:Nat) (d1 d2:A3) (x y:V) (u v:i_),(a=.tup ds/\b=.tup es\/a=.lst ds/\b=.lst es)->ds[j]?=a_ d1->es[j]?=a_ d2->aT X.K F d1 x->aT X.K F d2 y->A' x u->A' y v->JZ A.in1 s u v (eqD d1 d2)):LW A s u v (!eqD a b):=by
 rcases vV E with⟨ds,es,rfl,rfl⟩|⟨ds,es,rfl,rfl⟩
 ·skip;obtain⟨r,xs,e1,h1,Y⟩:=o;subst e1;cases m;obtain⟨is,w1,p1,_⟩:=I.tuple (c.tup h1);obtain⟨p,ys,e2,h2,r2⟩:=n;subst e2;cases l;obtain⟨h,w2,p2,_⟩:=I.tuple (c.tup h2);have B:=w1.length;have z:=w2.length;have D:=Y.length;have C:=r2.length;have q:=SeqAt.RcNeAt.tuples (A:=A) (e:=kN ds es) (show s.heap.IsTuple r is.toArray from p1) (show s.heap.IsTuple p h.toArray from p2) i (λj h1 h2=>by
   obtain⟨f,f1,k⟩:=w1.atA h1;obtain⟨d,f2,g2⟩:=w2.atA h2;obtain⟨d1,k1,m1⟩:=Y.at f1;obtain⟨d2,k2,g⟩:=r2.at f2;rw[show kN ds es j=eqD d1 d2 by simp only[kN,k1,k2]];exact t ds es j d1 d2 f d _ _ (.inl ⟨rfl,rfl⟩) k1 k2 m1 g k g2)
  rw[show is.toArray.size=ds.length by simp;omega,show h.toArray.size=es.length by simp;omega,Bf _ (λj a b h1 h2=>by simp only[kN,h1,h2])]at q;exact q
 ·skip;obtain⟨r,xs,e1,h1,Y⟩:=o;subst e1;cases m;obtain⟨is,w1,p1,_⟩:=I.list (c.lst h1);obtain⟨p,ys,e2,h2,r2⟩:=n;subst e2;cases l;obtain⟨h,w2,p2,_⟩:=I.list (c.lst h2);have B:=w1.length;have z:=w2.length;have D:=Y.length;have C:=r2.length;by_cases w:ds.length=es.length
  ·have q:=SeqAt.RcNeAt.lists (A:=A) (e:=kN ds es) p1.isList p2.isList (by simp;omega) i (λj h1 h2=>by
   obtain⟨f,f1,k⟩:=w1.atA h1;obtain⟨d,f2,g2⟩:=w2.atA h2;obtain⟨d1,k1,m1⟩:=Y.at f1;obtain⟨d2,k2,g⟩:=r2.at f2;rw[show kN ds es j=eqD d1 d2 by simp only[kN,k1,k2]];exact t ds es j d1 d2 f d _ _ (.inr ⟨rfl,rfl⟩) k1 k2 m1 g k g2)
   rw[show is.toArray.size=ds.length by simp;omega,aE.all_eq (F:=F) _ w (λj a b h1 h2=>by simp only[kN,h1,h2])]at q;exact q
  ·rw[show eqD (.lst ds) (.lst es)=b_ from pz w];exact SeqAt.RcNeAt.lists_lengths (A:=A) p1.isList p2.isList (by simp;omega) i
theorem ok_sub{a b:A3}{j:Nat}{ds es:List A3}(I:C6 a n=d_)(Y:C6 b n=d_)(h:a=.tup ds/\b=.tup es\/a=.lst ds/\b=.lst es)(k1:ds[j]?=a_ d1)(k2:es[j]?=a_ d2):∃m,n=m+1/\C6 d1 m=d_/\C6 d2 m=d_:=by
 cases n with
 |zero=>rcases h with⟨rfl,rfl⟩|⟨rfl,rfl⟩<;>simp[C6]at I
 |succ m=>exact⟨m,rfl,by rcases h with⟨rfl,rfl⟩|⟨rfl,rfl⟩<;>simp only[C6]at I Y<;>exact⟨uI I k1,uI Y k2⟩⟩
theorem eqAt_N(I:A6 X A4 σ H s)(i:aL F H):∀(n:Nat) (a b:A3) {x y:V} {u v:i_} {A:Iy},C6 a n=d_->C6 b n=d_->aT X.K F a x->aT X.K F b y->A' x u->A' y v->A.units+n<Hw->JZ A s u v (eqD a b):=by
 intro n
 induction n with
 |zero=>intro a b x y u v A c k Y g f d B;refine(eqAt_U (vX I i c Y f) (vX I i k g d) (by omega)).resolve_left λh=>?_;rcases vV h with⟨ds,es,rfl,rfl⟩|⟨ds,es,rfl,rfl⟩<;>simp[C6]at c
 |succ n w=>
  intro a b x y u v A c k Y g f d B;rcases eqAt_U (A:=A) (vX I i c Y f) (vX I i k g d) (by omega)with h|h
  ·by_cases l:x=y
   ·subst l;cases(show a=b from uW I i (n+1) a b Y g c k);rw[pA c];rcases vV h with⟨ds,es,rfl,_⟩|⟨ds,es,rfl,_⟩<;>(obtain⟨t,xs,e1,_⟩:=Y;subst e1;cases f;cases d;exact SeqAt.EqAt.same _)
   ·have q:=rcAt_S (A:=A) I i h Y g f d (by omega) λds es j d1 d2 G E L K C k1 k2 m1 r D g2=>by
     obtain⟨m,e,p,o⟩:=ok_sub c k C k1 k2;cases e;exact w d1 d2 p o m1 r D g2 (by show A.units+1+n<Hw;omega)
    rcases vV h with⟨ds,es,rfl,rfl⟩|⟨ds,es,rfl,rfl⟩<;>(obtain⟨t,xs,e1,_⟩:=Y;obtain⟨N,ys,e2,_⟩:=g;subst e1;subst e2;cases f;cases d;exact SeqAt.EqAt.of_refs (λz=>l (by rw[z])) q)
  ·exact h
theorem F8(I:A6 X A4 σ H s)(i:aL F H)(a b:A3){x:V}{v:i_}(g:C6 a n=d_)(f:C6 b n=d_)(e:aT X.K F a x)(d:aT X.K F b y)(c:A' x u)(Y:A' y v)(h:A.units+n<Hw):JZ A s u v (eqD a b):=eqAt_N I i n a b g f e d c Y h
theorem eqAt_I(I:A6 X A4 σ H s)(h:aL F H){a b:A3}(c:C6 a n=d_)(Y:C6 b n=d_)(k:A.units+n<Hw)(ds es:List A3)(j:Nat)(d1 d2:A3)(x y:V)(u v:i_)(g:a=.tup ds/\b=.tup es\/a=.lst ds/\b=.lst es)(k1:ds[j]?=a_ d1)(k2:es[j]?=a_ d2)(m1:aT X.K F d1 x)(f:aT X.K F d2 y)(i:A' x u)(g2:A' y v):JZ A.in1 s u v (eqD d1 d2):=by obtain⟨m,rfl,e,d⟩:=ok_sub c Y g k1 k2;exact F8 I h d1 d2 e d m1 f i g2 (by show A.units+1+m<Hw;omega)
theorem rcAt_D(I:A6 X A4 σ H s)(Y:aL F H)(a b:A3){x:V}{v:i_}(i:C6 a n=d_)(g:C6 b n=d_)(f:aT X.K F a x)(e:aT X.K F b y)(d:A' x u)(c:A' y v)(j:A.units+n<Hw):MS A s u v (eqD a b):=
 (rcAt_U (vX I Y i f d) (vX I Y g e c) (by omega)).elim (λh=>rcAt_S I Y h f e d c (by omega) (eqAt_I I Y i g j)) id
theorem rcNeAt_D(I:A6 X A4 σ H s)(Y:aL F H)(a b:A3){x:V}{v:i_}(i:C6 a n=d_)(g:C6 b n=d_)(f:aT X.K F a x)(e:aT X.K F b y)(d:A' x u)(c:A' y v)(j:A.units+n<Hw):LW A s u v (!eqD a b):=
 (rcNeAt_U (vX I Y i f d) (vX I Y g e c) (by omega)).elim (λh=>rcNeAt_S I Y h f e d c (by omega) (eqAt_I I Y i g j)) id
section
variable{W:eD}{own:Bool}
theorem aN.blS{b:Bool}(p:aN K W own F H (.ok (.bl b)) Q)(Y:aL F H)(I:A6 X A4 σ H s):EP X A4 σ Q (.bool b) s:=⟨.bl b,H,I,rfl,p.bl Y⟩
theorem qx(j:X.A.units+64<Hw)(i: ~~~(X.K=K)):Op2 K W own X (Gk .Eq) eqM:=by
 subst i;intro A4 s σ H x y v u Q I e d h;obtain⟨F,a,b,c,g,f,p⟩:=h;unfold eqM at p;by_cases Y:(C6 a 40&&C6 b 40)=d_
 ·rw[e_ Y]at p;simp only[l_]at Y;exact rcAt_D I c a b Y.1 Y.2 g f e d (by omega) _ _ _ _ (p.blS c I)
 ·rw[k_ Y]at p;exact p.stuck
theorem rW(j:X.A.units+64<Hw)(i: ~~~(X.K=K)):Op2 K W own X (Gk .NotEq) neM:=by
 subst i;intro A4 s σ H x y v u Q I e d h;obtain⟨F,a,b,c,g,f,p⟩:=h;unfold neM at p;by_cases Y:(C6 a 40&&C6 b 40)=d_
 ·rw[e_ Y]at p;simp only[l_]at Y;exact rcNeAt_D I c a b Y.1 Y.2 g f e d (by omega) _ _ _ _ (p.blS c I)
 ·rw[k_ Y]at p;exact p.stuck
end
theorem A6.Dj{t':Nat}{T:g_}{xs:List V}(I:A6 X A4 σ H s)(i:∀b∈ch,Dc X A4 H b)(k:∀b o,b∉ch->s.heap.get? b=a_ o->h'.get? b=a_ o)(j:s.heap.objs.size<=T)(h:xs.length<=f_/\∃A8:List i_,B' xs A8/\Om h' T A8.toArray):A6 X A4 σ (upd H T (.tup xs)) {s with heap:=h',toks:=t'}:=by
 have Y:H T=c_:=I.hok.fresh j;have d:∀b u,H b=a_ u->b∉ch:=λb u e z=>by rw[(i b z).1]at e;cases e
 have g:∀{b:g_} {o:J_},s.heap.get? b=a_ o->b≠T:=λ{b o} e=>Gs (Gg (x_ e) j);refine I.step (g':=s.gens) (d':=s.drawn) (ch:=ch) (λb f=>?_) (λb o _ _ a e _=>k b o a e) (λb o _ _ a e _=>⟨o.slots,k b o a e⟩) (λb o _ e n=>by rw[aw (g e)];exact n)
  (λb o a e=>⟨o,k b o a e⟩) (λb ys e=>by rw[aw (aQ e Y)];exact e) (λb o u e=>by rw[aw (aQ e Y)];exact e) (λb ps e=>⟨#[],by rw[aw (aQ e Y),e];simp⟩) (λm p=>?_) (λb u e=>?_) I.bare
 ·obtain⟨f0,f1,f2,f3,f4,f5⟩:=i b f;exact⟨f3,f1,f4,f5⟩
 ·obtain⟨o,es,ep,l,r⟩:=p;exact⟨o,es,ep,k _ o (λz=>(i _ z).2.1 rfl) l,r⟩
 ·by_cases f:b=T
  ·subst f;rw[aq]at e;cases e;exact h
  ·rw[aw f]at e;refine(I.hok b u e).yy (λc v a q=>k c v ?_ q) (λc q=>?_) λc ys q=>?_
   ·rcases a with z|z
    ·rw[z];exact d b u e
    ·exact d c _ z
   ·rw[aw (aQ q Y)];exact q
   ·rw[aw (aQ q Y)];exact q
theorem A6.Dl{t':Nat}(I:A6 X A4 σ H s)(d:∀b∈ch,Dc X A4 H b)(k:∀b o,b∉ch->s.heap.get? b=a_ o->h'.get? b=a_ o):A6 X A4 σ H {s with heap:=h',toks:=t'}:=by
 have a:∀b u,H b=a_ u->b∉ch:=λb u e z=>by rw[(d b z).1]at e;cases e
 refine I.step (g':=s.gens) (d':=s.drawn) (ch:=ch) (λb h=>?_) (λb o _ _ Y e _=>k b o Y e) (λb o _ _ Y e _=>⟨o.slots,k b o Y e⟩) (λb o _ e n=>n)
  (λb o Y e=>⟨o,k b o Y e⟩) (λb ys e=>e) (λb o u e=>e) (λb ps e=>⟨#[],by rw[e];simp⟩) (λm g=>?_) (λb u e=>?_) I.bare
 ·obtain⟨f0,f1,f2,f3,f4,f5⟩:=d b h;exact⟨f3,f1,f4,f5⟩
 ·obtain⟨o,es,ep,f,r⟩:=g;exact⟨o,es,ep,k _ o (λz=>(d _ z).2.1 rfl) f,r⟩
 ·refine(I.hok b u e).yy (λc v Y q=>k c v ?_ q) (λ_ q=>q) λ_ _ q=>q;rcases Y with z|z
  ·rw[z];exact a b u e
  ·exact a c _ z
section
variable{W:eD}{own:Bool}{a b:GX}{f:ah->M A3}{fr:ah->M (List A3)}
theorem bW:PTs X [] (tDT K W gZ):=λA4 s σ H Q I h=>yU A4 s σ H Q I (by obtain⟨F,ρ,r,Y,q⟩:=h;exact q F H (A5.refl Y))
theorem ki:PGs X [] (iU []):=uz
theorem bH{is:List Nat}(b:X.N.Nodup)(h2:PGs X es (iU is))(hi: ~~~(X.N[i]?=a_ x))(I:autoParam (Loc X.env.scope x) Jq6)(a:autoParam (X.fn x=d_\/X.env.scope.names.lookup x=a_ .local) Jq3)(Y: ~~~((HJ (.Name x p::es) X.env).map (·.2)=JU (.Name x p) X.env::(HJ es X.env).map (·.2))):PGs X (.Name x p::es) (iU (i::is)):=cW (dh b hi I a) h2 Y
theorem xB{k:Nat}{is:List Nat}(a:X.calm=d_)(h:PGs X es (iU is))(Y: ~~~((HJ es X.env).length=is.length))(I: ~~~((HJ es X.env).findIdx? (·.1)=c_))(b: ~~~(X.K=K)):DG K X (.Tuple es k pos) (.tp is):=by subst b;exact AQ a h Y I
theorem ox{ix:List (Option Nat)}:∀{is:List Nat},(∀i∈is,ix[i]?=a_ c_)->∀vs σ' H' (Q:St->Hp->Prop),iU is vs σ' H' Q->iU is vs σ' H' λI H2=>Q I H2/\∀(i:Nat) v,σ'[i]?=a_ (a_ v)->(∃j,ix[i]?=a_ (a_ j))->I[i]?=a_ (a_ v)
 |[],_,vs,σ',H',Q,⟨e,q⟩=>⟨e,q,λ_ _ h _=>h⟩|i::is,f,vs,σ',H',Q,⟨v,r,e,q⟩=>by
  refine⟨v,r,e,?_⟩
  have:=ox (ix:=ix) (is:=is) (λj o=>f j (by simp[o])) r (σ'.set i (a_ v)) H' Q q;have a:∀{is:List Nat} {vs:List V} {Y:St} {H1:Hp} {Q b:St->Hp->Prop},(∀I H2,Q I H2->b I H2)->iU is vs Y H1 Q->iU is vs Y H1 b:=by
   intro is
   induction is with
   |nil=>rintro vs Y H1 Q b m ⟨e,q⟩;exact⟨e,m _ _ q⟩
   |cons i is n=>rintro vs Y H1 Q b m ⟨v,r,e,q⟩;exact⟨v,r,e,n m q⟩
  refine a (λI H2 c=>?_) this;obtain⟨k,g⟩:=c;refine⟨k,λj w h c=>?_⟩
  obtain⟨l,d⟩:=c;refine g j w ?_ ⟨l,d⟩;have:i≠j:=by rintro rfl;rw[f i (by simp)]at d;cases d
  rw[m_ this];exact h
theorem xf{is:List Nat}(h:∀i∈is,ix[i]?=a_ c_):rA ix (gP K (.tp is)):=λx σ' H' Q ⟨a,xs,e,t,l,q⟩=>⟨a,xs,e,t,l,ox h xs σ' H' Q q⟩
theorem cG(a:N'.Nodup)(hi: ~~~(N'[i]?=a_ x))(I:autoParam (Loc (bp X N' sc L cs s H fp).env.scope x) Jq6)(Y:autoParam ((bp X N' sc L cs s H fp).fn x=d_\/(bp X N' sc L cs s H fp).env.scope.names.lookup x=a_ .local) Jq3):DG K (bp X N' sc L cs s H fp) (.Name x pos) (.nm i):=pg_c a hi I Y
variable{fi:ah->M (List A3)}{pt:Pat}
theorem cz(N':List p_)(ix:List (Option Nat))(hi:DI K W X tg iter fi)(d:∀L cs s H fp,DG K (bp X N' sc L cs s H fp) tg pt)(b:rA ix (gP K pt))(Y:∀L cs s H fp,PTs (bp X N' sc L cs s H fp) ifs (tDT K W ft))(e:∀L cs s H fp,DE K W b_ (bp X N' sc L cs s H fp) elt fe)(f: ~~~(X.calm=d_))(I: ~~~(bP X.N X.env.scope N' sc ix=d_))(c: ~~~(sc.kind=.function))(a:autoParam (∀x,HX iter X.env x=Hq x) Jq5):
  DE K W d_ X (.ListComp elt [⟨tg,iter,ifs,0⟩] sc pos) (cU fi ix pt ft fe):=(za N' ix f hi d b Y e I c a).imp λ_ _ _=>yM
theorem tD_fr(h:tD K W own f σ H Q):tD K W d_ f σ H Q:=by
 cases own with
 |true=>exact h|false=>obtain⟨F,ρ,r,s,p⟩:=h;exact⟨F,ρ,r,s,p.frz⟩
theorem mY(own:Bool)(N':List p_)(ix:List (Option Nat))(k:X.N.Nodup)(hi:DI K W X tg iter fi)(g:∀L cs s H fp,DG K (bp X N' sc L cs s H fp) tg pt)(d:rA ix (gP K pt))(b:∀L cs s H fp,PTs (bp X N' sc L cs s H fp) ifs (tDT K W ft))(h:∀L cs s H fp,DE K W b_ (bp X N' sc L cs s H fp) elt fe)(f: ~~~(X.N[i]?=a_ x))(a: ~~~(X.env.scope.names.lookup x=a_ .local))(j: ~~~(X.calm=d_))(I: ~~~(Hr (.ListComp elt [⟨tg,iter,ifs,0⟩] sc pos) (a_ (.Name x py)) spos.line X.env=Hq d_))(Y: ~~~(bP X.N X.env.scope N' sc ix=d_))(e: ~~~(sc.kind=.function))(c:autoParam (∀x,HX iter X.env x=Hq x) Jq5):
  DS K W ro X OL O (aft own i O) (.Assign [.Name x py] (.ListComp elt [⟨tg,iter,ifs,0⟩] sc pos) spos) (b7 O i (cU fi ix pt ft fe)):=λF0 H0=>
 (sV N' ix k f a j hi g d b h I Y e c).imp λD σ H t=>yM (tD_fr (yL t))
theorem ds_setI{r:Of}(h:DE K W b_ X e f)(g:DE K W b_ X b fk)(d:(i∈O)⁻¹)(k: ~~~(X.N[i]?=a_ x))(hv:autoParam (Vis X.env.scope x) Jq4)(hd:((x==("__debug__":p_))=b_)⁻¹)(a:((x==("__classdict__":p_))=b_)⁻¹)(j:autoParam (∀v,JU (.Subscript (.Name x p) b q) X.env v=(do
   let I <- JO [v] (Gj (.Name x p) X.env)
   let Y <- JO [v,I] (Gj b X.env)
   Lg q
   JO [v,I,Y] (N9 I Y v)
   release [v,I,Y] [])) Jq5)(c: ~~~(MK [.Subscript (.Name x p) b q] e r.line X.env=Hq b_))(hw: ~~~(ML [.Subscript (.Name x p) b q] e X.env=Hq c_))(h1: ~~~((HJ [.Subscript (.Name x p) b q] X.env).map (·.2)=[JU (.Subscript (.Name x p) b q) X.env])):
  DS K W ro X OL O O (.Assign [.Subscript (.Name x p) b q] e r) (BK i fk f):=λF0 H0=>(AN h (pg_sub (pv i k hv hd a) g set_list j) c hw h1).imp λ_ _ _=>rs_setI d
theorem Fh{pt:Pat}(a:DE K W b_ X e f)(Y:DG K X tg pt)(n:(∀i∈pt.names,i∉O)⁻¹)(I: ~~~(MK [tg] e pos.line X.env=Hq b_))(hw: ~~~(ML [tg] e X.env=Hq c_))(h1: ~~~((HJ [tg] X.env).map (·.2)=[JU tg X.env])):DS K W ro X OL O O (.Assign [tg] e pos) (rM O pt f):=λF0 H0=>(AN a Y I hw h1).imp λ_ _ _=>rs_unpB n
def spF(K:Pn)(ro:Bool)(g:List A3->M A3)(n:Nat):Sp:=λvs H Q _=>∃F ds,aL F H/\aE K F ds vs/\ds.length=n/\aN K C' ro F H (g ds) Q
theorem ur{g:ah->M A9}{ds:List A3}(h:ds.length≠n):bQ nN n g ds=stk:=by unfold bQ;rw[k_ h]
theorem de_call{k:Nat}{ps:List p_}{g:ah->M A9}(F:i6 X.prog X.w X.K X.mg X.base CX0 k fad fd ps (spF K ro (bQ nN n g) n))(i:i5 k X.A)(j:X.mg x=a_ (.ref fad))(l:HW X.K (.ref fad)=d_)(o:Binds X.K fd ps [])(t:DA K C' X (e::es) fr)(m: ~~~(Gl X x))(b:((x==("__debug__":p_))=b_)⁻¹)(Y: ~~~(iF (e::es) X.env=(b_,Gj e X.env)::iF es X.env))(a: ~~~((GG pos (iF es X.env)).any (·.1)=b_)):
  DE K C' ro X (.Call (.Name x p) (e::es) [] pos) (fL (bQ nN n g) fr):=by
 refine PE.imp (qj F i m j l o .nil ql t b Y a) λσ H Q h=>?_;obtain⟨F,ρ,r,s,p⟩:=rd_L h;refine⟨F,ρ,r,s,?_⟩
 cases e1:fr ρ with
 |error z=>rw[e1]at p;exact p|ok ds=>
  rw[e1]at p;intro vs F' H' st q;obtain⟨F1,I,d,f,z⟩:=p vs F' H' st q;show spF K ro (bQ nN n g) n (vs++[]) H' Q E0;rw[IB];by_cases c:I.length=n
  ·exact⟨F1,I,d,f,c,z⟩
  ·rw[ur c]at z;exact aN.stuck z
end
section
variable{base:GQ}
theorem vU{ds:List A3}{d:A3}(q:aE K F ds vs)(h:(ds.map a_++GV (N.length-ds.length) c_)[i]?=a_ (a_ d)):∃v,(start N vs)[i]?=a_ (a_ v)/\aT K F d v:=by
 have hi:i<ds.length:=by
  by_cases hi:i<ds.length
  ·exact hi
  ·rw[HM (by simpa using hi),IZ]at h;split at h<;>cases h
 rw[Hb (by simpa using hi),GB]at h;cases e:ds[i]? with
 |none=>rw[e]at h;cases h|some d'=>
  rw[e]at h;cases h;obtain⟨v,e1,I⟩:=q.get e;refine⟨v,?_,I⟩
  unfold start;rw[Hb (by rw[u_,q.length];exact hi),GB,e1];rfl
theorem fn_D{ps:List p_}{k:Nat}{O':List Nat}(F:Fun K x qual st f fd)(S:gr N ps (aJ st))(ro:Bool)(g:ah->M A9)(m:∀(cdv:i_) (A:Iy) (outer:List KS) (s:y_) (H:Hp) (E:XK),i5 k (A.deeper (IH qual (aJ st) s.heap.objs.size f cdv)) ->
   DSs K C' ro (zY CX0 P w K mg base N qual (aJ st) f cdv A outer s H E).nox [] [] O' (bS st) g):i6 P w K mg base CX0 (k+1) f fd ps (spF K ro (bQ N.length ps.length g) ps.length):=by
 have b:ps.length<=N.length:=by have:=HI ME S.pre;rw[Hx]at this;omega
 refine F.okX S (λvs H Q E ⟨F,ds,s,q,l,p⟩=>by rw[q.length,l]) λcdv A outer s H vs Q E Y c=>?_;obtain⟨F1,ds,I,q,l,p⟩:=c;refine⟨_,m cdv A outer s H E Y F1 H,F1,F1,ds.map a_++GV (N.length-ds.length) c_,?_,?_⟩
 ·refine⟨A5.refl I,aL.refl _,?_,λi d e _=>vU q e,(λi d e h=>nomatch h),(λi j ds es a h=>nomatch h)⟩
  unfold start;rw[Gp,Gp,u_,u_,Ht,Ht,q.length]
 ·have e1:bQ N.length ps.length g ds=(g (ds.map a_++GV (N.length-ds.length) c_)).bind λfl=>match fl with
   |.nx _=>.ok .non|.rt d=>.ok d|_=>stk:=by unfold bQ;exact e_ l
  rw[e1]at p;cases e2:g (ds.map a_++GV (N.length-ds.length) c_)with
  |error z=>rw[e2]at p;exact p|ok fl=>
   rw[e2]at p;cases fl with
   |nx ρ=>exact λσ F H r=>p .non F H r.st (by cases ro<;>rfl)
   |rt d=>exact λv F H st q=>p v F H st q|bk ρ=>exact aN.stuck p|ct ρ=>exact aN.stuck p
def spLaw(K:Pn):Sp:=λvs H Q _=>∃(a:g_) (ns:List Int),vs=[.ref a]/\SqL K H a (ns.map V.int)/\ns.length<=63/\∀H',Q (.bl d_) H'
theorem tK{F:Hp}:∀is:List Int,aE K F (is.map A3.int) (is.map V.int)
 |[]=>rfl|i::is=>⟨.int i,is.map V.int,rfl,rfl,tK is⟩
theorem law_ok{k:Nat}{mlaw:Nat->List A3->M A3}(F:∀n,i6 P w K mg base CX0 k f fd [x] (spF K ro (mlaw n) 1))(h:∀ns:List Int,ns.length<=63->∃n,mlaw n [.lst (ns.map .int)]=.ok (.bl d_)):i6 P w K mg base CX0 k f fd [x] (spLaw K):=by
 refine⟨λvs H Q E ⟨a,ns,e,_⟩=>by rw[e];rfl,λA outer s H I us vs Q E Y g i hv ⟨a,ns,e,b,d,q⟩=>?_⟩
 obtain⟨n,c⟩:=h ns d;refine(F n).run A outer s H I us vs Q E Y g i hv ⟨H,[.lst (ns.map .int)],aL.refl _,⟨.ref a,[],e,⟨a,_,rfl,b,tK ns⟩,rfl⟩,rfl,?_⟩;rw[c];intro v F' H' st z;have:v=.bl d_:=by cases ro<;>exact z
 rw[this];exact q H'
end
structure Kit(K:Pn):Prop where
 Ea:GL K (.type "int") (.type "int")=a_ d_
 BU:GL K (.type "bool") (.type "int")=a_ d_
 BQ:GL K (.type "list") (.type "int")=a_ b_
 yN:GL K (.type "tuple") (.type "int")=a_ b_
 E9:GL K (.type "str") (.type "int")=a_ b_
 rO:GL K (.type "NoneType") (.type "int")=a_ b_
 BS:GL K (.type "int") (.type "bool")=a_ b_
 yT:GL K (.type "bool") (.type "bool")=a_ d_
 yQ:GL K (.type "list") (.type "bool")=a_ b_
 wx:GL K (.type "tuple") (.type "bool")=a_ b_
 BP:GL K (.type "str") (.type "bool")=a_ b_
 pW:GL K (.type "NoneType") (.type "bool")=a_ b_
 BR:GL K (.type "int") (.type "list")=a_ b_
 yS:GL K (.type "bool") (.type "list")=a_ b_
 yP:GL K (.type "list") (.type "list")=a_ d_
 wu:GL K (.type "tuple") (.type "list")=a_ b_
 BO:GL K (.type "str") (.type "list")=a_ b_
 pV:GL K (.type "NoneType") (.type "list")=a_ b_
 yR:GL K (.type "int") (.type "tuple")=a_ b_
 wz:GL K (.type "bool") (.type "tuple")=a_ b_
 wy:GL K (.type "list") (.type "tuple")=a_ b_
 uw:GL K (.type "tuple") (.type "tuple")=a_ d_
 yO:GL K (.type "str") (.type "tuple")=a_ b_
 oP:GL K (.type "NoneType") (.type "tuple")=a_ b_
 q_int_str:GL K (.type "int") (.type "str")=a_ b_
 q_bool_str:GL K (.type "bool") (.type "str")=a_ b_
 q_list_str:GL K (.type "list") (.type "str")=a_ b_
 q_tuple_str:GL K (.type "tuple") (.type "str")=a_ b_
 q_str_str:GL K (.type "str") (.type "str")=a_ d_
 q_NoneType_str:GL K (.type "NoneType") (.type "str")=a_ b_
section
variable{W:eD}{own:Bool}{a:GX}
theorem isi_D{d:A3}{x:V}{c f bl a bs b:Bool}{Q:Mq}(I:A6 X A4 σ H s)(Y:aL F H)(q:aT X.K F d x)(r:A' x u)(hi:GL X.K (.type "int") (.type T)=a_ c)(A:GL X.K (.type "bool") (.type T)=a_ f)(w:GL X.K (.type "list") (.type T)=a_ bl)(n:GL X.K (.type "tuple") (.type T)=a_ a)(p:GL X.K (.type "str") (.type T)=a_ bs)(v:GL X.K (.type "NoneType") (.type T)=a_ b)(h:∀k tk,(match d with|.int _=>k=c|.bl _=>k=f|.lst _=>k=bl|.tup _=>k=a|.str _=>k=bs|.non=>k=b|.ins _ _=>False|.dic _=>False|.dil _=>False)->Q (.bool k) {s with toks:=tk})(g:∀C fs,d≠.ins C fs)(m:∀ks,d≠.dic ks)(j:∀ks,d≠.dil ks):
  Cb (D_ X.prog X.w) X.A (Jn (.builtin "isinstance") [u,.type T]) Q X.xe s:=by
 cases d with
 |non=>cases(show x=.non from q);cases r;exact Iq Mt I.kIn G7 v (λz=>nomatch z) λtk=>h _ tk rfl
 |bl y=>cases(show x=.bl y from q);cases r;exact Iq Mv I.kIn G7 A (λz=>nomatch z) λtk=>h _ tk rfl
 |int i=>cases(show x=.int i from q);obtain⟨t,rfl⟩:=r;exact Iq MP I.kIn G7 hi (λz=>nomatch z) λtk=>h _ tk rfl
 |str y=>cases(show x=.str y from q);obtain⟨t,rfl⟩:=r;exact Iq MO I.kIn G7 p (λz=>nomatch z) λtk=>h _ tk rfl
 |lst ds=>obtain⟨l,xs,e,t,_⟩:=q;subst e;cases r;obtain⟨A8,_,pl,_⟩:=I.list (Y.lst t);obtain⟨o,h1,h2,_⟩:=pl.isList;exact Iq Kv I.kIn ⟨o,h1,h2⟩ w (λz=>nomatch z) λtk=>h _ tk rfl
 |tup ds=>obtain⟨l,xs,e,t,_⟩:=q;subst e;cases r;obtain⟨A8,_,pl,_⟩:=I.tuple (Y.tup t);obtain⟨o,h1,h2,_⟩:=pl;exact Iq Mg I.kIn ⟨o,h1,h2⟩ n (λz=>nomatch z) λtk=>h _ tk rfl
 |ins C fs=>exact Gb rfl (g C fs)|dic ks=>exact Gb rfl (m ks)|dil ks=>exact Gb rfl (j ks)
theorem Bl{y:p_}{g:A3->M A3}(l:fW X (.builtin "isinstance") (λxs H Q=>∃v,xs=[v,.ty T]/\rD1 K W own g v H Q))(j:X.mg "isinstance"=c_)(e:X.mg y=c_)(b:HN y=a_ (.type T))(m:DE K W b_ X a fa)(k: ~~~(Gl X "isinstance"))(f: ~~~(Gl X y))(i:(y≠"__name__")⁻¹)(hd:((y==("__debug__":p_))=b_)⁻¹)(Y: ~~~(iF [a,.Name y p2] X.env=[(b_,Gj a X.env),(b_,Gj (.Name y p2) X.env)]))(I: ~~~(iF [.Name y p2] X.env=[(b_,Gj (.Name y p2) X.env)]))(c: ~~~((GG pos (iF [.Name y p2] X.env)).any (·.1)=b_)):
  DE K W own X (.Call (.Name "isinstance" p) [a,.Name y p2] [] pos) (f1 g fa):=
 (iK l k j JK (ax m (ax (pe_tyN (pos:=p2) f e b i hd) aO I) (by rw[Y,I])) (by decide) (by decide) (by rw[Y,I]) c).imp λσ H Q h=>by
  obtain⟨F,ρ,r,s,q⟩:=rd_1 h;refine⟨F,ρ,r,s,?_⟩
  cases e1:fa ρ with
  |error z=>rw[e1]at q;exact q|ok d=>rw[e1]at q;exact λv F' H' st z=>⟨v,rfl,q v F' H' st z⟩
theorem FP(Y:Kit K)(i: ~~~(X.K=K)):fW X (.builtin "isinstance") (λxs H Q=>∃v,xs=[v,.ty "int"]/\rD1 K W own iP v H Q):=by
 subst i;intro A4 s σ H xs us Q I r h;obtain⟨v,rfl,F,d,c,q,p⟩:=h;obtain⟨u,w,rfl,f,a⟩:=r.two;cases(show w=IJ "int" from a);by_cases hi:(∃C fs,d=.ins C fs)\/(∃ks,d=.dic ks)\/∃ks,d=.dil ks
 ·rcases hi with⟨C,fs,rfl⟩|⟨ks,rfl⟩|⟨ks,rfl⟩<;>exact aN.stuck p
 ·refine isi_D I c q f Y.Ea Y.BU Y.BQ Y.yN Y.E9 Y.rO (λk tk g=>⟨.bl k,H,I.tok tk,rfl,?_⟩) (λC fs e=>hi (.inl ⟨C,fs,e⟩)) (λks e=>hi (.inr (.inl ⟨ks,e⟩))) (λks e=>hi (.inr (.inr ⟨ks,e⟩)));cases d<;>first|(have b:k=_:=g;subst b;exact aN.bl (own:=own) p c)|exact Gb (.inl ⟨_,_,rfl⟩) hi|exact Gb (.inr (.inl ⟨_,rfl⟩)) hi|exact Gb (.inr (.inr ⟨_,rfl⟩)) hi
theorem nZ(Y:Kit K)(f:X.mg "isinstance"=c_)(d:X.mg "int"=c_)(h:DE K W b_ X a fa)(i: ~~~(X.K=K))(g: ~~~(Gl X "isinstance"))(e: ~~~(Gl X "int"))(b: ~~~(iF [a,.Name "int" p2] X.env=[(b_,Gj a X.env),(b_,Gj (.Name "int" p2) X.env)]))(I: ~~~(iF [.Name "int" p2] X.env=[(b_,Gj (.Name "int" p2) X.env)]))(c: ~~~((GG pos (iF [.Name "int" p2] X.env)).any (·.1)=b_)):
  DE K W own X (.Call (.Name "isinstance" p) [a,.Name "int" p2] [] pos) (f1 iP fa):=Bl (FP Y i) f d (by decide +kernel) h g e (by decide) (by decide) b I c
theorem CZ(Y:Kit K)(i: ~~~(X.K=K)):fW X (.builtin "isinstance") (λxs H Q=>∃v,xs=[v,.ty "bool"]/\rD1 K W own k7 v H Q):=by
 subst i;intro A4 s σ H xs us Q I r h;obtain⟨v,rfl,F,d,c,q,p⟩:=h;obtain⟨u,w,rfl,f,a⟩:=r.two;cases(show w=IJ "bool" from a);by_cases hi:(∃C fs,d=.ins C fs)\/(∃ks,d=.dic ks)\/∃ks,d=.dil ks
 ·rcases hi with⟨C,fs,rfl⟩|⟨ks,rfl⟩|⟨ks,rfl⟩<;>exact aN.stuck p
 ·refine isi_D I c q f Y.BS Y.yT Y.yQ Y.wx Y.BP Y.pW (λk tk g=>⟨.bl k,H,I.tok tk,rfl,?_⟩) (λC fs e=>hi (.inl ⟨C,fs,e⟩)) (λks e=>hi (.inr (.inl ⟨ks,e⟩))) (λks e=>hi (.inr (.inr ⟨ks,e⟩)));cases d<;>first|(have b:k=_:=g;subst b;exact aN.bl (own:=own) p c)|exact Gb (.inl ⟨_,_,rfl⟩) hi|exact Gb (.inr (.inl ⟨_,rfl⟩)) hi|exact Gb (.inr (.inr ⟨_,rfl⟩)) hi
theorem qZ(Y:Kit K)(f:X.mg "isinstance"=c_)(d:X.mg "bool"=c_)(h:DE K W b_ X a fa)(i: ~~~(X.K=K))(g: ~~~(Gl X "isinstance"))(e: ~~~(Gl X "bool"))(b: ~~~(iF [a,.Name "bool" p2] X.env=[(b_,Gj a X.env),(b_,Gj (.Name "bool" p2) X.env)]))(I: ~~~(iF [.Name "bool" p2] X.env=[(b_,Gj (.Name "bool" p2) X.env)]))(c: ~~~((GG pos (iF [.Name "bool" p2] X.env)).any (·.1)=b_)):
  DE K W own X (.Call (.Name "isinstance" p) [a,.Name "bool" p2] [] pos) (f1 k7 fa):=Bl (CZ Y i) f d (by decide +kernel) h g e (by decide) (by decide) b I c
theorem CY(Y:Kit K)(i: ~~~(X.K=K)):fW X (.builtin "isinstance") (λxs H Q=>∃v,xs=[v,.ty "list"]/\rD1 K W own jZ v H Q):=by
 subst i;intro A4 s σ H xs us Q I r h;obtain⟨v,rfl,F,d,c,q,p⟩:=h;obtain⟨u,w,rfl,f,a⟩:=r.two;cases(show w=IJ "list" from a);by_cases hi:(∃C fs,d=.ins C fs)\/(∃ks,d=.dic ks)\/∃ks,d=.dil ks
 ·rcases hi with⟨C,fs,rfl⟩|⟨ks,rfl⟩|⟨ks,rfl⟩<;>exact aN.stuck p
 ·refine isi_D I c q f Y.BR Y.yS Y.yP Y.wu Y.BO Y.pV (λk tk g=>⟨.bl k,H,I.tok tk,rfl,?_⟩) (λC fs e=>hi (.inl ⟨C,fs,e⟩)) (λks e=>hi (.inr (.inl ⟨ks,e⟩))) (λks e=>hi (.inr (.inr ⟨ks,e⟩)));cases d<;>first|(have b:k=_:=g;subst b;exact aN.bl (own:=own) p c)|exact Gb (.inl ⟨_,_,rfl⟩) hi|exact Gb (.inr (.inl ⟨_,rfl⟩)) hi|exact Gb (.inr (.inr ⟨_,rfl⟩)) hi
theorem qY(Y:Kit K)(f:X.mg "isinstance"=c_)(d:X.mg "list"=c_)(h:DE K W b_ X a fa)(i: ~~~(X.K=K))(g: ~~~(Gl X "isinstance"))(e: ~~~(Gl X "list"))(b: ~~~(iF [a,.Name "list" p2] X.env=[(b_,Gj a X.env),(b_,Gj (.Name "list" p2) X.env)]))(I: ~~~(iF [.Name "list" p2] X.env=[(b_,Gj (.Name "list" p2) X.env)]))(c: ~~~((GG pos (iF [.Name "list" p2] X.env)).any (·.1)=b_)):
  DE K W own X (.Call (.Name "isinstance" p) [a,.Name "list" p2] [] pos) (f1 jZ fa):=Bl (CY Y i) f d (by decide +kernel) h g e (by decide) (by decide) b I c
theorem Ab(Y:Kit K)(i: ~~~(X.K=K)):fW X (.builtin "isinstance") (λxs H Q=>∃v,xs=[v,.ty "tuple"]/\rD1 K W own kB v H Q):=by
 subst i;intro A4 s σ H xs us Q I r h;obtain⟨v,rfl,F,d,c,q,p⟩:=h;obtain⟨u,w,rfl,f,a⟩:=r.two;cases(show w=IJ "tuple" from a);by_cases hi:(∃C fs,d=.ins C fs)\/(∃ks,d=.dic ks)\/∃ks,d=.dil ks
 ·rcases hi with⟨C,fs,rfl⟩|⟨ks,rfl⟩|⟨ks,rfl⟩<;>exact aN.stuck p
 ·refine isi_D I c q f Y.yR Y.wz Y.wy Y.uw Y.yO Y.oP (λk tk g=>⟨.bl k,H,I.tok tk,rfl,?_⟩) (λC fs e=>hi (.inl ⟨C,fs,e⟩)) (λks e=>hi (.inr (.inl ⟨ks,e⟩))) (λks e=>hi (.inr (.inr ⟨ks,e⟩)));cases d<;>first|(have b:k=_:=g;subst b;exact aN.bl (own:=own) p c)|exact Gb (.inl ⟨_,_,rfl⟩) hi|exact Gb (.inr (.inl ⟨_,rfl⟩)) hi|exact Gb (.inr (.inr ⟨_,rfl⟩)) hi
theorem xD(Y:Kit K)(f:X.mg "isinstance"=c_)(d:X.mg "tuple"=c_)(h:DE K W b_ X a fa)(i: ~~~(X.K=K))(g: ~~~(Gl X "isinstance"))(e: ~~~(Gl X "tuple"))(b: ~~~(iF [a,.Name "tuple" p2] X.env=[(b_,Gj a X.env),(b_,Gj (.Name "tuple" p2) X.env)]))(I: ~~~(iF [.Name "tuple" p2] X.env=[(b_,Gj (.Name "tuple" p2) X.env)]))(c: ~~~((GG pos (iF [.Name "tuple" p2] X.env)).any (·.1)=b_)):
  DE K W own X (.Call (.Name "isinstance" p) [a,.Name "tuple" p2] [] pos) (f1 kB fa):=Bl (Ab Y i) f d (by decide +kernel) h g e (by decide) (by decide) b I c
end
theorem mZ{is:List Nat}(b:N'.Nodup)(h2:PGs (bp X N' sc L cs s H fp) es (iU is))(hi: ~~~(N'[i]?=a_ x))(I:autoParam (Loc (bp X N' sc L cs s H fp).env.scope x) Jq6)(a:autoParam ((bp X N' sc L cs s H fp).fn x=d_\/(bp X N' sc L cs s H fp).env.scope.names.lookup x=a_ .local) Jq3)(Y: ~~~((HJ (.Name x p::es) (bp X N' sc L cs s H fp).env).map (·.2)=JU (.Name x p) (bp X N' sc L cs s H fp).env::(HJ es (bp X N' sc L cs s H fp).env).map (·.2))):PGs (bp X N' sc L cs s H fp) (.Name x p::es) (iU (i::is)):=cW (pg_c b hi I a) h2 Y
open PySem.W in
def tRun{α:Type}(lt:Nat->Nat->Bool):KasT α->α
 |.ret a=>a|.ask i j k=>tRun lt (k (lt i j))
section
open PySem.W
variable{key:Nat->Int}
def ltK(key:Nat->Int)(i j:Nat):Bool:=q_ (key i<key j)
end
section
open PySem.W
def AskR(n:Nat)(R:α->Prop):KasT α->Prop
 |.ret a=>R a|.ask i j k=>i<n/\j<n/\∀b,AskR n R (k b)
theorem sZ{lt:Nat->Nat->Bool}{R:α->Prop}{I:Nat->Nat->(Bool->y_->Prop)->y_->Prop}{s:y_}(Y:∀i j (C:Bool->y_->Prop),i<n->j<n->C (lt i j) s->I i j C s){Q:α->y_->Prop}:∀t:KasT α,AskR n R t->Q (tRun lt t) s->t.kasWp I Q s
 |.ret _,_,h=>h|.ask i j k,r,h=>Y i j _ r.1 r.2.1 (sZ Y (k (lt i j)) (r.2.2 _) h)
end
noncomputable def An(t:List Int):A3:=.tup (t.map .int)
section
variable{lt:α->α->Bool}
structure Ord(lt:α->α->Bool):Prop where
 irr:∀a,lt a a=b_
 tr:∀a b c,lt a b=d_->lt b c=d_->lt a c=d_
 tot:∀a b,lt a b=b_->lt b a=b_->a=b
theorem Ord.le_trans(o:Ord lt){a b c:α}(h1:lt b a=b_)(h2:lt c b=b_):lt c a=b_:=by
 cases h:lt c a with
 |false=>rfl|true=>
  cases I:lt b c with
  |true=>rw[o.tr b c a I h]at h1;cases h1|false=>have:=o.tot c b h2 I;subst this;rw[h]at h1;cases h1
end
section
open PySem.W
variable{lt:α->α->Bool}
def rk(lt:α->α->Bool)(I:List α)(d:α)(i:Nat):Int:=((I.filter λz=>lt z (I.getD i d)).length:Int)
end
def cX(n d:Nat):Option Int->Nat
 |none=>d|some v=>if v<0 then(v+(n:Int)).toNat else min v.toNat n
def Bo(xs:List α)(lo hi:Option Int):List α:=(xs.drop (cX xs.length 0 lo)).take (cX xs.length xs.length hi-cX xs.length 0 lo)
def dQ:A3->Option Int->Option Int->M A3
 |.lst ds,lo,hi=>.ok (.lst (Bo ds lo hi))|.tup ds,lo,hi=>if (q_ (cX ds.length 0 lo=0)&&q_ (cX ds.length ds.length hi=ds.length))=d_ then stk else .ok (.tup (Bo ds lo hi))
 |_,_,_=>stk
noncomputable def oQ:ah->M (Option Int):=λ_=>.ok c_
def jP(f:ah->M A3):ah->M (Option Int):=λρ=>(f ρ).bind λd=>(asI d).bind λi=>.ok (a_ i)
noncomputable def fSl(g:A3->Option Int->Option Int->M A3)(fa:ah->M A3)(fl fu:ah->M (Option Int)):ah->M A3:=λρ=>(fa ρ).bind λa=>(fl ρ).bind λl=>(fu ρ).bind λu=>g a l u
def extD(ρ:ah)(i:Nat)(ds:List A3):A3->M A9
 |.lst es=>if ds.length+es.length<=f_ then put ρ i (ds++es)else stk
 |_=>stk
def DM(O:List Nat)(i:Nat)(f:ah->M A3):ah->M A9:=λρ=>(j4 ρ i).bind λds=>(f (erase O ρ)).bind λd=>extD ρ i ds d
def kg(g g' g'':A3->A3->M A3)(fa fb fc fd':ah->M A3):ah->M A3:=λρ=>(fa ρ).bind λa=>(fb ρ).bind λb=>(g a b).bind λx=>(asB x).bind λk=>if k=d_ then(fc ρ).bind λc=>(g' b c).bind λy=>(asB y).bind λl=>if l=d_ then(fd' ρ).bind λd=>g'' c d else .ok (.bl b_)else .ok (.bl b_)
section
variable{W:eD}{own:Bool}{a b c d:GX}{lo hi:Option GX}{y:p_}{p3 r t u:Of}{f fd':ah->M A3}{fu:ah->M (Option Int)}
def tDO(K:Pn)(W:eD)(f:ah->M (Option Int)):TO:=λσ H Q=>∃F ρ,dM K F σ ρ/\aL F H/\(match f ρ with
 |.ok o=>∀F' H',A5 F H F' H'->Q o H'|.error e=>W.p e F H)
theorem Dx{R:Option Int->Hp->Prop}(r:dM K F σ ρ)(s:aL F H)(Y:∀e,fl ρ=.error e->W.p e F H)(I:∀o,fl ρ=.ok o->∀F1 H1,A5 F H F1 H1->R o H1):tDO K W fl σ H R:=by
 refine⟨F,ρ,r,s,?_⟩
 cases e:fl ρ with
 |ok d=>exact I d e|error x=>exact Y x e
abbrev DP(K:Pn)(W:eD)(X:Cx)(e:Option GX)(f:ah->M (Option Int)):Prop:=PO X e (tDO K W f)
theorem PO.imp{t t':TO}(h:PO X lo t)(q:∀σ H Q,t' σ H Q->t σ H Q):PO X lo t':=λA4 s σ H Q I z=>h A4 s σ H Q I (q σ H Q z)
theorem lP:DP K W X c_ oQ:=po_none.imp λσ H Q ⟨F,ρ,r,s,p⟩=>p F H (A5.refl s)
theorem lO(h:DE K W b_ X e f):DP K W X (a_ e) (jP f):=(po_some h).imp λσ H Q ⟨F,ρ,r,s,p⟩=>by
 refine aP r s (λe a=>?_) λd hd v F1 H1 I Y=>?_
 ·have z:jP f ρ=.error e:=by unfold jP;rw[a];rfl
  rw[z]at p;exact p
 ·have z:jP f ρ=(asI d).bind λi=>.ok (a_ i):=by unfold jP;rw[hd];rfl
  rw[z]at p;cases d with
  |int i=>exact⟨i,Y,p F1 H1 I⟩|_=>exact(W.ns p).elim
def rDS(K:Pn)(W:eD)(own:Bool)(g:A3->Option Int->Option Int->M A3):V->Option Int->Option Int->Hp->VK->Prop:=λx lo hi H Q=>∃F a,aL F H/\aT K F a x/\aN K W own F H (g a lo hi) Q
theorem rd_sl{g:A3->Option Int->Option Int->M A3}(h:tD K W own (fSl g fa fl fu) σ H Q):tSl (rDS K W own g) (tD K W b_ fa) (tDO K W fl) (tDO K W fu) σ H Q:=by
 obtain⟨F,ρ,r,s,p⟩:=h;refine aP r s (λe b=>p.err (by unfold fSl;rw[b];rfl)) λa d x F1 H1 I i=>?_;refine Dx (r.mono I.ff) I.fh (λe b=>(p.step I).err (by unfold fSl;rw[d];show(fl ρ).bind _=_;rw[b];rfl)) λl f F2 H2 Y=>?_;refine Dx ((r.mono I.ff).mono Y.ff) Y.fh (λe b=>(p.step (I.trans Y)).err (by unfold fSl;rw[d];show(fl ρ).bind _=_;rw[f];show(fu ρ).bind _=_;rw[b];rfl)) λu j k m c=>?_;refine⟨k,a,c.fh,aT.mono (Y.trans c).ff i,?_⟩
 have e:fSl g fa fl fu ρ=g a l u:=by unfold fSl;rw[d];show(fl ρ).bind _=_;rw[f];show(fu ρ).bind _=_;rw[j];rfl
 rw[e]at p;exact p.step ((I.trans Y).trans c)
theorem zM{g:A3->Option Int->Option Int->M A3}(Y:SlR X (rDS K W own g))(c:DE K W b_ X a fa)(b:DP K W X lo fl)(I:DP K W X hi fu):DE K W own X (.Subscript a (.Slice lo hi c_ p2) pos) (fSl g fa fl fu):=(pe_slice Y c b I).imp λ_ _ _=>rd_sl
theorem Bq(n d:Nat)(o:Option Int):cX n d o=HT.sIx n d o:=by cases o<;>rfl
theorem aE.cut{ds:List A3}{xs:List V}{l u:Option Int}(h:aE K F ds xs):aE K F (Bo ds l u) (cutV xs l u):=by unfold Bo cutV;rw[Bq,Bq,h.length];exact aE.take _ (aE.drop _ h)
theorem x_sl(o: ~~~(X.K=K)):SlR X (rDS K W d_ dQ):=by
 subst o;intro A4 s σ H x v i g lo hi j Q I k n pl m h;refine(SlR.or sl_list sl_tup) A4 s σ H x v i g lo hi j Q I k n pl m ?_;obtain⟨F,a,Y,f,p⟩:=h;cases a with
 |lst ds=>obtain⟨l,xs,e,t,z⟩:=f;exact .inl ⟨l,xs,e,Y.lst t,λr c=>aN.lst p Y z.cut c⟩
 |tup ds=>
  obtain⟨l,xs,e,t,z⟩:=f;have b:aN X.K W d_ F H (if (q_ (cX ds.length 0 lo=0)&&q_ (cX ds.length ds.length hi=ds.length))=d_ then stk else .ok (.tup (Bo ds lo hi))) Q:=p;by_cases d:(q_ (cX ds.length 0 lo=0)&&q_ (cX ds.length ds.length hi=ds.length))=d_
  ·rw[e_ d]at b;exact b.stuck
  ·rw[k_ d]at b;refine .inr ⟨l,xs,e,Y.tup t,λhw=>d ?_,λr c=>aN.tup b Y z.cut c⟩;rw[Bq,Bq,<- z.length];simp only[l_,Gd];exact hw
 |_=>exact aN.stuck p
theorem rs_ext{D:Ends}(hi:i∈O)(t:tS K W ro F0 H0 OL O O (DM O i f) D σ H):pI (tBM K "list" E8 (bV i) (aR (tD K W d_ f) dP)) D σ H:=by
 obtain⟨FB,F,ρ,r,p⟩:=t;cases I:j4 ρ i with
 |error e=>have:=mE I;subst this;exact p.stuck (by unfold DM;rw[I];rfl)|ok ds=>
  obtain⟨a,xs,e2,h,z⟩:=r.AZ hi (iO I);refine⟨.ref a,e2,iG h,?_⟩
  refine aP r.iI r.st.fh (λe k=>p.nX r.st (by unfold DM;rw[I];show(f (erase O ρ)).bind _=_;rw[k];rfl)) λd hd v F1 H1 Y q=>?_;have m:DM O i f ρ=extD ρ i ds d:=by unfold DM;rw[I];show(f (erase O ρ)).bind _=_;rw[hd];rfl
  rw[m]at p;cases d with
  |lst es=>
   obtain⟨b,j,e3,l,_,_,g⟩:=q;by_cases c:ds.length+es.length<=f_
   ·have ep:extD ρ i ds (.lst es)=put ρ i (ds++es):=e_ c;rw[ep]at p;exact⟨a,b,xs,j,rfl,by rw[e3],Y.hh _ _ h,l,by rw[z.length,g.length];exact c,p σ F1 _ ((r.step Y).write hi (iO I) e2 (aE.append (z.mono Y.ff) g))⟩
   ·exact p.stuck (k_ c)
  |_=>exact p.stuck rfl
theorem Bg(j:DE K W d_ X e f)(h:(i∈O)⁻¹)(k: ~~~(X.N[i]?=a_ x))(hv:autoParam (Vis X.env.scope x) Jq4)(hd:((x==("__debug__":p_))=b_)⁻¹)(g:((x==("__classdict__":p_))=b_)⁻¹)(l: ~~~(X.K=K))(b: ~~~(iF [e] X.env=[(b_,Gj e X.env)]))(a: ~~~(Ha (.Name x p) "extend" X.env (Gj (.Name x p) X.env)=Gj (.Name x p) X.env))(c: ~~~(((GG q (iF [e] X.env)).all (λx=> !x.1)&&(HZ q (Hi [] X.env)).all (λx=>x.1.isSome)&&q_ ([e].length+([]:List IG).length+(if ([]:List IG).isEmpty then 0 else 1)<30))=d_))(I: ~~~((GG q (iF [] X.env)).any (·.1)=b_))(Y: ~~~((apos.endLine==q.line)=d_))(d: ~~~(Hr (.Call (.Attribute (.Name x p) "extend" apos) [e] [] q) c_ pos.line X.env=Hq b_)):
  DS K W ro X OL O O (.Expr (.Call (.Attribute (.Name x p) "extend" apos) [e] [] q) pos) (DM O i f):=λF0 H0=>by
 subst l;exact PS.imp (gK (nL Gu Mo PySem.F.type_list_extend Ey (pv i k hv hd g) (ax j aO b) a c Y b I) d) λ_ _ _=>rs_ext h
theorem Eh{r Y:R2}(U:OpR X (Gk op) r)(i:OpR X (Gk op') r')(f:OpR X (Gk op'') Y)(ha:PE X a ta)(hb:PE X b tb)(Z:PE X c tc)(hd:PE X d td)(W:autoParam (KP [op,op',op''] [b,c,d]=b_) Jq7):PE X (.Compare a [op,op',op''] [b,c,d] pos) (Dy r r' Y ta tb tc td):=by
 intro A4 s σ H Q I h;refine Compare_chain (Bs (ha A4 s σ H _ I h) λv G ⟨x,H1,I1,O,T⟩=>NU (Bs (hb A4 G σ H1 _ I1 T) λu F ⟨y,H2,I2,r2,S⟩=>Bs (U A4 F σ H2 x y v u _ I2 O r2 S) λd E ⟨z,w,q,N,k,e,o⟩=>?_)) W
 subst e;cases N;refine GY ?_;cases k with
 |false=>exact ite_ff ⟨.bl b_,w,q,rfl,o⟩|true=>
  refine ite_tt (NU (Bs (Z A4 E σ w _ q o) λl D g=>?_));obtain⟨j,H4,I4,m,R⟩:=g;refine Bs (i A4 D σ H4 y j u l _ I4 r2 m R) λd' C g=>?_;obtain⟨z2,t,p,L,k2,e2,n⟩:=g;subst e2;cases L;refine GY ?_;cases k2 with
  |false=>exact ite_ff ⟨.bl b_,t,p,rfl,n⟩|true=>exact ite_tt (chain_last (Bs (hd A4 C σ t _ p n) λw2 B ⟨A,H6,I6,K,P⟩=>f A4 B σ H6 j A l w2 Q I6 m K P))
theorem DY(h:tD K W b_ (kg g g' g'' fa fb fc fd') σ H Q):Dy (rD2 K W b_ g) (rD2 K W b_ g') (rD2 K W b_ g'') (tD K W b_ fa) (tD K W b_ fb) (tD K W b_ fc) (tD K W b_ fd') σ H Q:=by
 obtain⟨F,ρ,r,s,p⟩:=h;refine aP r s (λe Y=>p.err (by unfold kg;rw[Y];rfl)) λa D x F1 H1 j O=>?_;refine aP (r.mono j.ff) j.fh (λe Y=>(p.step j).err (by unfold kg;rw[D];show(fb ρ).bind _=_;rw[Y];rfl)) λb R y F2 H2 o B=>?_;have z:kg g g' g'' fa fb fc fd' ρ=(g a b).bind λx=>(asB x).bind λk=>if k=d_ then(fc ρ).bind λc=>(g' b c).bind λy=>(asB y).bind λl=>if l=d_ then(fd' ρ).bind λd=>g'' c d else .ok (.bl b_)else .ok (.bl b_):=by unfold kg;rw[D];show(fb ρ).bind _=_;rw[R];rfl
 rw[z]at p;refine⟨F2,a,b,o.fh,aT.mono o.ff O,B,?_⟩
 have p2:=p.step (j.trans o);have u:=(r.mono j.ff).mono o.ff;cases e:g a b with
 |error x=>rw[e]at p2;exact p2|ok w=>
  rw[e]at p2;cases w with
  |bl k=>
   intro v F3 U f L;cases(show v=.bl k from L);have p3:=p2.step f;refine⟨k,rfl,?_⟩
   cases k with
   |false=>exact aN.bl p3 f.fh|true=>
    have p3:aN K W b_ F3 U ((fc ρ).bind λc=>(g' b c).bind λy=>(asB y).bind λl=>if l=d_ then(fd' ρ).bind λd=>g'' c d else .ok (.bl b_)) Q:=p3;refine aP (u.mono f.ff) f.fh (λe Y=>p3.err (by rw[Y];rfl)) λc P w E T n A=>?_;have I:=p3.step n;rw[P]at I;have I:aN K W b_ E T ((g' b c).bind λy=>(asB y).bind λl=>if l=d_ then(fd' ρ).bind λd=>g'' c d else .ok (.bl b_)) Q:=I;refine⟨E,b,c,n.fh,aT.mono (f.trans n).ff B,A,?_⟩
    cases e4:g' b c with
    |error x=>rw[e4]at I;exact I|ok w2=>
     rw[e4]at I;cases w2 with
     |bl l=>
      intro G Z S i t;cases(show G=.bl l from t);have m:=I.step i;refine⟨l,rfl,?_⟩
      cases l with
      |false=>exact aN.bl m i.fh|true=>have m:aN K W b_ Z S ((fd' ρ).bind λd=>g'' c d) Q:=m;refine aP (((u.mono f.ff).mono n.ff).mono i.ff) i.fh (λe Y=>m.err (by rw[Y];rfl)) λd hd w6 X H6 q N=>?_;have C:=m.step q;rw[hd]at C;exact⟨X,c,d,q.fh,aT.mono (i.trans q).ff A,N,C⟩
     |_=>exact(W.ns I).elim
  |_=>exact(W.ns p2).elim
theorem Fw(e:Op2 K W b_ X (Gk op) g)(Y:Op2 K W b_ X (Gk op') g')(I:Op2 K W b_ X (Gk op'') g'')(j:DE K W b_ X a fa)(i:DE K W b_ X b fb)(h:DE K W b_ X c fc)(hd:DE K W b_ X d fd')(f:autoParam (KP [op,op',op''] [b,c,d]=b_) Jq7):DE K W b_ X (.Compare a [op,op',op''] [b,c,d] pos) (kg g g' g'' fa fb fc fd'):=(Eh e Y I j i h hd f).imp λ_ _ _=>DY
end
section
variable{fu:ah->M (Option Int)}
@[simp] theorem e_pNone:oQ ρ=.ok c_:=id rfl
@[simp] theorem e_pSome:jP fa ρ=(fa ρ).bind λd=>(asI d).bind λi=>.ok (a_ i):=id rfl
@[simp] theorem e_slF(k:A3->Option Int->Option Int->M A3):fSl k fa fl fu ρ=(fa ρ).bind λa=>(fl ρ).bind λl=>(fu ρ).bind λu=>k a l u:=id rfl
@[simp] theorem e_extD(i:Nat)(ds es:List A3):extD ρ i ds (.lst es)=if ds.length+es.length<=f_ then put ρ i (ds++es)else stk:=id rfl
@[simp] theorem e_ext(O:List Nat)(i:Nat):DM O i fa ρ=(j4 ρ i).bind λds=>(fa (erase O ρ)).bind λd=>extD ρ i ds d:=id rfl
@[simp] theorem e_pow{i j:Int}(I:0<=j)(h1:j<=1000000)(h2:i.natAbs<2^64):Ed (.int i) (.int j)=.ok (.int (i^j.toNat)):=by show(if (q_ (0<=j)&&q_ (j<=1000000)&&q_ (i.natAbs<2^64))=d_ then _ else _)=_;rw[e_ (by simp only[l_,Gd];exact⟨⟨I,h1⟩,h2⟩)]
@[simp] theorem e_eqII(i j:Int):eqM (.int i) (.int j)=.ok (.bl (q_ (i=j))):=by show Ge (A3.bl (i==j))=_;rw[show(i==j)=q_ (i=j)from rfl]
@[simp] theorem e_neII(i j:Int):neM (.int i) (.int j)=.ok (.bl (!decide (i=j))):=by show Ge (A3.bl (!(i==j)))=_;rw[show(i==j)=q_ (i=j)from rfl]
@[simp] theorem e_isiIN:iP .non=.ok (.bl b_):=id rfl
end
def insD(ρ:ah)(i:Nat)(ds:List A3)(k:Int)(d:A3):M A9:=if (q_ (0<=k)&&q_ (k<=ds.length)&&q_ (ds.length<f_))=d_ then put ρ i (ds.take k.toNat++d::ds.drop k.toNat)else stk
def sIns(O:List Nat)(i:Nat)(fk f:ah->M A3):ah->M A9:=λρ=>(j4 ρ i).bind λds=>(fk (erase O ρ)).bind λk=>(asI k).bind λk=>(f (erase O ρ)).bind λd=>insD ρ i ds k d
theorem e_insD{ds:List A3}{k:Int}{d:A3}(I:0<=k)(h1:k<=ds.length)(h2:ds.length<f_):insD ρ i ds k d=.ok (.nx (ρ.set i (a_ (.lst (ds.take k.toNat++d::ds.drop k.toNat))))):=by unfold insD;rw[e_ (by simp only[l_,Gd];exact⟨⟨I,h1⟩,h2⟩)];rfl
section
variable{W:eD}{a b d:GX}{st:Option GX}{y:p_}{r t u:Of}{f:ah->M A3}
def DZ:V->List V->Hp->VK->Prop:=λx vs H Q=>∃l xs i y,x=.ref l/\vs=[.int i,y]/\H l=a_ (.lst xs)/\0<=i/\i<=(xs.length:Int)/\xs.length<f_/\Q .non (upd H l (.lst (xs.take i.toNat++y::xs.drop i.toNat)))
theorem Ew:MtM X "list.insert" DZ:=by
 intro A4 s σ H x vs v us Q I b c h;obtain⟨l,xs,i,y,rfl,rfl,a,o,h1,j,q⟩:=h;cases b;obtain⟨u,w,rfl,d,Y⟩:=c.two;obtain⟨t,rfl⟩:=d;obtain⟨z,A8,n,r,m,e⟩:=I.lstM a;have f:f_=16777216:=C_;refine Kl Mn ⟨_,e,rfl⟩ F.entry_list_insert (F.args_list_insert_3 _ _ _) (AutoListH.list_insert_list_int_val_1 l A8.toArray n i t w (by rw[fitsIndex_both (k:=i) (by omega) (by omega)];decide) (by rw[A_];omega)) ⟨e,?_⟩;refine⟨.non,_,I.lset (its':=A8.take i.toNat++w::A8.drop i.toNat) a e ?_ ((r.take i.toNat).append (.cons Y (r.drop i.toNat))) ?_,rfl,q⟩
 ·have g:(if i<0 then(i+((A8.toArray.size:Nat):Int)).toNat else min i.toNat A8.toArray.size)=i.toNat:=by
   rw[k_ (by omega),A_];omega
  show((A8.toArray.extract 0 (if i<0 then(i+((A8.toArray.size:Nat):Int)).toNat else min i.toNat A8.toArray.size)).push w++A8.toArray.extract (if i<0 then(i+((A8.toArray.size:Nat):Int)).toNat else min i.toNat A8.toArray.size))=_;rw[g];simp[J9]
 ·rw[Gp,Gi,Hx,JY];omega
theorem rs_ins{D:Ends}(hi:i∈O)(t:tS K W ro F0 H0 OL O O (sIns O i fk f) D σ H):pI (tBM K "list" DZ (bV i) (aR (tD K W b_ fk) (aR (tD K W b_ f) dP))) D σ H:=by
 obtain⟨FB,F,ρ,r,p⟩:=t;cases I:j4 ρ i with
 |error e=>have:=mE I;subst this;exact p.stuck (by unfold sIns;rw[I];rfl)|ok ds=>
  obtain⟨a,xs,e2,m,z⟩:=r.AZ hi (iO I);refine⟨.ref a,e2,iG m,?_⟩
  refine aP r.iI r.st.fh (λe h=>p.nX r.st (by unfold sIns;rw[I];show(fk (erase O ρ)).bind _=_;rw[h];rfl)) λk o v F1 H1 b q=>?_;have s:sIns O i fk f ρ=(asI k).bind λk=>(f (erase O ρ)).bind λd=>insD ρ i ds k d:=by unfold sIns;rw[I];show(fk (erase O ρ)).bind _=_;rw[o];rfl
  rw[s]at p;cases k with
  |int k=>
   have p:iE K W ro F0 H0 FB OL O D ((f (erase O ρ)).bind λd=>insD ρ i ds k d):=p;cases(show v=.int k from q);have g:=r.step b;refine aP g.iI g.st.fh (λe h=>p.nX g.st (by rw[h];rfl)) λd hd l F2 H2 c n=>?_;rw[hd]at p;have p:iE K W ro F0 H0 FB OL O D (insD ρ i ds k d):=p;by_cases Y:(q_ (0<=k)&&q_ (k<=ds.length)&&q_ (ds.length<f_))=d_
   ·have ep:insD ρ i ds k d=put ρ i (ds.take k.toNat++d::ds.drop k.toNat):=e_ Y;rw[ep]at p;simp only[l_,Gd]at Y;have j:=z.mono (b.trans c).ff;exact⟨a,xs,k,l,rfl,rfl,(b.trans c).hh _ _ m,Y.1.1,by rw[z.length];exact Y.1.2,by rw[z.length];exact Y.2,
     p σ F2 _ ((r.step (b.trans c)).write hi (iO I) e2 (aE.append (aE.take _ j) ⟨l,_,rfl,n,aE.drop _ j⟩))⟩
   ·exact p.stuck (k_ Y)
  |_=>exact p.stuck rfl
theorem ds_ins(l:DE K W b_ X b fk)(m:DE K W b_ X e f)(k:(i∈O)⁻¹)(n: ~~~(X.N[i]?=a_ x))(hv:autoParam (Vis X.env.scope x) Jq4)(hd:((x==("__debug__":p_))=b_)⁻¹)(j:((x==("__classdict__":p_))=b_)⁻¹)(o: ~~~(X.K=K))(d: ~~~(iF [b,e] X.env=[(b_,Gj b X.env),(b_,Gj e X.env)]))(I: ~~~(iF [e] X.env=[(b_,Gj e X.env)]))(c: ~~~(Ha (.Name x p) "insert" X.env (Gj (.Name x p) X.env)=Gj (.Name x p) X.env))(g: ~~~(((GG q (iF [b,e] X.env)).all (λx=> !x.1)&&(HZ q (Hi [] X.env)).all (λx=>x.1.isSome)&&q_ ([b,e].length+([]:List IG).length+(if ([]:List IG).isEmpty then 0 else 1)<30))=d_))(Y: ~~~((GG q (iF [e] X.env)).any (·.1)=b_))(a: ~~~((apos.endLine==q.line)=d_))(h: ~~~(Hr (.Call (.Attribute (.Name x p) "insert" apos) [b,e] [] q) c_ pos.line X.env=Hq b_)):
  DS K W ro X OL O O (.Expr (.Call (.Attribute (.Name x p) "insert" apos) [b,e] [] q) pos) (sIns O i fk f):=λF0 H0=>by
 subst o;exact PS.imp (gK (nL Gu Mn PySem.F.type_list_insert Ew (pv i n hv hd j) (ax l (ax m aO I) (by rw[d,I])) c g a (by rw[d,I]) Y) h) λ_ _ _=>rs_ins k
end
def bM(Cs:List g_)(x:p_):A3->M A3
 |.ins C fs=>if Cs.contains C=d_ then(match fs.lookup x with
  |some d=>.ok d|none=>stk)else stk
 |_=>stk
def isC(C:g_)(m:p_):A3->Bool
 |.ins D fs=>(D==C)&&(fs.lookup m).isNone|_=>b_
def jM(C:g_)(m:p_)(g:List A3->M A3)(fo:ah->M A3)(fr:ah->M (List A3)):ah->M A3:=λρ=>(fo ρ).bind λo=>if isC C m o=d_ then(fr ρ).bind λas=>g (o::as)else stk
def jb(C C2:g_)(m:p_)(g g2:List A3->M A3)(fo:ah->M A3)(fr:ah->M (List A3)):ah->M A3:=λρ=>(fo ρ).bind λo=>if isC C m o=d_ then(fr ρ).bind λas=>g (o::as)else if isC C2 m o=d_ then(fr ρ).bind λas=>g2 (o::as)else stk
def newR(C:g_)(g:List A3->M A3):List A3->M A3
 |[d]=>(g [d]).bind λr=>.ok (.ins C [("gaps",r)])|_=>stk
def twoL:A3->A3->Bool
 |.lst xs,.lst ys=>q_ (xs.length=ys.length)|_,_=>b_
def newP(C:g_)(g:List A3->M A3):List A3->M A3
 |[d,e]=>(g [d]).bind λr=>(g [e]).bind λr2=>if twoL r r2=d_ then .ok (.ins C [("gaps",r),("beside",r2)])else stk
 |_=>stk
def sStk:ah->M A9:=λ_=>stk
section
variable{W:eD}{own:Bool}{o a b c d:GX}{y:p_}{f fo:ah->M A3}{fr:ah->M (List A3)}{O':List Nat}{Cs:List g_}
theorem ds_stk:DS K W ro X OL O O' st sStk:=λF0 H0 A4 s σ H D I h=>by obtain⟨FB,F,ρ,r,p⟩:=h;exact p.stuck rfl
theorem jh.at{F:Hp}{x:p_}:∀{gs:List (p_×A3)} {fs:List (p_×V)},jh K F gs fs->(∀d,gs.lookup x=a_ d->∃v,fs.lookup x=a_ v/\aT K F d v)/\(gs.lookup x=c_->fs.lookup x=c_)
 |[],fs,h=>by cases(show fs=[]from h);exact⟨λd h=>by simp at h,λ_=>rfl⟩|(g,d)::gs,fs,h=>by
  obtain⟨v,r,rfl,h1,h2⟩:=h;have I:=jh.at (x:=x) h2;rw[v_,v_];cases e:x==g with
  |true=>exact⟨λd' h'=>by cases h';exact⟨v,rfl,h1⟩,λh'=>by cases h'⟩|false=>exact I
theorem fN(m:∀C∈Cs,Cls K C/\bq K C y)(c:DE K W b_ X e fa)(i: ~~~(Ha e y X.env (Gj e X.env)=Gj e X.env))(k: ~~~(X.K=K)):DE K W b_ X (.Attribute e y pos) (f1 (bM Cs y) fa):=by
 subst k;refine(ia c i).imp λσ H Q h=>?_;obtain⟨F,ρ,r,s,p⟩:=h;refine aP r s (λe c=>p.err (by unfold f1;rw[c];rfl)) λa j x F1 H1 Y g=>?_;have n:f1 (bM Cs y) fa ρ=bM Cs y a:=by unfold f1;rw[j];rfl
 rw[n]at p;cases a with
 |ins C gs=>
  obtain⟨l,dx,fs,e1,o,q⟩:=g;have I:aN X.K W b_ F H (if Cs.contains C=d_ then(match gs.lookup y with
   |some d=>.ok d|none=>stk)else stk) Q:=p
  by_cases f:Cs.contains C=d_
  ·rw[e_ f]at I;obtain⟨h1,h2⟩:=m C (by simpa using f);cases b:gs.lookup y with
   |none=>rw[b]at I;exact aN.stuck I|some d=>rw[b]at I;obtain⟨v,hv,hd⟩:=q.at.1 d b;exact⟨l,C,dx,fs,v,e1,Y.fh _ _ o,h1,h2,hv,(I.step Y) v F1 H1 (A5.refl Y.fh) hd⟩
  ·rw[k_ f]at I;exact aN.stuck I
 |_=>exact aN.stuck p
theorem PE.or{t1 t2:TE}(h1:PE X e t1)(h2:PE X e t2):PE X e (λσ H Q=>t1 σ H Q\/t2 σ H Q):=λA4 s σ H Q I h=>h.elim (h1 A4 s σ H Q I) (h2 A4 s σ H Q I)
theorem rd_meth{g:ah->M A9}(h:tD K C' ro (jM C m (bQ nN n g) fo fr) σ H Q):tMeth C m (spF K ro (bQ nN n g) n) [] E0 (tD K C' b_ fo) (tDA K C' fr) σ H Q:=by
 obtain⟨F,ρ,r,s,p⟩:=h;refine aP r s (λe c=>p.err (by unfold jM;rw[c];rfl)) λo q x F1 H1 Y i=>?_;have u:jM C m (bQ nN n g) fo fr ρ=if isC C m o=d_ then(fr ρ).bind λas=>bQ nN n g (o::as)else stk:=by unfold jM;rw[q];rfl
 rw[u]at p;by_cases a:isC C m o=d_
 ·rw[e_ a]at p;cases o with
  |ins D gs=>
   obtain⟨l,dx,fs,e1,v,w⟩:=id i;have I:((D==C)&&(gs.lookup m).isNone)=d_:=a;rw[l_]at I;obtain⟨f,t⟩:=I;have f:D=C:=by simpa using f
   subst f;refine⟨l,dx,fs,e1,Y.fh _ _ v,w.at.2 (by simpa using t),?_⟩
   have p:=p.step Y;refine pJ (r.mono Y.ff) Y.fh (λe c=>p.err (by rw[c];rfl)) λas d vs F2 H2 b k=>?_;rw[d]at p;have p:aN K C' ro F1 H1 (bQ nN n g (.ins D gs::as)) Q:=p;have p:=p.step b;show spF K ro (bQ nN n g) n (x::(vs++[])) H2 Q E0;rw[IB];by_cases j:(A3.ins D gs::as).length=n
   ·exact⟨F2,.ins D gs::as,b.fh,⟨x,vs,rfl,aT.mono b.ff i,k⟩,j,p⟩
   ·rw[ur j]at p;exact aN.stuck p
  |_=>cases a
 ·rw[k_ a]at p;exact aN.stuck p
theorem rd_meth2{g:ah->M A9}(h:tD K C' ro (jb C C2 m (bQ nN n g) (bQ nN2 n2 g2) fo fr) σ H Q):
  tD K C' ro (jM C m (bQ nN n g) fo fr) σ H Q\/tD K C' ro (jM C2 m (bQ nN2 n2 g2) fo fr) σ H Q:=by
 obtain⟨F,ρ,r,s,p⟩:=h;cases I:fo ρ with
 |error e=>
  refine .inl ⟨F,ρ,r,s,?_⟩;have e1:jb C C2 m (bQ nN n g) (bQ nN2 n2 g2) fo fr ρ=.error e:=by unfold jb;rw[I];rfl
  have e2:jM C m (bQ nN n g) fo fr ρ=.error e:=by unfold jM;rw[I];rfl
  rw[e1]at p;rw[e2];exact p
 |ok o=>
  have e1:jb C C2 m (bQ nN n g) (bQ nN2 n2 g2) fo fr ρ=if isC C m o=d_ then(fr ρ).bind λas=>bQ nN n g (o::as)else if isC C2 m o=d_ then(fr ρ).bind λas=>bQ nN2 n2 g2 (o::as)else stk:=by unfold jb;rw[I];rfl
  have e2:jM C m (bQ nN n g) fo fr ρ=if isC C m o=d_ then(fr ρ).bind λas=>bQ nN n g (o::as)else stk:=by unfold jM;rw[I];rfl
  have e3:jM C2 m (bQ nN2 n2 g2) fo fr ρ=if isC C2 m o=d_ then(fr ρ).bind λas=>bQ nN2 n2 g2 (o::as)else stk:=by unfold jM;rw[I];rfl
  rw[e1]at p;by_cases Y:isC C m o=d_
  ·rw[e_ Y]at p e2;exact .inl ⟨F,ρ,r,s,by rw[e2];exact p⟩
  ·rw[k_ Y]at p;exact .inr ⟨F,ρ,r,s,by rw[e3];exact p⟩
def FV(X:Cx)(o:GX)(m:p_)(apos:Of)(es:List GX)(pos:Of)(pl:Oe Bool):Prop:=Gj (.Call (.Attribute o m apos) es [] pos) X.env=(do let I <- Gj o X.env;Lg apos.atName;let (f,first) <- JO [I] (Lx I m pl);Mf pos f first (GG pos (iF es X.env)) (HZ pos (Hi [] X.env)))
section
variable{k:Nat}{fad2:g_}{fd2:HL}{ps:List p_}{g:ah->M A9}
theorem qi(c:Cls X.K C)(M:Meth X.K C m fad)(F:i6 X.prog X.w X.K X.mg X.base CX0 k fad fd ps (spF X.K ro (bQ nN n g) n))(Y:i5 k X.A)(b:Binds X.K fd ps [])(a:DE X.K C' b_ X o fo)(I:FV X o m apos [] pos pl):DE X.K C' ro X (.Call (.Attribute o m apos) [] [] pos) (jM C m (bQ nN n g) fo aD):=
 (pe_meth0 (pl:=pl) a c M F Y b .nil ql I).imp λσ H Q h=>by
  obtain⟨F,ρ,r,s,z⟩:=rd_meth h;refine⟨F,ρ,r,s,?_⟩
  cases e1:fo ρ with
  |error f=>rw[e1]at z;exact z|ok od=>rw[e1]at z;intro v F' H' st q;obtain⟨l,dx,fs,h1,h2,e,d⟩:=z v F' H' st q;exact⟨l,dx,fs,h1,h2,e,rd_nil d⟩
theorem xC(c:Cls K C)(M:Meth K C m fad)(F:i6 X.prog X.w X.K X.mg X.base CX0 k fad fd ps (spF K ro (bQ nN n g) n))(Y:i5 k X.A)(b:Binds X.K fd ps [])(a:DE K C' b_ X o fo)(d: ~~~(X.K=K))(I: ~~~(FV X o m apos [] pos pl)):DE K C' ro X (.Call (.Attribute o m apos) [] [] pos) (jM C m (bQ nN n g) fo aD):=by subst d;exact qi c M F Y b a I
theorem qX{k2:Nat}{I:List p_}(c:Cls K C)(M:Meth K C m fad)(F:i6 X.prog X.w X.K X.mg X.base CX0 k fad fd ps (spF K ro (bQ nN n g) n))(e:i5 k X.A)(f:Binds X.K fd ps [])(i:Cls K C2)(j:Meth K C2 m fad2)(F2:i6 X.prog X.w X.K X.mg X.base CX0 k2 fad2 fd2 I (spF K ro (bQ nN2 n2 g2) n2))(Y:i5 k2 X.A)(a:Binds X.K fd2 I [])(d:DE K C' b_ X o fo)(h: ~~~(X.K=K))(b: ~~~(FV X o m apos [] pos pl)):
  DE K C' ro X (.Call (.Attribute o m apos) [] [] pos) (jb C C2 m (bQ nN n g) (bQ nN2 n2 g2) fo aD):=by
 subst h;exact(PE.or (qi c M F e f d b) (qi i j F2 Y a d b)).imp λ_ _ _=>rd_meth2
end
def spI1(K:Pn)(C:g_)(g:List A3->M A3):Sp:=λvs H Q _=>∃p dx v F d,vs=[.ref p,v]/\H p=a_ (.ins C dx [])/\F p=c_/\aL F H/\aT K F d v/\(match g [d]with
 |.ok r=>∀w F' H',aL F F'->aL F' H'->F' p=c_->(∀b o,F' b=a_ o->F b=a_ o\/H b=c_)->(∀c o,H c=a_ o->c≠p->H' c=a_ o)->H' p=a_ (.ins C dx [("gaps",w)])->aT K F' r w->Q .non H'|.error e=>C'.p e F H)
def spI2(K:Pn)(C:g_)(g:List A3->M A3):Sp:=λvs H Q _=>∃p dx v I F d d2,vs=[.ref p,v,I]/\H p=a_ (.ins C dx [])/\F p=c_/\aL F H/\aT K F d v/\aT K F d2 I/\(match (g [d]).bind λr=>(g [d2]).bind λr2=>if twoL r r2=d_ then .ok (r,r2)else stk with
 |.ok (r,r2)=>∀w w2 F' H',aL F F'->aL F' H'->F' p=c_->(∀b o,F' b=a_ o->F b=a_ o\/H b=c_)->(∀c o,H c=a_ o->c≠p->H' c=a_ o)->H' p=a_ (.ins C dx [("gaps",w),("beside",w2)])->aT K F' r w->aT K F' r2 w2->Q .non H'|.error e=>C'.p e F H)
theorem A5.born{x:g_}{fs:List (p_×V)}(s:aL F H)(a:H x=c_)(Y:H dx=c_)(d:dx≠x)(h1:aL F F')(h2:aL F' H')(j:F' x=c_)(i:∀b o,F' b=a_ o->F b=a_ o\/upd (upd H dx (.own x)) x (.ins C dx []) b=c_)(g:∀c o,upd (upd H dx (.own x)) x (.ins C dx []) c=a_ o->c≠x->H' c=a_ o)(f:H' x=a_ (.ins C dx fs)):A5 F H (upd F' x (.ins C dx fs)) H' where
 ff:=h1.trans (aL.upd j)
 hh:=λc o e=>by
  have I:c≠x:=λh=>by rw[h,a]at e;cases e
  have hd:c≠dx:=λh=>by rw[h,Y]at e;cases e
  exact g c o (by rw[aw I,aw hd];exact e) I
 fh:=λc o e=>by
  by_cases I:c=x
  ·subst I;rw[aq]at e;rw[f];exact e
  ·rw[aw I]at e;exact h2 _ _ e
 nw:=λc o e=>by
  by_cases I:c=x
  ·subst I;exact .inr a
  ·rw[aw I]at e;rcases i c o e with z|z
   ·exact .inl z
   ·refine .inr ?_;by_cases hd:c=dx
    ·subst hd;exact Y
    ·rw[aw I,aw hd]at z;exact z
theorem de_newR{k:Nat}{g:List A3->M A3}{ps:List p_}(t:Mk X.K C fI)(U:i6 X.prog X.w X.K X.mg X.base CX0 k fI fdI ps (spI1 K C g))(B:i5 (k+1) X.A)(E:X.mg x=a_ (.ref C))(N:Binds X.K fdI ps [])(O:DA K C' X [e] fr)(G: ~~~(Gl X x))(m:((x==("__debug__":p_))=b_)⁻¹)(i: ~~~(iF [e] X.env=(b_,Gj e X.env)::iF [] X.env))(j: ~~~((GG pos (iF [] X.env)).any (·.1)=b_)):
  DE K C' b_ X (.Call (.Name x p) [e] [] pos) (fL (newR C g) fr):=by
 refine PE.imp (yZ t U B G E N .nil ql O m i j) λσ H Q h=>?_;obtain⟨F,ρ,r,s,p⟩:=rd_L h;refine⟨F,ρ,r,s,?_⟩
 cases e1:fr ρ with
 |error z=>rw[e1]at p;exact p|ok ds=>
  rw[e1]at p;intro vs F1 H1 st q;obtain⟨F2,n,I,A,z⟩:=p vs F1 H1 st q;rcases n with _|⟨d,_|⟨_,_⟩⟩
  ·exact aN.stuck z
  rotate_left
  ·exact aN.stuck z
  ·obtain⟨v,b,rfl,y,D⟩:=A;cases(show b=[]from D);intro x dx f a l;refine⟨x,dx,v,F2,d,rfl,aq,I.free f,λc o e=>?_,y,?_⟩
   ·have L:c≠x:=λh=>by rw[h,I.free f]at e;cases e
    have hd:c≠dx:=λh=>by rw[h,I.free a]at e;cases e
    rw[aw L,aw hd];exact I _ _ e
   ·have z:aN K C' b_ F2 H1 ((g [d]).bind λr=>.ok (.ins C [("gaps",r)])) Q:=z;cases Y:g [d]with
    |error e=>rw[Y]at z;exact Gy z|ok r=>
     rw[Y]at z;intro w F' H' h1 h2 u T S R P;refine⟨rfl,z (.ref x) (upd F' x (.ins C dx [("gaps",w)])) H' (A5.born I f a l h1 h2 u T S R) ?_⟩
     exact⟨x,dx,_,rfl,aq,w,[],rfl,aT.mono (aL.upd u) P,rfl⟩
theorem de_newP{k:Nat}{g:List A3->M A3}{ps:List p_}(D:Mk X.K C fI)(FI:i6 X.prog X.w X.K X.mg X.base CX0 k fI fdI ps (spI2 K C g))(O:i5 (k+1) X.A)(R:X.mg x=a_ (.ref C))(U:Binds X.K fdI ps [])(W:DA K C' X [e,a] fr)(S: ~~~(Gl X x))(y:((x==("__debug__":p_))=b_)⁻¹)(n: ~~~(iF [e,a] X.env=(b_,Gj e X.env)::iF [a] X.env))(t: ~~~((GG pos (iF [a] X.env)).any (·.1)=b_)):
  DE K C' b_ X (.Call (.Name x p) [e,a] [] pos) (fL (newP C g) fr):=by
 refine PE.imp (yZ D FI O S R U .nil ql W y n t) λσ H Q h=>?_;obtain⟨F,ρ,r,s,p⟩:=rd_L h;refine⟨F,ρ,r,s,?_⟩
 cases e1:fr ρ with
 |error z=>rw[e1]at p;exact p|ok ds=>
  rw[e1]at p;intro vs F1 H1 st q;obtain⟨F2,B,Y,N,z⟩:=p vs F1 H1 st q;rcases B with _|⟨d,_|⟨d2,_|⟨_,_⟩⟩⟩
  ·exact aN.stuck z
  ·exact aN.stuck z
  rotate_left
  ·exact aN.stuck z
  ·obtain⟨v,E,rfl,L,G,i,rfl,j,P⟩:=N;cases(show i=[]from P);intro x dx l f u;refine⟨x,dx,v,G,F2,d,d2,rfl,aq,Y.free l,λc o e=>?_,L,j,?_⟩
   ·have T:c≠x:=λh=>by rw[h,Y.free l]at e;cases e
    have hd:c≠dx:=λh=>by rw[h,Y.free f]at e;cases e
    rw[aw T,aw hd];exact Y _ _ e
   ·have z:aN K C' b_ F2 H1 ((g [d]).bind λr=>(g [d2]).bind λr2=>if twoL r r2=d_ then .ok (.ins C [("gaps",r),("beside",r2)])else stk) Q:=z;cases b:g [d]with
    |error e=>rw[b]at z;exact Gy z|ok r=>
     rw[b,aj]at z;cases I:g [d2]with
     |error e=>rw[I]at z;exact Gy z|ok r2=>
      rw[I,aj]at z;by_cases m:twoL r r2=d_
      ·rw[e_ m]at z;rw[aj,aj,e_ m];intro w w2 F' H' h1 h2 A h4 h5 h6 h7 Z;refine⟨rfl,z (.ref x) (upd F' x (.ins C dx [("gaps",w),("beside",w2)])) H' (A5.born Y l f u h1 h2 A h4 h5 h6) ?_⟩
       exact⟨x,dx,_,rfl,aq,w,_,rfl,aT.mono (aL.upd A) h7,w2,[],rfl,aT.mono (aL.upd A) Z,rfl⟩
      ·rw[k_ m]at z;exact aN.stuck z
end
def Itz(K:Pn)(a b:g_):It:=
 ⟨λi H=>∃xs ys x y,SqL K H a xs/\SqL K H b ys/\xs[i]?=a_ x/\ys[i]?=a_ y,λi H v H'=>∃T x y,H T=c_/\v=.ref T/\H'=upd H T (.tup [x,y])/\(∀xs,SqL K H a xs->xs[i]?=a_ x)/\∀ys,SqL K H b ys->ys[i]?=a_ y,λi H=>∃xs ys,SqL K H a xs/\SqL K H b ys/\(xs.length<=i\/ys.length<=i)⟩
theorem turn_zip{k:Nat}{g n l j Q O:g_}(D:ZipApart z g n l j Q O):
  Turn P w K (.Tuple elts k pos) (Itz K Q O) [z,g,n,l,j] z (λi h=>IsZip h z g n .none/\IsPair h g (.ref l) (.ref j)/\(∃a b,IsPair h n a b)/\h.IsListIter l Q i/\h.IsListIter j O i) where
 mem:=by simp
 obj:=λi h st b Y=>by
  obtain⟨m,d,⟨a,c,f⟩,⟨o1,e1,c1,d1⟩,⟨o2,e2,c2,d2⟩⟩:=st;simp only[t_,G4,Jr]at Y;rcases Y with rfl|rfl|rfl|rfl|rfl
  ·exact⟨_,m,λv q=>by cases q⟩
  ·exact⟨_,d,λv q=>by cases q⟩
  ·exact⟨_,f,λv q=>by cases q⟩
  ·exact⟨o1,e1,λv q=>by rw[d1]at q;cases q⟩
  ·exact⟨o2,e2,λv q=>by rw[d2]at q;cases q⟩
 keep:=λi h h' st t=>by obtain⟨m,d,⟨a,c,f⟩,h1,h2⟩:=st;exact⟨t z (by simp) _ m,t g (by simp) _ d,⟨a,c,t n (by simp) _ f⟩,h1.at λo x=>t l (by simp) o x,h2.at λo x=>t j (by simp) o x⟩
 item:=by
  intro X W hw Z hc i A4 s σ H E I G st T;subst W hw Z;obtain⟨m,d,⟨a,c,f⟩,h1,h2⟩:=st;obtain⟨xs,ys,x,y,F,C,gx,gy⟩:=T;obtain⟨A8,L,p,_⟩:=I.list F;obtain⟨A,r,p2,_⟩:=I.list C;obtain⟨u,hu,ru⟩:=L.get gx;obtain⟨u2,R,N⟩:=r.get gy;refine wpAny_pyNext_zip_item D m d f h1 h2 p.isList p2.isList (x:=u) (y:=u2) (by simpa using hu) (by simpa using R) λh' a1 a2 a3 a4 a5 a6 a7=>?_;refine⟨_,rfl,wpAny_letOwnedTupleGo_zip a1 λh2' b1 b2=>?_⟩
  have lz:z<s.heap.objs.size:=x_ m;have lTI:g<s.heap.objs.size:=x_ d;have lTO:n<s.heap.objs.size:=x_ f;have li1:l<s.heap.objs.size:=by obtain⟨o,e,_⟩:=h1;exact x_ e
  have li2:j<s.heap.objs.size:=by obtain⟨o,e,_⟩:=h2;exact x_ e
  have I1:A6 X A4 σ (upd H s.heap.objs.size (.tup [x,y])) {s with heap:=h2',toks:=s.toks}:=I.Dj (ch:=[z,g,n,l,j]) G (λb o Y q=>by simp only[t_,G4,Jr,Mb]at Y;exact(b2.2 b Y.1).trans (a7 b o Y.1 Y.2.2.1 Y.2.2.2.1 Y.2.2.2.2 q)) (sy _) ⟨by show 2<=f_;decide,[u,u2],.cons ru (.cons N .nil),⟨_,(b2.2 _ (JC lz)).trans a5,rfl,0,rfl⟩⟩
  refine⟨.ref s.heap.objs.size,_,I1,rfl,⟨s.heap.objs.size,x,y,I.hok.fresh (sy _),rfl,rfl,λzs S=>by rw[I.pk S F];exact gx,λzs S=>by rw[I.pk S C];exact gy⟩,
   ⟨b1,(b2.2 _ D.TIz).trans (a7 g _ D.TIz D.TITO D.TIi1 D.TIi2 d),⟨_,_,(b2.2 _ D.TOz).trans a2⟩,a3.at λo q=>(b2.2 _ D.i1z).trans q,a4.at λo q=>(b2.2 _ D.i2z).trans q⟩,λb Y=>?_⟩
  have U:=(G b Y).1;have:b≠s.heap.objs.size:=by simp only[t_,G4,Jr]at Y;rcases Y with rfl|rfl|rfl|rfl|rfl<;>exact Gs (by assumption)
  rw[aw this];exact U
 done:=by
  intro X W hw Z hc i A4 s σ H E I G st T;subst W hw Z;obtain⟨m,d,⟨a,c,f⟩,h1,h2⟩:=st;obtain⟨xs,ys,F,C,B⟩:=T;obtain⟨A8,L,p,_⟩:=I.list F;obtain⟨A,r,p2,_⟩:=I.list C;have e1:=L.length;have e2:=r.length;refine wpAny_pyNext_zip_end (I.ok.hd hc) D m d f h1 h2 p.isList p2.isList ?_ λh' hk=>⟨rfl,I.Dl (t':=s.toks) (ch:=[z,g,n,l,j]) G λb o Y q=>?_⟩
  ·rcases B with z|z
   ·exact .inl (L4 (by simp;omega))
   ·exact .inr (L4 (by simp;omega))
  ·simp only[t_,G4,Jr,Mb]at Y;exact hk b o Y.1 Y.2.2.1 Y.2.2.2.1 Y.2.2.2.2 q
 self:=λ_ _ _ _ _ st h=>Oq st.1 h
theorem Ah:∀(ds es:List A3) (i:Nat),(nA ds es)[i]?=(ds[i]?).bind λd=>(es[i]?).map λe=>.tup [d,e]
 |[],es,i=>by simp[nA]|d::ds,[],i=>by cases h:(d::ds)[i]?<;>simp[nA]
 |d::ds,e::es,0=>by simp[nA]|d::ds,e::es,i+1=>by rw[nA,I9,Ah ds es i,I9,I9]
theorem tW:∀(ds es:List A3),(nA ds es).length=min ds.length es.length
 |[],es=>by simp[nA]|d::ds,[]=>by simp[nA]|d::ds,e::es=>by rw[nA,Gi,tW ds es,Gi,Gi];omega
theorem iter_zip{xs ys:List V}{ds es:List A3}(t:SqL K F a xs)(z:aE K F ds xs)(t2:SqL K F b ys)(f:aE K F es ys):yh K F (Itz K a b) (nA ds es) where
 go:=λi F' H' Y I hi=>by rw[tW]at hi;exact⟨xs,ys,xs[i]'(by rw[z.length];omega),ys[i]'(by rw[f.length];omega),I.lst (Y.lst t),I.lst (Y.lst t2),Gr _,Gr _⟩
 yl:=λi F' H' x H2 d Y I hd l=>by
  obtain⟨T,j,g,h,ex,m,h1,h2⟩:=l;subst ex m;rw[Ah]at hd;cases c:ds[i]? with
  |none=>rw[c]at hd;cases hd|some d1=>
   cases e:es[i]? with
   |none=>rw[c,e]at hd;cases hd|some d2=>
    rw[c,e]at hd;simp at hd;subst hd;obtain⟨v,e1,q⟩:=z.get c;obtain⟨n,e2,k⟩:=f.get e;have e3:=h1 xs (I.lst (Y.lst t));have e4:=h2 ys (I.lst (Y.lst t2));rw[e1]at e3;rw[e2]at e4;cases e3;cases e4;refine⟨upd F' T (.tup [j,g]),A5.lay I h,T,_,rfl,SqT.of aq,?_⟩
    exact⟨j,[g],rfl,(q.mono Y).mono (aL.upd (I.free h)),g,[],rfl,(k.mono Y).mono (aL.upd (I.free h)),rfl⟩
 st:=λF' H' Y I=>⟨xs,ys,I.lst (Y.lst t),I.lst (Y.lst t2),by rw[z.length,f.length,tW];omega⟩
section
variable{W:eD}{a b:GX}
def iZip(K:Pn)(ta tb:TE):TI:=λσ H R=>ta σ H λx H1=>tb σ H1 λy H2=>∃a b,x=.ref a/\y=.ref b/\(∃xs,SqL K H2 a xs)/\(∃ys,SqL K H2 b ys)/\R (Itz K a b) H2
theorem pi_zip{k:Nat}(L:Gl X "zip")(G:X.mg "zip"=c_)(N:PE X a ta)(j:PE X b tb)(A:iF [a,b] X.env=[(b_,Gj a X.env),(b_,Gj b X.env)])(c:iF [b] X.env=[(b_,Gj b X.env)]):
  PI X (.Tuple elts k q) (.Call (.Name "zip" p) [a,b] [] pos) (iZip X.K ta tb):=by
 intro A4 s σ H R I h;have O:PA X [a,b] (aR ta (aR tb dP)):=ax N (ax j aO c) (by rw[A,c]);refine Call_ (sY I L G boot_zip (Jg (Bs (O pos A4 s σ H (λvs H1=>match vs with
  |[x,y]=>∃a b,x=.ref a/\y=.ref b/\(∃xs,SqL X.K H1 a xs)/\(∃ys,SqL X.K H1 b ys)/\R (Itz X.K a b) H1
  |_=>False) I h) λus Y ⟨vs,H1,g,D,i⟩=>?_) (by rw[A,c]) (by rw[c];rfl)))
 rcases vs with _|⟨x,_|⟨y,_|⟨_,_⟩⟩⟩
 ·exact Gy i
 ·exact Gy i
 rotate_left
 ·exact Gy i
 ·obtain⟨l,E,e1,e2,⟨xs,F⟩,⟨ys,n⟩,q⟩:=i;subst e1 e2;obtain⟨u,S,rfl,C,m⟩:=D.two;cases C;cases m;obtain⟨A8,T,pl,_⟩:=g.list F;obtain⟨w,B,d,_⟩:=g.list n;have a1:l<Y.heap.objs.size:=by obtain⟨_,e,_⟩:=pl.isList;exact x_ e
  have P:E<Y.heap.objs.size:=by obtain⟨_,e,_⟩:=d.isList;exact x_ e
  refine call_zip_2 pl.isList d.isList λh' z v t r o hsz K=>?_;have Q:A6 X A4 σ H1 {Y with heap:=h'}:=g.kept (t':=Y.toks) K;refine Oq z ?_;refine⟨Y.heap.objs.size+4,[Y.heap.objs.size+4,Y.heap.objs.size+2,Y.heap.objs.size+3,Y.heap.objs.size,Y.heap.objs.size+1],_,_,H1,rfl,Q,turn_zip (zipApart_new a1 P),⟨z,v,⟨_,_,t⟩,r,o⟩,λb j=>?_,q⟩
  have f:Y.heap.objs.size<=b:=by
   simp only[t_,G4,Jr]at j;rcases j with rfl|rfl|rfl|rfl|rfl
   ·exact J5 _ 4
   ·exact J5 _ 2
   ·exact J5 _ 3
   ·exact sy _
   ·exact J5 _ 1
  exact g.fpOk f (g.hok.fresh f)
theorem ri_zip{R:It->Hp->Prop}(h:iD K W (zI fa fb) σ H R):iZip K (tD K W b_ fa) (tD K W b_ fb) σ H R:=by
 obtain⟨F,ρ,r,s,p⟩:=h;refine aP r s (λe c=>?_) λd hd v F1 H1 Y j=>?_
 ·have z:zI fa fb ρ=.error e:=by unfold zI;rw[c];rfl
  rw[z]at p;exact p
 ·refine aP (r.mono Y.ff) Y.fh (λe c=>?_) λd2 f k F2 H2 I i=>?_
  ·have z:zI fa fb ρ=.error e:=by unfold zI;rw[hd,aj,c];rfl
   rw[z]at p;exact W.mono p Y
  ·have z:zI fa fb ρ=(mJ d).bind λds=>(mJ d2).bind λes=>.ok (nA ds es):=by unfold zI;rw[hd,aj,f,aj]
   rw[z]at p;cases d with
   |lst ds=>
    cases d2 with
    |lst es=>obtain⟨b,xs,e,t,g⟩:=j;obtain⟨b2,ys,e2,t2,a⟩:=i;have t':=I.ff.lst t;exact⟨b,b2,e,e2,⟨xs,I.fh.lst t'⟩,⟨ys,I.fh.lst t2⟩,p _ F2 H2 (Y.trans I) (iter_zip t' (g.mono I.ff) t2 a)⟩
    |_=>exact(W.ns p).elim
   |_=>exact(W.ns p).elim
theorem Bi{k:Nat}(c:X.mg "zip"=c_)(f:DE K W b_ X a fa)(e:DE K W b_ X b fb)(d: ~~~(Gl X "zip"))(Y: ~~~(iF [a,b] X.env=[(b_,Gj a X.env),(b_,Gj b X.env)]))(I: ~~~(iF [b] X.env=[(b_,Gj b X.env)]))(g: ~~~(X.K=K)):
  DI K W X (.Tuple elts k q) (.Call (.Name "zip" p) [a,b] [] pos) (zI fa fb):=by
 subst g;exact(pi_zip d c f e Y I).imp λ_ _ _=>ri_zip
end
theorem AS{n:Nat}:∀{ds:List A3} {d:A3},l5 ds n=d_->d∈ds->C6 d n=d_
 |[],d,_,h=>by simp at h|a::ds,d,h,hd=>by
  unfold l5 at h;simp only[l_]at h;rcases t_.mp hd with e|e
  ·rw[e];exact h.1
  ·exact AS h.2 e
section
variable{W:eD}{own:Bool}
open Classical in
theorem has_D(I:A6 X A4 σ H s)(hF:aL F H){ds:List A3}{xs:List V}{A8:List Value}{a:A3}{x:V}(od:l5 ds 40=true)(oa:C6 a 40=true)(qs:aE X.K F ds xs)(rv:B' xs A8)(qa:aT X.K F a x)(ra:A' x u)(hu:A.units+40<cLine):
  ∃e:Value->Bool,(∀y,y∈A8.toArray->SeqAt.EqAt A s y u (e y))/\A8.toArray.any e=ds.any λd=>eqD d a:=by
 have each:∀(i:Nat) (y:Value),A8[i]?=some y->∃d,ds[i]?=some d/\SeqAt.EqAt A s y u (eqD d a):=λi y hy=>by
  have hi:i<A8.length:=(List.getElem?_eq_some_iff.mp hy).1;have h1:i<xs.length:=by rw[rv.length];exact hi
  have h2:i<ds.length:=by rw[<- qs.length];exact h1
  obtain⟨v,e1,q1⟩:=qs.get (List.getElem?_eq_getElem h2);obtain⟨w,e2,r2⟩:=rv.get e1;rw[hy]at e2;cases e2;exact⟨_,List.getElem?_eq_getElem h2,F8 I hF _ a (AS od (List.getElem_mem h2)) oa q1 qa r2 ra hu⟩
 refine⟨λy=>decide (∃(i:Nat) (d:A3),A8[i]?=some y/\ds[i]?=some d/\eqD d a=true),λy hy=>?_,?_⟩
 ·by_cases h:∃(i:Nat) (d:A3),A8[i]?=some y/\ds[i]?=some d/\eqD d a=true
  ·obtain⟨i,d,h1,h2,h3⟩:=h;obtain⟨d',h4,h5⟩:=each i y h1;rw[h2]at h4;cases h4;rw[h3]at h5;have:decide (∃(i:Nat) (d:A3),A8[i]?=some y/\ds[i]?=some d/\eqD d a=true)=true:=decide_eq_true ⟨i,d,h1,h2,h3⟩;show SeqAt.EqAt A s y u (decide _);rw[this];exact h5
  ·have hm:y∈A8:=by simpa using hy
   obtain⟨i,hi⟩:=List.getElem?_of_mem hm;obtain⟨d,h4,h5⟩:=each i y hi;have h6:eqD d a=false:=by
    cases hq:eqD d a with
    |false=>rfl|true=>exact absurd ⟨i,d,hi,h4,hq⟩ h
   rw[h6]at h5;show SeqAt.EqAt A s y u (decide _);rw[decide_eq_false h];exact h5
 ·rw[Bool.eq_iff_iff];simp only[List.any_toArray,List.any_eq_true,decide_eq_true_eq];constructor
  ·rintro⟨y,hy,i,d,h1,h2,h3⟩;exact⟨d,List.mem_of_getElem? h2,h3⟩
  ·rintro⟨d,hd,h3⟩;obtain⟨i,hi⟩:=List.getElem?_of_mem hd;have h2:i<ds.length:=(List.getElem?_eq_some_iff.mp hi).1;have h4:i<A8.length:=by rw[<- rv.length,qs.length];exact h2
   exact⟨A8[i],List.getElem_mem h4,i,d,List.getElem?_eq_getElem h4,hi,h3⟩
theorem o_in(w:X.A.units+64<Hw)(r: ~~~(X.K=K)):Op2 K W own X (Gk .In) inM:=by
 subst r;intro A4 s σ H x y v u Q I n m h;obtain⟨F,a,b,f,q,o,p⟩:=h;have g:X.A.in1.units+40<Hw:=by show X.A.units+1+40<Hw;omega
 cases b with
 |lst ds=>
  obtain⟨l,xs,e,t,z⟩:=o;subst e;cases m;have c:aN X.K W own F H (if (C6 a 40&&l5 ds 40)=d_ then .ok (.bl (ds.any λd=>eqD d a))else stk) Q:=p;by_cases Y:(C6 a 40&&l5 ds 40)=d_
  ·rw[e_ Y]at c;simp only[l_]at Y;obtain⟨A8,i,pl,_⟩:=I.list (f.lst t);obtain⟨e,j,k⟩:=has_D (A:=X.A.in1) I f Y.2 Y.1 z i q n g;refine SeqAt.in_listAt e pl.isList j ?_;rw[k];exact c.blS f I
  ·rw[k_ Y]at c;exact c.stuck
 |tup ds=>
  obtain⟨l,xs,e,t,z⟩:=o;subst e;cases m;have c:aN X.K W own F H (if (C6 a 40&&l5 ds 40)=d_ then .ok (.bl (ds.any λd=>eqD d a))else stk) Q:=p;by_cases Y:(C6 a 40&&l5 ds 40)=d_
  ·rw[e_ Y]at c;simp only[l_]at Y;obtain⟨A8,i,pl,_⟩:=I.tuple (f.tup t);obtain⟨e,j,k⟩:=has_D (A:=X.A.in1) I f Y.2 Y.1 z i q n g;refine SeqAt.in_tupleAt e (show s.heap.IsTuple l A8.toArray from pl) j ?_;rw[k];exact c.blS f I
  ·rw[k_ Y]at c;exact c.stuck
 |_=>exact aN.stuck p
theorem jU(w:X.A.units+64<Hw)(r: ~~~(X.K=K)):Op2 K W own X (Gk .NotIn) ib:=by
 subst r;intro A4 s σ H x y v u Q I n m h;obtain⟨F,a,b,f,q,o,p⟩:=h;have g:X.A.in1.units+40<Hw:=by show X.A.units+1+40<Hw;omega
 cases b with
 |lst ds=>
  obtain⟨l,xs,e,t,z⟩:=o;subst e;cases m;have c:aN X.K W own F H (if (C6 a 40&&l5 ds 40)=d_ then .ok (.bl (!ds.any λd=>eqD d a))else stk) Q:=p;by_cases Y:(C6 a 40&&l5 ds 40)=d_
  ·rw[e_ Y]at c;simp only[l_]at Y;obtain⟨A8,i,pl,_⟩:=I.list (f.lst t);obtain⟨e,j,k⟩:=has_D (A:=X.A.in1) I f Y.2 Y.1 z i q n g;refine SeqAt.notIn_listAt e pl.isList j ?_;rw[k];exact c.blS f I
  ·rw[k_ Y]at c;exact c.stuck
 |tup ds=>
  obtain⟨l,xs,e,t,z⟩:=o;subst e;cases m;have c:aN X.K W own F H (if (C6 a 40&&l5 ds 40)=d_ then .ok (.bl (!ds.any λd=>eqD d a))else stk) Q:=p;by_cases Y:(C6 a 40&&l5 ds 40)=d_
  ·rw[e_ Y]at c;simp only[l_]at Y;obtain⟨A8,i,pl,_⟩:=I.tuple (f.tup t);obtain⟨e,j,k⟩:=has_D (A:=X.A.in1) I f Y.2 Y.1 z i q n g;refine SeqAt.notIn_tupleAt e (show s.heap.IsTuple l A8.toArray from pl) j ?_;rw[k];exact c.blS f I
  ·rw[k_ Y]at c;exact c.stuck
 |_=>exact aN.stuck p
end
abbrev ZRec(h:GQ)(z p q:g_)(m k:i_):Prop:=h.get? z=a_ {cls:=.type "zip",dict:=c_,data:=.fields #[m,k,.bool b_,.ref p,.ref q],slots:=#[]}
structure Zs(z p q u v l m:g_)(r k a b:i_)(i j:Nat)(xs ys:Array i_)(h:GQ):Prop where
 me:ZRec h z p q r k
 A8:IsPair h p (.ref u) (.ref v)
 own:IsPair h q a b
 one:h.IsListIter u l i
 two:h.IsListIter v m j
 xl:h.IsList l xs
 yl:h.IsList m ys
def Off(z q u v:g_)(h h':GQ):Prop:=∀c o,c≠z->c≠q->c≠u->c≠v->h.get? c=a_ o->h'.get? c=a_ o
section
variable{q u v:g_}{a b:i_}{g:GQ}
theorem Off.then(A:Off z q u v h h')(B:Off z q u v h' g):Off z q u v h g:=λc o a b d e x=>B c o a b d e (A c o a b d e x)
end
theorem A5.stays(s:A5 F H F' H')(n:F a=c_)(h:H a=a_ o):F' a=c_:=by
 cases e:F' a with
 |none=>rfl|some u=>
  rcases s.nw a u e with z|z
  ·rw[n]at z;cases z
  ·rw[h]at z;cases z
structure D4(K:Pn)(F G H:Hp)(ds:List A3)(vs:List V):Prop where
 len:vs.length=ds.length
 get:∀(k:Nat) (d:A3),ds[k]?=a_ d->∃a xs es,vs[k]?=a_ (.ref a)/\d=.lst es/\H a=a_ (.lst xs)/\F a=c_/\G a=c_/\aE K F es xs
 ap:∀(j k:Nat) (a:g_),vs[j]?=a_ (.ref a)->vs[k]?=a_ (.ref a)->j=k
section
variable{ds:List A3}
theorem D4.step(o:D4 K F G H ds vs)(s:A5 F H F' H'):D4 K F' G H' ds vs where
 len:=o.len
 get:=λk d e=>by obtain⟨a,xs,es,h1,h2,I,c,b,Y⟩:=o.get k d e;exact⟨a,xs,es,h1,h2,s.hh _ _ I,s.stays c I,b,Y.mono s.ff⟩
 ap:=o.ap
theorem D4.at(o:D4 K F G H ds vs){k:Nat}{a:g_}(h:vs[k]?=a_ (.ref a)):∃xs es,ds[k]?=a_ (.lst es)/\H a=a_ (.lst xs)/\F a=c_/\G a=c_/\aE K F es xs:=by
 have I:k<ds.length:=by rw[<- o.len];exact(tF.mp h).1
 obtain⟨b,xs,es,h1,h2,e,d,c,Y⟩:=o.get k ds[k] (by simp[I]);rw[h]at h1;cases h1;exact⟨xs,es,by rw[<- h2];simp[I],e,d,c,Y⟩
end
def rowAt(rs:List A3)(a:Int):M (Nat×List A3):=match ixN rs.length a with
 |some j=>(match rs[j]? with
  |some (.lst es)=>.ok (j,es)|_=>.error .stuck)
 |none=>.error .stuck
def setRow(rs:List A3)(I:Nat×List A3)(b:Int)(x:A3):M (List A3):=match ixN I.2.length b with
 |some k=>.ok (rs.set I.1 (.lst (I.2.set k x)))|none=>.error .stuck
def rows3(i:Nat)(rs:List A3)(x:A3)(Y:Nat×List A3)(a:ah->M A3)(ρ:ah):M A9:=(a (ρ.set i c_)).bind λb=>(asI b).bind λb=>(setRow rs Y b x).bind λI=>.ok (.nx (ρ.set i (a_ (.lst I))))
def rows2(i:Nat)(rs:List A3)(x:A3)(b Y:ah->M A3)(ρ:ah):M A9:=(b (ρ.set i c_)).bind λa=>(asI a).bind λa=>(rowAt rs a).bind λI=>rows3 i rs x I Y ρ
structure RepR(K:Pn)(F0 H0 FB:Hp)(i:Nat)(a:g_)(ys:List V)(rs:List A3)(F H:Hp)(σ:St)(ρ:ah):Prop where
 r:Rep K F0 H0 FB [] F H σ ρ
 sl:σ[i]?=a_ (a_ (.ref a))
 hp:H a=a_ (.lst ys)
 fa:F a=c_
 ha:H0 a=c_
 nm:∀m:Nat,ys[m]?≠a_ (.ref a)
 ow:D4 K F H0 H rs ys
section
variable{ys:List V}{rs:List A3}
theorem RepR.step(h:RepR K F0 H0 FB i a ys rs F H σ ρ)(s:A5 F H F1 H1):RepR K F0 H0 FB i a ys rs F1 H1 σ ρ:=
 ⟨h.r.step s,h.sl,s.hh _ _ h.hp,s.stays h.fa h.hp,h.ha,h.nm,h.ow.step s⟩
theorem RepR.base{I:Hp}(h:RepR K F0 H0 FB i a ys rs F H σ ρ)(s:aL I FB):RepR K F0 H0 I i a ys rs F H σ ρ:=⟨h.r.base s,h.sl,h.hp,h.fa,h.ha,h.nm,h.ow⟩
end
section
variable{κ:Type}[DecidableEq κ]
noncomputable def vz(A7:List (κ×V))(k:κ):Option V:=(A7.find? λI=>q_ (I.1=k)).map (·.2)
noncomputable def putK(A7:List (κ×V))(k:κ)(v:V):List (κ×V):=
 if (A7.any λI=>q_ (I.1=k))=d_ then A7.map (λI=>if I.1=k then(I.1,v)else I)else A7++[(k,v)]
noncomputable def dropK(A7:List (κ×V))(k:κ):List (κ×V):=A7.filter λI=>q_ (I.1≠k)
theorem Al{k:κ}:vz ([]:List (κ×V)) k=c_:=rfl
theorem m5{p:κ×V}{r:List (κ×V)}{k:κ}(e:p.1=k):vz (p::r) k=a_ p.2:=by simp[vz,G1,e]
theorem m7{p:κ×V}{r:List (κ×V)}{k:κ}(e:¬p.1=k):vz (p::r) k=vz r k:=by simp[vz,G1,e]
theorem pb(k:κ):∀A7:List (κ×V),(A7.any λI=>q_ (I.1=k))=(vz A7 k).isSome
 |[]=>rfl|p::r=>by
  rw[LQ];by_cases e:p.1=k
  ·simp only[m5 e,r_ e,Bool.true_or,My]
  ·rw[m7 e,j_ e,Bool.false_or];exact pb k r
theorem lG(A7:List (κ×V))(k:κ)(v:V):(putK A7 k v).length<=A7.length+1:=by
 unfold putK;split
 ·rw[u_];omega
 ·rw[Gp,Gi,Lc];omega
theorem AK{A7:List (κ×V)}{k:κ}(v:V)(h:vz A7 k=c_):putK A7 k v=A7++[(k,v)]:=by unfold putK;rw[pb,h];exact k_ (by decide)
theorem p8.xn{o:Option V}{u:Option i_}(r:p8 o u):o.isSome=u.isSome:=by
 cases o with
 |none=>cases u with
  |none=>rfl|some _=>exact(show False from r).elim
 |some _=>cases u with
  |none=>exact(show False from r).elim|some _=>rfl
theorem p8.getD{o:Option V}{u:Option i_}{d:V}{d':i_}(r:p8 o u)(I:A' d d'):A' (o.getD d) (u.getD d'):=by
 cases o with
 |none=>cases u with
  |none=>exact I|some _=>exact(show False from r).elim
 |some _=>cases u with
  |none=>exact(show False from r).elim|some _=>exact r
theorem KV.val{A7:List (κ×V)}{vs:List (κ×i_)}(r:KV A7 vs)(k:κ):p8 (vz A7 k) (Lf vs k):=by
 unfold KV at r
 induction r with
 |nil=>exact G7|@cons p q ps I h t a=>
  obtain⟨h1,h2⟩:=h;by_cases e:p.1=k
  ·have Y:q.1=k:=h1.symm.trans e;have b:Lf (q::I) k=a_ q.2:=by simp[Lf,G1,Y]
   rw[m5 e,b];exact h2
  ·have Y:¬q.1=k:=λz=>e (h1.trans z);have b:Lf (q::I) k=Lf I k:=by simp[Lf,G1,Y]
   rw[m7 e,b];exact a
theorem KV.any{A7:List (κ×V)}{vs:List (κ×i_)}(r:KV A7 vs)(k:κ):(A7.any λI=>q_ (I.1=k))=vs.any λI=>q_ (I.1=k):=by
 unfold KV at r
 induction r with
 |nil=>rfl|cons h t Y=>rw[LQ,LQ,Y,h.1]
theorem KV.repl{A7:List (κ×V)}{vs:List (κ×i_)}(r:KV A7 vs)(k:κ)(Y:A' y u):
  KV (A7.map λI=>if I.1=k then(I.1,y)else I) (vs.map λI=>if I.1=k then(I.1,u)else I):=by
 unfold KV at r ⊢
 induction r with
 |nil=>exact .nil|@cons p q ps b h t a=>
  rw[F_,F_];refine .cons ?_ a;obtain⟨h1,h2⟩:=h;by_cases e:p.1=k
  ·rw[e_ e,e_ (h1.symm.trans e)];exact⟨h1,Y⟩
  ·rw[k_ e,k_ (λz=>e (h1.trans z))];exact⟨h1,h2⟩
theorem KV.put{A7:List (κ×V)}{vs:List (κ×i_)}(r:KV A7 vs)(k:κ)(I:A' y u):KV (putK A7 k y) (stored vs k u):=by
 unfold putK stored;rw[r.any k];by_cases e:(vs.any λY=>q_ (Y.1=k))=d_
 ·rw[e_ e,e_ e];exact r.repl k I
 ·rw[k_ e,k_ e];exact L9 r ⟨rfl,I⟩
theorem KV.drop{A7:List (κ×V)}{vs:List (κ×i_)}(r:KV A7 vs)(k:κ):KV (dropK A7 k) (without vs k):=by
 unfold KV at r ⊢;unfold dropK without
 induction r with
 |nil=>exact .nil|@cons p q ps c h t I=>
  obtain⟨h1,h2⟩:=h;rw[Nu,Nu];by_cases e:p.1=k
  ·have a:¬q_ (p.1≠k)=d_:=by simp[e]
   have b:¬q_ (q.1≠k)=d_:=by simp[h1.symm.trans e]
   rw[k_ a,k_ b];exact I
  ·have Y:¬q.1=k:=λz=>e (h1.trans z);have a:q_ (p.1≠k)=d_:=by simp[e]
   have b:q_ (q.1≠k)=d_:=by simp[Y]
   rw[e_ a,e_ b];exact .cons ⟨h1,h2⟩ I
theorem KV.length{A7:List (κ×V)}{vs:List (κ×i_)}(r:KV A7 vs):A7.length=vs.length:=JM r
end
theorem EJ{k:Key}(r:A' (kV k) u):(cT P w).is k u=d_:=by
 cases k with
 |inl i=>obtain⟨t,e⟩:=(show ∃t,u=G2 i t from r);subst e;exact zr P w i t
 |inr x=>obtain⟨t,e⟩:=(show ∃t,u=Hu x t from r);subst e;exact zq P w x t
theorem xk{P:GO}{w:Hg}:∀{ks:List Key} {us:List i_},B' (ks.map kV) us->ItemsAre (cT P w) ks us
 |[],_,r=>by rw[Iu]at r;cases r;exact .nil|k::ks,_,r=>by
  rw[F_]at r;cases r with
  |cons h t=>exact .cons (EJ h) (xk t)
abbrev KT(H:Hp):List (List Key×V)->List (List Key×g_×i_)->Prop:=Jo λp q=>p.1=q.1/\H q.2.1=a_ (.tup (p.1.map kV))/\A' p.2 q.2.2
theorem KT.val{xs:List (List Key×g_×i_)}(r:KT H A7 xs)(k:List Key):p8 (vz A7 k) ((Kq xs k).map (·.2)):=by
 induction r with
 |nil=>exact G7|@cons p q ps I h t a=>
  obtain⟨h1,_,h2⟩:=h;by_cases e:p.1=k
  ·have Y:q.1=k:=h1.symm.trans e;have b:Kq (q::I) k=a_ q.2:=by simp[Kq,G1,Y]
   rw[m5 e,b];exact h2
  ·have Y:¬q.1=k:=λz=>e (h1.trans z);have b:Kq (q::I) k=Kq I k:=by simp[Kq,G1,Y]
   rw[m7 e,b];exact a
theorem KT.repl{xs:List (List Key×g_×i_)}(r:KT H A7 xs)(k:List Key)(Y:A' y u):
  KT H (A7.map λI=>if I.1=k then(I.1,y)else I) (xs.map (putAt k u)):=by
 induction r with
 |nil=>exact .nil|@cons p q ps c h t a=>
  rw[F_,F_];refine .cons ?_ a;obtain⟨h1,h2,b⟩:=h;unfold putAt;by_cases e:p.1=k
  ·rw[e_ e,e_ (h1.symm.trans e)];exact⟨h1,h2,Y⟩
  ·rw[k_ e,k_ (λz=>e (h1.trans z))];exact⟨h1,h2,b⟩
theorem KT.put{xs:List (List Key×g_×i_)}(r:KT H A7 xs)(k:List Key)(a:H b=a_ (.tup (k.map kV)))(I:A' y u):
  KT H (putK A7 k y) (N6 xs k b u):=by
 have e:(A7.any λY=>q_ (Y.1=k))=(Kq xs k).isSome:=by rw[pb,(r.val k).xn,I_]
 unfold putK N6;rw[e];by_cases q:(Kq xs k).isSome=d_
 ·rw[e_ q,e_ q];exact r.repl k I
 ·rw[k_ q,k_ q];exact L9 r ⟨rfl,a,I⟩
theorem KT.keeps{xs:List (List Key×g_×i_)}(r:KT H A7 xs)(I:∀b ys,H b=a_ (.tup ys)->H' b=a_ (.tup ys)):KT H' A7 xs:=
 Paired.mapP r λ_ _ z=>⟨z.1,I _ _ z.2.1,z.2.2⟩
theorem rd_of{u:HO}(I:HOk P w H h)(e:Rd H a u):cN P w H h a u:=e.ok I
theorem Fp{A7:List (Key×V)}(I:HOk P w H h)(e:Rd H a (.dK A7)):A7.length<=f_/\(a==G6)=b_/\∃vs,KV A7 vs/\h.DictOf (cT P w) a vs:=
 show cN P w H h a (.dK A7)from rd_of I e
theorem dk_of{A7:List (Key×V)}(I:HOk P w H h)(e:H a=a_ (.dK A7)):A7.length<=f_/\(a==G6)=b_/\∃vs,KV A7 vs/\h.DictOf (cT P w) a vs:=Fp I (.inl e)
theorem B3{ks:List Key}(I:HOk P w H h)(e:H a=a_ (.tup (ks.map kV))):(Kd (cT P w)).is h ks a:=by
 obtain⟨_,A8,r,o,h1,h2,n,Y⟩:=(show cN P w H h a (.tup (ks.map kV))from I a _ e)
 exact⟨o,A8.toArray,n,h1,h2,Y,by simpa using xk r⟩
theorem Ff(b:HOk P w H h)(e:Rd H a (.dT A7)):A7.length<=f_/\(a==G6)=b_ /\
  ∃xs,KT H A7 xs/\h.DictOfH (Kd (cT P w)) a xs:=by
 obtain⟨z,y,xs,r,o,es,ep,h1,h2,i,g,f⟩:=(show cN P w H h a (.dT A7)from rd_of b e)
 refine⟨z,y,xs,r,o,es,ep,h1,h2,i,g,λx I=>?_,f⟩
 have Y:∀{l:List (List Key×V)} {m:List (List Key×g_×i_)},KT H l m->∀x∈m,(Kd (cT P w)).is h x.1 x.2.1:=by
  intro l m q
  induction q with
  |nil=>intro x I;exact nomatch I
  |@cons p q ps j c t d=>
   intro x I;rcases t_.mp I with e|I
   ·subst e;exact B3 b (by rw[<- c.1];exact c.2.1)
   ·exact d x I
 exact Y r x I
theorem dt_of(I:HOk P w H h)(e:H a=a_ (.dT A7)):A7.length<=f_/\(a==G6)=b_ /\
  ∃xs,KT H A7 xs/\h.DictOfH (Kd (cT P w)) a xs:=Ff I (.inl e)
def yj(H:Hp)(a:g_)(y:V)(r:Option V):Prop:=
 (∃A7 k,Rd H a (.dK A7)/\y=kV k/\r=vz A7 k)\/∃A7 k b,Rd H a (.dT A7)/\y=.ref b/\H b=a_ (.tup (k.map kV))/\r=vz A7 k
def DPut(H:Hp)(a:g_)(y v:V)(H':Hp):Prop:=
 (∃A7 k,H a=a_ (.dK A7)/\y=kV k/\A7.length<f_/\H'=upd H a (.dK (putK A7 k v))) \/
 ∃A7 k b,H a=a_ (.dT A7)/\y=.ref b/\H b=a_ (.tup (k.map kV))/\A7.length<f_/\H'=upd H a (.dT (putK A7 k v))
theorem yj.k{H:Hp}{a:g_}{A7:List (Key×V)}{k:Key}(e:H a=a_ (.dK A7)):yj H a (kV k) (vz A7 k):=.inl ⟨A7,k,.inl e,rfl,rfl⟩
theorem yj.t{k:List Key}(e:H a=a_ (.dT A7))(I:H b=a_ (.tup (k.map kV))):yj H a (.ref b) (vz A7 k):=.inr ⟨A7,k,b,.inl e,rfl,I,rfl⟩
theorem DPut.t{k:List Key}(e:H a=a_ (.dT A7))(Y:H b=a_ (.tup (k.map kV)))(I:A7.length<f_):
  DPut H a (.ref b) v (upd H a (.dT (putK A7 k v))):=.inr ⟨A7,k,b,e,rfl,Y,I,rfl⟩
section
variable{r:i_}{o:Option V}{E:Mq}
theorem A6.big(I:A6 X A4 σ H s):G6<s.heap.objs.size:=by have h:GA<s.heap.objs.size:=(I.mod.glob.keeps I.bk).lt;exact Ka (by decide) h
theorem FD{Q:Mq}(m:A.units+1<Hw)(I:A6 X A4 σ H s)(g:yj H a y (a_ v))(j:A' y u)(h:∀d s',A6 X A4 σ H s'->A' v d->Q d s'):
  Cb (D_ X.prog X.w) A (KQ (.ref a) u) Q E s:=by
 rcases g with⟨A7,k,e,i,l⟩|⟨A7,k,b,e,i,q,l⟩
 ·subst i;obtain⟨z,hd,vs,c,dd⟩:=Fp I.hok e;obtain⟨d,hw,Y⟩:=p8.some_of (v:=v) (o:=Lf vs k) (by rw[l];exact c.val k);exact wpAny_getItem_of (EJ j) dd.mapOf hw (h d _ (I.tok _) Y)
 ·subst i;cases(show u=FZ b from j);obtain⟨z,hd,xs,c,dd⟩:=Ff I.hok e;obtain⟨d,hw,Y⟩:=p8.some_of (v:=v) (o:=(Kq xs k).map (·.2)) (by rw[l];exact c.val k);obtain⟨p,n,f⟩:=LP.mp hw;refine wpAny_getItem_heap (Jd m) (B3 I.hok q) dd n ?_;rw[f];exact h d _ (I.tok _) Y
theorem zO{t':Nat}{Y:HO}(I:A6 X A4 σ H s)(d:Mut (H a))(f:Jz a s.heap h')(g:∃q,h'.get? a=a_ q)(c:cN X.prog X.w (upd H a Y) h' a Y):
  A6 X A4 σ (upd H a Y) {s with heap:=h',toks:=t'}:=
 I.write (x:=a) (e:=a) d (.inl rfl) (λb q h z=>(f.2 b h).trans z) g c
theorem dk_new{A7:List (Key×V)}{vs:List (Key×i_)}(z:A7.length<=f_)(hd:(a==G6)=b_)(I:KV A7 vs)(dd:h'.DictOf (cT P w) a vs):
  cN P w H' h' a (.dK A7):=⟨z,hd,vs,I,dd⟩
theorem Fz{Q:Unit->y_->Prop}(B:A.units+1<Hw)(I:A6 X A4 σ H s)(g:DPut H a y v H')(p:A' y u)(t:A' v r)(h:∀s',A6 X A4 σ H' s'->Q () s'):
  Cb (D_ X.prog X.w) A (N9 (.ref a) u r) Q E s:=by
 rcases g with⟨A7,k,e,n,l,o⟩|⟨A7,k,b,e,n,x,l,o⟩
 ·subst n o;obtain⟨z,hd,vs,Y,dd⟩:=dk_of I.hok e;have i:vs.length<=f_:=by rw[<- Y.length];exact z
  have m:(putK A7 k v).length<=f_:=by have:=lG A7 k v;omega
  refine wpAny_setItem_pairs (hsz:=i) (EJ p) dd λh' d j=>h _ ?_;have C:∃q,h'.get? a=a_ q:=let ⟨q,_,_,f,_⟩:=d;⟨q,f⟩;exact zO I (by rw[e];exact G7) j C (dk_new m hd (Y.put k t) d)
 ·subst n o;cases(show u=FZ b from p);obtain⟨z,hd,xs,Y,dd⟩:=dt_of I.hok e;have i:xs.length<=f_:=by rw[<- JM Y];exact z
  have m:(putK A7 k v).length<=f_:=by have:=lG A7 k v;omega
  refine NK (hsz:=i) (Jd B) (B3 I.hok x) dd λh' d j=>h _ ?_;obtain⟨q,es,ep,f,h2,G,F,_,D⟩:=d;refine zO I (by rw[e];exact G7) j ⟨q,f⟩ ⟨m,hd,_,(Y.put k x t).keeps λc ys w=>?_,q,es,ep,f,h2,G,F,D⟩;rw[aw (ne_of w e (λz=>nomatch z))];exact w
end
def NoSl(i:GX):Prop:=∀I Y,LI i b_ I Y=operate [I,Y] (KQ I Y)
theorem subD_of{E:Mq}{env:KS}{I:GX}{id:String}{Q:Mq}(j:NO (.type T) "__getitem__"=Hq (a_ (.builtin id)))(g:NoSl I)(h:Cb (D_ prog w) A (Gj value env) (λo c=>Cb (D_ prog w) A (Gj I env) (λi Y=>Y.TypeIs o T/\Cb (D_ prog w) A (KQ o i) Q E Y) E c) E s):
  Cb (D_ prog w) A (Gj (.Subscript value I pos) env) Q E s:=by
 refine NV (GK h (λo c e=>GK e (λi Y a=>?_) λ_ _ x=>x) λ_ _ x=>x);obtain⟨f,a⟩:=a;unfold MT;refine h_ ?_;rw[getitemInPython_of_ne f.not_modules];refine h_ (wpAny_specialOf f j ?_);have fin:Cb (D_ prog w) A (LI I b_ o i) (λr b=>Cb (D_ prog w) A (letTemporaryGo value o r >>=λ_=>Hq r) Q E b) E Y:=by rw[g o i];exact wpAny_operating (GK a (λr b d=>h_ (wpAny_letTemporaryGo (z_ d))) λ_ _ x=>x)
 first
  |exact z_ (h_ fin)
  |exact wpAny_bind (wpAny_pure (wpAny_bind fin))
  |exact wpAny_bind fin
theorem zL{o:Option V}(I:A6 X A4 σ H s)(g:yj H a y o):s.TypeIs (.ref a) "dict":=by
 rcases g with⟨A7,k,e,_,_⟩|⟨A7,k,b,e,_,_,_⟩
 ·obtain⟨_,_,vs,_,dd⟩:=Fp I.hok e;exact dd.typeIs
 ·obtain⟨_,_,xs,_,dd⟩:=Ff I.hok e;exact dd.typeIs
def tDGet(td ty:TE):TE:=λσ H Q=>td σ H λx H1=>ty σ H1 λy H2=>∃a v,x=.ref a/\yj H2 a y (a_ v)/\Q v H2
def sDPut(td ty tv:TE):TS:=λD σ H=>tv σ H λv H1=>td σ H1 λx H2=>ty σ H2 λy Y=>∃a I,x=.ref a/\DPut Y a y v I/\D.nx σ I
section
variable{o i:GX}{ty tv:TE}
theorem z9(l:X.A.units+1<Hw)(n:PE X o td)(hi:PE X i ty)(m:NoSl i):PE X (.Subscript o i pos) (tDGet td ty):=by intro A4 s σ H Q I h;refine subD_of PySem.F.slot_dict_getitem.lookup m (Bs (n A4 s σ H _ I h) λu d b=>?_);obtain⟨x,H1,q,f,k⟩:=b;refine Bs (hi A4 d σ H1 _ q k) λz w b=>?_;obtain⟨y,H2,c,e,a,v,ex,g,j⟩:=b;subst ex;obtain rfl:u=FZ a:=f;exact⟨zL c g,FD l c g e λr t p Y=>⟨v,H2,p,Y,j⟩⟩
theorem ps_dput(m:X.A.units+1<Hw)(p:PE X o td)(hi:PE X i ty)(hv:PE X value tv)(n:Hr value (a_ (.Subscript o i pos')) pos.line X.env=Hq b_):
  PS X (.Assign [.Subscript o i pos'] value pos) (sDPut td ty tv):=by
 intro A4 s σ H D I h;refine M9 (Bs (hv A4 s σ H _ I h) λr c Y=>?_) n;obtain⟨v,H1,z,f,l⟩:=Y;refine Bs (p A4 c σ H1 _ z l) λu b Y=>?_;obtain⟨x,H2,w,e,k⟩:=Y;refine Bs (hi A4 b σ H2 _ w k) λE C Y=>?_;obtain⟨y,F,t,d,a,A,ex,g,j⟩:=Y;subst ex;obtain rfl:u=FZ a:=e;exact Fz m t g d f λB q=>⟨σ,A,q,j⟩
end
theorem dk_empty(h:GQ)(I:G6<h.objs.size):cN P w H (h.push {cls:=.type "dict",data:=.dict #[]}) h.objs.size (.dK []):=
 ⟨GS _,HC.mpr (Gv (Gs I)),[],.nil,Heap.DictOf.new h⟩
theorem dt_empty(h:GQ)(I:G6<h.objs.size):cN P w H (h.push {cls:=.type "dict",data:=.dict #[]}) h.objs.size (.dT []):=
 ⟨GS _,HC.mpr (Gv (Gs I)),[],.nil,_,#[],0,E_ _ rfl,⟨rfl,rfl,rfl⟩,rfl,rfl,Kg⟩
def Au:TE:=λ_ H Q=>∀p,H p=c_->Q (.ref p) (upd H p (.dT []))
theorem uB:PE X (.Dict [] [] pos) Au:=λA4 s σ H Q I h=>Ov ⟨.ref s.heap.objs.size,_,I.laid (a:=s.heap.objs.size) (o:=.dT []) (t':=s.toks) (λ_ _ q=>n_ _ q) (sy _) (dt_empty s.heap I.big),rfl,h _ (I.hok.fresh (sy _))⟩
def Du:List (TE×TE)->St->Hp->(List (V×V)->Hp->Prop)->Prop
 |[],_,H,Q=>Q [] H|(tk,tv)::r,σ,H,Q=>tk σ H λx H1=>tv σ H1 λy H2=>Du r σ H2 λps I=>Q ((x,y)::ps) I
abbrev VV:List (V×V)->List (i_×i_)->Prop:=Jo λp q=>A' p.1 q.1/\A' p.2 q.2
def PPs(X:Cx)(pos:Of)(Y:List (Option GX))(I:List GX)(trs:List (TE×TE)):Prop:=
 ∀(A4:Vp) (s:y_) (σ:St) (H:Hp) (Q:List (V×V)->Hp->Prop),A6 X A4 σ H s->Du trs σ H Q ->
  Cb (D_ X.prog X.w) X.A (evalPairs (pairTrees Y I X.env pos)) (λvs s'=>∃ps H',A6 X A4 σ H' s'/\VV ps vs/\Q ps H') X.xe s
theorem pps_nil:PPs X pos [] [] []:=λA4 s σ H Q I h=>pairTrees_nil_walk ⟨[],H,I,.nil,h⟩
theorem AO{k v:GX}{ks:List (Option GX)}{vs:List GX}{tk tv:TE}(j:PE X k tk)(hv:PE X v tv)(i:PPs X pos ks vs trs):
  PPs X pos (a_ k::ks) (v::vs) ((tk,tv)::trs):=λA4 s σ H Q I h=>
 pairTrees_cons_walk (Bs (j A4 s σ H _ I h) λu b ⟨x,H1,n,d,g⟩=>Bs (hv A4 b σ H1 _ n g) λw2 a ⟨y,H2,m,c,f⟩=>Bs (i A4 a σ H2 _ m f) λws p ⟨ps,o,l,Y,e⟩=>⟨(x,y)::ps,o,l,.cons ⟨d,c⟩ Y,e⟩)
def ou(A7 I:List (Key×V)):List (Key×V):=I.foldl (λY a=>putK Y a.1 a.2) A7
theorem KV.merge:∀{I:List (Key×V)} {rs:List (Key×i_)} {A7:List (Key×V)} {vs:List (Key×i_)},KV I rs->KV A7 vs->KV (ou A7 I) (merged vs rs):=by
 intro I rs A7 vs r;unfold KV at r
 induction r generalizing A7 vs with
 |nil=>intro q;exact q|@cons p q ps b h t a=>
  intro Y;have e:KV (putK A7 p.1 p.2) (stored vs q.1 q.2):=by have:=Y.put p.1 h.2;rw[<- h.1];exact this
  exact a e
theorem mG:∀(I A7:List (Key×V)),(ou A7 I).length<=A7.length+I.length
 |[],A7=>by show A7.length<=A7.length+0;omega|p::r,A7=>by have h1:=mG r (putK A7 p.1 p.2);have h2:=lG A7 p.1 p.2;show(ou (putK A7 p.1 p.2) r).length<=_;rw[Gi];omega
theorem tP{P:GO}{w:Hg}:∀{A7:List (Key×V)} {ws:List (i_×i_)},VV (A7.map λI=>(kV I.1,I.2)) ws->∃rs,Carries (cT P w) ws rs/\KV A7 rs
 |[],_,r=>by rw[Iu]at r;cases r;exact⟨[],G7,.nil⟩|p::A7,_,r=>by
  rw[F_]at r;cases r with
  |@cons a b as bs h t=>obtain⟨rs,c,q⟩:=tP (P:=P) (w:=w) t;obtain⟨b1,b2⟩:=b;exact⟨(p.1,b2)::rs,⟨EJ h.1,rfl,c⟩,.cons ⟨rfl,h.2⟩ q⟩
def tDisp(trs:List (TE×TE)):TE:=λσ H Q=>∀p,H p=c_->Du trs σ (upd H p (.dK [])) λps H2=>H2 p=a_ (.dK [])/\∃A7:List (Key×V),ps=A7.map (λI=>(kV I.1,I.2))/\A7.length<=15/\Q (.ref p) (upd H2 p (.dK (ou [] A7)))
theorem pe_disp{Y:List (Option GX)}{b:List GX}(h:PPs X pos Y b trs)(d:Y.all (·.isSome)=d_)(x:Y.length=b.length)(A:Y≠[])(i:Y.length<=15):PE X (.Dict Y b pos) (tDisp trs):=by
 intro A4 s σ H Q I q;have v:=I.hok.fresh (sy s.heap.objs.size);have B:=I.laid (a:=s.heap.objs.size) (o:=.dK []) (h':=s.heap.push {cls:=.type "dict",data:=.dict #[]}) (t':=s.toks) (λ_ _ q=>n_ _ q) (sy _) (dk_empty s.heap I.big);refine wpAny_Dict_walk (knd:=cT X.prog X.w) d x A i (Bs (h A4 _ σ _ _ B (q _ v)) λws C u=>?_);obtain⟨ps,H2,j,g,e,A7,ep,D,n⟩:=u;subst ep;obtain⟨rs,c,l⟩:=tP (P:=X.prog) (w:=X.w) g;obtain⟨z,hd,k,m,dd⟩:=dk_of j.hok e;cases m;refine⟨rs,c,dd,λh' f r=>⟨.ref s.heap.objs.size,_,?_,rfl,n⟩⟩
 have p:(ou [] A7).length<=f_:=by have h1:=mG A7 [];rw[Lc]at h1;rw[C_];omega
 have y:∃q,h'.get? s.heap.objs.size=a_ q:=let ⟨q,_,_,t,_⟩:=f;⟨q,t⟩;exact zO j (by rw[e];exact G7) r y (dk_new p hd (l.merge .nil) f)
structure M2(X:Cx)(o:GX)(m:p_)(apos:Of)(e f:GX)(cpos:Of):Prop where
 base:Ha o m X.env (Gj o X.env)=Gj o X.env
 few:((GG cpos (iF [e,f] X.env)).all (λx=> !x.1)&&(HZ cpos (Hi [] X.env)).all (λx=>x.1.isSome)
  &&q_ (([e,f]:List GX).length+([]:List IG).length+(if ([]:List IG).isEmpty then 0 else 1)<30))=d_
 line:(apos.endLine==cpos.line)=d_
 trees:GG cpos (iF [e,f] X.env)=[(b_,Gj e X.env),(b_,Gj f X.env)]
def IsD(H:Hp)(a:g_):Prop:=(∃A7,Rd H a (.dK A7))\/∃A7,Rd H a (.dT A7)
theorem isD_at(I:A6 X A4 σ H s)(d:IsD H a):
  s.TypeIs (.ref a) "dict"/\(∀b,FZ a=.ref b->∃Y,s.heap.get? b=a_ Y/\Y.dict=c_)/\(a==G6)=b_:=by
 rcases d with⟨A7,e⟩|⟨A7,e⟩
 ·obtain⟨_,hd,vs,_,dd⟩:=Fp I.hok e;refine⟨dd.typeIs,λb q=>?_,hd⟩
  cases q;obtain⟨Y,_,_,h1,h2,_⟩:=dd;exact⟨Y,h1,h2.2.1⟩
 ·obtain⟨_,hd,xs,_,dd⟩:=Ff I.hok e;refine⟨dd.typeIs,λb q=>?_,hd⟩
  cases q;obtain⟨Y,_,_,h1,h2,_⟩:=dd;exact⟨Y,h1,h2.2.1⟩
section
variable{d:V}{r:i_}{o:Option V}{E:Mq}
theorem d_get2{Q:Mq}(m:A.units+1<Hw)(I:A6 X A4 σ H s)(g:yj H a y o)(i:A' y u)(j:A' d r)(h:∀f s',A6 X A4 σ H s'->A' (o.getD d) f->Q f s'):
  Cb (D_ X.prog X.w) A (Jn (.builtin "dict.get") [.ref a,u,r]) Q E s:=by
 rcases g with⟨A7,k,e,c,l⟩|⟨A7,k,b,e,c,n,l⟩
 ·subst c;obtain⟨z,hd,vs,Y,dd⟩:=Fp I.hok e;refine Nc Iw dd.typeIs JW (JQ _ _ _) (meets_dict_get_default (cT X.prog X.w) a (EJ i) hd r) ⟨_,dd.mapOf,h _ _ (I.tok _) ?_⟩;rw[l];exact(Y.val k).getD j
 ·subst c;cases(show u=FZ b from i);obtain⟨z,hd,xs,Y,dd⟩:=Ff I.hok e;refine Nc Iw dd.typeIs JW (JQ _ _ _) (MY (Kd (cT X.prog X.w)) a b hd r) ⟨Jd m,k,xs,B3 I.hok n,dd,h _ _ (I.tok _) ?_⟩;rw[l];exact(Y.val k).getD j
end
def tDGet2(td ty tx:TE):TE:=λσ H Q=>td σ H λx H1=>∃a,x=.ref a/\IsD H1 a/\ty σ H1 λy H2=>tx σ H2 λz I=>∃o,yj I a y o/\Q (o.getD z) I
section
variable{o f:GX}{ty tx:TE}
theorem pe_dget2(r:X.A.units+1<Hw)(v:PE X o td)(A:PE X e ty)(w:PE X f tx)(m:M2 X o "get" apos e f cpos):PE X (.Call (.Attribute o "get" apos) [e,f] [] cpos) (tDGet2 td ty tx):=by
 intro A4 s σ H Q I h;refine N3 m.base m.few m.line Ls Iw LL (Bs (v A4 s σ H _ I h) λu i t=>?_);obtain⟨x,H1,b,l,a,ex,d,q⟩:=t;subst ex;obtain rfl:u=FZ a:=l;obtain⟨t1,t2,_⟩:=isD_at b d;refine⟨t1,t2,?_⟩
 rw[m.trees];refine J0 rfl (Kf (Ip (Bs (A A4 i σ H1 _ b q) λN c ⟨y,H2,D,k,p⟩=>Ip (Bs (w A4 c σ H2 _ D p) λO K ⟨z,E,C,j,L,g,n⟩=>JN ?_))))
 exact d_get2 r C g k j λF G B Y=>⟨_,E,B,Y,n⟩
end
noncomputable def keysI(ks:List Int):List (Key×V):=ks.map λk=>(Ko k,.bl d_)
structure RepK(K:Pn)(F0 H0 FB:Hp)(i:Nat)(a:g_)(ks:List Int)(F H:Hp)(σ:St)(ρ:ah):Prop where
 r:Rep K F0 H0 FB [] F H σ ρ
 sl:σ[i]?=a_ (a_ (.ref a))
 hp:H a=a_ (.dK (keysI ks))
 fa:F a=c_
 ha:H0 a=c_
section
variable{ks:List Int}
theorem RepK.step(h:RepK K F0 H0 FB i a ks F H σ ρ)(s:A5 F H F1 H1):RepK K F0 H0 FB i a ks F1 H1 σ ρ:=
 ⟨h.r.step s,h.sl,s.hh _ _ h.hp,s.stays h.fa h.hp,h.ha⟩
end
structure ExA(h:GQ)(e:g_)(C:i_)(dx hd:Option g_):Prop where
 ob:∃oe vs,h.get? e=a_ oe/\oe.cls=C/\oe.dict=dx/\oe.data=.fields vs/\vs[1]?=a_ (hd.elim Io FZ)
 tb:∀T,hd=a_ T->T≠e/\∃oT ts,h.get? T=a_ oT/\oT.data=.fields ts/\ts[3]?=a_ .none
theorem dictMapF(f:Array i_->Array i_)(o:J_):(o.mapFields f).dict=o.dict:=by obtain⟨c,d,I,Y⟩:=o;cases I<;>rfl
theorem size3{l:List i_}(h:3<l.length):3<l.toArray.size:=by rw[A_];exact h
section
variable{M:K2}{E:Mq}
theorem mkEntry{a I:i_}{pl:List i_}{Q:Mq}(Y:IsPlace pl)(h:∀(o:J_) (ts:Array i_),o.data=.fields ts->3<ts.size->o.isFreed=b_->Q (.ref s.heap.objs.size) {s with heap:=s.heap.push o}):
  Cb M A (J7 hv a .none I .none pl) Q E s:=by
 unfold J7 newFields;refine Le (h _ _ rfl (size3 ?_) ?_) (Y.sizeOk5 _ _ _ _ _)
 ·simp
 ·exact Jj rfl
structure Left(fs:List g_)(e:g_)(hd:Option g_)(h h':GQ):Prop where
 keep:∀b o,h.get? b=a_ o->b∉fs->b≠e->(∀T,hd=a_ T->b≠T)->h'.get? b=a_ o
 slot:∀b o,h.get? b=a_ o->b∈fs->∃sl,h'.get? b=a_ {o with slots:=sl}
 size:h.objs.size<=h'.objs.size
theorem entry_at{base:GQ}{env:KS}{e:g_}{C:i_}{dx:Option g_}{vs:Array i_}{W:Bool}{Q:Unit->y_->Prop}(m:A.frames=a_ (env::outer))(D:s.heap.FunFrames base (env::outer))(R:env.frame=a_ L)(F:s.heap.get? e=a_ oe)(S:oe.cls=C)(r:oe.dict=dx)(hd:oe.data=.fields vs)(k:1<vs.size)(h:∀h' T,ExA h' e C dx (a_ T)->s.heap.objs.size<=T->Left (frs (env::outer)) e c_ s.heap h'->Q () {s with heap:=h'}):
  Cb M A (frameOf env >>=λa=>entryPlaceOf L W >>=λpl=>J7 hv a .none (K8 L) .none pl >>=λb=>setField (.ref e) 1 b) (λ_ s'=>Cb M A (KO (.ref e) c_) Q E s') E s:=by
 have d:∀b o,b∈frs (env::outer)->s.heap.get? b=a_ o->∀vs,o.data≠.fields vs:=λb o l q=>by obtain⟨_,o',Y,n⟩:=D.mem l;rw[q]at Y;cases Y;exact n
 have c:e∉frs (env::outer):=λl=>d e oe l F vs hd;refine h_ (wpAny_frameOf_fun m D R λh1 N=>?_);obtain⟨y,w,K⟩:=N;refine h_ (wpAny_entryPlaceOf λpl P=>?_);refine h_ (mkEntry P λo ts B G p=>?_);have e1:h1.get? e=a_ oe:=by rw[w e c];exact F
 have j:h1.objs.size≠e:=λz=>Gb (x_ e1) (by rw[z];exact G5 _);have e2:(h1.push o).get? e=a_ oe:=n_ o e1;have t2:(h1.push o).get? h1.objs.size=a_ o:=E_ h1 p;refine KD e2 hd k ?_;have v:=KJ hd (·.setIfInBounds 1 (FZ h1.objs.size));have e3:=IF (h:=h1.push o) (Kz (·.setIfInBounds 1 (FZ h1.objs.size))) e2 (Jj v);have t3:((h1.push o).update e (Kz (·.setIfInBounds 1 (FZ h1.objs.size)))).get? h1.objs.size=a_ o:=by rw[Gq _ _ (Gv j)];exact t2
 unfold KO;refine h_ (Je e3 v (x:=.ref h1.objs.size) (by simp[k]) ?_);rw[e_ (by simp)];refine KD t3 B G ?_;have H:=KJ B (·.setIfInBounds 3 ((c_:Option g_).elim Io λf=>K8 f));refine h _ h1.objs.size ⟨⟨_,_,by rw[Gq _ _ j];exact e3,by rw[Obj.cls_mapFields];exact S,by rw[dictMapF];exact r,v,by simp[k]⟩,λT U=>?_⟩ (by rw[y];exact sy _) ⟨λb o' q u t _=>?_,λb o' q u=>?_,?_⟩
 ·cases U;exact⟨j,_,_,IF _ t3 (Jj H),H,by simp[G]⟩
 ·have I:h1.get? b=a_ o':=by rw[w b u];exact q
  have i:h1.objs.size≠b:=λz=>Gb (x_ I) (by rw[z];exact G5 _);rw[Gq _ _ i,Gq _ _ (Gv t)];exact n_ o I
 ·obtain⟨O,I⟩:=K b o' q;have i:h1.objs.size≠b:=λz=>Gb (x_ I) (by rw[z];exact G5 _);have g:e≠b:=λz=>c (z▸u);refine⟨O,?_⟩
  rw[Gq _ _ i,Gq _ _ g];exact n_ o I
 ·rw[IP,IP,Hm,y];exact GC _
theorem leave2{base:GQ}{env:KS}{e:g_}{C:i_}{dx hd:Option g_}{Q:Unit->y_->Prop}(j:A.frames=a_ (env::outer))(r:s.heap.FunFrames base (env::outer))(t:env.frame=a_ L)(x:ExA s.heap e C dx hd)(h:∀h' T,ExA h' e C dx (a_ T)->s.heap.objs.size<=T->Left (frs (env::outer)) e hd s.heap h'->Q () {s with heap:=h'}):Cb M A (MX (.ref e) env) (λ_ s'=>Cb M A (KO (.ref e) c_) Q E s') E s:=by
 obtain⟨oe,vs,l,D,k,Y,h1⟩:=x.ob;have B:1<vs.size:=(JE.mp h1).1;unfold MX;simp only[t];cases hd with
 |none=>refine h_ (Je l Y h1 ?_);rw[k_ (by decide)];exact entry_at j r t l D k Y B λh' T a b c=>h h' T a b c
 |some T=>
  obtain⟨m,H,ts,w,d,F⟩:=x.tb T rfl;have p:3<ts.size:=(JE.mp F).1;refine h_ (Je l Y h1 ?_);rw[e_ (by simp)];refine h_ (Je (x:=.none) w d F ?_);rw[k_ (by simp[K8])];refine h_ (KD w d p ?_);have I:∀b,b≠T->(s.heap.update T (Kz (·.setIfInBounds 3 Io))).get? b=s.heap.get? b:=λb f=>Gq _ _ (Gv f);have y:∀b o,s.heap.get? b=a_ o->(∀vs,o.data≠.fields vs)->b≠T:=λb o q n z=>by subst z;rw[w]at q;cases q;exact n ts d
  refine entry_at j (r.of_keeps λb o q n=>⟨o,by rw[I b (y b o q n)];exact q,rfl⟩) t (by rw[I e (Gv m)];exact l) D k Y B λh' G a b c=>?_;refine h h' G a (by rw[IP]at b;exact b) ⟨λg o q f u v=>c.keep g o (by rw[I g (v T rfl)];exact q) f u (λ_ z=>nomatch z),λg o q f=>?_,?_⟩
  ·obtain⟨_,o',i,n⟩:=r.mem f;rw[q]at i;cases i;exact c.slot g o (by rw[I g (y g o q n)];exact q) f
  ·have:=c.size;rw[IP]at this;exact this
theorem leave_at{base:GQ}{env:KS}{e:g_}{C:i_}{dx hd:Option g_}{Q:Unit->y_->Prop}(I:A.frames=a_ (env::outer))(Y:s.heap.FunFrames base (env::outer))(a:env.frame=a_ L)(x:ExA s.heap e C dx hd)(h:∀h' T,ExA h' e C dx (a_ T)->s.heap.objs.size<=T->Left (frs (env::outer)) e hd s.heap h'->Q () {s with heap:=h'}):Cb M A (Oa env (.ref e)) Q E s:=by unfold Oa;exact h_ (leave2 I Y a x h)
end
structure CXs(P:GO)(w:Hg)(outer:List KS)(H:Hp)(s:y_)(E:XK)(a T:g_)(C:i_)(dx:Option g_)(H':Hp)(s':y_):Prop where
 ex:ExA s'.heap a C dx (a_ T)
 na:s.heap.get? a=c_
 nT:s.heap.get? T=c_
 fa:H' a=c_
 fT:H' T=c_
 os:s'.os=s.os
 bare:J8 s'.gens
 un:Un (frs outer) [] H H' s.heap s'.heap
 hok:HOk P w H' s'.heap
 want:E C dx H'
def CXd(P:GO)(w:Hg):CXT:=λouter H s E e s'=>∃(a T:g_) (C:i_) (dx:Option g_) (H':Hp),e=.ref a/\CXs P w outer H s E a T C dx H' s'
theorem get_none(z:h.objs.size<=a):h.get? a=c_:=by
 cases e:h.get? a with
 |none=>rfl|some o=>exact Gb (x_ e) (LF.mpr z)
theorem A6.Ak(I:A6 X A4 σ H s)(Y:X.ex=[])(e:s.heap.get? a=c_):X.s₀.heap.get? a=c_:=by
 cases q:X.s₀.heap.get? a with
 |none=>rfl|some o=>obtain⟨o',z⟩:=I.base.there a o q (by rw[Y];exact λz=>nomatch z);rw[e]at z;cases z
theorem cN.is(x:cN P w H h a o):∃u,h.get? a=a_ u:=by
 cases o with
 |lst xs=>obtain⟨_,_,_,_,e⟩:=x;exact⟨_,e⟩
 |tup xs=>obtain⟨_,_,_,I,e,_⟩:=x;exact⟨_,e⟩
 |dK A7=>obtain⟨_,_,_,_,o,_,_,e,_⟩:=x;exact⟨_,e⟩
 |dT A7=>obtain⟨_,_,_,_,o,_,_,e,_⟩:=x;exact⟨_,e⟩
 |set S n=>obtain⟨o,_,_,_,e,_⟩:=x;exact⟨_,e⟩
 |ins C dx fs=>obtain⟨_,_,_,e,_⟩:=x;exact⟨_,e⟩
 |own y=>exact x|xd fs=>obtain⟨_,⟨_,_,_,e,_⟩,_⟩:=x;exact⟨_,e⟩
 |rng lo hi=>obtain⟨_,_,_,e⟩:=x;exact⟨_,e⟩
 |frz I u=>obtain⟨e,_⟩:=x;exact⟨_,e⟩
 |tbl ps=>exact⟨_,show h.get? a=a_ _ from x⟩|met f y=>exact⟨_,show h.get? a=a_ _ from x⟩|ext Y=>obtain⟨_,e,_⟩:=x;exact e
section
variable{base:GQ}
theorem xe_of{s':y_}{C:i_}{dx hd:Option g_}(J:A6 (zY (CXd P w) P w K mg base N qual scope f cd A outer s H E) A4 σ H' s')(x:ExA s'.heap a C dx hd)(r:s.heap.get? a=c_)(F:∀T,hd=a_ T->s.heap.get? T=c_/\H' T=c_)(fa:H' a=c_)(q:E C dx H'):(zY (CXd P w) P w K mg base N qual scope f cd A outer s H E).xe (.ref a) s':=by
 have e0:=J.env0;have y:∀b∈frs (IH qual scope s.heap.objs.size f cd::outer),H' b=c_:=e0.frf;have p:∀b o,s.heap.get? b=a_ o->b≠a/\(∀T,hd=a_ T->b≠T)/\b<s.heap.objs.size:=λb o e=>by have Y:=x_ e;exact⟨λz=>(by subst z;rw[e]at r;cases r),λT i z=>(by subst z;have:=(F _ i).1;rw[e]at this;cases this),Y⟩
 have j:∀b,b<s.heap.objs.size->b∈frs (IH qual scope s.heap.objs.size f cd::outer)->b∈frs outer:=λb Y t=>by
  rcases Ir.mp t with⟨v,hv,e⟩
  rcases t_.mp hv with z|z
  ·subst z;have:s.heap.objs.size=b:=by simpa[IH] using e
   omega
  ·exact Ir.mpr ⟨v,z,e⟩
 have d:∀b,b∈frs outer->b∈frs (IH qual scope s.heap.objs.size f cd::outer):=λb t=>by
  rcases Ir.mp t with⟨v,hv,e⟩
  exact Ir.mpr ⟨v,Ga _ hv,e⟩
 have I:Un (frs outer) [] H H' s.heap s'.heap:=J.base;show Cb (D_ P w) (A.deeper (IH qual scope s.heap.objs.size f cd)) (Oa (IH qual scope s.heap.objs.size f cd) (.ref a)) (λ_ g=>CXd P w outer H s E (.ref a) g) (λB g=>CXd P w outer H s E B g) s';refine leave_at (base:=base) e0.frames e0.xt rfl x λh' T Q i l=>⟨a,T,C,dx,H',rfl,Q,r,get_none (Gw (show s.heap.objs.size<=s'.heap.objs.size from J.sz) i),fa,?_,J.os,J.bare,?_,?_,q⟩
 ·exact J.hok.fresh i
 ·have D:∀b o,s.heap.get? b=a_ o->∀o',s'.heap.get? b=a_ o'->b∉frs outer->h'.get? b=a_ o':=λb o e o' B Y=>by
   obtain⟨O,L,G⟩:=p b o e;exact l.keep b o' B (λz=>Y (j b G z)) O L
  refine⟨λb o e n Y k=>D b o e o (I.keep b o e n Y k) Y,λb o e n Y k=>?_,I.free,λb o e k=>?_,I.tups,I.frzs,I.tbls⟩
  ·obtain⟨R,e1⟩:=I.slot b o e n Y k;obtain⟨m,e2⟩:=l.slot b _ e1 (d b Y);exact⟨m,e2⟩
  ·obtain⟨o',e1⟩:=I.there b o e k;by_cases Y:b∈frs outer
   ·obtain⟨R,e2⟩:=l.slot b o' e1 (d b Y);exact⟨_,e2⟩
   ·exact⟨o',D b o e o' e1 Y⟩
 ·intro b o e;refine(J.hok b o e).yy (λc u S e1=>?_) (λ_ z=>z) λ_ _ z=>z;have h:H' c≠c_:=by
   rcases S with z|z
   ·rw[z,e];exact λz=>nomatch z
   ·rw[z];exact λz=>nomatch z
  exact l.keep c u e1 (λz=>h (y c z)) (λz=>h (by rw[z];exact fa)) λT i z=>h (by rw[z];exact(F T i).2)
end
def WE(K:Pn)(E:XK):eD where
 p:=λe F H=>match e with
  |.stuck=>False|.exc C fs=>∀F' H',A5 F H F' H'->match fs with
   |[]=>E (.ref C) c_ H'|fs=>∀d gs,F' d=a_ (.xd gs)->jh K F' fs gs->E (.ref C) (a_ d) H'
 mono:=λ{e F H F' H'} h s=>by
  cases e with
  |stuck=>exact h|exc C fs=>exact λF2 H2 I=>h F2 H2 (s.trans I)
 ns:=λh=>h
def noX{α:Type}:M α->M α
 |.ok d=>.ok d|.error _=>.error .stuck
@[simp] theorem noX_ok{α:Type}(d:α):noX (.ok d:M α)=.ok d:=id rfl
def fNoX(f:ah->M α):ah->M α:=λρ=>noX (f ρ)
section
variable{W:eD}{O':List Nat}
theorem dss_lift{st:List GW}{g:ah->M A9}(h:DSs K C' ro X.nox OL O O' st g):DSs K W ro X OL O O' st (fNoX g):=λF0 H0=>PSs.imp (PSs.nox (h F0 H0)) λD σ H ⟨FB,F,ρ,r,p⟩=>by
 refine⟨FB,F,ρ,r,?_⟩
 have p:iE K W ro F0 H0 FB OL O' D (noX (g ρ)):=p;unfold iE at p ⊢;cases e:g ρ with
 |ok fl=>rw[e]at p;cases fl<;>exact p
 |error x=>rw[e]at p;exact(W.ns p).elim
end
def spX(K:Pn)(ro:Bool)(g:List A3->M A3)(n:Nat):Sp:=λvs H Q E=>∃F ds,aL F H/\aE K F ds vs/\ds.length=n/\aN K (WE K E) ro F H (g ds) Q
section
variable{base:GQ}
theorem fn_X{ps:List p_}{k:Nat}{O':List Nat}(F:Fun K x qual st f fd)(S:gr N ps (aJ st))(ro:Bool)(g:ah->M A9)(n:∀(cdv:i_) (A:Iy) (outer:List KS) (s:y_) (H:Hp) (E:XK),i5 k (A.deeper (IH qual (aJ st) s.heap.objs.size f cdv)) ->
   DSs K (WE K E) ro (zY (CXd P w) P w K mg base N qual (aJ st) f cdv A outer s H E) [] [] O' (bS st) g):i6 P w K mg base (CXd P w) (k+1) f fd ps (spX K ro (bQ N.length ps.length g) ps.length):=by
 obtain⟨oc,od,kV,doc,pm,an,cdv,ct,osl,rfl,b,I⟩:=F.ex;refine fn_of b I S (λvs H Q E ⟨F,ds,s,q,l,p⟩=>by rw[q.length,l]) λA outer s H vs Q E c m=>?_;obtain⟨F1,ds,Y,q,l,p⟩:=m;refine⟨_,n cdv A outer s H E c F1 H,F1,F1,ds.map a_++GV (N.length-ds.length) c_,?_,?_⟩
 ·refine⟨A5.refl Y,aL.refl _,?_,λi d e _=>vU q e,(λi d e h=>nomatch h),(λi j ds es a h=>nomatch h)⟩
  unfold start;rw[Gp,Gp,u_,u_,Ht,Ht,q.length]
 ·have e1:bQ N.length ps.length g ds=(g (ds.map a_++GV (N.length-ds.length) c_)).bind λfl=>match fl with
   |.nx _=>.ok .non|.rt d=>.ok d|_=>stk:=by unfold bQ;exact e_ l
  rw[e1]at p;cases e2:g (ds.map a_++GV (N.length-ds.length) c_)with
  |error z=>rw[e2]at p;exact p|ok fl=>
   rw[e2]at p;cases fl with
   |nx ρ=>exact λσ F H r=>p .non F H r.st (by cases ro<;>rfl)
   |rt d=>exact λv F H st q=>p v F H st q|bk ρ=>exact aN.stuck p|ct ρ=>exact aN.stuck p
end
section
variable{C:i_}{dx hd:Option g_}
structure Apart(X:Cx)(A4:Vp)(H:Hp)(s:y_)(a:g_)(hd:Option g_):Prop where
 na:X.s₀.heap.get? a=c_
 fa:H a=c_
 pa:∀p∈X.pn++A4,p.1≠a
 nT:∀T,hd=a_ T->X.s₀.heap.get? T=c_/\H T=c_/\∀p∈X.pn++A4,p.1≠T
theorem A6.left(I:A6 X A4 σ H s)(hx:X.ex=[])(x:ExA s.heap a C dx hd)(j:Apart X A4 H s a hd)(f:Left (frs X.stack) a hd s.heap h'):A6 X A4 σ H {s with heap:=h'}:=by
 have e0:=I.env0;obtain⟨oe,vs,W,_,_,K,_⟩:=x.ob;have F:∀b o,s.heap.get? b=a_ o->(∀vs,o.data≠.fields vs)->b≠a/\∀T,hd=a_ T->b≠T:=λb o e n=>by
  refine⟨λz=>?_,λT h z=>?_⟩
  ·subst z;rw[W]at e;cases e;exact n vs K
  ·subst z;obtain⟨_,oT,ts,h1,h2,_⟩:=x.tb _ h;rw[h1]at e;cases e;exact n ts h2
 have E:∀b∈frs X.stack,H b=c_:=e0.frf;have D:∀b o,s.heap.get? b=a_ o->(∀vs,o.data≠.fields vs)->∃w,h'.get? b=a_ {o with slots:=w}:=λb o e n=>by
  obtain⟨l,k⟩:=F b o e n;by_cases d:b∈frs X.stack
  ·exact f.slot b o e d
  ·exact⟨o.slots,f.keep b o e d l k⟩
 have y:∀b o,X.s₀.heap.get? b=a_ o->b≠a/\∀T,hd=a_ T->b≠T:=λb o e=>⟨λz=>(by subst z;rw[j.na]at e;cases e),λT h z=>(by subst z;rw[(j.nT _ h).1]at e;cases e)⟩
 have P:s.heap.UpToSlots h':=D;have A:X.s₀.heap.get? X.env.locals=c_:=get_none I.ok.above;have out:∀b,b≠X.env.locals->b∉X.fs->b∉frs X.stack:=λb h1 h2 h3=>by
  rcases t_.mp (I.sM b h3)with z|z
  ·exact h1 z
  ·exact h2 z
 have B:∀c v,s.heap.IsCell c v->h'.IsCell c v:=λc v ⟨o,h1,h2⟩=>by obtain⟨w,z⟩:=D c o h1 (λvs q=>by rw[h2]at q;cases q);exact⟨_,z,h2⟩
 refine⟨I.ok,I.os,I.bare,?_,?_,λx c e=>?_,I.free,I.freeC,λp G=>?_,?_,I.len⟩
 ·have N:∀b o,X.s₀.heap.get? b=a_ o->∀o',s.heap.get? b=a_ o'->∃w,h'.get? b=a_ {o' with slots:=w}:=λb o e o' O=>by
   obtain⟨l,k⟩:=y b o e;by_cases d:b∈frs X.stack
   ·exact f.slot b o' O d
   ·exact⟨o'.slots,f.keep b o' O d l k⟩
  refine⟨λb o e n d Y=>?_,λb o e n d Y=>?_,I.base.free,λb o e Y=>?_,I.base.tups,I.base.frzs,I.base.tbls⟩
  ·obtain⟨l,k⟩:=y b o e;exact f.keep b o (I.base.keep b o e n d Y) (out b (λz=>by rw[z,A]at e;cases e) d) l k
  ·obtain⟨w,e1⟩:=I.base.slot b o e n d Y;obtain⟨t,e2⟩:=N b o e _ e1;exact⟨t,e2⟩
  ·obtain⟨o',e1⟩:=I.base.there b o e Y;obtain⟨t,e2⟩:=N b o e _ e1;exact⟨_,e2⟩
 ·obtain⟨m,S,U⟩:=I.loc;refine⟨m,P.ns S,λi x v e1 e2 e3=>?_⟩
  obtain⟨u,r,R⟩:=U i x v e1 e2 e3;refine⟨u,r,?_⟩
  rcases R with z|⟨z,c,c1,c2⟩
  ·exact .inl z
  ·exact .inr ⟨z,c,c1,B c _ c2⟩
 ·obtain⟨v,z⟩:=I.cell x c e;exact⟨v,B c v z⟩
 ·obtain⟨p1,p2,p3,L,Q⟩:=I.pin p G;exact⟨f.keep p.1 p.2 p1 (out p.1 p3 L) (j.pa p G) λT h=>(j.nT T h).2.2 p G,p2,p3,L,Q⟩
 ·intro b o e;refine(I.hok b o e).yy (λc u Z e1=>?_) (λ_ z=>z) λ_ _ z=>z;have g:H c≠c_:=by
   rcases Z with z|z
   ·rw[z,e];exact λz=>nomatch z
   ·rw[z];exact λz=>nomatch z
  exact f.keep c u e1 (λz=>g (E c z)) (λz=>g (by rw[z];exact j.fa)) λT h z=>g (by rw[z];exact(j.nT T h).2.1)
end
def PEat(X:Cx)(A4:Vp)(σ:St)(e:GX)(t:TE):Prop:=∀(s:y_) (H:Hp) (Q:VK),A6 X A4 σ H s->t σ H Q->Cb (D_ X.prog X.w) X.A (Gj e X.env) (EP X A4 σ Q) X.xe s
def PSat(X:Cx)(A4:Vp)(σ:St)(st:GW)(t:TS):Prop:=∀(s:y_) (H:Hp) (D:Ends),A6 X A4 σ H s->t D σ H->Cb (D_ X.prog X.w) X.A (exec st X.env) (SP X A4 D) X.xe s
def PSsAt(X:Cx)(A4:Vp)(σ:St)(st:List GW)(t:TS):Prop:=∀(s:y_) (H:Hp) (D:Ends),A6 X A4 σ H s->t D σ H->Cb (D_ X.prog X.w) X.A (execs st X.env) (SP X A4 D) X.xe s
def kJ(CX:CXT)(X:Cx)(A4:Vp)(σ:St)(E:XK):Prop:=∀(H:Hp) (s:y_) (e:i_) (s':y_),A6 X A4 σ H s->CX X.stack H s E e s'->X.xe e s'
section
variable{t:TS}
theorem at_one(h:PSat X A4 σ st t):PSsAt X A4 σ [st] t:=λs H D I q=>by
 refine Lv (Bs (h s H D I q) λf Y z=>?_);cases f with
 |next=>exact JH z|_=>exact z
theorem at_set(g:X.N.Nodup)(hi:X.N[i]?=a_ x)(b:Loc X.env.scope x)(f:PEat X A4 σ e te)(c: ~~~(Hr e (a_ (.Name x pos')) pos.line X.env=Hq b_))(d:autoParam (X.fn x=d_\/X.env.scope.names.lookup x=a_ .local) Jq3):
  PSat X A4 σ (.Assign [.Name x pos'] e pos) (pK te (cu i)):=λs H D I q=>
 N4 (Bs (f s H _ I q) λv l ⟨y,H1,j,Y,a⟩=>mi j g hi b Y (λk h=>⟨_,H1,h,a⟩) d) c
end
section
variable{k:Nat}{ps:List p_}{ds:List i_}{t:TA}
theorem at_run(F:i6 X.prog X.w X.K X.mg X.base CX k f fd ps sp)(c:i5 k X.A)(d:Binds X.K fd ps ds)(hd:B' dvs ds)(b:kJ CX X A4 σ E)(I:A6 X A4 σ H s)(r:B' vs us)(h:sp (vs++dvs) H Q E):Cb (D_ X.prog X.w) X.A (Jn (.ref f) us) (EP X A4 σ Q) X.xe s:=by
 have a:=r.append hd;refine Kk (HY (F.run _ _ s H ⟨us,[]⟩ _ _ Q E c I.env0 (d s us I.kIn (a.length.symm.trans (F.len _ _ _ _ h))) a h) λz s' Y=>?_);cases z with
 |error e=>exact b H s e s' I Y|ok fl=>
  cases fl with
  |ret u=>exact I.after Y|_=>exact Gy Y
theorem at_call(F:i6 X.prog X.w X.K X.mg X.base CX k f fd ps sp)(d:kJ CX X A4 σ E)(g:i5 k X.A)(h:X.mg x=a_ (.ref f))(i:HW X.K (.ref f)=d_)(m:Binds X.K fd ps ds)(hd:B' dvs ds)(n:PA X (e::es) t)(j: ~~~(Gl X x))(a:((x==("__debug__":p_))=b_)⁻¹)(l: ~~~(iF (e::es) X.env=(b_,Gj e X.env)::iF es X.env))(Y: ~~~((GG pos (iF es X.env)).any (·.1)=b_)):
  PEat X A4 σ (.Call (.Name x p) (e::es) [] pos) (gS sp dvs E t):=λs H Q I q=>
 Hk (j5 I j h (Km (h₀:=X.base) I.ok.mod.kin i (Bs (n pos A4 s σ H _ I q) λus o ⟨vs,H1,b,r,c⟩=>⟨b.kIn,at_run F g m hd d b r c⟩) l Y) a)
end
theorem A6.names{m:Ld}(I:A6 X A4 σ H s)(w:h'.Ns X.env.locals m)(a:Jz X.env.locals s.heap h')(A:σ'.length=X.N.length)(hv:∀(i:Nat) (x:p_) (v:V),X.N[i]?=a_ x->σ'[i]?=a_ (a_ v)->Vis X.env.scope x->∃u,A' v u/\Look X.env s.heap m x u):A6 X A4 σ' H {s with heap:=h'}:=by
 have Y:∀b o,X.s₀.heap.get? b=a_ o->b≠X.env.locals:=λb o e z=>by subst z;exact Gb (x_ e) (LF.mpr I.ok.above)
 have f:∀x c v,X.env.cells.lookup x=a_ c->s.heap.IsCell c v->h'.IsCell c v:=λx c v e z=>z.sameBut a (I.cne x c e);refine⟨I.ok,I.os,I.bare,⟨λb o e n g d=>?_,λb o e n g d=>?_,I.base.free,λb o e d=>?_,I.base.tups,I.base.frzs,I.base.tbls⟩,⟨m,w,λi x v e1 e2 e3=>?_⟩,λx c e=>?_,I.free,I.freeC,λp t=>?_,λb o e=>?_,A⟩
 ·show h'.get? b=_;rw[a.2 b (Y b o e)];exact I.base.keep b o e n g d
 ·obtain⟨j,z⟩:=I.base.slot b o e n g d;refine⟨j,?_⟩
  show h'.get? b=_;rw[a.2 b (Y b o e)];exact z
 ·obtain⟨o',z⟩:=I.base.there b o e d;refine⟨o',?_⟩
  show h'.get? b=_;rw[a.2 b (Y b o e)];exact z
 ·obtain⟨u,r,q⟩:=hv i x v e1 e2 e3;refine⟨u,r,?_⟩
  rcases q with z|⟨z,c,h,C⟩
  ·exact .inl z
  ·exact .inr ⟨z,c,h,f x c _ h C⟩
 ·obtain⟨v,z⟩:=I.cell x c e;exact⟨v,f x c v e z⟩
 ·obtain⟨p1,p2,p3,l,k⟩:=I.pin p t;refine⟨?_,p2,p3,l,k⟩
  show h'.get? p.1=_;rw[a.2 p.1 p3];exact p1
 ·refine(I.hok b o e).yy (λc u B e1=>?_) (λ_ z=>z) λ_ _ z=>z;show h'.get? c=_;rw[a.2 c λz=>?_]
  ·exact e1
  ·rcases B with y|y
   ·rw[<- y,z,I.free]at e;cases e
   ·rw[z,I.free]at y;cases y
theorem uR{M:K2}{E:Mq}{Q:Unit->y_->Prop}(I:A6 X A4 σ H s)(n:X.N.Nodup)(hi:X.N[i]?=a_ x)(a:X.env.scope.names.lookup x=a_ .local)(h:∀s',A6 X A4 (σ.set i c_) H s'->Q () s'):Cb M A (do bindName X.env x .none;Nx X.env x pos) Q E s:=by
 have c:(X.env.scope.kind==.class||(X.env.scope.kind==.module&&X.env.locals != X.env.globals))=b_:=by rw[I.ok.kind];rfl
 have b:i<σ.length:=by rw[I.len];exact(tF.mp hi).1
 refine h_ (wpAny_bindName (mi I n hi (.inl a) (v:=.non) rfl (λD o=>?_) (.inr a)));unfold Nx;refine wpAny_onRaise ?_;obtain⟨m,B,l⟩:=id o.loc;obtain⟨u,_,d⟩:=l i x .non hi (by rw[s_ b]) (.inl a);have g:m x=a_ u:=by
  rcases d with z|⟨z,_⟩
  ·exact z.2
  ·have k:X.env.kindOf x=a_ .local:=a;rw[k]at z;rcases z with z|z<;>cases z
 refine wpAny_unbindName_local a B g c λh' C f t=>h _ (o.names f t (by rw[B_];exact I.len) λj y v e1 e2 e3=>?_);have Y:i≠j:=λz=>by subst z;rw[s_ b]at e2;cases e2
 rw[m_ Y]at e2;obtain⟨w,r,d⟩:=l j y v e1 (by rw[m_ Y];exact e2) e3;refine⟨w,r,?_⟩
 rcases d with⟨q,p⟩|z
 ·have e:y≠x:=λz=>Y (uK n hi (z▸e1));exact .inl ⟨q,by simp[e,p]⟩
 ·exact .inr z
def yg(K:Pn)(C:g_)(bmB:List i_):Prop:=∀h:GQ,K.In h->∃tl N nm I bs hdct sn sub ab col dd k0 k1 k2 k3 k5 newId,h.get? C=a_ (KG nm I C N bs tl hdct sn sub ab col dd k0 k1 k2 k3 k5 newId)/\Og h bmB tl
noncomputable abbrev Cx.hand(X:Cx)(a:g_)(oe:J_):Cx:={X with A:=X.A.mark (a_ (.ref a)),calm:=b_,xe:=λ_ _=>False,pn:=(a,oe)::X.pn}
section
variable{T:g_}{C:i_}{dx:Option g_}
theorem A6.hand{vs:Array i_}(I:A6 X A4 σ H s)(b:s.heap.get? a=a_ oe)(hd:oe.data=.fields vs)(c:X.s₀.heap.get? a=c_)(fa:H a=c_):A6 (X.hand a oe) A4 σ H s:=by
 have Y:=I.ok;refine⟨⟨Y.mod,Y.kind,Y.glob,Y.blt,Y.above,Y.inj,Y.has,Y.cab,(λz=>nomatch z),Y.frames,Y.stk,Y.exf,Y.bs,Y.bsz,Y.noex,Y.exfs,Y.xt,Y.frf⟩,I.os,I.bare,I.base,I.loc,I.cell,I.free,I.freeC,λp d=>?_,I.hok,I.len⟩
 rcases t_.mp (show p∈(a,oe)::(X.pn++A4)from d)with z|z
 ·subst z;refine⟨b,fa,λz=>?_,λe=>?_,λv z=>?_⟩
  ·obtain⟨m,⟨o,es,ep,h1,h2,_⟩,_⟩:=I.loc;have z:a=X.env.locals:=z;rw[<- z,b]at h1;cases h1;rw[hd]at h2;cases h2
  ·obtain⟨_,o,h1,_⟩:=Y.xt.mem e;have h1:X.s₀.heap.get? a=a_ o:=h1;rw[c]at h1;cases h1
  ·have z:oe.data=.cell v:=z;rw[hd]at z;cases z
 ·exact I.pin p z
theorem A6.Am(J:A6 (X.hand a oe) A4 σ H s)(I:X.Ok):A6 X A4 σ H s:=
 ⟨I,J.os,J.bare,J.base,J.loc,J.cell,J.free,J.freeC,λp Y=>J.pin p (Ga _ Y),J.hok,J.len⟩
theorem EW{M:K2}{E:Mq}{base:GQ}{l:List KS}{Q:Unit->y_->Prop}(u:s.heap.FunFrames base l)(x:ExA s.heap a C dx (a_ T))(h:∀h',ExA h' a C dx (a_ T)->Left (frs l) a (a_ T) s.heap h'->h'.get? a=s.heap.get? a->Q () {s with heap:=h'}):Cb M A (KO (.ref a) c_) Q E s:=by
 obtain⟨o,vs,r,v,j,e,h1⟩:=x.ob;obtain⟨i,y,ts,p,Y,w⟩:=x.tb T rfl;have c:3<ts.size:=(JE.mp w).1;unfold KO;refine h_ (Je r e (x:=.ref T) h1 ?_);rw[e_ (by simp)];refine KD p Y c ?_;have I:∀b,b≠T->(s.heap.update T (Kz (·.setIfInBounds 3 ((c_:Option g_).elim Io λf=>K8 f)))).get? b=s.heap.get? b:=λb g=>Gq _ _ (Gv g);have t:=KJ Y (·.setIfInBounds 3 ((c_:Option g_).elim Io λf=>K8 f));refine h _ ⟨⟨o,vs,by rw[I a (Gv i)];exact r,v,j,e,h1⟩,λD m=>?_⟩ ⟨λb o' q _ _ g=>by rw[I b (g T rfl)];exact q,λb o' q g=>?_,?_⟩ (I a (Gv i))
 ·cases m;exact⟨i,_,_,IF _ p (Jj t),t,by simp[c]⟩
 ·obtain⟨_,B,d,n⟩:=u.mem g;have k:b≠T:=λz=>by
   subst z;rw[p]at d;cases d;exact n ts Y
  exact⟨o'.slots,by rw[I b k];exact q⟩
 ·rw[IP];exact sy _
end
def Ends.less(D:Ends)(i:Nat):Ends:={nx:=λσ H=>D.nx (σ.set i c_) H,rt:=D.rt,bk:=λσ H=>D.bk (σ.set i c_) H,ct:=λσ H=>D.ct (σ.set i c_) H}
section
variable{T:g_}{dx:Option g_}{c n:p_}{ts:TS}{D:Ends}
theorem FT(I:A6 X A4 σ H s)(x:ExA s.heap a (.ref C) dx (a_ T))(m:Apart X A4 H s a (a_ T))(p:X.ex=[])(P:yg X.K C bmB)(Q:bmB.contains (.type "BaseException")=d_)(O:Gl X c)(L:X.mg c=a_ (.ref C))(k:X.N.Nodup)(hi:X.N[i]?=a_ n)(h:X.env.scope.names.lookup n=a_ .local)(K:∀oe:J_,oe.cls=.ref C->oe.dict=dx->(∃vs,oe.data=.fields vs)->PSs (X.hand a oe) (b₀::suite) ts)(q:ts (D.less i) (σ.set i (a_ (.ref a))) H)(A:((c==("__debug__":p_))=b_)⁻¹):
  Cb (D_ X.prog X.w) X.A (handleBy (.ref a) X.env [.ExceptHandler (a_ (.Name c np)) (a_ n) (b₀::suite) pos]) (SP X A4 D) X.xe s:=by
 obtain⟨oe,vs,w,j,y,b,h1⟩:=x.ob;have J:=I.hand w b m.na m.fa;refine wpAny_handleBy_cons (codeAny_handlers_test (j5 (X:=X.hand a oe) J O L ?_ A)) (by intro z;cases z);obtain⟨tl,N,nm,qn,bs,hdct,sn,sub,ab,col,dd,k0,k1,k2,k3,k5,newId,F,E⟩:=P _ I.kIn;have e0:=I.env0;obtain⟨hh,gg,d,tk,os⟩:=s;refine wpAny_excMatches_sub_self F w j (E.hasType Q) (codeAny_handlers_suite_as ?_);refine EW (base:=X.base) (l:=X.stack) e0.xt x λh' Z G R=>?_;have W:=I.left p x m G;have t:h'.get? a=a_ oe:=by rw[R];exact w
 have U:=W.hand t b m.na m.fa;refine mi (X:=X.hand a oe) U k hi (.inl h) (v:=.ref a) rfl (λB S=>?_) (.inr h);refine GK (K oe j y ⟨vs,b⟩ A4 B _ H (D.less i) S q) (λf s4 z=>?_) λ_ _ z=>z.elim;cases f with
 |next=>obtain⟨σ',H',e,Y⟩:=z;exact uR (e.Am I.ok) k hi h λo g=>⟨_,H',g,Y⟩
 |brk=>obtain⟨σ',H',e,Y⟩:=z;exact uR (e.Am I.ok) k hi h λo g=>⟨_,H',g,Y⟩
 |cont=>obtain⟨σ',H',e,Y⟩:=z;exact uR (e.Am I.ok) k hi h λo g=>⟨_,H',g,Y⟩
 |ret u=>obtain⟨v,σ',H',e,r,Y⟩:=z;exact uR (e.Am I.ok) k hi h λo g=>⟨v,_,H',g,r,Y⟩
end
def EH(i:Nat)(C:g_)(ts:g_->Option g_->TS)(D:Ends)(σ:St):XK:=λI dx H'=>I=.ref C/\∀a,H' a=c_->ts a dx (D.less i) (σ.set i (a_ (.ref a))) H'
def tTry(tb:XK->TS)(i:Nat)(C:g_)(ts:g_->Option g_->TS):TS:=λD σ H=>tb (EH i C ts D σ) D σ H
section
variable{c n:p_}{tb:XK->TS}
theorem ps_try(Q:∀(A4:Vp) (σ:St) (E:XK) (B:Mq),kJ (CXd X.prog X.w) (X.vJ B) A4 σ E->PSsAt (X.vJ B) A4 σ body (tb E))(L:∀(a:g_) (oe:J_),oe.cls=.ref C->(∃vs,oe.data=.fields vs)->PSs (X.hand a oe) (b₀::suite) (ts a oe.dict))(S:yg X.K C bmB)(U:bmB.contains (.type "BaseException")=d_)(N:X.mg c=a_ (.ref C))(R:X.N.Nodup)(hi: ~~~(X.N[i]?=a_ n))(O: ~~~(X.env.scope.names.lookup n=a_ .local))(P: ~~~(Gl X c))(Y: ~~~(X.ex=[]))(d: ~~~(X.stack=X.env::X.outer))(u: ~~~(X.env.frame=a_ X.env.locals))(v:((c==("__debug__":p_))=b_)⁻¹):
  PS X (.Try body [.ExceptHandler (a_ (.Name c np)) (a_ n) (b₀::suite) hpos] [] [] pos) (tTry tb i C ts):=by
 intro A4 s σ H D I h;refine wpAny_Try_except (Bs (Q A4 σ (EH i C ts D σ) (λe k=>Cb (D_ X.prog X.w) X.A (MX e X.env) (λ_ j=>Cb (D_ X.prog X.w) X.A (KO e c_) (λ_ g=>Cb (D_ X.prog X.w) X.A (handleBy e X.env [.ExceptHandler (a_ (.Name c np)) (a_ n) (b₀::suite) hpos]) (SP X A4 D) X.xe g) X.xe j) X.xe k) ?_ s H D (I.vJ _) h) λf F z=>?_)
 ·rintro H1 F e s' A ⟨a,T,Cv,dx,H',rfl,z⟩;have r:=A.kU;obtain⟨rfl,q⟩:=z.want;have J:A6 X A4 σ H' s':=r.call' z.os z.un z.hok z.bare (λ_ h=>nomatch h);have l:∀b,F.heap.get? b=c_->∀p∈X.pn++A4,p.1≠b:=λb e p t w=>by
   have:=(r.pin p t).1;rw[w,e]at this;cases this
  have o:Apart X A4 H' s' a (a_ T):=⟨r.Ak Y z.na,z.fa,l a z.na,λT' m=>by cases m;exact⟨r.Ak Y z.nT,z.fT,l T z.nT⟩⟩
  have e0:=J.env0;have f1:=e0.frames;have f2:=e0.xt;rw[d]at f1 f2;refine leave2 (base:=X.base) f1 f2 u z.ex λh' Z K m G=>?_;rw[<- d]at G;have I2:=J.left Y z.ex o G;have y:Apart X A4 H' {s' with heap:=h'} a (a_ Z):=⟨o.na,o.fa,o.pa,λT' x=>by
   cases x;refine⟨get_none (Gw J.sz m),J.hok.fresh m,λp t w=>?_⟩
   have:=x_ (J.pin p t).1;rw[w]at this;exact Gb this (LF.mpr m)⟩
  exact FT I2 K y Y S U P N R hi O (λoe h1 h2 W=>by rw[<- h2];exact L a oe h1 W) (q a z.fa) v
 ·have z:=SP.kU z;cases f with
  |next=>exact JH z|_=>exact z
end
section
open PySem.W
variable{E:Mq}{g:Array GenState}{d:Drawn}{t:Nat}{od:Option J_}{K:NS}
theorem xcls_by{Q:Mq}(FB:Jf B bmB)(Y:K.In h)(I:HR h a oe C od)(e1:Gh K (.ref C) "__getattribute__"=a_ (a_ (.builtin "BaseException.__getattribute__")))(e3:Gh K (.ref C) "__getattr__"=a_ c_)(c:∀R:Nh->y_->Prop,R (.ok (.ret (.ref C))) ⟨h,g,d,t,os⟩->Jm (D_ prog w) A (.call (.builtin "BaseException.__getattribute__") ⟨[.ref a,.str "__class__" tk],[]⟩) R ⟨h,g,d,t,os⟩)(q:Q (.ref C) ⟨h,g,d,t,os⟩):
  Cb (D_ prog w) A (Ox (.ref a) (.str "__class__" tk) b_) Q E ⟨h,g,d,t,os⟩:=by
 have b:=I.type (M:=D_ prog w);have m1:=IX (M:=D_ prog w) Y e1;have e:=IX (M:=D_ prog w) Y e3;have b3:=FB.ga.bind (.ref a);have f:(Ji "BaseException.__getattribute__"==Ji "object.__getattribute__")=b_:=by decide +kernel
 unfold Ox
 repeat (any_goals (first|assumption|with_reducible refine b.at ?_|with_reducible refine m1.at ?_|with_reducible refine e.at ?_|wp_step))
 all_goals (refine c _ ?_)
 repeat (any_goals (first|wp_step|assumption))
theorem sH{M:K2}{Y:i_}{Q:Unit->y_->Prop}(e:K.In h)(I:HR h a oe C od)(j:Iv K C (.type "BaseException")=a_ d_)(i:Q () ⟨h,g,d,t,os⟩):
  Cb M A (Ly "BaseException.__getattribute__" ⟨[.ref a,Y],[]⟩) Q E ⟨h,g,d,t,os⟩:=by
 have c:builtinKind "BaseException.__getattribute__"=a_ .slot:=by decide +kernel
 have f:splitId "BaseException.__getattribute__"=a_ ("BaseException","__getattribute__"):=by decide +kernel
 have b:=I.type (M:=M);have m1:=looks_mroIn (M:=M) e j;have k:=F.args_bexc_ga (.ref a) Y;simp only[Ly,f,c];refine h_ ?_;unfold NQ
 repeat (first|with_reducible refine b.at ?_|with_reducible refine m1.at ?_|wp_step)
 exact i
theorem Bv{Q:Fin->y_->Prop}(Y:K.In h)(I:HR h a oe C od)(e2:Gh K (.ref C) "__class__"=a_ (a_ (.builtin "object.__class__")))(c:Iv K C (.type "object")=a_ d_)(j:Q (.done (.ret (.ref C))) ⟨h,g,d,t,os⟩):
  Cb (D_ prog w) A (Builtin.«object.__getattribute__» ⟨[.ref a,.str "__class__" tk],[]⟩) Q E ⟨h,g,d,t,os⟩:=by
 have tc:Shared.TypeIs ⟨h,g,d,t,os⟩ (.builtin "object.__class__") "getset_descriptor":=M5;have b:=I.type (M:=D_ prog w);have m1:=IX (M:=D_ prog w) Y e2;have i:=M5;have f:=F.slot_gs_get.lookup;have e:=F.slot_gs_set.lookup
 repeat (any_goals (first|assumption|with_reducible refine b.at ?_|with_reducible refine m1.at ?_|wp_step))
 refine W.class_get (s:=⟨h,g,d,t,os⟩) Y I c ?_
 repeat (any_goals (first|wp_step|assumption))
theorem De{Q:Option i_->y_->Prop}(FB:Jf B bmB)(Y:K.In h)(I:HR h a oe C od)(e1:Gh K (.ref C) "__getattribute__"=a_ (a_ (.builtin "BaseException.__getattribute__")))(e2:Gh K (.ref C) "__class__"=a_ (a_ (.builtin "object.__class__")))(e3:Gh K (.ref C) "__getattr__"=a_ c_)(e:Iv K C (.type "BaseException")=a_ d_)(c:Iv K C (.type "object")=a_ d_)(b:Q (a_ (.ref C)) ⟨h,g,d,t+1,os⟩):Cb (D_ prog w) A (getAttr? (.ref a) "__class__") Q E ⟨h,g,d,t,os⟩:=by unfold getAttr? getAttrBy?;refine h_ (wpAny_mkText (h_ (wpAny_attempt (xcls_by FB Y I e1 e3 (λR f=>IU FB.ga.plain Oj (sH Y I e (Bv Y I e2 c f))) ?_))));exact z_ b
structure XIsi(K:NS)(C:g_):Prop where
 ga:Gh K (.ref C) "__getattribute__"=a_ (a_ (.builtin "BaseException.__getattribute__"))
 cl:Gh K (.ref C) "__class__"=a_ (a_ (.builtin "object.__class__"))
 gt:Gh K (.ref C) "__getattr__"=a_ c_
 bs:Iv K C (.type "BaseException")=a_ d_
 ob:Iv K C (.type "object")=a_ d_
 is:∃cd,LB K C=a_ cd
theorem B1(FB:Jf B bmB)(Z:XIsi K C):KitX K (.ref a) (.ref C) (λh=>HR h a oe C od) where
 ty:=λ_ _ _ I=>I.type
 it:=λ_ _ X _=>by
  obtain⟨cd,Y⟩:=Z.is;unfold LB at Y;split at Y
  ·next c=>intro n l m s' k q;unfold isType loadHead;refine h_ (Mc (k C _ (X C _ c)) ?_);exact z_ q
  ·cases Y
 ne:=λhh f d1 is j i X b=>by
  obtain⟨cd,Y⟩:=Z.is;refine Bool.eq_false_iff.mpr (λq=>?_);have e:C=f:=Value.ref.inj (HU.mp q);subst e;unfold LB at Y;split at Y
  ·next c=>cases(X C _ c).symm.trans b
  ·cases Y
 ca:=λ{_ _ _ _ _ s} X I k=>by obtain⟨h,g,d,t,os⟩:=s;exact De FB X I Z.ga Z.cl Z.gt Z.bs Z.ob k
end
theorem AH:∀{ys:List g_} {A8:List i_},B' (ys.map V.ref) A8->A8=ys.map FZ
 |[],_,.nil=>rfl|y::ys,_,.cons r rs=>by rw[AH rs,show _=FZ y from r];rfl
def tRefs(ys:List g_):TA:=λ_ H Q=>Q (ys.map V.ref) H
section
variable{D:g_}{y:p_}{ys:List g_}
theorem pa_refs0:PA X [] (tRefs []):=aO
theorem lr(a:PA X es (tRefs ys))(c:X.mg y=a_ (.ref D))(b: ~~~(Gl X y))(hd:((y==("__debug__":p_))=b_)⁻¹)(Y: ~~~(iF (.Name y p::es) X.env=(b_,Gj (.Name y p) X.env)::iF es X.env)):PA X (.Name y p::es) (tRefs (D::ys)):=
 λps A4 s σ H Q I h=>ax (uA (v:=.ref D) b c rfl hd) a Y ps A4 s σ H Q I h
end
def DEat(K:Pn)(E:XK)(own:Bool)(X:Cx)(A4:Vp)(σ:St)(e:GX)(f:ah->M A3):Prop:=PEat X A4 σ e (tD K (WE K E) own f)
def DSat(K:Pn)(E:XK)(ro:Bool)(X:Cx)(OL O O':List Nat)(A4:Vp)(σ:St)(st:List GW)(g:ah->M A9):Prop:=∀F0 H0,PSsAt X A4 σ st (tS K (WE K E) ro F0 H0 OL O O' g)
theorem PEat.imp{t u:TE}(h:PEat X A4 σ e t)(k:∀H Q,u σ H Q->t σ H Q):PEat X A4 σ e u:=λs H Q I q=>h s H Q I (k H Q q)
theorem PSat.imp{t u:TS}(h:PSat X A4 σ st t)(k:∀D H,u D σ H->t D σ H):PSat X A4 σ st u:=λs H D I q=>h s H D I (k D H q)
section
variable{fr:ah->M (List A3)}
theorem dea_call{k:Nat}{ps:List p_}{g:ah->M A9}(F:i6 X.prog X.w X.K X.mg X.base CX k fad fd ps (spX K ro (bQ nN n g) n))(i:kJ CX X A4 σ E)(j:i5 k X.A)(l:X.mg x=a_ (.ref fad))(m:HW X.K (.ref fad)=d_)(t:Binds X.K fd ps [])(u:DA K (WE K E) X (e::es) fr)(o: ~~~(Gl X x))(b:((x==("__debug__":p_))=b_)⁻¹)(Y: ~~~(iF (e::es) X.env=(b_,Gj e X.env)::iF es X.env))(a: ~~~((GG pos (iF es X.env)).any (·.1)=b_)):
  DEat K E ro X A4 σ (.Call (.Name x p) (e::es) [] pos) (fL (bQ nN n g) fr):=by
 refine PEat.imp (at_call F i j l m t .nil u o b Y a) λH Q h=>?_;obtain⟨F,ρ,r,s,p⟩:=rd_L h;refine⟨F,ρ,r,s,?_⟩
 cases e1:fr ρ with
 |error z=>rw[e1]at p;exact p|ok ds=>
  rw[e1]at p;intro vs F' H' st q;obtain⟨F1,I,d,f,z⟩:=p vs F' H' st q;show spX K ro (bQ nN n g) n (vs++[]) H' Q E;rw[IB];by_cases c:I.length=n
  ·exact⟨F1,I,d,f,c,z⟩
  ·rw[ur c]at z;exact aN.stuck z
end
section
variable{own:Bool}{f:ah->M A3}
theorem dsa_set(b:X.N.Nodup)(h:DEat K E own X A4 σ e f)(hi: ~~~(X.N[i]?=a_ x))(I:autoParam (Loc X.env.scope x) Jq6)(Y: ~~~(Hr e (a_ (.Name x pos')) pos.line X.env=Hq b_))(a:autoParam (X.fn x=d_\/X.env.scope.names.lookup x=a_ .local) Jq3):
  DSat K E ro X OL O (aft own i O) A4 σ [.Assign [.Name x pos'] e pos] (b7 O i f):=λF0 H0=>at_one (PSat.imp (at_set b hi I h Y a) λD H z=>yL z)
end
theorem Rep.back{K:Pn}{F0 H0 F1 H1 FB F H:Hp}{O:List Nat}{σ:St}{ρ:ah}(r:Rep K F1 H1 FB O F H σ ρ)(s:A5 F0 H0 F1 H1):Rep K F0 H0 FB O F H σ ρ:=
 ⟨s.trans r.st,r.fb,r.len,r.fz,λi d e h=>let ⟨v,z,q⟩:=r.ow i d e h;⟨v,z,q.back s.hh⟩,r.ap⟩
noncomputable abbrev xArgs(vs:List i_):J_:={cls:=.type "tuple",data:=.seq vs.toArray}
noncomputable abbrev Df(C t:g_):J_:={cls:=.ref C,data:=.fields #[.ref t,.none,.none,.none,.bool b_,.none]}
abbrev tX(h:GQ)(C:g_)(vs:List i_):GQ:=(h.push (xArgs vs)).push (Df C h.objs.size)
section
variable{E:Mq}
variable{g:Array GenState}{d:Drawn}{t:Nat}
variable{q:p_}{N:g_}{bs tl:List i_}{k1:Option i_}{mN:Ld}{oI:J_}
theorem pD{o:J_}(e:h.get? b=a_ o):(tX h C us).get? b=a_ o:=n_ _ (n_ _ e)
theorem vG:(tX h C us).get? (h.objs.size+1)=a_ (Df C h.objs.size):=by
 have z:=E_ (h.push (xArgs us)) (o:=Df C h.objs.size) rfl
 rwa [Hm]at z
theorem x_type(F:Jp B newId initId bmB)(T:Og h bmB tl)(I:h.get? C=a_ (KG nm q C N bs tl hdct sn sub ab col dd k0 k1 k2 k3 k5 newId))(c:h.Ns N mN)(hi:mN "__init__"=a_ (.ref fI))(j:h.get? fI=a_ oI)(Y:oI.cls=.type "function")(l:us.length<=f_){Q:Fin->y_->Prop}(z:Cb (D_ prog w) A (Jn (.ref fI) (.ref (h.objs.size+1)::us)) (λr s'=>r=.none/\Q (.done (.ret (.ref (h.objs.size+1)))) s') E ⟨tX h C us,g,d,t,os⟩):
  Cb (D_ prog w) A (Builtin.«type.__call__» ⟨.ref C::us,[]⟩) Q E ⟨h,g,d,t,os⟩:=by
 have k:∀b o,h.get? b=a_ o->(tX h C us).get? b=a_ o:=λb o e=>pD e;have a:=k _ _ I;have i:(FZ C::tl).contains (.ref C)=d_:=by simp
 have f:(tX h C us).get? (h.objs.size+1)=a_ (Df C h.objs.size):=vG
 repeat (first|with_reducible refine wpAny_madeBy_exc I ?_|with_reducible refine Jl I ?_|wp_step)
 refine codeAny_call_builtin_code (KA _ F.quiet) (wpAny_check_new_subT F T I (codeAny_exc_new_subT F T I ?_ l));show Cb _ _ _ _ _ (⟨tX h C us,g,d,t,os⟩:y_);unfold NQ
 repeat (first|(with_reducible refine NG a ?_;rw[i])|with_reducible refine Jl f ?_|wp_step)
 refine wpAny_typeLookup_tail a (c.keeps k) (T.keeps k) F.mroIs F.init.lookup ?_;rw[hi];unfold bindSpecial;refine Ic (h_ (h_ (wpAny_typeOf (T:="function") ⟨_,k _ _ j,Y⟩ ?_)));rw[e_ (by decide)];refine z_ (h_ (Bs z λr s' y=>?_));obtain⟨e,y⟩:=y;subst e
 wp_walk
 exact y
theorem x_call(F:Jp B newId initId bmB)(T:Og h bmB tl)(I:h.get? C=a_ (KG nm q C N bs tl hdct sn sub ab col dd k0 k1 k2 k3 k5 newId))(a:h.Ns N mN)(hi:mN "__init__"=a_ (.ref fI))(b:h.get? fI=a_ oI)(Y:oI.cls=.type "function")(c:us.length<=f_){Q:Mq}(z:Cb (D_ prog w) (A.under (.builtin "type.__call__" ⟨.ref C::us,[]⟩)) (Jn (.ref fI) (.ref (h.objs.size+1)::us)) (λr s'=>r=.none/\Q (.ref (h.objs.size+1)) s') E ⟨tX h C us,g,d,t,os⟩):
  Cb (D_ prog w) A (Jn (.ref C) us) Q E ⟨h,g,d,t,os⟩:=by
 have f:=tc_lookup;have e:=tc_bind (.ref C);have ty:(⟨h,g,d,t,os⟩:y_).TypeIs (.ref C) "type":=⟨_,I,rfl⟩
 refine Kk (codeAny_of_tree ?_);show Cb _ _ (callAny (.ref C) _) _ _ _
 (repeat (any_goals (first|assumption|with_reducible refine Jl I ?_|wp_step)));exact⟨rfl,codeAny_call_builtin_at (KA _ (by decide +kernel)) entry_typeCall (wpAny_check_type_call_sub I (x_type F T I a hi b Y c z))⟩
end
theorem ns_some{N:g_}{m:Ld}{n:p_}{v:i_}(X:K.In h)(G:h.Ns N m)(e:NA K N n=a_ (a_ v)):m n=a_ v:=by
 obtain⟨o,es,ep,Y,g2,_,I⟩:=G;unfold NA at e;cases q:K.lookup N with
 |none=>rw[q]at e;exact nomatch e
 |some g=>
  have z:=X _ _ q;rw[Y]at z;cases z;obtain⟨c,d,a,b⟩:=o;cases(show a=.dict es ep from g2);rw[q]at e;dsimp only at e;cases f:es.toList.find? (·.key.isStr n)with
  |none=>rw[f]at e;dsimp only at e;split at e<;>cases e
  |some i=>rw[f]at e;cases e;rw[<- I];unfold nsFind findBy;rw[<- MW,f];rfl
noncomputable def Kzc:Data->Option ClassData
 |.cls c=>a_ c|_=>c_
theorem Kzd{d:Data}{c:ClassData}(h:Kzc d=a_ c):d=.cls c:=by cases d<;>cases h;rfl
def la(K:Pn)(C:g_)(bmB:List i_)(newId:String)(f:g_):Bool:=(K.lookup C).any λo=>(Kzc o.data).any λc=>c.mro.head? ==a_ (.ref C)&&(o.cls==.type "type"&&(!c.hasDel&&(PySem.W.nsOkIn K c.ns&&(PySem.W.tailIn K bmB c.mro.tail&&(NA K c.ns "__init__"==a_ (a_ (.ref f))&&(o.slots.toList.length==6&&o.slots.toList[4]?==a_ (a_ (.builtin newId))))))))
theorem Kz6{l:List α}{x:α}(h:l.length=6)(I:l[4]?=a_ x):∃a b c d e,l=[a,b,c,d,x,e]:=by obtain⟨k0,l,rfl⟩:=GP (n:=5) h;obtain⟨k1,l,rfl⟩:=GP (n:=4) (G8 h);obtain⟨k2,l,rfl⟩:=GP (n:=3) (G8 (G8 h));obtain⟨k3,l,rfl⟩:=GP (n:=2) (G8 (G8 (G8 h)));have b:=G8 (G8 (G8 (G8 h)));obtain⟨Y,l,rfl⟩:=GP (n:=1) b;obtain⟨k5,l,rfl⟩:=GP (n:=0) (G8 b);cases I;rw[List.eq_nil_of_length_eq_zero (G8 (G8 b))];exact⟨_,_,_,_,_,rfl⟩
theorem uU(X:K.In h)(q:la K C bmB newId f=d_):
  ∃tl N nm a bs hdct sn sub ab col dd k0 k1 k2 k3 k5 mN,h.get? C=a_ (KG nm a C N bs tl hdct sn sub ab col dd k0 k1 k2 k3 k5 newId)/\h.Ns N mN/\mN "__init__"=a_ (.ref f)/\Og h bmB tl:=by
 obtain⟨⟨oc,dd,v,⟨l⟩⟩,d,q⟩:=(Mz _ _).mp q;obtain⟨⟨p,o,b,n,m,k,j,i,g,I,c⟩,e,q⟩:=(Mz _ _).mp q;cases Kzd e;simp only[l_,HU,KY]at q;obtain⟨a1,rfl,rfl,Y,u,t,s,r⟩:=q;obtain⟨tl,rfl⟩:=List.head?_eq_some_iff.mp a1;obtain⟨k0,k1,k2,k3,k5,rfl⟩:=Kz6 s r;exact⟨tl,n,p,m,o,k,j,i,g,I,dd,k0,k1,k2,k3,k5,_,X _ _ d,.of_isNs (Mh X Y),ns_some X (.of_isNs (Mh X Y)) t,PySem.W.tail_of_in X u⟩
theorem xnamed2(q:la K C bmB newId f=d_):yg K C bmB:=λ_ X=>by obtain⟨tl,N,nm,I,bs,hdct,sn,sub,ab,col,dd,k0,k1,k2,k3,k5,mN,a,c,b,Y⟩:=uU X q;exact⟨tl,N,nm,I,bs,hdct,sn,sub,ab,col,dd,k0,k1,k2,k3,k5,newId,a,Y⟩
noncomputable def Ozi:i_->Bool
 |.ref _=>d_|_=>b_
def vL(l:List i_):Bool:=l.dropWhile Ozi==[.type "ValueError",.type "Exception",.type "BaseException",.type "object"]
theorem Ozj{P:List i_->Prop}(Y:P [.type "ValueError",.type "Exception",.type "BaseException",.type "object"])(h1:∀a l,P l->P (.ref a::l)):∀l:List i_,vL l=d_->P l:=λl=>by
 induction l with
 |nil=>exact λe=>nomatch (HU.mp e:([]:List i_)=_)
 |cons v r I=>
  intro e;unfold vL at e;rw[List.dropWhile_cons]at e;cases v with
  |ref a=>exact h1 a r (I e)|_=>rw[show(_::r)=_ from HU.mp e];exact Y
theorem ve_pass(I:i_){l:List i_}:vL l=d_->refuseLoop I "__setattr__" l=Hq ():=Ozj (P:=λl=>refuseLoop I "__setattr__" l=Hq ()) (PySem.F.store_ValueError.passes I) (λ_ _ h=>by rw[refuseLoop_ref];exact h) l
theorem ve_obj{l:List i_}:vL l=d_->l.contains (.type "object")=d_:=Ozj (P:=λl=>l.contains (.type "object")=d_) (by decide +kernel) (λ_ _ h=>by rw[M8,h,Ma]) l
structure D2(K:Pn)(C:g_)(f:p_):Prop where
 sa:Gh K (.ref C) "__setattr__"
   =a_ (a_ (.builtin "object.__setattr__"))
 no:Gh K (.ref C) f=a_ c_
 cd:((LB K C).any λcd=>vL cd.mro&&cd.hasDict)=d_
section
open PySem.W
variable{E:Mq}{od:Option J_}{K:NS}{f:p_}{v:i_}
theorem x_open{R:Nh->y_->Prop}(X:K.In s.heap)(I:HR s.heap a oe C od)(Z:D2 K C f)(z:∀b,Cb (D_ prog w) A.in1 (Nr (.ref a) (.ref C) (.str f tk) f v b)
   (λd s'=>match d with|.done y=>R (.ok y) s'|.again h=>h.quiet=d_/\Jm (D_ prog w) A h R s') (λe s'=>R (.error e) s') s):
  Jm (D_ prog w) A (.call (.builtin "object.__setattr__") ⟨[.ref a,.str f tk,v],[]⟩) R s:=by
 have c:=PySem.F.store_object;obtain⟨cd,g,Y⟩:=LU Z.cd;rw[l_]at Y;have j:cd.mro.isEmpty=b_:=by cases q:cd.mro with|nil=>rw[q]at Y;cases Y.1|cons _ _=>rfl
 have i:Looks (D_ prog w) s.heap (NQ (.ref a) (.type "object")) d_:=I.type.andThen (looks_mroIn X (by unfold Iv;rw[g,Option.bind_some,k_ (by rw[j];decide),ve_obj Y.1]));refine IU c.slot.plain c.entry (@check_slot (D_ prog w) _ _ s "object.__setattr__" "object" "__setattr__" (.ref a) [.str f tk,v] [] _ c.kind c.split i (c.args (.ref a) (.str f tk) v) ?_);rw[osa_eq,refuse_eq];have k:Looks (D_ prog w) s.heap (mroOf (.ref C)) cd.mro:=(LS X g).andThen .now;refine h_ (h_ (I.type.here (h_ (k.here ?_))));rw[ve_pass _ Y.1];exact z_ (h_ (I.type.here (h_ ((IX X Z.no).here (h_ (z_ (z _)))))))
theorem x_set1{vs:Array i_}{Q:Unit->y_->Prop}(X:K.In s.heap)(Z:D2 K C f)(Y:s.heap.get? a=a_ ⟨.ref C,c_,.fields vs,#[]⟩)(z:∀h',h'.get? a=a_ ⟨.ref C,a_ s.heap.objs.size,.fields vs,#[]⟩->h'.Ns1 s.heap.objs.size (λy=>if y=f then a_ v else c_)->(∀b o,b≠a->s.heap.get? b=a_ o->h'.get? b=a_ o)->Q () {s with heap:=h',toks:=s.toks+2}):
  Cb (D_ prog w) A (N_ (.ref a) f v) Q E s:=by
 have I:HR s.heap a ⟨.ref C,c_,.fields vs,#[]⟩ C c_:=⟨Y,rfl,rfl,K6⟩
 refine Oc X I Z.sa (x_open (s:={s with toks:=s.toks+1}) X I Z λb=>?_);obtain⟨cd,i,h⟩:=LU Z.cd;rw[l_]at h;refine h_ (z_ (h_ (h_ (Mc Y (h_ (MR (s:={s with toks:=s.toks+1}) (LS X i) ?_))))));rw[h.2];have d:a≠s.heap.objs.size:=Gs (x_ Y);have h1:(s.heap.push G0).get? a=a_ ⟨.ref C,c_,.fields vs,#[]⟩:=n_ _ Y;refine h_ (wpAny_alloc' (h_ (wpAny_update' h1 (z_ ?_))));have h2:((s.heap.push G0).update a λo=>{o with dict:=a_ s.heap.objs.size}).get? s.heap.objs.size=a_ G0:=by rw[Gq _ _ d];exact E_ s.heap rfl
 have k:((s.heap.push G0).update a λo=>{o with dict:=a_ s.heap.objs.size}).get? a=a_ ⟨.ref C,a_ s.heap.objs.size,.fields vs,#[]⟩:=IF _ h1 rfl;refine h_ (z_ (h_ (wpAny_nsSet1 (m:=λ_=>c_) (Mm ⟨G0,#[],_,h2,rfl,(λe Y=>Gb Y (by simp)),λ_=>rfl⟩) λh' g c=>?_)));obtain⟨u,l,n,t,r,p⟩:=g.count (MN f v Within.nil);refine h_ (Ot t (by rw[r];exact Ow (Gw p (by rw[Gi,Lc,C_];omega))) (z_ ?_));exact z h' ((c.2 a d).trans k) g λb o j q=>(c.2 b (Gs (x_ q))).trans (by rw[Gq _ _ (Gv j)];exact n_ _ q)
end
section
open PySem.W
variable{E:Mq}{od:J_}{K:NS}{f:p_}{v:i_}
theorem D2.hd(Z:D2 K C f):ID K C=d_:=by obtain⟨cd,Y,I⟩:=LU Z.cd;rw[l_]at I;unfold ID;rw[Y];exact I.2
theorem x_ga{Q:Fin->y_->Prop}(X:K.In s.heap)(I:HR s.heap a oe C (a_ od))(Y:D2 K C f)(c:JI f od=a_ (a_ v))(q:Q (.done (.ret v)) s):
  Cb (D_ prog w) A (Builtin.«object.__getattribute__» ⟨[.ref a,.str f tk],[]⟩) Q E s:=by
 have b:=I.type (M:=D_ prog w);have m1:=looks_find (M:=D_ prog w) X I (NH Y.hd Y.no rfl c);unfold Builtin.«object.__getattribute__»;exact h_ (z_ (h_ (z_ (h_ (b.here (h_ (m1.here (z_ q))))))))
theorem x_get{ex:Bool}{Q:Mq}(FB:Jf B bmB)(X:K.In s.heap)(I:HR s.heap a oe C (a_ od))(Z:XIsi K C)(Y:D2 K C f)(j:JI f od=a_ (a_ v))(hh:Lz v=d_)(q:Q v {s with toks:=s.toks+1}):
  Cb (D_ prog w) A (Nb (.ref a) f ex) Q E s:=by
 obtain⟨h,g,d,t,os⟩:=s;have i:=I.type (M:=D_ prog w);have m1:=IX (M:=D_ prog w) X Z.ga;have e:=IX (M:=D_ prog w) X Z.gt;have b3:=FB.ga.bind (.ref a);have l:(Ji "BaseException.__getattribute__"==Ji "object.__getattribute__")=b_:=by decide +kernel
 have b:∀{c:Iy} (R:Nh->y_->Prop),R (.ok (.ret v)) ⟨h,g,d,t+1,os⟩->Jm (D_ prog w) c (.call (.builtin "BaseException.__getattribute__") ⟨[.ref a,.str f t],[]⟩) R ⟨h,g,d,t+1,os⟩:=λ{c} R k=>IU FB.ga.plain Oj (sH X I Z.bs (x_ga (s:=⟨h,g,d,t+1,os⟩) X I Y j k))
 have ho:=handedOut_of hh;unfold Nb Ox;refine h_ (wpAny_mkText ?_);repeat (any_goals (first|assumption|with_reducible refine i.at ?_|with_reducible refine m1.at ?_|with_reducible refine e.at ?_|wp_step))
 rw[show(ex&&onTheHeap (Ji "BaseException.__getattribute__"))=b_ by rw[show onTheHeap (Ji "BaseException.__getattribute__")=b_ from rfl,Ib],k_ GZ]
 repeat (any_goals (first|wp_step|assumption))
 all_goals (refine b _ ?_)
 repeat (any_goals (first|wp_step|assumption))
 all_goals (first|(rw[ho];exact wpAny_pure q)|exact q)
end
noncomputable def XO(a C:g_)(dx:Option g_):HO:=.ext λh=>∃vs:Array i_,vs[1]?=a_ .none/\h.get? a=a_ ⟨.ref C,dx,.fields vs,#[]⟩
def XD(d:g_)(fs:List (p_×V)):HO:=.ext λh=>∃mA,h.Ns1 d mA/\(∀f,p8 (fs.lookup f) (mA f))/\Jv mA (fs.map (·.1))
section
variable{d:g_}{dx:Option g_}{fs:List (p_×V)}
theorem xo_ok{vs:Array i_}(h1:vs[1]?=a_ .none)(e:h.get? a=a_ ⟨.ref C,dx,.fields vs,#[]⟩):cN P w H h a (XO a C dx):=⟨⟨vs,h1,e⟩,⟨_,e⟩,λ_ _ ⟨vs,q,e⟩ k=>⟨vs,q,k _ e⟩⟩
theorem xd_ok{mA:Ld}(n:h.Ns1 d mA)(r:∀f,p8 (fs.lookup f) (mA f))(wi:Jv mA (fs.map (·.1))):cN P w H h d (XD d fs):=
 ⟨⟨mA,n,r,wi⟩,(let ⟨o,_,_,e,_⟩:=n;⟨o,e⟩),λ_ _ ⟨m,q,z⟩ k=>⟨m,q.at k,z⟩⟩
theorem Dd(x:cN P w H h a (XO a C dx)):∃vs:Array i_,vs[1]?=a_ .none/\h.get? a=a_ ⟨.ref C,dx,.fields vs,#[]⟩:=x.1
theorem xd_get(x:cN P w H h d (XD d fs)):∃mA,h.Ns1 d mA/\(∀f,p8 (fs.lookup f) (mA f))/\Jv mA (fs.map (·.1)):=x.1
end
theorem A6.turn{t':Nat}(I:A6 X A4 σ H s)(S:g_->Prop)(k:∀b o,¬S b->s.heap.get? b=a_ o->h'.get? b=a_ o)(Y:∀b,¬S b->H' b=H b)(a:∀b,S b->(∃g,H b=a_ (.ext g))\/s.heap.get? b=c_)(d:∀b o,S b->s.heap.get? b=a_ o->∃o',h'.get? b=a_ o')(h:∀b o,S b->H' b=a_ o->cN X.prog X.w H' h' b o):
  A6 X A4 σ H' {s with heap:=h',toks:=t'}:=by
 have out:∀b u,H b=a_ u->(∀g,u≠.ext g)->¬S b:=λb u e n z=>by
  rcases a b z with⟨g,q⟩|q
  ·rw[e]at q;cases q;exact n g rfl
  ·obtain⟨o,r⟩:=(I.hok b u e).is;rw[r]at q;cases q
 have f:∀b o,s.heap.get? b=a_ o->H b=c_->¬S b:=λb o e n z=>by
  rcases a b z with⟨g,q⟩|q
  ·rw[n]at q;cases q
  ·rw[e]at q;cases q
 refine I.un ⟨λb o e n _ _=>k b o (f b o e n) e,λb o e n _ _=>⟨o.slots,k b o (f b o e n) e⟩,λb o e n _=>by rw[Y b (f b o e n)];exact n,λb o e _=>?_,λb xs e=>?_,λb o u e=>?_,λb ps e=>?_⟩ λb u e=>?_
 ·by_cases z:S b
  ·exact d b o z e
  ·exact⟨o,k b o z e⟩
 ·rw[Y b (out b _ e λ_ z=>nomatch z)];exact e
 ·rw[Y b (out b _ e λ_ z=>nomatch z)];exact e
 ·exact⟨#[],by rw[Y b (out b _ e λ_ z=>nomatch z),Array.append_empty];exact e⟩
 ·by_cases z:S b
  ·exact h b u z e
  ·rw[Y b z]at e;refine(I.hok b u e).yy (λc v i q=>k c v ?_ q) (λc q=>?_) λc xs q=>?_
   ·rcases i with rfl|i
    ·exact z
    ·exact out c _ i λ_ z=>nomatch z
   ·rw[Y c (out c _ q λ_ z=>nomatch z)];exact q
   ·rw[Y c (out c _ q λ_ z=>nomatch z)];exact q
section
variable{E:Mq}{d:g_}{f:p_}
theorem xset1_ok{Q:Unit->y_->Prop}(I:A6 X A4 σ H s)(e:H a=a_ (XO a C c_))(Z:D2 X.K C f)(j:A' y u)(z:∀d s',H d=c_->d≠a->A6 X A4 σ (upd (upd H d (XD d [(f,y)])) a (XO a C (a_ d))) s'->Q () s'):Cb (D_ X.prog X.w) A (N_ (.ref a) f u) Q E s:=by
 obtain⟨vs,v1,n⟩:=Dd (I.hok a _ e);have fr:=I.hok.fresh (sy s.heap.objs.size);have i:s.heap.objs.size≠a:=λq=>by rw[q,e]at fr;cases fr
 refine x_set1 I.kIn Z n λh' e1 l k=>z s.heap.objs.size _ fr i ?_;refine I.turn (λb=>b=a\/b=s.heap.objs.size) (λb o h q=>k b o (λr=>h (.inl r)) q) (λb h=>by rw[aw λr=>h (.inl r),aw λr=>h (.inr r)]) (λb c=>?_) (λb o c q=>?_) λb o c q=>?_
 ·rcases c with rfl|rfl
  ·exact .inl ⟨_,e⟩
  ·exact .inr (get_none (sy _))
 ·rcases c with rfl|rfl
  ·exact⟨_,e1⟩
  ·rw[get_none (sy _)]at q;cases q
 ·rcases c with rfl|rfl
  ·rw[aq]at q;cases q;exact xo_ok v1 e1
  ·rw[aw i,aq]at q;cases q;refine xd_ok l (λg=>?_) λg m=>?_
   ·show p8 (GH g [(f,y)]) (if g=f then a_ u else c_);rw[v_];by_cases Y:g=f
    ·rw[e_ Y,show(g==f)=d_ from HU.mpr Y];exact j
    ·rw[k_ Y,show(g==f)=b_ from HC.mpr Y];trivial
   ·by_cases Y:g=f
    ·exact t_.mpr (.inl Y)
    ·exact Gb (show(if g=f then a_ u else c_)=c_ from k_ Y) m
end
def sX1(C:g_)(ta tv:TE)(f:p_):TS:=λD σ H=>tv σ H λy H1=>ta σ H1 λx H2=>∃a,x=.ref a/\H2 a=a_ (XO a C c_)/\∀d,H2 d=c_->d≠a->D.nx σ (upd (upd H2 d (XD d [(f,y)])) a (XO a C (a_ d)))
section
variable{o:GX}{f:p_}{tv:TE}
theorem ps_x1(k:PE X o ta)(hv:PE X value tv)(Z:D2 X.K C f)(j: ~~~(Hr value (a_ (.Attribute o f pos')) pos.line X.env=Hq b_)):PS X (.Assign [.Attribute o f pos'] value pos) (sX1 C ta tv f):=by intro A4 s σ H D I h;refine Lq (Bs (hv A4 s σ H _ I h) λu b Y=>?_) j;obtain⟨y,H1,p,c,q⟩:=Y;refine Bs (k A4 b σ H1 _ p q) λi t Y=>?_;obtain⟨x,H2,n,e,a,ex,l,g⟩:=Y;subst ex;cases(show i=FZ a from e);exact xset1_ok n l Z c λd r h1 h2 m=>⟨σ,_,m,g d h1 h2⟩
end
theorem upd_low{d:g_}{x y z:HO}:upd (upd (upd H a x) d y) a z=upd (upd H d y) a z:=by
 funext b
 by_cases I:b=a
 ·subst I;rw[aq,aq]
 ·rw[aw I,aw I];by_cases hd:b=d
  ·subst hd;rw[aq,aq]
  ·rw[aw hd,aw hd,aw I]
theorem fn_at(X:K.In h)(e:K9 K (.ref f)=a_ (.type "function")):∃o,h.get? f=a_ o/\o.cls=.type "function":=by
 unfold K9 at e;cases q:K.lookup f with
 |none=>simp only[q]at e;cases e|some o=>simp only[q]at e;exact⟨o,X _ _ q,by simpa using e⟩
theorem yr{M:K2}{E:Mq}{env:KS}{q:p_}{N:g_}{bs tl:List i_}{k1:Option i_}{x:Oe i_}{Q:Flow->y_->Prop}(k:tl.contains (.type "BaseException")=d_)(hh:A.handled=c_)(z:Cb M A x (λv I=>∃e oe,v=.ref e/\I.heap.get? C=a_ (KG nm q C N bs tl hdct sn sub ab col dd k0 k1 k2 k3 k5 newId)/\I.heap.get? e=a_ oe/\oe.cls=.ref C/\(∃vs,oe.data=.fields vs/\vs[1]?=a_ .none)/\E (.ref e) I) E s):
  Cb M A
    (raiseStmt env (a_ x) c_) Q E s:=by
 have l:(FZ C::tl).contains (.type "BaseException")=d_:=by rw[M8,k,Ma]
 unfold raiseStmt;refine h_ (Bs z λv I Y=>?_);obtain⟨e,oe,rfl,c,i,b,⟨vs,hd,a⟩,j⟩:=Y;obtain⟨oc,f,h,osl⟩:=oe;dsimp only at b hd;subst b hd;obtain⟨m,g,d,tk,os⟩:=I;repeat (first|(with_reducible refine NG c ?_;rw[l])|with_reducible refine Jl i ?_|with_reducible refine Jl c ?_|wp_step)
 rw[a];refine z_ ?_;rw[k_ (by decide)];exact z_ (wpAny_raiseNew_none hh j)
def XEq2(X:Cx)(E:XK)(C:g_):Prop:=∀(A4:Vp) (σ:St) (H:Hp) (s':y_) (a d:g_),A6 X A4 σ H s'->ExA s'.heap a (.ref C) (a_ d) c_->X.s₀.heap.get? a=c_->H a=c_->E (.ref C) (a_ d) H->X.xe (.ref a) s'
section
variable{base:GQ}
theorem xeqD2:XEq2 (zY (CXd P w) P w K mg base N qual scope f cd A outer s H E) E C:=λ_ _ _ _ _ _ J x I fa q=>xe_of J x I (λT Y=>nomatch Y) fa q
end
def tFldX(i:Nat)(a d:g_)(f:p_):TE:=λσ H Q=>σ[i]?=a_ (a_ (.ref a))/\∃gs v,H d=a_ (.xd gs)/\gs.lookup f=a_ v/\Q v H
section
variable{d:g_}{n f:p_}
theorem pe_xfld(FB:Jf B bmB)(Z:XIsi X.K C)(Y:D2 X.K C f)(F:oe.cls=.ref C)(hd:∃vs,oe.data=.fields vs)(w:oe.dict=a_ d)(K: ~~~(X.N[i]?=a_ n))(hv:autoParam (Vis X.env.scope n) Jq4)(j:((n==("__debug__":p_))=b_)⁻¹)(g:((n==("__classdict__":p_))=b_)⁻¹)(G: ~~~(Ha (.Name n p1) f X.env (Gj (.Name n p1) X.env)=Gj (.Name n p1) X.env)):PE (X.hand a oe) (.Attribute (.Name n p1) f pos) (tFldX i a d f):=by
 intro A4 s σ H Q I h;obtain⟨e1,gs,v,E,D,q⟩:=h;refine Ae (env:=(X.hand a oe).env) G (Bs (pv (X:=X.hand a oe) i K hv j g A4 s σ H (λx H1=>x=.ref a/\H1=H) I ⟨.ref a,e1,rfl,rfl⟩) λu k z=>?_);obtain⟨x,H1,b,m,ex,L⟩:=z;subst ex L;cases(show u=FZ a from m);have p:=(b.pin (a,oe) (GF ..)).1;obtain⟨mA,t,r⟩:=(show cN X.prog X.w H1 k.heap d (.xd gs)from b.hok d _ E)
 obtain⟨od,A,c⟩:=qB t;obtain⟨N,y,l⟩:=p8.some_of (v:=v) (o:=mA f) (by rw[<- D];exact r f);obtain⟨vs,e⟩:=hd;have J:HR k.heap a oe C (a_ od):=⟨p,F,by unfold Nd;rw[e],by rw[w];exact A⟩
 exact x_get FB b.kIn J Z Y (by rw[c,y]) (qL l) ⟨v,H1,b.tok _,l,q⟩
end
def pR(O:List Nat)(C:g_)(fb:ah->M A9)(fx:List (p_×A3)->ah->M ah):ah->M A9:=λρ=>match fb (erase O ρ)with
 |.ok fl=>.ok fl|.error (.exc I (f::fs))=>if I=C then(fx (f::fs) ρ).bind λρ'=>.ok (.nx ρ')else .error .stuck
 |.error _=>.error .stuck
theorem xA{fb:ah->M A9}{fl:A9}(h:fb (erase O ρ)=.ok fl):pR O C fb fx ρ=.ok fl:=by unfold pR;rw[h]
theorem tI{fb:ah->M A9}{f:p_×A3}{fs:List (p_×A3)}(h:fb (erase O ρ)=.error (.exc C (f::fs))):pR O C fb fx ρ=(fx (f::fs) ρ).bind λρ'=>.ok (.nx ρ'):=by unfold pR;rw[h];exact e_ rfl
section
variable{D:Ends}{fb:ah->M A9}
theorem rs_tryF(b:∀(a d:g_) (gs:List (p_×V)) (fs:List (p_×A3)) (FB F H:Hp) (ρ:ah),Rep K F0 H0 FB O F H σ ρ->F d=a_ (.xd gs)->jh K F fs gs->iE K C' ro F0 H0 FB OL O D ((fx fs ρ).bind λρ'=>.ok (.nx ρ'))->ts a (a_ d) (D.less i) (σ.set i (a_ (.ref a))) H)(t:tS K C' ro F0 H0 OL O O (pR O C fb fx) D σ H):tTry (λE D σ H=>∃F1 H1,tS K (WE K E) ro F1 H1 OL [] O fb D σ H) i C ts D σ H:=by
 obtain⟨FB,F,ρ,r,p⟩:=t;have I:=r.iI;refine⟨F,H,FB,F,erase O ρ,⟨A5.refl r.st.fh,r.fb,I.len,λm d e _=>I.sl m d e,(λm d e h=>nomatch h),(λm n d1 d2 c h=>nomatch h)⟩,?_⟩
 cases e:fb (erase O ρ)with
 |ok fl=>
  rw[xA e]at p;cases fl with
  |nx ρ'=>exact λσ' F' H' r'=>p σ' F' H' (r'.back r.st)|rt d=>exact λv F' H' s' q=>p v F' H' (r.st.trans s') (q.back r.st.hh)|bk ρ'=>exact λσ' F' H' r'=>p σ' F' H' (r'.back r.st)|ct ρ'=>exact λσ' F' H' r'=>p σ' F' H' (r'.back r.st)
 |error x=>
  cases x with
  |stuck=>exact p.stuck (by unfold pR;rw[e])|exc j fs=>
   cases fs with
   |nil=>exact p.stuck (by unfold pR;rw[e])|cons f fs=>
    by_cases Y:j=C
    ·subst Y;rw[tI e]at p;exact λF' H' s' d gs hd g=>⟨rfl,λa _=>b a d gs _ FB F' H' ρ (r.step s') hd g p⟩
    ·exact p.stuck (by unfold pR;rw[e];exact k_ Y)
end
section
variable{c n:p_}{fb:ah->M A9}
theorem ds_tryF(o:∀(A4:Vp) (σ:St) (E:XK) (b:Mq),kJ (CXd X.prog X.w) (X.vJ b) A4 σ E->DSat K E ro (X.vJ b) OL [] O A4 σ body fb)(h:∀(a:g_) (oe:J_),oe.cls=.ref C->(∃vs,oe.data=.fields vs)->PSs (X.hand a oe) (b₀::suite) (ts a oe.dict))(t:∀(F0 H0:Hp) (D:Ends) (σ:St) (a d:g_) (gs:List (p_×V)) (fs:List (p_×A3)) (FB F H:Hp) (ρ:ah),σ.length=X.N.length->Rep K F0 H0 FB O F H σ ρ->F d=a_ (.xd gs)->jh K F fs gs->iE K C' ro F0 H0 FB OL O D ((fx fs ρ).bind λρ'=>.ok (.nx ρ'))->ts a (a_ d) (D.less i) (σ.set i (a_ (.ref a))) H)(v:yg X.K C bmB)(w:bmB.contains (.type "BaseException")=d_)(k:X.mg c=a_ (.ref C))(u:X.N.Nodup)(hi: ~~~(X.N[i]?=a_ n))(l: ~~~(X.env.scope.names.lookup n=a_ .local))(m: ~~~(Gl X c))(f: ~~~(X.ex=[]))(Y: ~~~(X.stack=X.env::X.outer))(e: ~~~(X.env.frame=a_ X.env.locals))(g:((c==("__debug__":p_))=b_)⁻¹):
  DS K C' ro X OL O O (.Try body [.ExceptHandler (a_ (.Name c np)) (a_ n) (b₀::suite) hpos] [] [] pos) (pR O C fb fx):=λF0 H0 A4 s σ H D I z=>
 ps_try (tb:=λE D σ H=>∃F1 H1,tS K (WE K E) ro F1 H1 OL [] O fb D σ H) (λA4 σ E b j s H D I ⟨F1,H1,q⟩=>o A4 σ E b j F1 H1 s H D I q) h v w k u hi l m f Y e g A4 s σ H D I (rs_tryF (λa d gs fs FB F H ρ r h1 h2 p=>t F0 H0 D σ a d gs fs FB F H ρ I.len r h1 h2 p) z)
end
structure XMk(K:Pn)(mg:Ld)(x:p_)(C f:g_):Prop where
 mg:mg x=a_ (.ref C)
 ex:la K C [.type "ValueError",.type "Exception",.type "BaseException",.type "object"] "ValueError.__new__" f=d_
 fn:K9 K (.ref f)=a_ (.type "function")
 kp:HW K (.ref C)
   =d_
structure XTry(K:Pn)(mg:Ld)(x:p_)(C:g_):Prop where
 mg:mg x=a_ (.ref C)
 nm:yg K C [.type "ValueError",.type "Exception",.type "BaseException",.type "object"]
 isi:XIsi K C
def rIsi(K:Pn)(C a:g_)(R:Hp->Prop):List V->Hp->VK->Prop:=λxs H Q=>R H/\∃v b,xs=[.ref a,v] /\
  ((∃c,A' v c/\(∀u,A' v u->u=c)/\GL K (.ref C) c=a_ b)\/∃(I:g_) (ys:List g_),v=.ref I/\H I=a_ (.tup (ys.map V.ref))/\kitAny K (.ref C) (ys.map FZ)=a_ b)/\Q (.bl b) H
def XDk(d:g_):Hp->Prop:=λH=>∃gs,H d=a_ (.xd gs)
noncomputable def tIsiR(i:Nat)(a:g_)(R:Hp->Prop)(b:Bool):TE:=λσ H Q=>σ[i]?=a_ (a_ (.ref a))/\R H/\Q (.bl b) H
def tIsiTR(i:Nat)(a:g_)(R:Hp->Prop)(ys:List g_)(b:Bool):TE:=λσ H Q=>σ[i]?=a_ (a_ (.ref a))/\∀p,H p=c_->R (upd H p (.tup (ys.map V.ref)))/\Q (.bl b) (upd H p (.tup (ys.map V.ref)))
section
variable{d:g_}
theorem FQ(FB:Jf B bmB)(Z:XIsi X.K C)(O:oe.cls=.ref C)(hd:∃vs,oe.data=.fields vs)(G:oe.dict=a_ d):fW (X.hand a oe) (.builtin "isinstance") (rIsi X.K C a (XDk d)):=by
 intro A4 s σ H xs us Q I r h;obtain⟨⟨gs,N⟩,v,b,rfl,h1,q⟩:=h;obtain⟨u,w,rfl,A,f⟩:=r.two;cases(show u=FZ a from A);have D:=(I.pin (a,oe) (GF ..)).1;obtain⟨vs,k⟩:=hd;obtain⟨mA,⟨od,es,ep,L,j⟩,_⟩:=(show cN X.prog X.w H s.heap d (.xd gs)from I.hok d _ N)
 have J:HR s.heap a oe C (a_ od):=⟨D,O,by unfold Nd;rw[k],by rw[G];exact L⟩
 rcases h1 with⟨c,R,Y,e⟩|⟨g,ys,rfl,K,e⟩
 ·cases Y w f;exact Iq (B1 FB Z) I.kIn J e (λz=>nomatch z) λtk=>⟨.bl b,H,I.tok tk,rfl,q⟩
 ·cases(show w=FZ g from f);obtain⟨_,A8,y,F,x,t⟩:=(show cN X.prog X.w H s.heap g (.tup (ys.map V.ref))from I.hok g _ K)
  obtain⟨p,n,o⟩:=t;have P:A8=ys.map FZ:=AH y;subst P;obtain⟨oc,E,i,osl⟩:=F;have m:oc=IJ "tuple":=p;have l:i=.seq (ys.map FZ).toArray n:=o;subst m l;exact PySem.W.kia_tup (B1 FB Z) I.kIn J x e (λz=>nomatch z) λtk=>⟨.bl b,H,I.tok tk,rfl,q⟩
end
section
variable{D:g_}{R:Hp->Prop}{n y:p_}{b:Bool}{ys:List g_}
theorem pe_isO(k:fW (X.hand a oe) (.builtin "isinstance") (rIsi X.K C a R))(o:X.mg "isinstance"=c_)(x:X.mg y=a_ (.ref D))(t:GL X.K (.ref C) (.ref D)=a_ b)(w: ~~~(X.N[i]?=a_ n))(hv:autoParam (Vis X.env.scope n) Jq4)(j:((n==("__debug__":p_))=b_)⁻¹)(g:((n==("__classdict__":p_))=b_)⁻¹)(r: ~~~(Gl (X.hand a oe) "isinstance"))(e: ~~~(Gl (X.hand a oe) y))(f:((y==("__debug__":p_))=b_)⁻¹)(c: ~~~(iF [.Name n p1,.Name y p2] X.env=[(b_,Gj (.Name n p1) X.env),(b_,Gj (.Name y p2) X.env)]))(Y: ~~~(iF [.Name y p2] X.env=[(b_,Gj (.Name y p2) X.env)]))(d: ~~~((GG pos (iF [.Name y p2] X.env)).any (·.1)=b_)):
  PE (X.hand a oe) (.Call (.Name "isinstance" p) [.Name n p1,.Name y p2] [] pos) (tIsiR i a R b):=by
 have l:PE (X.hand a oe) (.Name y p2) (tC (.ref D)):=λA4 s σ H Q I h=>j5 I e x ⟨.ref D,H,I,rfl,h⟩ f;refine PE.imp (iK (X:=X.hand a oe) k r o JK (ax (pv i w hv j g) (ax l aO Y) (by rw[c,Y])) (by decide) (by decide) (by rw[c,Y]) d) λσ H Q h=>?_;obtain⟨e1,v,q⟩:=h;exact⟨.ref a,e1,v,.ref D,b,rfl,.inl ⟨.ref D,rfl,λu m=>m,t⟩,q⟩
theorem pe_isB(l:fW (X.hand a oe) (.builtin "isinstance") (rIsi X.K C a R))(r:X.mg "isinstance"=c_)(e:X.mg y=c_)(c:HN y=a_ (.type T))(t:GL X.K (.ref C) (.type T)=a_ b)(w: ~~~(X.N[i]?=a_ n))(hv:autoParam (Vis X.env.scope n) Jq4)(k:((n==("__debug__":p_))=b_)⁻¹)(j:((n==("__classdict__":p_))=b_)⁻¹)(s: ~~~(Gl (X.hand a oe) "isinstance"))(f: ~~~(Gl (X.hand a oe) y))(m:(y≠"__name__")⁻¹)(g:((y==("__debug__":p_))=b_)⁻¹)(Y: ~~~(iF [.Name n p1,.Name y p2] X.env=[(b_,Gj (.Name n p1) X.env),(b_,Gj (.Name y p2) X.env)]))(I: ~~~(iF [.Name y p2] X.env=[(b_,Gj (.Name y p2) X.env)]))(d: ~~~((GG pos (iF [.Name y p2] X.env)).any (·.1)=b_)):
  PE (X.hand a oe) (.Call (.Name "isinstance" p) [.Name n p1,.Name y p2] [] pos) (tIsiR i a R b):=by
 refine PE.imp (iK (X:=X.hand a oe) l s r JK (ax (pv i w hv k j) (ax (pe_tyN (X:=X.hand a oe) (pos:=p2) f e c m g) aO I) (by rw[Y,I])) (by decide) (by decide) (by rw[Y,I]) d) λσ H Q h=>?_;obtain⟨e1,v,q⟩:=h;exact⟨.ref a,e1,v,.ty T,b,rfl,.inl ⟨.type T,rfl,λu o=>o,t⟩,q⟩
theorem pe_isT{j}(k:fW (X.hand a oe) (.builtin "isinstance") (rIsi X.K C a R))(l:X.mg "isinstance"=c_)(s:PA (X.hand a oe) es (tRefs ys))(m:ys.length<=f_)(r:kitAny X.K (.ref C) (ys.map FZ)=a_ b)(t: ~~~(X.N[i]?=a_ n))(hv:autoParam (Vis X.env.scope n) Jq4)(g:((n==("__debug__":p_))=b_)⁻¹)(f:((n==("__classdict__":p_))=b_)⁻¹)(o: ~~~(Gl (X.hand a oe) "isinstance"))(c: ~~~(iF [.Name n p1,.Tuple es j p2] X.env=[(b_,Gj (.Name n p1) X.env),(b_,Gj (.Tuple es j p2) X.env)]))(I: ~~~(iF [.Tuple es j p2] X.env=[(b_,Gj (.Tuple es j p2) X.env)]))(e: ~~~((GG pos (iF [.Tuple es j p2] X.env)).any (·.1)=b_)):
  PE (X.hand a oe) (.Call (.Name "isinstance" p) [.Name n p1,.Tuple es j p2] [] pos) (tIsiTR i a R ys b):=by
 refine PE.imp (iK (X:=X.hand a oe) k o l JK (ax (pv i t hv g f) (ax (wM s) aO I) (by rw[c,I])) (by decide) (by decide) (by rw[c,I]) e) λσ H Q h=>?_;obtain⟨e1,q⟩:=h;exact⟨.ref a,e1,by rw[u_];exact m,λd Y=>⟨(q d Y).1,.ref d,b,rfl,.inr ⟨d,ys,rfl,aq,r⟩,(q d Y).2⟩⟩
end
section
variable{j:Nat}
theorem Rep.toldG{ds:List A3}(r:Rep K F0 H0 FB O F H σ ρ)(q:i≠j)(hi:i<σ.length)(h:j<σ.length)(d:i∉O)(b:j∉O)(st:A5 F H (upd F l (.lst vs)) H')(p:F l=c_)(t:aE K F ds vs):
  Rep K F0 H0 FB O (upd F l (.lst vs)) H' (((σ.set i (a_ (.ref a))).set j (a_ (.ref l))).set i c_) ((ρ.set j (a_ (.lst ds))).set i c_):=by
 have s:aL F (upd F l (.lst vs)):=aL.upd p;have r2:=r.step st;have out:∀m,m≠i->m≠j->(((σ.set i (a_ (.ref a))).set j (a_ (.ref l))).set i c_)[m]?=σ[m]?:=λm h1 h2=>by rw[m_ (Gv h1),m_ (Gv h2),m_ (Gv h1)]
 have I:∀m,m≠i->m≠j->((ρ.set j (a_ (.lst ds))).set i c_)[m]?=ρ[m]?:=λm h1 h2=>by rw[m_ (Gv h1),m_ (Gv h2)]
 have f:∀dd,((ρ.set j (a_ (.lst ds))).set i c_)[i]?≠a_ (a_ dd):=λdd e=>by rw[s_ (by rw[B_,r.len];exact hi)]at e;cases e
 refine⟨r2.st,r2.fb,by simp only[B_];exact r.len,λm dd e Y=>?_,λm dd e Y=>?_,λm n d1 d2 c Y g e1 e2 e3 e4=>?_⟩
 ·by_cases h1:m=i
  ·subst h1;exact(f _ e).elim
  ·by_cases h2:m=j
   ·subst h2;rw[m_ (Gv h1),s_ (by rw[r.len];exact h)]at e;cases e;refine⟨.ref l,by rw[m_ (Gv h1),s_ (by rw[B_];exact h)],l,vs,rfl,SqL.of aq,aE.mono s t⟩
   ·rw[I m h1 h2]at e;rw[out m h1 h2];exact r2.fz m dd e Y
 ·have h1:m≠i:=λz=>d (z▸Y);have h2:m≠j:=λz=>b (z▸Y);rw[I m h1 h2]at e;rw[out m h1 h2];exact r2.ow m dd e Y
 ·have h1:m≠i:=λz=>d (z▸Y);have h2:m≠j:=λz=>b (z▸Y);have o:n≠i:=λz=>d (z▸g);have k:n≠j:=λz=>b (z▸g);rw[I m h1 h2]at e1;rw[I n o k]at e2;rw[out m h1 h2]at e3;rw[out n o k]at e4;exact r2.ap m n d1 d2 c Y g e1 e2 e3 e4
theorem step_app{p:g_}{xs:List V}{a:HO}(b:aL F H)(Y:H l=c_)(d:H p=c_)(f:p≠l):A5 F H (upd F l (.lst (xs++[y]))) (upd (upd (upd H l (.lst xs)) p a) l (.lst (xs++[y]))):=by
 have hh:aL H (upd (upd (upd H l (.lst xs)) p a) l (.lst (xs++[y]))):=λc o e=>by rw[aw (aQ e Y),aw (aQ e d),aw (aQ e Y)];exact e
 refine⟨aL.upd (b.free Y),hh,λc o e=>?_,λc o e=>?_⟩
 ·by_cases I:c=l
  ·subst I;rw[aq]at e ⊢;exact e
  ·rw[aw I]at e;exact hh c o (b c o e)
 ·by_cases I:c=l
  ·subst I;exact .inr Y
  ·rw[aw I]at e;exact .inl e
end
structure Yd(P:GO)(w:Hg)(K:Pn)(mg:Ld)(base:GQ)(CX:CXT)(k:Nat)(x:p_)(st:GW)(ps:List p_)(sp:Sp)(f:g_)(fd:HL):Prop where
 d:Def K mg x st ps f fd
 o:i6 P w K mg base CX k f fd ps sp
section
open PySem.W
end
section
open PySem.SetTable
end
section
open PySem
end
section
open PySem.W
end
structure Abt(p:g_)(F H F' H':Hp):Prop where
 ff:aL F F'
 fh:aL F' H'
 fp:F' p=c_
 nw:∀b o,F' b=a_ o->F b=a_ o\/H b=c_
 hh:∀c o,H c=a_ o->c≠p->H' c=a_ o
theorem Abt.step{x:g_}(a:H x=c_)(I:H dx=c_)(z:Abt x F (upd (upd H dx (.own x)) x (.ins C dx [])) F' H'):A5 F H F' H' where
 ff:=z.ff
 hh:=λc o e=>by
  have Y:c≠x:=λh=>by rw[h,a]at e;cases e
  have hd:c≠dx:=λh=>by rw[h,I]at e;cases e
  exact z.hh c o (by rw[aw Y,aw hd];exact e) Y
 fh:=z.fh
 nw:=λc o e=>by
  rcases z.nw c o e with q|q
  ·exact .inl q
  ·refine .inr ?_;by_cases Y:c=x
   ·subst Y;exact a
   ·by_cases hd:c=dx
    ·subst hd;exact I
    ·rw[aw Y,aw hd]at q;exact q
def isiC(tb:List (g_×Bool)):A3->M A3
 |.ins C _=>match tb.lookup C with
  |some b=>.ok (.bl b)|none=>stk
 |_=>stk
section
variable{W:eD}{own:Bool}{a:GX}{y:p_}{D:g_}{tb:List (g_×Bool)}
theorem c_isiC(i:∀C b,tb.lookup C=a_ b->(∃x,Kls K X.mg x C)/\GL K (.ref C) (.ref D)=a_ b)(j: ~~~(X.K=K)):fW X (.builtin "isinstance") (λxs H Q=>∃v,xs=[v,.ref D]/\rD1 K W own (isiC tb) v H Q):=by
 subst j;intro A4 s σ H xs us Q I r h;obtain⟨v,rfl,F,d,c,q,p⟩:=h;obtain⟨u,w,rfl,e,Y⟩:=r.two;cases(show w=FZ D from Y);cases d with
 |ins C fs=>
  cases a:tb.lookup C with
  |none=>
   have p:aN X.K W own F H (match tb.lookup C with
    |some b=>.ok (.bl b)|none=>stk) Q:=p
   rw[a]at p;exact aN.stuck p
  |some b=>
   have p:aN X.K W own F H (match tb.lookup C with
    |some b=>.ok (.bl b)|none=>stk) Q:=p
   rw[a]at p;obtain⟨⟨x,f⟩,g⟩:=i C b a;obtain⟨l,dx,gs,e1,k,m⟩:=q;subst e1;exact EM I e (f.ty (c _ _ k)) g λtk=>⟨.bl b,H,I.tok tk,rfl,aN.bl (own:=own) p c⟩
 |_=>exact aN.stuck p
theorem Fv(j:∀C b,tb.lookup C=a_ b->(∃x,Kls K X.mg x C)/\GL K (.ref C) (.ref D)=a_ b)(f:X.mg "isinstance"=c_)(l:X.mg y=a_ (.ref D))(i:DE K W b_ X a fa)(k: ~~~(X.K=K))(g: ~~~(Gl X "isinstance"))(e: ~~~(Gl X y))(hd:((y==("__debug__":p_))=b_)⁻¹)(Y: ~~~(iF [a,.Name y p2] X.env=[(b_,Gj a X.env),(b_,Gj (.Name y p2) X.env)]))(I: ~~~(iF [.Name y p2] X.env=[(b_,Gj (.Name y p2) X.env)]))(c: ~~~((GG pos (iF [.Name y p2] X.env)).any (·.1)=b_)):
  DE K W own X (.Call (.Name "isinstance" p) [a,.Name y p2] [] pos) (f1 (isiC tb) fa):=
 (iK (c_isiC j k) g f JK (ax i (ax (uA (v:=.ref D) (pos:=p2) e l rfl hd) aO I) (by rw[Y,I])) (by decide) (by decide) (by rw[Y,I]) c).imp λσ H Q h=>by
  obtain⟨F,ρ,r,s,q⟩:=rd_1 h;refine⟨F,ρ,r,s,?_⟩
  cases e1:fa ρ with
  |error z=>rw[e1]at q;exact q|ok d=>rw[e1]at q;exact λv F' H' st z=>⟨v,rfl,q v F' H' st z⟩
theorem isi2{P:g_->Bool->Prop}(h1:P C1 b1)(h2:P C2 b2):∀C b,GH C [(C1,b1),(C2,b2)]=a_ b->P C b:=λC b h=>by
 rw[v_]at h;cases e:C==C1 with
 |true=>rw[e]at h;cases h;rw[HU.mp e];exact h1|false=>
  rw[e]at h;have h:GH C [(C2,b2)]=a_ b:=h;rw[v_]at h;cases e2:C==C2 with
  |true=>rw[e2]at h;cases h;rw[HU.mp e2];exact h2|false=>rw[e2]at h;cases h
end
noncomputable abbrev tKind(P:GO)(w:Hg):HeapKind P w (List Int):=Kd (Lh P w)
theorem vR{P:GO}{w:Hg}:∀{k:List Int} {us:List i_},B' (k.map V.int) us->ItemsAre (Lh P w) k us
 |[],_,.nil=>.nil|i::k,_,.cons r t=>by
  obtain⟨t',rfl⟩:=(show ∃t,_=G2 i t from r)
  exact .cons (by simp[Lh,Mi]) (vR t)
theorem o9.at{xs:List nC}(z:o9 h a xs ep)(e:∀o,h.get? a=a_ o->h'.get? a=a_ o):o9 h' a xs ep:=
 let ⟨vs,r,hd,Y,I,o,es,h1,h2⟩:=z;⟨vs,r,hd,Y,I,o,es,e o h1,h2⟩
theorem Fs{xs:List nC}(z:o9 h a xs ep):cN P w H h a (yi a xs ep):=
 ⟨z,let ⟨_,_,_,_,_,o,_,e,_⟩:=z;⟨o,e⟩,λ_ _ z e=>z.at e⟩
def rB(K:Pn)(H:Hp)(xs:List nC):Prop:=∀x∈xs,SqT K H x.2.1 (x.1.map V.int)
theorem rB.mono{xs:List nC}(z:rB K H xs)(s:aL H H'):rB K H' xs:=λx I=>s.tup (z x I)
theorem cV.key{K:Pn}{F:Hp}:∀{ks:List (List Int×A3)} {xs:List nC},cV K F ks xs->rB K F xs
 |[],_,h,x,I=>by rw[show _=[]from h]at I;cases I|(k,d)::ks,_,⟨b,v,r,e,t,q,z⟩,x,I=>by
  subst e;rcases t_.mp I with rfl|I
  ·exact t
  ·exact cV.key z x I
theorem cV.length{K:Pn}{F:Hp}:∀{ks:List (List Int×A3)} {xs:List nC},cV K F ks xs->xs.length=ks.length
 |[],_,h=>by rw[show _=[]from h];rfl|(k,d)::ks,_,⟨b,v,r,e,t,q,z⟩=>by rw[e,Gi,Gi,cV.length z]
noncomputable def D8(ks:List (List Int×A3))(k:List Int):Option A3:=(ks.find? λp=>q_ (p.1=k)).map (·.2)
def ET(xs:List nC)(k:List Int):Option V:=(xs.find? λp=>q_ (p.1=k)).map (·.2.2)
def BV(ks:List (List Int×A3))(k:List Int)(d:A3):List (List Int×A3):=if (D8 ks k).isSome=d_ then ks.map (λp=>if p.1=k then(p.1,d)else p)else ks++[(k,d)]
def putR(xs:List nC)(k:List Int)(b:g_)(v:V):List nC:=if (ET xs k).isSome=d_ then xs.map (λx=>if x.1=k then(x.1,x.2.1,v)else x)else xs++[(k,b,v)]
theorem zw(xs:List nC)(k:List Int)(b:g_)(v:V):(putR xs k b v).length<=xs.length+1:=by
 unfold putR;split
 ·rw[u_];omega
 ·rw[Gp];exact sy _
theorem uv{k:List Int}:∀{xs:List nC} {vs:List (List Int×g_×i_)},Jo nz xs vs->p8 (ET xs k) ((Kq vs k).map (·.2))
 |_,_,.nil=>G7|x::xs,q::vs,.cons h t=>by
  obtain⟨h1,h2,Y⟩:=h;by_cases e:x.1=k
  ·have I:q.1=k:=h1.symm.trans e;simp only[ET,Kq,G1,e,I,decide_true,J1];exact Y
  ·have I:¬q.1=k:=λz=>e (h1.trans z);have:=uv (k:=k) t;simpa only[ET,Kq,G1,e,I,MI] using this
theorem cV.at{K:Pn}{F:Hp}{k:List Int}:∀{ks:List (List Int×A3)} {xs:List nC},cV K F ks xs->(D8 ks k=c_/\ET xs k=c_)\/∃d v,D8 ks k=a_ d/\ET xs k=a_ v/\aT K F d v
 |[],_,h=>by rw[show _=[]from h];exact .inl ⟨rfl,rfl⟩|(I,d)::ks,_,⟨b,v,r,e,t,q,z⟩=>by
  subst e;by_cases e:I=k
  ·exact .inr ⟨d,v,by simp[D8,e],by simp[ET,e],q⟩
  ·have:=cV.at (k:=k) z;simpa only[D8,ET,G1,e,MI] using this
theorem cV.isSome{K:Pn}{F:Hp}{k:List Int}{ks:List (List Int×A3)}{xs:List nC}(z:cV K F ks xs):(ET xs k).isSome=(D8 ks k).isSome:=by rcases z.at (k:=k)with⟨e1,e2⟩|⟨d,v,e1,e2,_⟩<;>rw[e1,e2]<;>rfl
theorem cV.repl{K:Pn}{F:Hp}{k:List Int}{d:A3}{v:V}(q:aT K F d v):∀{ks:List (List Int×A3)} {xs:List nC},cV K F ks xs->cV K F (ks.map λp=>if p.1=k then(p.1,d)else p) (xs.map λx=>if x.1=k then(x.1,x.2.1,v)else x)
 |[],_,h=>by rw[show _=[]from h];rfl|(a,d')::ks,_,⟨b,I,r,e,t,Y,z⟩=>by
  subst e;rw[F_,F_];by_cases e:a=k
  ·rw[e_ e,e_ e];exact⟨b,v,_,rfl,t,q,cV.repl q z⟩
  ·rw[k_ e,k_ e];exact⟨b,I,_,rfl,t,Y,cV.repl q z⟩
theorem cV.snoc{K:Pn}{F:Hp}{k:List Int}{b:g_}{d:A3}{v:V}(t:SqT K F b (k.map V.int))(q:aT K F d v):∀{ks:List (List Int×A3)} {xs:List nC},cV K F ks xs->cV K F (ks++[(k,d)]) (xs++[(k,b,v)])
 |[],_,h=>by rw[show _=[]from h];exact⟨b,v,[],rfl,t,q,rfl⟩|(c,d')::ks,_,⟨a,I,r,e,t',Y,z⟩=>by subst e;exact⟨a,I,_,rfl,t',Y,cV.snoc t q z⟩
theorem cV.put{k:List Int}{d:A3}{xs:List nC}(z:cV K F ks xs)(t:SqT K F b (k.map V.int))(q:aT K F d v):cV K F (BV ks k d) (putR xs k b v):=by
 unfold BV putR;rw[z.isSome];by_cases h:(D8 ks k).isSome=d_
 ·rw[e_ h,e_ h];exact z.repl q
 ·rw[k_ h,k_ h];exact z.snoc t q
theorem wm{k:List Int}{v:V}{u:i_}(I:A' v u):∀{xs:List nC} {vs:List (List Int×g_×i_)},Jo nz xs vs->Jo nz (xs.map λx=>if x.1=k then(x.1,x.2.1,v)else x) (vs.map (putAt k u))
 |_,_,.nil=>.nil|x::xs,q::vs,.cons h t=>by
  rw[F_,F_];refine .cons ?_ (wm I t);obtain⟨h1,h2,Y⟩:=h;unfold putAt;by_cases e:x.1=k
  ·rw[e_ e,e_ (h1.symm.trans e)];exact⟨h1,h2,I⟩
  ·rw[k_ e,k_ (λz=>e (h1.trans z))];exact⟨h1,h2,Y⟩
theorem rows_put{k:List Int}(I:A' v u){xs:List nC}{vs:List (List Int×g_×i_)}(r:Jo nz xs vs):Jo nz (putR xs k b v) (N6 vs k b u):=by
 have e:(ET xs k).isSome=(Kq vs k).isSome:=by rw[(uv r).xn,I_]
 unfold putR N6;rw[e];by_cases h:(Kq vs k).isSome=d_
 ·rw[e_ h,e_ h];exact wm I r
 ·rw[k_ h,k_ h];exact L9 r ⟨rfl,rfl,I⟩
theorem AD:∀{xs:List nC} {vs:List (List Int×g_×i_)},Jo nz xs vs->∀q∈vs,∃x∈xs,x.1=q.1/\x.2.1=q.2.1
 |_,_,.nil,_,h=>nomatch h
 |x::xs,q::vs,.cons h t,y,I=>by
  rcases t_.mp I with rfl|I
  ·exact⟨x,by simp,h.1,h.2.1⟩
  ·obtain⟨Y,h1,h2⟩:=AD t y I;exact⟨Y,by simp[h1],h2⟩
section
variable{xs:List nC}{k:List Int}
theorem yt(I:A6 X A4 σ H s)(h:SqT X.K H b (k.map V.int)):(tKind X.prog X.w).is s.heap k b:=by obtain⟨A8,r,⟨o,h1,h2,n,Y⟩,_⟩:=I.tuple h;exact⟨o,A8.toArray,n,h1,h2,Y,by simpa using vR r⟩
theorem Bh(I:A6 X A4 σ H s)(e:H a=a_ (yi a xs ep)):o9 s.heap a xs ep:=(show o9 s.heap a xs ep/\_ from I.hok a _ e).1
theorem dic_at(I:A6 X A4 σ H s)(e:H a=a_ (yi a xs ep))(z:rB X.K H xs):∃vs,Jo nz xs vs/\(a==G6)=b_/\xs.length<=f_/\s.heap.DictOfH (tKind X.prog X.w) a vs:=by
 obtain⟨vs,r,hd,d,c,o,es,h1,h2,g,f⟩:=Bh I e;refine⟨vs,r,hd,d,o,es,ep,h1,h2,g,f,λq b=>?_,c⟩
 obtain⟨x,Y,e1,e2⟩:=AD r q b;rw[<- e1,<- e2];exact yt I (z x Y)
theorem dic_ty(I:A6 X A4 σ H s)(e:H a=a_ (yi a xs ep)):s.TypeIs (.ref a) "dict"/\(∀b,FZ a=.ref b->∃Y,s.heap.get? b=a_ Y/\Y.dict=c_):=by obtain⟨_,_,_,_,_,o,_,h1,h2,_⟩:=Bh I e;exact⟨⟨o,h1,h2.1⟩,λc q=>by cases q;exact⟨o,h1,h2.2.1⟩⟩
theorem dicOk_of{vs:List (List Int×g_×i_)}(dd:h.DictOfH (tKind P w) a vs)(r:Jo nz xs vs)(hd:(a==G6)=b_)(I:xs.length<=f_):∃ep,o9 h a xs ep:=by obtain⟨o,es,ep,h1,h2,c,b,_,Y⟩:=dd;exact⟨ep,vs,r,hd,I,Y,o,es,h1,h2,c,b⟩
end
def sPut(K:Pn)(td ty tv:TE):TS:=λD σ H=>tv σ H λv H1=>td σ H1 λx H2=>ty σ H2 λy I=>∃a b k xs ep,x=.ref a/\y=.ref b/\I a=a_ (yi a xs ep)/\rB K I xs/\SqT K I b (k.map V.int)/\xs.length<f_/\∀ep',D.nx σ (upd I a (yi a (putR xs k b v) ep'))
def tGet2(K:Pn)(td ty tx:TE):TE:=λσ H Q=>td σ H λx H1=>∃a xs ep,x=.ref a/\H1 a=a_ (yi a xs ep)/\ty σ H1 λy H2=>tx σ H2 λz I=>∃b k,y=.ref b/\I a=a_ (yi a xs ep)/\rB K I xs/\SqT K I b (k.map V.int)/\Q ((ET xs k).getD z) I
def tNewK:TE:=λ_ H Q=>∀p,H p=c_->Q (.ref p) (upd H p (yi p [] 0))
section
variable{o i f:GX}{ty tv tx:TE}
theorem Fu(h:GQ)(I:G6<h.objs.size):o9 (h.push {cls:=.type "dict",data:=.dict #[]}) h.objs.size [] 0:=
 ⟨[],.nil,HC.mpr (Gv (Gs I)),GS _,Kg,_,#[],E_ _ rfl,⟨rfl,rfl,rfl⟩,rfl,rfl⟩
theorem yY:PE X (.Dict [] [] pos) tNewK:=λA4 s σ H Q I h=>Ov ⟨.ref s.heap.objs.size,_,I.laid (a:=s.heap.objs.size) (o:=yi s.heap.objs.size [] 0) (t':=s.toks) (λ_ _ q=>n_ _ q) (sy _) (Fs (Fu s.heap I.big)),rfl,h _ (I.hok.fresh (sy _))⟩
theorem A6.dic{xs ys:List nC}{t':Nat}(I:A6 X A4 σ H s)(e:H a=a_ (yi a xs ep))(Y:Jz a s.heap h')(z:o9 h' a ys ep'):A6 X A4 σ (upd H a (yi a ys ep')) {s with heap:=h',toks:=t'}:=
 I.write (x:=a) (e:=a) (by rw[e];exact G7) (.inl rfl) (λc q b w=>(Y.2 c b).trans w) (let ⟨_,_,_,_,_,o,_,w,_⟩:=z;⟨o,w⟩) (Fs z)
theorem ps_put(F:X.A.units+1<Hw)(K:PE X o td)(hi:PE X i ty)(hv:PE X value tv)(G:Hr value (a_ (.Subscript o i pos')) pos.line X.env=Hq b_):PS X (.Assign [.Subscript o i pos'] value pos) (sPut X.K td ty tv):=by
 intro A4 s σ H D I h;refine M9 (Bs (hv A4 s σ H _ I h) λr m Y=>?_) G;obtain⟨v,H1,P,q,B⟩:=Y;refine Bs (K A4 m σ H1 _ P B) λu l Y=>?_;obtain⟨x,H2,O,p,A⟩:=Y;refine Bs (hi A4 l σ H2 _ O A) λC Q Y=>?_;obtain⟨y,S,f,n,a,b,k,xs,ep,ex,N,j,L,t,R,w⟩:=Y;subst ex N;cases(show u=FZ a from p);cases(show C=FZ b from n);obtain⟨vs,g,hd,E,dd⟩:=dic_at f j L;have c:vs.length<=f_:=by rw[<- JM g];exact E
 refine NK (hsz:=c) (Jd F) (yt f t) dd λh' e d=>?_;obtain⟨ep',z⟩:=dicOk_of e (rows_put q g) hd (by have:=zw xs k b v;omega);exact⟨σ,_,f.dic j d z,w ep'⟩
theorem pe_get2(A:X.A.units+1<Hw)(C:PE X o td)(F:PE X e ty)(E:PE X f tx)(m:M2 X o "get" apos e f cpos):PE X (.Call (.Attribute o "get" apos) [e,f] [] cpos) (tGet2 X.K td ty tx):=by
 intro A4 s σ H Q I h;refine N3 m.base m.few m.line Ls Iw LL (Bs (C A4 s σ H _ I h) λu i B=>?_);obtain⟨x,H1,d,n,a,xs,ep,ex,L,v⟩:=B;subst ex;cases(show u=FZ a from n);obtain⟨t1,t2⟩:=dic_ty d L;refine⟨t1,t2,?_⟩
 rw[m.trees];refine J0 rfl (Kf (Ip (Bs (F A4 i σ H1 _ d v) λw g ⟨y,H2,N,l,r⟩=>Ip (Bs (E A4 g σ H2 _ N r) λG P ⟨z,O,c,j,b,k,K,Y,D,t,q⟩=>JN ?_))))
 subst K;cases(show w=FZ b from l);obtain⟨vs,p,hd,R,dd⟩:=dic_at c Y D;exact Nc Iw dd.typeIs JW (JQ _ _ _) (MY (tKind X.prog X.w) a b hd G) ⟨Jd A,k,vs,yt c t,dd,_,O,c.tok _,(uv p).getD j,q⟩
end
def keyD:A3->M (List Int)
 |.tup ds=>mK ds|_=>stk
noncomputable def isDic:A3->Bool
 |.dic _=>d_|_=>b_
def EV:A3->A3->A3->M A3
 |.dic ks,I,x=>(keyD I).bind λk=>.ok ((D8 ks k).getD x)|_,_,_=>stk
def xu(fd fk fx:ah->M A3):ah->M A3:=λρ=>(fd ρ).bind λd=>if isDic d=d_ then(fk ρ).bind λk=>(fx ρ).bind λx=>EV d k x else stk
theorem keyD_err{d:A3}{e:Err}(h:keyD d=.error e):e=.stuck:=by
 cases d with
 |tup ds=>exact qK h|_=>cases h;rfl
theorem keyD_at{d:A3}{k:List Int}(h:keyD d=.ok k)(q:aT K F d v):∃b,v=.ref b/\SqT K F b (k.map V.int):=by
 cases d with
 |tup ds=>obtain⟨b,xs,e,t,z⟩:=q;have:=qJ z h;subst this;exact⟨b,e,t⟩
 |_=>cases h
section
variable{W:eD}{fd fx:ah->M A3}
theorem rd_getD(h:tD K W b_ (xu fd fk fx) σ H Q):tGet2 K (tD K W b_ fd) (tD K W b_ fk) (tD K W b_ fx) σ H Q:=by
 obtain⟨F,ρ,r,s,p⟩:=h;refine aP r s (λe j=>p.err (by unfold xu;rw[j];rfl)) λd hd x F1 H1 g C=>?_;have G:xu fd fk fx ρ=if isDic d=d_ then(fk ρ).bind λk=>(fx ρ).bind λx=>EV d k x else stk:=by unfold xu;rw[hd];rfl
 rw[G]at p;cases d with
 |dic ks=>
  have p:aN K W b_ F H ((fk ρ).bind λk=>(fx ρ).bind λx=>EV (.dic ks) k x) Q:=p;obtain⟨a,xs,e,⟨ep,o⟩,z⟩:=C;refine⟨a,xs,ep,e,g.fh _ _ o,?_⟩
  refine aP (r.mono g.ff) g.fh (λe j=>(p.step g).err (by rw[j];rfl)) λm D y F2 H2 l B=>?_;rw[D]at p;have p:aN K W b_ F H ((fx ρ).bind λx=>EV (.dic ks) m x) Q:=p;have I:=g.trans l;refine aP (r.mono I.ff) I.fh (λe j=>(p.step I).err (by rw[j];rfl)) λc E w u L f A=>?_;rw[E]at p;have p:aN K W b_ F H ((keyD m).bind λk=>.ok ((D8 ks k).getD c)) Q:=p;cases Y:keyD m with
  |error e=>rw[Y]at p;have:=keyD_err Y;subst this;exact aN.stuck p|ok k=>
   rw[Y]at p;obtain⟨b,rfl,t⟩:=keyD_at Y B;have i:=I.trans f;have n:=(z.mono l.ff).mono f.ff;refine⟨b,k,rfl,f.hh _ _ (l.hh _ _ (g.fh _ _ o)),n.key.mono f.fh,f.fh.tup (f.ff.tup t),p _ u L i ?_⟩
   show aT K u _ _;rcases n.at (k:=k)with⟨e1,e2⟩|⟨d,v,e1,e2,q⟩
   ·rw[e1,e2];exact A
   ·rw[e1,e2];exact q
 |_=>exact aN.stuck p
end
section
variable{W:eD}{o ek ex:GX}{fd fx:ah->M A3}
theorem de_newK:DE K W d_ X (.Dict [] [] pos) (fC (.dic [])):=yY.imp λσ H Q h=>by obtain⟨F,ρ,r,s,q⟩:=h;exact λa I=>q (.ref a) F _ (A5.grow s I) ⟨a,[],rfl,⟨0,aq⟩,s.free I,I,rfl⟩
theorem de_getD(f:X.A.units+64<Hw)(Y:DE K W b_ X o fd)(c:DE K W b_ X ek fk)(b:DE K W b_ X ex fx)(e: ~~~(X.K=K))(d: ~~~(Ha o "get" X.env (Gj o X.env)=Gj o X.env))(hw: ~~~(((GG cpos (iF [ek,ex] X.env)).all (λx=> !x.1)&&(HZ cpos (Hi [] X.env)).all (λx=>x.1.isSome)&&q_ (([ek,ex]:List GX).length+([]:List IG).length+(if ([]:List IG).isEmpty then 0 else 1)<30))=d_))(a: ~~~((apos.endLine==cpos.line)=d_))(I: ~~~(GG cpos (iF [ek,ex] X.env)=[(b_,Gj ek X.env),(b_,Gj ex X.env)])):DE K W b_ X (.Call (.Attribute o "get" apos) [ek,ex] [] cpos) (xu fd fk fx):=by subst e;exact(pe_get2 (by omega) Y c b ⟨d,hw,a,I⟩).imp λ_ _ _=>rd_getD
end
section
open PySem
end
theorem Ft(z:o9 h l [] ep):(l==G6)=b_/\h.DictOf (Lh P w) l []:=by obtain⟨vs,r,hd,b,a,o,es,h1,h2,Y,I⟩:=z;cases r;obtain⟨es⟩:=es;cases(show es=[]from I);exact⟨hd,o,_,ep,h1,h2,Y,λi hi=>Gb hi (by simp),.nil,.nil⟩
section
open PySem.W hiding kindOf
variable{key:Nat->Int}
def Srt(key:Nat->Int)(l:List Nat):Prop:=l.Pairwise λx y=>key x<=key y
def tV(st I:Mp):Prop:=∃g,I=SortSt.mk' (kindOf st) (arrOf st) (Jx st) g (NC st)
theorem tV.trans{a b c:Mp}(h:tV a b)(k:tV b c):tV a c:=by obtain⟨g,rfl⟩:=h;obtain⟨g',rfl⟩:=k;exact⟨g',rfl⟩
theorem tV.kind{a b:Mp}(h:tV a b):kindOf b=kindOf a:=by obtain⟨g,rfl⟩:=h;rfl
end
section
open PySem.W hiding kindOf
variable{f:Nat->Keyed}
structure SS(κ:SortKind)(f:Nat->Keyed)(n:Nat)(st:Mp)(p:List Nat):Prop where
 kind:kindOf st=κ
 ok:NC st=c_
 arr:arrOf st=(p.map f).toArray
 perm:p.Perm (Hf n)
end
section
open PySem.W hiding kindOf
variable{key:Nat->Int}
noncomputable def kG(key:Nat->Int)(p:List Nat)(i:Nat):Int:=key (p.getD i 0)
def Sg(key:Nat->Int)(p:List Nat)(lo hi:Nat):Prop:=∀i j,lo<=i->i<=j->j<hi->kG key p i<=kG key p j
def Dg(key:Nat->Int)(p:List Nat)(lo hi:Nat):Prop:=∀i j,lo<=i->i<=j->j<hi->kG key p j<=kG key p i
def Fx(lo:Nat)(p I:List Nat):Prop:=∀i,i<lo->I.getD i 0=p.getD i 0
theorem Fx.trans{lo:Nat}{p q r:List Nat}(h:Fx lo p q)(k:Fx lo q r):Fx lo p r:=λi hi=>(k i hi).trans (h i hi)
theorem Sg.step{p:List Nat}{m:Nat}(h:Sg key p lo (lo+m))(h1:1<=m)(c:¬kG key p (lo+m)<kG key p (lo+m-1)):Sg key p lo (lo+(m+1)):=λi j hi Y d=>by
 by_cases I:j<lo+m
 ·exact h i j hi Y I
 ·have b:j=lo+m:=by omega
  subst b;by_cases a:i=lo+m
  ·subst a;exact Kn _
  ·have:=h i (lo+m-1) hi (by omega) (by omega);omega
theorem Dg.step{p:List Nat}{m:Nat}(h:Dg key p lo (lo+m))(h1:1<=m)(c:kG key p (lo+m)<=kG key p (lo+m-1)):Dg key p lo (lo+(m+1)):=λi j hi Y d=>by
 by_cases I:j<lo+m
 ·exact h i j hi Y I
 ·have b:j=lo+m:=by omega
  subst b;by_cases a:i=lo+m
  ·subst a;exact Kn _
  ·have:=h i (lo+m-1) hi (by omega) (by omega);omega
end
section
open PySem.W hiding kindOf
variable{f:Nat->Keyed}{key:Nat->Int}
noncomputable def mkP:Nat->List (List Nat×Nat)->List (Nat×Nat×Nat)
 |_,[]=>[]|a,(l,w)::r=>(a,l.length,w)::mkP (a+l.length) r
noncomputable def flt(gs:List (List Nat×Nat)):List Nat:=(gs.map Prod.fst).flatten
theorem flt_cons(g:List Nat×Nat)(y:List (List Nat×Nat)):flt (g::y)=g.1++flt y:=by simp[flt]
theorem zp:∀(x:List (List Nat×Nat)) (a:Nat) (y:List (List Nat×Nat)),mkP a (x++y)=mkP a x++mkP (a+(flt x).length) y
 |[],a,y=>by simp[mkP,flt]|(l,w)::x,a,y=>by
  show(a,l.length,w)::mkP (a+l.length) (x++y)=(a,l.length,w)::(mkP (a+l.length) x++_)
  rw[zp x,flt_cons,Gp,Oo]
theorem zo:∀(x:List (List Nat×Nat)) (a:Nat),(mkP a x).length=x.length
 |[],_=>rfl|(l,w)::x,a=>by simp[mkP,zo x]
structure RI(κ:SortKind)(f:Nat->Keyed)(key:Nat->Int)(n:Nat)(st:Mp)(gs:List (List Nat×Nat))(rest:List Nat):Prop where
 ss:SS κ f n st (flt gs++rest)
 pd:Jx st=(mkP 0 gs).toArray
 ok:∀g∈gs,Srt key g.1/\0<g.1.length
theorem RI.size{st:Mp}{gs:List (List Nat×Nat)}{rest:List Nat}(h:RI κ f key n st gs rest):(Jx st).size=gs.length:=by rw[h.pd];simp[zo]
noncomputable def rePw(I:Nat):Nat×Nat×Nat->Nat×Nat×Nat
 |(s,l,_)=>(s,l,I)
theorem RI.last{st:Mp}{gs:List (List Nat×Nat)}{rest:List Nat}{a:Nat}(h:RI κ f key n st gs rest):∃Y,Y.length=gs.length/\flt Y=flt gs/\RI κ f key n (setPending st ((Jx st).modify ((Jx st).size-1) (rePw a))) Y rest:=by
 by_cases e:gs=[]
 ·subst e;refine⟨[],rfl,rfl,⟨h.ss.kind,h.ss.ok,h.ss.arr,h.ss.perm⟩,?_,h.ok⟩
  show(Jx st).modify ((Jx st).size-1) (rePw a)=_;rw[h.pd];rfl
 ·obtain⟨I,b,o⟩:∃I b,gs=I++[b]:=⟨gs.dropLast,gs.getLast e,(List.dropLast_concat_getLast e).symm⟩
  subst o;obtain⟨b,k⟩:=b;have j:flt (I++[(b,a)])=flt (I++[(b,k)]):=by simp[flt]
  refine⟨I++[(b,a)],by simp,j,⟨h.ss.kind,h.ss.ok,?_,?_⟩,?_,λg m=>?_⟩
  ·rw[j];exact h.ss.arr
  ·rw[j];exact h.ss.perm
  ·show(Jx st).modify ((Jx st).size-1) (rePw a)=_;rw[h.size,h.pd,zp,zp];have l:=zo I 0;apply Array.ext_getElem?;intro i;rw[Array.getElem?_modify];simp only[Gp,Mr,Nat.add_sub_cancel,Ms,mkP];by_cases c:I.length=i
   ·subst c;rw[e_ rfl,<- l,HM (sy _),HM (sy _),Nat.sub_self];rfl
   ·rw[k_ c];rcases Nat.lt_or_ge i I.length with d|d
    ·rw[Hb (by omega),Hb (by omega)]
    ·rw[HP (by simp;omega),HP (by simp;omega)]
  ·rcases GU.mp m with e|e
   ·exact h.ok g (Kh _ e)
   ·have:=G9.mp e;subst this;exact h.ok (b,k) (by simp)
end
section
open PySem.W hiding kindOf
end
section
open PySem SetTable
end
section
open PySem
end
section
open PySem SetTable
end
section
open PySem.W
end
section
open PySem
variable{κ μ:Type}[DecidableEq κ][DecidableEq μ]
end
section
open PySem
end
section
open PySem.W
end
section
open PySem PySem.W
end
mutual
noncomputable def qh:A3->Bool
 |.tup ds=>pZ ds|.lst ds=>pZ ds|.ins _ _=>b_|.dic _=>b_|.dil _=>b_|_=>d_
noncomputable def pZ:List A3->Bool
 |[]=>d_|d::ds=>qh d&&pZ ds
end
mutual
theorem aT.plain{K:Pn}{F F':Hp}(s:∀a xs,SqT K F a xs->SqT K F' a xs)(t:∀a xs,SqL K F a xs->SqL K F' a xs):∀{d:A3} {v:V},qh d=d_->aT K F d v->aT K F' d v
 |.non,_,_,h=>h|.bl _,_,_,h=>h|.int _,_,_,h=>h|.str _,_,_,h=>h|.tup ds,_,f,⟨a,xs,e,q,r⟩=>⟨a,xs,e,s _ _ q,aE.plain s t (by simpa[qh] using f) r⟩|.lst ds,_,f,⟨a,xs,e,q,r⟩=>⟨a,xs,e,t _ _ q,aE.plain s t (by simpa[qh] using f) r⟩|.ins _ _,_,f,_=>by simp[qh]at f|.dic _,_,f,_=>by simp[qh]at f|.dil _,_,f,_=>by simp[qh]at f
theorem aE.plain{K:Pn}{F F':Hp}(s:∀a xs,SqT K F a xs->SqT K F' a xs)(t:∀a xs,SqL K F a xs->SqL K F' a xs):∀{ds:List A3} {xs:List V},pZ ds=d_->aE K F ds xs->aE K F' ds xs
 |[],_,_,h=>h|d::ds,_,f,⟨v,vs,e,q,r⟩=>by simp only[pZ,l_]at f;exact⟨v,vs,e,aT.plain s t f.1 q,aE.plain s t f.2 r⟩
end
section
open PySem PySem.W
end
structure B7 where
 f:g_
 c:i_
 A:Iy
 o:List KS
 s:y_
 H:Hp
 E:XK
section
variable{base:GQ}{q:p_}{ps:List p_}{k:Nat}{g:ah->M A9}
def YO(_:∃f fd,Def K mg x st ps f fd)(P:GO)(w:Hg)(base:GQ)(k:Nat)(ro:Bool)(m:List A3->M A3):Prop:=∃f fd,Yd P w K mg base CX0 k x st ps (spF K ro m ps.length) f fd
def YX(_:∃f fd,Def K mg x st ps f fd)(P:GO)(w:Hg)(base:GQ)(k:Nat)(ro:Bool)(m:List A3->M A3):Prop:=∃f fd,Yd P w K mg base (CXd P w) k x st ps (spX K ro m ps.length) f fd
def YM(_:∃f fd,Mth K C x q st ps f fd)(P:GO)(w:Hg)(mg:Ld)(base:GQ)(k:Nat)(ro:Bool)(m:List A3->M A3):Prop:=∃f fd,Mth K C x q st ps f fd/\i6 P w K mg base CX0 k f fd ps (spF K ro m ps.length)
theorem fY(N:List p_){h:∃f fd,Def K mg x st ps f fd}(Y:∀z:B7,N.Nodup->i5 k (z.A.deeper (IH x (aJ st) z.s.heap.objs.size z.f z.c))->DSs K C' ro (zY CX0 P w K mg base N x (aJ st) z.f z.c z.A z.o z.s z.H z.E).nox [] [] [] (bS st) g)(S:autoParam (gr N ps (aJ st)) Jq9):YO h P w base (k+1) ro (bQ N.length ps.length g):=
 let ⟨f,fd,D⟩:=h
 ⟨f,fd,D,fn_D D.fn S ro g λc A o s H E I=>Y ⟨f,c,A,o,s,H,E⟩ S.nd I⟩
theorem fX(N:List p_){h:∃f fd,Def K mg x st ps f fd}(Y:∀z:B7,N.Nodup->i5 k (z.A.deeper (IH x (aJ st) z.s.heap.objs.size z.f z.c))->DSs K (WE K z.E) ro (zY (CXd P w) P w K mg base N x (aJ st) z.f z.c z.A z.o z.s z.H z.E) [] [] [] (bS st) g)(S:autoParam (gr N ps (aJ st)) Jq9):YX h P w base (k+1) ro (bQ N.length ps.length g):=
 let ⟨f,fd,D⟩:=h
 ⟨f,fd,D,fn_X D.fn S ro g λc A o s H E I=>Y ⟨f,c,A,o,s,H,E⟩ S.nd I⟩
theorem fM(N:List p_){h:∃f fd,Mth K C x q st ps f fd}(Y:∀z:B7,N.Nodup->i5 k (z.A.deeper (IH q (aJ st) z.s.heap.objs.size z.f z.c))->DSs K C' ro (zY CX0 P w K mg base N q (aJ st) z.f z.c z.A z.o z.s z.H z.E).nox [] [] [] (bS st) g)(S:autoParam (gr N ps (aJ st)) Jq9):YM h P w mg base (k+1) ro (bQ N.length ps.length g):=
 let ⟨f,fd,D⟩:=h
 ⟨f,fd,D,fn_D D.fn S ro g λc A o s H E I=>Y ⟨f,c,A,o,s,H,E⟩ S.nd I⟩
end
section
variable{W:eD}{a b d:GX}{f:ah->M A3}{fr:ah->M (List A3)}
theorem dY{j k:Nat}{ps:List p_}{g:ah->M A9}(Y:∃f fd,Yd X.prog X.w X.K X.mg X.base CX0 k x st ps (spF K ro (bQ nN n g) n) f fd)(c:i5 j X.A)(i:DA K C' X (e::es) fr)(d:(k<=j)⁻¹)(h: ~~~(Gl X x))(b:((x==("__debug__":p_))=b_)⁻¹)(I: ~~~(iF (e::es) X.env=(b_,Gj e X.env)::iF es X.env))(a: ~~~((GG pos (iF es X.env)).any (·.1)=b_)):
  DE K C' ro X (.Call (.Name x p) (e::es) [] pos) (fL (bQ nN n g) fr):=let ⟨_,_,Y⟩:=Y;de_call Y.o (c.mono d) Y.d.mg Y.d.fn.kp Y.d.bd i h b I a
theorem da1(Y:DE K W b_ X a fa)(I: ~~~(iF [a] X.env=[(b_,Gj a X.env)])):DA K W X [a] (aa fa aD):=aZ Y dZ I
theorem da2(d:DE K W b_ X a fa)(c:DE K W b_ X b fb)(Y: ~~~(iF [a,b] X.env=[(b_,Gj a X.env),(b_,Gj b X.env)]))(I: ~~~(iF [b] X.env=[(b_,Gj b X.env)])):DA K W X [a,b] (aa fa (aa fb aD)):=aZ d (da1 c I) (by rw[Y,I])
theorem da3{f1 f2:ah->M A3}(h1:DE K W b_ X e1 f1)(h2:DE K W b_ X e2 f2)(b:DE K W b_ X e3 f3)(a: ~~~(iF [e1,e2,e3] X.env=(b_,Gj e1 X.env)::iF [e2,e3] X.env))(Y: ~~~(iF [e2,e3] X.env=(b_,Gj e2 X.env)::iF [e3] X.env))(I: ~~~(iF [e3] X.env=(b_,Gj e3 X.env)::iF [] X.env)):DA K W X [e1,e2,e3] (aa f1 (aa f2 (aa f3 aD))):=(aZ h1 (aZ h2 (aZ b dZ I) Y) a)
theorem da4{f1 f2 f4:ah->M A3}(h1:DE K W b_ X e1 f1)(h2:DE K W b_ X e2 f2)(d:DE K W b_ X e3 f3)(c:DE K W b_ X e4 f4)(b: ~~~(iF [e1,e2,e3,e4] X.env=(b_,Gj e1 X.env)::iF [e2,e3,e4] X.env))(a: ~~~(iF [e2,e3,e4] X.env=(b_,Gj e2 X.env)::iF [e3,e4] X.env))(Y: ~~~(iF [e3,e4] X.env=(b_,Gj e3 X.env)::iF [e4] X.env))(I: ~~~(iF [e4] X.env=(b_,Gj e4 X.env)::iF [] X.env)):DA K W X [e1,e2,e3,e4] (aa f1 (aa f2 (aa f3 (aa f4 aD)))):=(aZ h1 (aZ h2 (aZ d (aZ c dZ I) Y) a) b)
theorem da5{f1 f2 f4:ah->M A3}(h1:DE K W b_ X e1 f1)(h2:DE K W b_ X e2 f2)(f:DE K W b_ X e3 f3)(e:DE K W b_ X e4 f4)(d:DE K W b_ X e5 f5)(c: ~~~(iF [e1,e2,e3,e4,e5] X.env=(b_,Gj e1 X.env)::iF [e2,e3,e4,e5] X.env))(b: ~~~(iF [e2,e3,e4,e5] X.env=(b_,Gj e2 X.env)::iF [e3,e4,e5] X.env))(a: ~~~(iF [e3,e4,e5] X.env=(b_,Gj e3 X.env)::iF [e4,e5] X.env))(Y: ~~~(iF [e4,e5] X.env=(b_,Gj e4 X.env)::iF [e5] X.env))(I: ~~~(iF [e5] X.env=(b_,Gj e5 X.env)::iF [] X.env)):DA K W X [e1,e2,e3,e4,e5] (aa f1 (aa f2 (aa f3 (aa f4 (aa f5 aD))))):=(aZ h1 (aZ h2 (aZ f (aZ e (aZ d dZ I) Y) a) b) c)
theorem da6{I:GX}{f1 f2 f4 Y:ah->M A3}(h1:DE K W b_ X e1 f1)(h2:DE K W b_ X e2 f2)(j:DE K W b_ X e3 f3)(i:DE K W b_ X e4 f4)(h:DE K W b_ X e5 f5)(g:DE K W b_ X I Y)(f: ~~~(iF [e1,e2,e3,e4,e5,I] X.env=(b_,Gj e1 X.env)::iF [e2,e3,e4,e5,I] X.env))(e: ~~~(iF [e2,e3,e4,e5,I] X.env=(b_,Gj e2 X.env)::iF [e3,e4,e5,I] X.env))(d: ~~~(iF [e3,e4,e5,I] X.env=(b_,Gj e3 X.env)::iF [e4,e5,I] X.env))(c: ~~~(iF [e4,e5,I] X.env=(b_,Gj e4 X.env)::iF [e5,I] X.env))(b: ~~~(iF [e5,I] X.env=(b_,Gj e5 X.env)::iF [I] X.env))(a: ~~~(iF [I] X.env=(b_,Gj I X.env)::iF [] X.env)):DA K W X [e1,e2,e3,e4,e5,I] (aa f1 (aa f2 (aa f3 (aa f4 (aa f5 (aa Y aD)))))):=(aZ h1 (aZ h2 (aZ j (aZ i (aZ h (aZ g dZ a) b) c) d) e) f)
theorem cF(c:X.N.Nodup)(b:DE K W b_ X e f)(hi: ~~~(X.N[i]?=a_ x))(I:autoParam (Loc X.env.scope x) Jq6)(Y: ~~~(Hr e (a_ (.Name x pos')) pos.line X.env=Hq b_))(a:autoParam (X.fn x=d_\/X.env.scope.names.lookup x=a_ .local) Jq3):
  DS K W ro X OL O (aft b_ i O) (.Assign [.Name x pos'] e pos) (b7 O i f):=Fi c b hi I Y a
theorem uV(c:X.N.Nodup)(b:DE K W d_ X e f)(hi: ~~~(X.N[i]?=a_ x))(I:autoParam (Loc X.env.scope x) Jq6)(Y: ~~~(Hr e (a_ (.Name x pos')) pos.line X.env=Hq b_))(a:autoParam (X.fn x=d_\/X.env.scope.names.lookup x=a_ .local) Jq3):
  DS K W ro X OL O (aft d_ i O) (.Assign [.Name x pos'] e pos) (b7 O i f):=Fi c b hi I Y a
end
section
variable{q:p_}{ps:List p_}{an:Option g_}{kV:i_}
theorem dF(Y:K.In h)(G:h.Ns GA mg)(a:autoParam (NA K GA x=a_ (a_ (.ref f))) Jq2)(l:autoParam (K.lookup f=a_ ⟨oc,od,.func (KZ x x (dN st) (bS st) (aJ st) .none kV doc pm an cdv ct),osl⟩) Jq2)(c:autoParam (LA K cdv x=d_) Jq2)(k:autoParam (HW K (.ref f)=d_) Jq2)(I:autoParam (∀(kV doc pm:i_) (an:Option g_) (cdv ct:i_) (us:List i_),us.length=ps.length->KH (KZ x x (dN st) (bS st) (aJ st) .none kV doc pm an cdv ct) ⟨us,[]⟩=Hq (ps.zip us)) Jq11):∃f fd,Def K mg x st ps f fd:=⟨_,_,def_of Y G a l c k I⟩
theorem mF(a:autoParam (Gh K (.ref C) x=a_ (a_ (.ref f))) Jq2)(i:autoParam (isFn K (.ref f)=d_) Jq2)(l:autoParam (K.lookup f=a_ ⟨oc,od,.func (KZ x q (dN st) (bS st) (aJ st) .none kV doc pm an cdv ct),osl⟩) Jq2)(c:autoParam (LA K cdv q=d_) Jq2)(k:autoParam (HW K (.ref f)=d_) Jq2)(I:autoParam (∀(kV doc pm:i_) (an:Option g_) (cdv ct:i_) (us:List i_),us.length=ps.length->KH (KZ x q (dN st) (bS st) (aJ st) .none kV doc pm an cdv ct) ⟨us,[]⟩=Hq (ps.zip us)) Jq11):∃f fd,Mth K C x q st ps f fd:=⟨_,_,mth_of a i l c k I⟩
theorem kF(i:K.In h)(G:h.Ns GA mg)(a:autoParam (NA K GA x=a_ (a_ (.ref C))) Jq2)(b:autoParam (Ll K C Ii=d_) Jq2)(hd:autoParam (ID K C=d_) Jq2)(Y:autoParam (M3 K C=d_) Jq2)(I:autoParam (Gh K (.ref C) "__setattr__"=a_ (a_ (.builtin "object.__setattr__"))) Jq2)(mk:autoParam (Nf K C=d_) Jq2)(c:autoParam (HW K (.ref C)=d_) Jq2)(g:autoParam (Gh K (.ref C) "__class__"=a_ (a_ (.builtin "object.__class__"))) Jq2)(f:autoParam (KR K (.builtin "object.__class__") "__get__"=a_ (a_ (.builtin "getset_descriptor.__get__"))) Jq2)(e:autoParam (Ob K (.builtin "object.__class__")=a_ d_) Jq2)(d:autoParam (Iv K C (.type "object")=a_ d_) Jq2):Kls K mg x C:=kls_of i G a b hd Y I mk c g f e d
theorem xF(d:K.In h)(G:h.Ns GA mg)(a:autoParam (NA K GA x=a_ (a_ (.ref C))) Jq2)(i:autoParam (Gh K (.ref C) "__init__"=a_ (a_ (.ref f))) Jq2)(ex:autoParam (la K C [.type "ValueError",.type "Exception",.type "BaseException",.type "object"] "ValueError.__new__" f=d_) Jq8)(b:autoParam (Gh K (.ref C) "__getattribute__"=a_ (a_ (.builtin "BaseException.__getattribute__"))) Jq2)(c:autoParam (Gh K (.ref C) "__class__"=a_ (a_ (.builtin "object.__class__"))) Jq2)(Y:autoParam (Gh K (.ref C) "__getattr__"=a_ c_) Jq2)(bs:autoParam (Iv K C (.type "BaseException")=a_ d_) Jq2)(I:autoParam (Iv K C (.type "object")=a_ d_) Jq2)(is:autoParam ((LB K C).isSome=d_) Jq8):XTry K mg x C:=
 ⟨mg_of d G a,xnamed2 ex,⟨b,c,Y,bs,I,HV.mp is⟩⟩
theorem xM(Y:K.In h)(G:h.Ns GA mg)(N:∃f fd,Mth K C "__init__" q st ps f fd)(a:autoParam (NA K GA x=a_ (a_ (.ref C))) Jq2)(i:autoParam (Gh K (.ref C) "__init__"=a_ (a_ (.ref f))) Jq2)(ex:autoParam (la K C [.type "ValueError",.type "Exception",.type "BaseException",.type "object"] "ValueError.__new__" f=d_) Jq8)(fn:autoParam (isFn K (.ref f)=d_) Jq2)(I:autoParam (HW K (.ref C)=d_) Jq2):∃f fd,Mth K C "__init__" q st ps f fd/\XMk K mg x C f:=by obtain⟨b,fd,M⟩:=N;have e:=M.mt.1.symm.trans i;cases e;exact⟨_,fd,M,mg_of Y G a,ex,HU.mp fn,I⟩
theorem lF{y:p_}(b:K.In h)(G:h.Ns GA mg)(a:autoParam (NA K GA x=a_ (a_ (.ref f))) Jq2)(l:autoParam (K.lookup f=a_ ⟨oc,od,.func (KZ x x (dN st) (bS st) (aJ st) .none kV doc pm an cdv ct),osl⟩) Jq2)(c:autoParam (LA K cdv x=d_) Jq2)(k:autoParam (HW K (.ref f)=d_) Jq2)(I:∀(kV doc pm:i_) (an:Option g_) (cdv ct:i_) (v:i_),KH (KZ x x (dN st) (bS st) (aJ st) .none kV doc pm an cdv ct) ⟨[v],[]⟩=Hq [(y,v)]:=by intros;rfl):∃f fd,Def K mg x st [y] f fd/\∀(s:y_) (v:i_),KU s fd ⟨[v],[]⟩ [(y,v)]:=
 ⟨_,_,def_of b G a l c k λ_ _ _ _ _ _ us Y=>match us,Y with|[_],_=>I ..,λ_ _=>.of_eq (I ..)⟩
theorem Fun.uniq{fd':HL}(a:Fun K x q st f fd)(b:Fun K x q st f fd'):fd=fd':=by obtain⟨oc,od,kV,doc,pm,an,cdv,ct,osl,rfl,j,_⟩:=a.ex;obtain⟨i,h,k,c,g,m,d,l,Y,rfl,I,_⟩:=b.ex;have e:=j.symm.trans I;cases e;rfl
theorem rS{mc:i_}(N:∃f fd,Mth K C x q st ps f fd)(a:autoParam (Gh K (.ref C) x=a_ (a_ (.ref f))) Jq2)(c:autoParam (KR K (.ref C) "__getattribute__"=a_ (a_ (.builtin "type.__getattribute__"))) Jq8)(b:autoParam (M1 K C mc=d_) Jq8)(Y:autoParam (M4 K (.ref C) mc x=a_ (.val (.ref f))) Jq8)(I:autoParam (HW K (.ref f)=d_) Jq2):∃f fd,Mth K C x q st ps f fd/\Stat K C mc x f:=by obtain⟨d,fd,M⟩:=N;have e:=M.mt.1.symm.trans a;cases e;exact⟨_,fd,M,c,b,Y,I⟩
end
def gA:List A3->M (List p_)
 |[]=>.ok []|.str x::ds=>(gA ds).bind λr=>.ok (x::r)|_::_=>stk
@[simp] theorem e_strs0:gA []=.ok []:=id rfl
@[simp] theorem e_strs1(x:p_)(ds:List A3):gA (.str x::ds)=(gA ds).bind λr=>.ok (x::r):=id rfl
noncomputable def isS:A3->Bool
 |.str _=>d_|_=>b_
def mH:A3->A3->M A3
 |.str I,.lst ds=>(gA ds).bind λxs=>if (xs.map (·.length)).sum+xs.length*I.length<=f_ then .ok (.str (Hv I xs))else stk
 |_,_=>stk
@[simp] theorem e_joinD(I:p_)(ds:List A3):mH (.str I) (.lst ds)=(gA ds).bind λxs=>if (xs.map (·.length)).sum+xs.length*I.length<=f_ then .ok (.str (Hv I xs))else stk:=id rfl
def fSM(g:A3->A3->M A3)(fo fe:ah->M A3):ah->M A3:=λρ=>(fo ρ).bind λa=>if isS a=d_ then(fe ρ).bind λb=>g a b else stk
@[simp] theorem e_fSM(g:A3->A3->M A3)(fo fe:ah->M A3)(ρ:ah):fSM g fo fe ρ=(fo ρ).bind λa=>if isS a=d_ then(fe ρ).bind λb=>g a b else stk:=id rfl
@[simp] theorem e_isS(x:p_):isS (.str x)=d_:=id rfl
def rSM(K:Pn)(W:eD)(own:Bool)(g:A3->A3->M A3):V->List V->Hp->VK->Prop:=λx vs H Q=>∃F z b y,aL F H/\x=.str z/\vs=[y]/\aT K F b y/\aN K W own F H (g (.str z) b) Q
theorem tj{M:K2}{A:Iy}{E:Mq}{Q R:p_->y_->Prop}:∀{ps:List (Oe i_)} {I:p_} {s:y_},Joins M A E ps I Q s->(∀z s,Q z s->R z s)->Joins M A E ps I R s
 |[],I,s,h,k=>k _ _ h|x::ps,I,s,h,k=>GK h (λv Y ⟨y,t,e,l,q⟩=>⟨y,t,e,l,tj q k⟩) λ_ _ z=>z
section
variable{W:eD}{own:Bool}{o:GX}{fo:ah->M A3}{name:p_}{id:String}
theorem nY(u:MtR X id (rSM X.K W own g))(d:Slot "str" name id)(k:typeOf (.builtin id)=Hq (.type "method_descriptor"))(t:DE K W b_ X o fo)(i:DE K W b_ X e fe)(A: ~~~(X.K=K))(c: ~~~(Ha o name X.env (Gj o X.env)=Gj o X.env))(f: ~~~(((GG cpos (iF [e] X.env)).all (λx=> !x.1)&&(HZ cpos (Hi [] X.env)).all (λx=>x.1.isSome)&&q_ ([e].length+([]:List IG).length+(if ([]:List IG).isEmpty then 0 else 1)<30))=d_))(Y: ~~~((apos.endLine==cpos.line)=d_))(m: ~~~(iF [e] X.env=(b_,Gj e X.env)::iF [] X.env))(I: ~~~((GG cpos (iF [] X.env)).any (·.1)=b_)):
  DE K W own X (.Call (.Attribute o name apos) [e] [] cpos) (fSM g fo fe):=by
 subst A;refine PE.imp (nL PySem.F.plainAttrs_str d k u t (ax i aO (by rw[m])) c f Y m I) λσ H Q h=>?_;obtain⟨F,ρ,r,s,p⟩:=h;refine aP r s (λe i=>p.err (by unfold fSM;rw[i];rfl)) λa w x F1 H1 j q=>?_;have B:fSM g fo fe ρ=if isS a=d_ then(fe ρ).bind λb=>g a b else stk:=by unfold fSM;rw[w];rfl
 rw[B]at p;have p:=p.step j;cases a with
 |str z=>
  have p:aN X.K W own F1 H1 ((fe ρ).bind λb=>g (.str z) b) Q:=p;cases(show x=V.str z from q);refine⟨rfl,?_⟩
  refine aP (r.mono j.ff) j.fh (λe i=>p.err (by rw[i];rfl)) λb v y F2 H2 l n=>?_;rw[v]at p;exact⟨F2,z,b,y,l.fh,rfl,rfl,n,p.step l⟩
 |_=>exact aN.stuck p
theorem pL{F:Hp}:∀{ds:List A3} {xs:List V} {I:List p_},aE K F ds xs->gA ds=.ok I->xs=I.map V.str
 |[],_,_,q,e=>by cases e;exact q|d::ds,_,I,⟨v,vs,e1,q,r⟩,e=>by
  cases d with
  |str z=>
   cases e2:gA ds with
   |error x=>rw[gA,e2]at e;cases e|ok r2=>rw[gA,e2]at e;cases e;rw[e1,pL r e2,show v=.str z from q];rfl
  |_=>cases e
theorem pM:∀{ds:List A3} {e:Err},gA ds=.error e->e=.stuck
 |[],_,h=>by cases h|d::ds,e,h=>by
  cases d with
  |str z=>
   cases e2:gA ds with
   |error x=>rw[gA,e2]at h;cases h;exact pM e2|ok r2=>rw[gA,e2]at h;cases h
  |_=>cases h;rfl
theorem pE:∀{I:List p_} {us:List i_},B' (I.map V.str) us->∃l:List (p_×Nq),us=IM l/\l.map (·.1)=I
 |[],_,.nil=>⟨[],rfl,rfl⟩|x::I,_,.cons r rs=>by
  obtain⟨t,rfl⟩:=(show ∃t,_=Hu x t from r)
  obtain⟨l,rfl,e⟩:=pE rs;exact⟨(x,t)::l,rfl,by rw[F_,e]⟩
theorem jW:MtR X "str.join" (rSM X.K W own mH):=by
 intro A4 s σ H x vs v us Q I i j h;obtain⟨F,Y,b,y,g,rfl,rfl,m,p⟩:=h;obtain⟨u,rfl,k⟩:=j.one;obtain⟨t,rfl⟩:=(show ∃t,v=Hu Y t from i)
 cases b with
 |lst ds=>
  obtain⟨l,xs,rfl,q,z⟩:=m;cases k;cases e1:gA ds with
  |error e=>rw[mH,e1]at p;rw[pM e1]at p;exact aN.stuck p|ok d=>
   rw[mH,e1]at p;have p:aN X.K W own F H (if (d.map (·.length)).sum+d.length*Y.length<=f_ then .ok (.str (Hv Y d))else stk) Q:=p;have n:=pL z e1;subst n;obtain⟨A8,r,pl,o⟩:=I.list (g.lst q);obtain⟨L,rfl,rfl⟩:=pE r;by_cases f:((L.map (·.1)).map (·.length)).sum+(L.map (·.1)).length*Y.length<=f_
   ·rw[e_ f]at p;have a:=p.str g;refine Kl G3 (K7 _ _ _) PySem.F.entry_str_join (PySem.F.args_str_join_2 _ _) (meets_str_join_list Y t l L (by rw[StrLaws.joinTotal];exact j_ (LF.mpr f))) ⟨pl.isList,?_⟩;have c:(Builtin.Str.glued Y (L.map (·.1))).length<=f_:=by
     rw[size_glued];have:=MU Y.length (Nat.sub_le (L.map (·.1)).length 1);omega
    have e:=StrLaws.glued_eq_join Y (L.map (·.1))
    match L,a,c,e with
    |[],a,c,e=>exact⟨c,.str _,H,I.tok _,⟨_,rfl⟩,by rw[e];exact a⟩|[p],a,_,_=>exact⟨.str _,H,I,⟨_,rfl⟩,a⟩|p1::p2::L,a,c,e=>exact⟨c,.str _,H,I.tok _,⟨_,rfl⟩,by rw[e];exact a⟩
   ·rw[k_ f]at p;exact aN.stuck p
 |_=>exact aN.stuck p
noncomputable def j8(i:Int):p_:=toString i
def DC:List A3->M A3
 |[.int i]=>if i.natAbs.log2<1920 then .ok (.str (j8 i))else stk
 |_=>stk
@[simp] theorem e_strD(i:Int):DC [.int i]=if i.natAbs.log2<1920 then .ok (.str (j8 i))else stk:=id rfl
theorem CV:rC K W own X (.type "str") DC:=xT.imp λxs H Q h=>by
 obtain⟨F,d,x,s,e,q,p⟩:=lu (λds=>by match ds with|[d]=>exact .inl ⟨d,rfl⟩|[]=>exact .inr rfl|a::b::c=>exact .inr (by cases a<;>rfl)) h;cases d with
 |int i=>
  have p:aN K W own F H (if i.natAbs.log2<1920 then .ok (.str (j8 i))else stk) Q:=p;by_cases I:i.natAbs.log2<1920
  ·rw[e_ I]at p;exact⟨i,by rw[e,show x=.int i from q],I,p.str s⟩
  ·rw[k_ I]at p;exact aN.stuck p
 |_=>exact aN.stuck p
def ym:A3->A3->M A3
 |.str z,.int i=>if z.length<=f_ then(match atI z.cps.toList i with
  |some c=>.ok (.str ⟨#[c]⟩)|none=>stk)else stk
 |_,_=>stk
theorem pC:IxR X (rD2 K W own ym):=ix_str.imp λx y H Q h=>by
 obtain⟨F,a,b,s,e,d,p⟩:=h;cases a with
 |str z=>cases b with
  |int i=>
   have p:aN K W own F H (if z.length<=f_ then(match atI z.cps.toList i with
    |some c=>.ok (.str ⟨#[c]⟩)|none=>stk)else stk) Q:=p
   by_cases I:z.length<=f_
   ·rw[e_ I]at p;cases Y:atI z.cps.toList i with
    |none=>rw[Y]at p;exact aN.stuck p|some c=>rw[Y]at p;exact⟨z,i,c,e,d,I,Y,p.str s⟩
   ·rw[k_ I]at p;exact aN.stuck p
  |_=>exact aN.stuck p
 |_=>exact aN.stuck p
def nV:A3->M A3
 |.int i=>if i.natAbs.log2<1920 then .ok (.str (j8 i))else stk
 |.str z=>if z.length<=f_ then .ok (.str z)else stk
 |_=>stk
@[simp] theorem e_fmtI(i:Int):nV (.int i)=if i.natAbs.log2<1920 then .ok (.str (j8 i))else stk:=id rfl
@[simp] theorem e_fmtS(z:p_):nV (.str z)=if z.length<=f_ then .ok (.str z)else stk:=id rfl
theorem r9(b:DE K W b_ X e fe):DE K W own X (.FormattedValue e (-1) c_ pos) (f1 nV fe):=by
 intro A4 s σ H Q I h;obtain⟨F,ρ,r,k,p⟩:=h;refine wpAny_FormattedValue_plain (Bs (b A4 s σ H (λv H1=>∃a F1,fe ρ=.ok a/\A5 F H F1 H1/\aT K F1 a v) I (aP r k (λe b=>p.err (by show(fe ρ).bind nV=_;rw[b];rfl)) λa c v F1 H1 f l=>⟨a,F1,c,f,l⟩)) λv f m=>?_);obtain⟨x,H1,d,g,a,F1,c,st,q⟩:=m;have p:aN K W own F H (nV a) Q:=by have p:aN K W own F H ((fe ρ).bind nV) Q:=p;rw[c]at p;exact p
 have p:=p.step st;cases a with
 |int i=>
  have p:aN K W own F1 H1 (if i.natAbs.log2<1920 then .ok (.str (j8 i))else stk) Q:=p;cases(show x=V.int i from q);obtain⟨t,rfl⟩:=(show ∃t,v=G2 i t from g)
  by_cases Y:i.natAbs.log2<1920
  ·rw[e_ Y]at p;exact wpAny_formatField_int Y ⟨.str (j8 i),H1,(d.tok _).tok _,⟨_,rfl⟩,p.str st.fh⟩
  ·rw[k_ Y]at p;exact aN.stuck p
 |str z=>
  have p:aN K W own F1 H1 (if z.length<=f_ then .ok (.str z)else stk) Q:=p;cases(show x=V.str z from q);obtain⟨t,rfl⟩:=(show ∃t,v=Hu z t from g)
  by_cases Y:z.length<=f_
  ·rw[e_ Y]at p;have j:=p.str st.fh;exact wpAny_formatField_str ⟨.str z,H1,d,⟨_,rfl⟩,j⟩ ⟨.str z,H1,d.tok _,⟨_,rfl⟩,j⟩ Y
  ·rw[k_ Y]at p;exact aN.stuck p
 |_=>exact aN.stuck p
def oX(fs:List (ah->M A3))(ρ:ah):p_->M p_:=match fs with
 |[]=>λI=>.ok I|f::fs=>λI=>(f ρ).bind λd=>match d with
  |.str z=>if (I++z).length<=f_ then oX fs ρ (I++z)else stk
  |_=>stk
def fJ(fs:List (ah->M A3)):ah->M A3:=λρ=>(oX fs ρ Ii).bind λz=>.ok (.str z)
def tJ(K:Pn)(W:eD)(fs:List (ah->M A3))(I:p_)(σ:St)(H:Hp)(Q:p_->Hp->Prop):Prop:=∃F ρ,dM K F σ ρ/\aL F H/\(match oX fs ρ I with
 |.ok z=>∀F' H',A5 F H F' H'->Q z H'|.error e=>W.p e F H)
def DJ(K:Pn)(W:eD)(X:Cx)(es:List GX)(fs:List (ah->M A3)):Prop:=∀(A4:Vp) (s:y_) (σ:St) (H:Hp) (I:p_) (Q:p_->Hp->Prop),I.length<=f_->A6 X A4 σ H s->tJ K W fs I σ H Q ->
 Joins (D_ X.prog X.w) X.A X.xe (Nz es X.env) I (λout Y=>out.length<=f_/\∃H1,A6 X A4 σ H1 Y/\Q out H1) s
theorem Fq(a: ~~~(Nz [] X.env=[])):DJ K W X [] []:=λA4 s σ H c Q b I ⟨F,ρ,r,Y,p⟩=>by rw[a];exact⟨b,H,I,p F H (A5.refl Y)⟩
theorem gm{fs:List (ah->M A3)}(f:DE K W b_ X e fe)(l:DJ K W X es fs)(k: ~~~(Nz (e::es) X.env=Gj e X.env::Nz es X.env)):DJ K W X (e::es) (fe::fs):=λA4 s σ H Y Q g I ⟨F,ρ,r,h,p⟩=>by
 rw[k];have p:(match (fe ρ).bind (λd=>match d with
  |.str z=>if (Y++z).length<=f_ then oX fs ρ (Y++z)else stk
  |_=>stk)with
  |.ok z=>∀F' H',A5 F H F' H'->Q z H'|.error e=>W.p e F H):=p
 refine Bs (f A4 s σ H (λv H1=>∃a F1,fe ρ=.ok a/\A5 F H F1 H1/\aT K F1 a v) I (aP r h (λe f=>by rw[f]at p;exact p) λa g v F1 H1 c j=>⟨a,F1,g,c,j⟩)) λv c m=>?_;obtain⟨x,H1,o,i,a,F1,n,st,q⟩:=m;rw[n]at p;cases a with
 |str z=>
  cases(show x=V.str z from q);obtain⟨t,rfl⟩:=(show ∃t,v=Hu z t from i)
  have p:(match (if (Y++z).length<=f_ then oX fs ρ (Y++z)else stk)with
   |.ok z=>∀F' H',A5 F H F' H'->Q z H'|.error e=>W.p e F H):=p
  by_cases b:(Y++z).length<=f_
  ·rw[e_ b]at p;refine⟨z,t,rfl,b,l A4 c σ H1 (Y++z) Q b o ⟨F1,ρ,r.mono st.ff,st.fh,?_⟩⟩
   cases e1:oX fs ρ (Y++z)with
   |ok y=>rw[e1]at p;exact λF' H' s'=>p F' H' (st.trans s')|error e=>rw[e1]at p;exact W.mono p st
  ·rw[k_ b]at p;exact(W.ns p).elim
 |_=>exact(W.ns p).elim
theorem zN{fs:List (ah->M A3)}(h:DJ K W X (e1::e2::es) fs):DE K W own X (.JoinedStr (e1::e2::es) pos) (fJ fs):=by
 intro A4 s σ H Q I ⟨F,ρ,r,Y,p⟩;have p:aN K W own F H ((oX fs ρ Ii).bind λz=>.ok (.str z)) Q:=p;refine wpAny_JoinedStr ?_;refine tj (h A4 s σ H Ii (λz H1=>Q (.str z) H1) (by decide) I ⟨F,ρ,r,Y,?_⟩) λout c ⟨a,H1,b,q⟩=>⟨a,.str out,H1,b.tok _,⟨_,rfl⟩,q⟩
 cases e1:oX fs ρ Ii with
 |ok z=>rw[e1]at p;exact λF' H' s'=>(p.step s').str s'.fh|error e=>rw[e1]at p;exact p
end
def newS(C:g_)(g:List A3->M A3):List A3->M A3
 |[.lst a,I,.lst d1,.lst d2,.lst Y]=>(g [.lst a,I,.lst d1,.lst d2,.lst Y]).bind λt=>match t with
  |.str z=>.ok (.ins C [("kinds",.lst a),("rules",I),("names",.lst d1),("flights",.lst d2),("closed",.lst Y),("text",.str z)])|_=>stk
 |_=>stk
def spIS(K:Pn)(C:g_)(g:List A3->M A3):Sp:=λvs H Q _=>∃(p dx m b1 b2 b3:g_) (d:V) (b a Y I:List V) (F:Hp) (l d1 d2 k:List A3) (j:A3) (z:p_),
 vs=[.ref p,.ref m,d,.ref b1,.ref b2,.ref b3]/\H p=a_ (.ins C dx [])/\F p=c_/\aL F H/\(SqL K F m b/\aE K F l b)/\aT K F j d/\(SqL K F b1 a/\aE K F d1 a)/\(SqL K F b2 Y/\aE K F d2 Y)/\(SqL K F b3 I/\aE K F k I) /\
 g [.lst l,j,.lst d1,.lst d2,.lst k]=.ok (.str z)/\∀(i h f e:g_) (H':Hp),(∀c o,H c=a_ o->c≠p->H' c=a_ o)->H i=c_->H h=c_->H f=c_->H e=c_->H' i=a_ (.lst b)->H' h=a_ (.lst a)->H' f=a_ (.lst Y)->H' e=a_ (.lst I) ->
  H' p=a_ (.ins C dx [("kinds",.ref i),("rules",d),("names",.ref h),("flights",.ref f),("closed",.ref e),("text",.str z)])->Q .non H'
theorem A5.own(s:A5 F H F1 H1)(Y:H l=c_)(h1:H1 l=a_ o):A5 F H (upd F1 l o) H1 where
 ff:=λb u e=>by
  by_cases I:b=l
  ·subst I;rw[aq,<- h1,s.fh _ _ (s.ff _ _ e)]
  ·rw[aw I];exact s.ff _ _ e
 hh:=s.hh
 fh:=λb u e=>by
  by_cases I:b=l
  ·subst I;rw[aq]at e;rw[h1];exact e
  ·rw[aw I]at e;exact s.fh _ _ e
 nw:=λb u e=>by
  by_cases I:b=l
  ·subst I;exact .inr Y
  ·rw[aw I]at e;exact s.nw _ _ e
theorem A5.qm(s:A5 F H F1 H1)(h1:H1 l=a_ o):aL F1 (upd F1 l o):=λb u e=>by
 by_cases I:b=l
 ·subst I;rw[aq,<- h1,s.fh _ _ e]
 ·rw[aw I];exact e
theorem born_S{x d m1 b a:g_}{r:V}{k j i g:List V}{z d1 d2 y:List A3}{w:A3}{t:p_}(D:aL F H1)(s:H1 x=c_)(m:H1 dx=c_)(U:aE K F z k)(N:aT K F w r)(T:aE K F d1 j)(S:aE K F d2 i)(R:aE K F y g)(k0:∀c o,upd (upd H1 dx (.own x)) x (.ins C dx []) c=a_ o->c≠x->H' c=a_ o)(Q:upd (upd H1 dx (.own x)) x (.ins C dx []) d=c_)(P:upd (upd H1 dx (.own x)) x (.ins C dx []) m1=c_)(n2:upd (upd H1 dx (.own x)) x (.ins C dx []) b=c_)(O:upd (upd H1 dx (.own x)) x (.ins C dx []) a=c_)(k1:H' d=a_ (.lst k))(k2:H' m1=a_ (.lst j))(k3:H' b=a_ (.lst i))(p:H' a=a_ (.lst g))(k5:H' x=a_ (.ins C dx [("kinds",.ref d),("rules",r),("names",.ref m1),("flights",.ref b),("closed",.ref a),("text",.str t)])):
  ∃G,A5 F H1 G H'/\aT K G (.ins C [("kinds",.lst z),("rules",w),("names",.lst d1),("flights",.lst d2),("closed",.lst y),("text",.str t)]) (.ref x):=by
 have I:∀{c:g_},upd (upd H1 dx (.own x)) x (.ins C dx []) c=c_->H1 c=c_:=λ{c} h=>by
  cases n:H1 c with
  |none=>rfl|some o=>
   have h1:c≠x:=λh=>by rw[h,s]at n;cases n
   have h2:c≠dx:=λh=>by rw[h,m]at n;cases n
   rw[aw h1,aw h2,n]at h;cases h
 have v:aL H1 H':=λc o e=>by
  have h1:c≠x:=λh=>by rw[h,s]at e;cases e
  have h2:c≠dx:=λh=>by rw[h,m]at e;cases e
  exact k0 c o (by rw[aw h1,aw h2];exact e) h1
 have W:A5 F H1 F H':=⟨aL.refl _,v,D.trans v,λ_ _ h=>.inl h⟩
 have B:=W.own (I Q) k1;have u:=B.own (I P) k2;have q:=u.own (I n2) k3;have A:=q.own (I O) p;have f:=A.own s k5;have Y:∀{l:g_} {o:HO},upd (upd (upd (upd F d (.lst k)) m1 (.lst j)) b (.lst i)) a (.lst g) l=a_ o->upd (upd (upd (upd (upd F d (.lst k)) m1 (.lst j)) b (.lst i)) a (.lst g)) x (.ins C dx [("kinds",.ref d),("rules",r),("names",.ref m1),("flights",.ref b),("closed",.ref a),("text",.str t)]) l=a_ o:=λ{l o} h=>A.qm k5 l o h;have L:=Y (q.qm p _ _ (u.qm k3 _ _ (B.qm k2 d _ aq)));have H:=Y (q.qm p _ _ (u.qm k3 m1 _ aq));have r2:=Y (q.qm p b _ aq);have E:=Y (l:=a) aq;exact⟨_,f,x,dx,_,rfl,aq,_,_,rfl,⟨d,k,rfl,SqL.of L,aE.mono f.ff U⟩,_,_,rfl,aT.mono f.ff N,_,_,rfl,⟨m1,j,rfl,SqL.of H,aE.mono f.ff T⟩,_,_,rfl,⟨b,i,rfl,SqL.of r2,aE.mono f.ff S⟩,_,_,rfl,⟨a,g,rfl,SqL.of E,aE.mono f.ff R⟩,_,_,rfl,rfl,rfl⟩
section
variable{e0:GX}{fr:ah->M (List A3)}
theorem de_newS{k:Nat}{g:List A3->M A3}{ps:List p_}(n:Mk X.K C fI)(FI:i6 X.prog X.w X.K X.mg X.base CX0 k fI fdI ps (spIS K C g))(hr:i5 (k+1) X.A)(hm:X.mg x=a_ (.ref C))(hb:Binds X.K fdI ps [])(ha:DA K C' X [e0,e1,e2,e3,e4] fr)(hg: ~~~(Gl X x))(m:((x==("__debug__":p_))=b_)⁻¹)(j: ~~~(iF [e0,e1,e2,e3,e4] X.env=(b_,Gj e0 X.env)::iF [e1,e2,e3,e4] X.env))(l: ~~~((GG pos (iF [e1,e2,e3,e4] X.env)).any (·.1)=b_)):
  DE K C' b_ X (.Call (.Name x p) [e0,e1,e2,e3,e4] [] pos) (fL (newS C g) fr):=by
 refine PE.imp (yZ n FI hr hg hm hb .nil ql ha m j l) λσ H Q h=>?_;obtain⟨F,ρ,r,s,p⟩:=rd_L h;refine⟨F,ρ,r,s,?_⟩
 cases e1:fr ρ with
 |error z=>rw[e1]at p;exact p|ok ds=>
  rw[e1]at p;intro vs F1 H1 st q;obtain⟨F2,es1,Y,O,z⟩:=p vs F1 H1 st q;unfold newS at z;split at z
  ·rename_i f b d1 d2 d;obtain⟨_,_,rfl,⟨b0,L,rfl,l0,A⟩,N,_,rfl,u,_,_,rfl,⟨b1,E,rfl,Z,y⟩,_,_,rfl,⟨b2,D,rfl,W,w⟩,_,_,rfl,⟨b3,B,rfl,U,v⟩,hn⟩:=O;cases hn;have z:aN K C' b_ F2 H1 ((g [.lst f,b,.lst d1,.lst d2,.lst d]).bind λt=>match t with
    |.str z=>.ok (.ins C [("kinds",.lst f),("rules",b),("names",.lst d1),("flights",.lst d2),("closed",.lst d),("text",.str z)])|_=>stk) Q:=z
   cases I:g [.lst f,b,.lst d1,.lst d2,.lst d]with
   |error e=>rw[I]at z;exact Gy z|ok t=>
    rw[I]at z;cases t with
    |str t=>
     intro x dx i a hne;refine⟨x,dx,b0,b1,b2,b3,N,L,E,D,B,F2,f,d1,d2,d,b,t,rfl,aq,Y.free i,λc o e=>?_,⟨l0,A⟩,u,⟨Z,y⟩,⟨W,w⟩,⟨U,v⟩,I,?_⟩
     ·have hc:c≠x:=λh=>by rw[h,Y.free i]at e;cases e
      have hd:c≠dx:=λh=>by rw[h,Y.free a]at e;cases e
      rw[aw hc,aw hd];exact Y _ _ e
     ·intro m0 m1 m2 m3 H' k0 T R n2 P k1 k2 k3 k4 k5;obtain⟨G,S,q⟩:=born_S Y i a A u y w v k0 T R n2 P k1 k2 k3 k4 k5;exact⟨rfl,z (.ref x) G H' S q⟩
    |_=>exact aN.stuck z
  ·exact aN.stuck z
end
def RLst(K:Pn):List V->Hp->VK->Prop:=λxs H Q=>∃p ys,xs=[.ref p]/\(SqL K H p ys\/SqT K H p ys)/\∀l,H l=c_->Q (.ref l) (upd H l (.lst ys))
theorem my(f:p_)(v:V):∀fs:List (p_×V),f∉fs.map (·.1)->sU f v fs=fs++[(f,v)]
 |[],_=>rfl|(g,x)::r,h=>by have h1:¬g=f:=λe=>h (by simp[e]);have h2:f∉r.map (·.1):=λe=>h (by simp at e ⊢;exact .inr e);show(if g=f then _ else _)=_;rw[k_ h1,my f v r h2];rfl
structure Cu(F H Hc:Hp)(p C dx:g_)(fs:List (p_×V)):Prop where
 f0:F p=c_
 sf:aL F Hc
 kp:∀c o,H c=a_ o->c≠p->Hc c=a_ o
 ob:Hc p=a_ (.ins C dx fs)
section
variable{p:g_}{fs:List (p_×V)}{f:p_}{D:Ends}
theorem Cu.put(c:Cu F H Hc p C dx fs)(f:p_)(v:V):Cu F H (upd Hc p (.ins C dx (fs++[(f,v)]))) p C dx (fs++[(f,v)]) where
 f0:=c.f0
 sf:=λb u e=>by
  have:b≠p:=λz=>by rw[z,c.f0]at e;cases e
  rw[aw this];exact c.sf _ _ e
 kp:=λb o e I=>by rw[aw I];exact c.kp b o e I
 ob:=aq
theorem Cu.lay(c:Cu F H Hc p C dx fs)(I:Hc l=c_):Cu F H (upd Hc l o) p C dx fs where
 f0:=c.f0
 sf:=λb u e=>by
  have:b≠l:=λz=>by rw[z,c.sf.free I]at e;cases e
  rw[aw this];exact c.sf _ _ e
 kp:=λb u e Y=>by
  have h1:=c.kp b u e Y;have:b≠l:=λz=>by rw[z,I]at h1;cases h1
  rw[aw this];exact h1
 ob:=by
  have:p≠l:=λz=>by have h:=c.ob;rw[z,I]at h;cases h
  rw[aw this];exact c.ob
theorem Cu.new(c:Cu F H Hc p C dx fs)(I:Hc l=c_):H l=c_:=by
 cases h:H l with
 |none=>rfl|some o=>
  have:l≠p:=λz=>by have h:=c.ob;rw[<- z,I]at h;cases h
  rw[c.kp l o h this]at I;cases I
theorem Cu.list(c:Cu F H Hc p C dx fs)(s:Cls K C)(g:bq K C f)(j:f∉fs.map (·.1))(n:fs.length<1000)(r:σ[0]?=a_ (a_ (.ref p))){y:List V}(hi:σ[i]?=a_ (a_ (.ref b)))(q:SqL K F b y)(I:∀l a,H l=c_->Cu F H a p C dx (fs++[(f,.ref l)])->a l=a_ (.lst y)->(∀m o,Hc m=a_ o->m≠p->a m=a_ o)->D.nx σ a):Az K (bV 0) (tCB (RLst K) (aR (bV i) dP)) f D σ Hc:=by
 refine⟨.ref b,hi,b,y,rfl,.inl (c.sf.lst q),λl Y=>⟨.ref p,r,p,C,dx,fs,rfl,(c.lay Y).ob,s,g,n,?_⟩⟩
 rw[my f _ fs j];have d:l≠p:=λz=>by have h:=c.ob;rw[<- z,Y]at h;cases h
 refine I l _ (c.new Y) ((c.lay Y).put f (.ref l)) (by rw[aw d,aq]) λm o e k=>?_
 have:m≠l:=λz=>by rw[z,Y]at e;cases e
 rw[aw k,aw this];exact e
end
theorem rs_initS{g:List A3->M A3}{E':XK}(d:Cls K C)(a:∀y∈(["kinds","rules","names","flights","closed","text"]:List p_),bq K C y)(h:spIS K C g vs H Q E):
  dO (Az K (bV 0) (tCB (RLst K) (aR (bV 1) dP)) "kinds") (dO (Az K (bV 0) (bV 2) "rules") (dO (Az K (bV 0) (tCB (RLst K) (aR (bV 3) dP)) "names") (dO (Az K (bV 0) (tCB (RLst K) (aR (bV 4) dP)) "flights")
   (dO (Az K (bV 0) (tCB (RLst K) (aR (bV 5) dP)) "closed") (Az K (bV 0) (gS (spF K b_ g 5) [] E' (aR (bV 1) (aR (bV 2) (aR (bV 3) (aR (bV 4) (aR (bV 5) dP)))))) "text")))))
   {nx:=λ_ H'=>Q .non H',rt:=Q} (start ["self","kinds","rules","names","flights","closed"] vs) H:=by
 obtain⟨p,dx,L,b1,b2,b3,Y,R,P,O,N,F,d0,d1,d2,Z,X,z,rfl,D,W,S,⟨t,c0⟩,T,⟨s,c1⟩,⟨r,c2⟩,⟨n,c3⟩,U,q⟩:=h;have C0:Cu F H H p C dx []:=⟨W,S,λ_ _ e _=>e,D⟩
 refine C0.list d (a _ (by simp)) (by simp) (by decide) rfl rfl t λi H1 b C1 a0 k1=>?_;refine⟨Y,rfl,.ref p,rfl,p,C,dx,_,rfl,C1.ob,d,a _ (by simp),by simp,?_⟩
 rw[my _ Y _ (by show("rules":p_)∉(["kinds"]:List p_);decide +kernel)];have C2:=C1.put "rules" Y;have e0:∀{l:g_},H l=c_->l≠p:=λ{l} h z=>by rw[z,D]at h;cases h
 have k2:∀m o,H1 m=a_ o->m≠p->upd H1 p (.ins C dx ((([]:List (p_×V))++[(("kinds":p_),V.ref i)])++[(("rules":p_),Y)])) m=a_ o:=λm o e j=>by rw[aw j];exact e
 refine C2.list d (a _ (by simp)) (by show("names":p_)∉(["kinds","rules"]:List p_);decide +kernel) (by simp) rfl rfl s λA H3 f C3 a1 k3=>?_;refine C3.list d (a _ (by simp)) (by show("flights":p_)∉(["kinds","rules","names"]:List p_);decide +kernel) (by simp) rfl rfl r λx H4 n2 C4 a2 B=>?_;refine C4.list d (a _ (by simp)) (by show("closed":p_)∉(["kinds","rules","names","flights"]:List p_);decide +kernel) (by simp) rfl rfl n λw H5 u k a3 k5=>?_;refine⟨.ref L,rfl,Y,rfl,.ref b1,rfl,.ref b2,rfl,.ref b3,rfl,F,[.lst d0,X,.lst d1,.lst d2,.lst Z],k.sf,⟨_,_,rfl,⟨L,R,rfl,t,c0⟩,_,_,rfl,T,_,_,rfl,⟨b1,P,rfl,s,c1⟩,_,_,rfl,⟨b2,O,rfl,r,c2⟩,_,_,rfl,⟨b3,N,rfl,n,c3⟩,rfl⟩,rfl,?_⟩
 rw[U];intro v F' H' st hv;cases(show v=.str z from hv);refine⟨.ref p,rfl,p,C,dx,_,rfl,st.hh _ _ k.ob,d,a _ (by simp),by simp,?_⟩
 rw[my _ _ _ (by show("text":p_)∉(["kinds","rules","names","flights","closed"]:List p_);decide +kernel)];have I:∀m o,H5 m=a_ o->m≠p->upd H' p (.ins C dx (((((([]:List (p_×V))++[(("kinds":p_),V.ref i)])++[(("rules":p_),Y)])++[(("names":p_),V.ref A)])++[(("flights":p_),V.ref x)])++[(("closed":p_),V.ref w)]++[(("text":p_),V.str z)])) m=a_ o:=λm o e j=>by rw[aw j];exact st.hh _ _ e
 exact q i A x w _ (λc o e G=>I c o (k.kp c o e G) G) b f n2 u (I _ _ (k5 _ _ (B _ _ (k3 _ _ (k2 _ _ a0 (e0 b)) (e0 b)) (e0 b)) (e0 b)) (e0 b)) (I _ _ (k5 _ _ (B _ _ a1 (e0 f)) (e0 f)) (e0 f)) (I _ _ (k5 _ _ a2 (e0 n2)) (e0 n2)) (I _ _ a3 (e0 u)) aq
theorem isi1{P:g_->Bool->Prop}(h1:P C1 b1):∀C b,GH C [(C1,b1)]=a_ b->P C b:=λC b h=>by
 rw[v_]at h;cases e:C==C1 with
 |true=>rw[e]at h;cases h;rw[HU.mp e];exact h1|false=>rw[e]at h;cases h
structure Lent(K:Pn)(H0 G H:Hp)(hh:g_)(bs:List g_)(ys:List (List V))(ds:List (List A3)):Prop where
 sg:aL G H
 s0:aL H0 H
 top:H hh=a_ (.lst (bs.map .ref))
 gh:G hh=c_
 h0:H0 hh=c_
 nt:hh∉bs
 own:∀(j:Nat) (b:g_),bs[j]?=a_ b->G b=c_/\H0 b=c_/\∃y d,ys[j]?=a_ y/\ds[j]?=a_ d/\H b=a_ (.lst y)/\aE K G d y
section
variable{hh:g_}{bs:List g_}{ys:List (List V)}{ds:List (List A3)}
theorem Lent.step{I:Hp}(l:Lent K H0 G H hh bs ys ds)(s:A5 G H I H'):Lent K H0 I H' hh bs ys ds where
 sg:=s.fh
 s0:=l.s0.trans s.hh
 top:=s.hh _ _ l.top
 gh:=by
  cases e:I hh with
  |none=>rfl|some o=>
   rcases s.nw _ _ e with z|z
   ·rw[l.gh]at z;cases z
   ·rw[l.top]at z;cases z
 h0:=l.h0
 nt:=l.nt
 own:=λj b e=>by
  obtain⟨h1,h2,y,d,f,c,Y,a⟩:=l.own j b e;refine⟨?_,h2,y,d,f,c,s.hh _ _ Y,aE.mono s.ff a⟩
  cases e:I b with
  |none=>rfl|some o=>
   rcases s.nw _ _ e with z|z
   ·rw[h1]at z;cases z
   ·rw[Y]at z;cases z
open Classical in
end
theorem dM.hide(r:dM K F σ ρ)(i:Nat)(v:Option V):dM K F (σ.set i v) (ρ.set i c_):=
 ⟨by rw[B_,B_,r.len],λj d e=>by
  by_cases I:i=j
  ·subst I;by_cases hi:i<ρ.length
   ·rw[s_ hi]at e;cases e
   ·rw[HP (by rw[B_];omega)]at e;cases e
  ·rw[m_ I]at e;obtain⟨v,h1,h2⟩:=r.sl j d e;exact⟨v,by rw[m_ I];exact h1,h2⟩⟩
theorem dM.tell(r:dM K F σ ρ){d:A3}(e:σ[i]?=a_ (a_ v))(q:aT K F d v):dM K F σ (ρ.set i (a_ d)):=
 ⟨by rw[B_,r.len],λj d' I=>by
  by_cases Y:i=j
  ·subst Y;by_cases hi:i<ρ.length
   ·rw[s_ hi]at I;cases I;exact⟨v,e,q⟩
   ·rw[HP (by rw[B_];omega)]at I;cases I
  ·rw[m_ Y]at I;exact r.sl j d' I⟩
noncomputable def unF:HO->HO
 |.frz _ u=>u|o=>o
open Classical in
theorem Rep.ofE(r:dM K F σ ρ)(st:A5 F0 H0 F H)(fb:aL FB F):Rep K F0 H0 FB [] F H σ ρ:=
 ⟨st,fb,r.len,λi d e _=>r.sl i d e,(λ_ _ _ h=>nomatch h),(λ_ _ _ _ _ h=>nomatch h)⟩
def oj:A3->A3->M A3
 |.str x,.str y=>if (q_ (y.length=1)&&q_ (x.length+2<=f_))=d_ then .ok (.lst ((Ih x y).map .str))else stk
 |_,_=>stk
@[simp] theorem e_splitD(x y:p_):oj (.str x) (.str y)=if (q_ (y.length=1)&&q_ (x.length+2<=f_))=d_ then .ok (.lst ((Ih x y).map .str))else stk:=id rfl
def nI:A3->A3->M A3
 |.str x,.str y=>.ok (.bl (Ho x y))|_,_=>stk
@[simp] theorem e_startsD(x y:p_):nI (.str x) (.str y)=.ok (.bl (Ho x y)):=id rfl
noncomputable def Aw:A3->M (List A3)
 |.str x=>.ok (x.cps.toList.map λc=>.str ⟨#[c]⟩)|_=>.error .stuck
def fItS(fa:ah->M A3):ah->M (List A3):=λρ=>(fa ρ).bind Aw
@[simp] theorem e_fItS(fa:ah->M A3)(ρ:ah):fItS fa ρ=(fa ρ).bind Aw:=id rfl
@[simp] theorem e_signsD(x:p_):Aw (.str x)=.ok (x.cps.toList.map λc=>.str ⟨#[c]⟩):=id rfl
def inSD:A3->A3->M A3
 |.str a,.str b=>.ok (.bl (!(Gx b a 0 b.length 1).isEmpty))|_,_=>stk
def jV:A3->A3->M A3
 |.str a,.str b=>.ok (.bl (!(!(Gx b a 0 b.length 1).isEmpty)))|_,_=>stk
@[simp] theorem e_inSD(c:Nat)(b:p_):inSD (.str ⟨#[c]⟩) (.str b)=.ok (.bl (q_ (c∈b.cps.toList))):=by show Ge (A3.bl (!(Gx b ⟨#[c]⟩ 0 b.length 1).isEmpty))=_;rw[Mw]
@[simp] theorem e_notInSD(c:Nat)(b:p_):jV (.str ⟨#[c]⟩) (.str b)=.ok (.bl (!decide (c∈b.cps.toList))):=by show Ge (A3.bl (!(!(Gx b ⟨#[c]⟩ 0 b.length 1).isEmpty)))=_;rw[Mw]
def EO:List A3->M A3
 |[.str x]=>if x.length<=640 then(match II x with
  |some n=>.ok (.int n)|none=>stk)else stk
 |_=>stk
@[simp] theorem e_intSD(x:p_):EO [.str x]=if x.length<=640 then(match II x with
  |some n=>.ok (.int n)|none=>stk)else stk:=id rfl
def x9:List A3->M A3
 |[.str z]=>if z.length<=f_ then .ok (.int z.length)else stk
 |_=>stk
@[simp] theorem e_lenSD(z:p_):x9 [.str z]=if z.length<=f_ then .ok (.int z.length)else stk:=id rfl
noncomputable def Its(x:p_):It:=⟨λi _=>i<x.cps.size,λi H v H'=>H'=H/\∃c,x.cps[i]?=a_ c/\v=.str ⟨#[c]⟩,λi _=>i=x.cps.size⟩
theorem turn_str{nm:String}(m:nm="str_ascii_iterator"\/nm="str_iterator")(x:p_)(t:Nq)(Y:g_):Turn P w K tg (Its x) [Y] Y (λi h=>h.IsStrIter Y nm x t i):=by
 have W:∀A:Iy,A.handled=c_->Walks P w A Y [Y] [Y] x.cps.size (SignAt x) (λi h=>h.IsStrIter Y nm x t i):=λA y=>by
  rcases m with rfl|rfl
  ·exact Walks.strAscii y Y x t
  ·exact Walks.strWide y Y x t
 have B:["enumerate","zip","dict_itemiterator","dict_reverseitemiterator","odict_iterator","itertools.zip_longest","itertools.pairwise"].contains nm=b_:=by rcases m with rfl|rfl<;>decide
 refine⟨by simp,λi h st b a=>?_,λi h h' st k=>?_,?_,?_,λA i s Q E st h=>?_⟩
 ·obtain rfl:b=Y:=by simpa using a
  obtain⟨o,e,c,d⟩:=st;exact⟨o,e,λv z=>by rw[d]at z;cases z⟩
 ·obtain⟨o,e,r⟩:=st;exact⟨o,k Y (by simp) o e,r⟩
 ·intro X p hw q n i A4 s σ H E I j st g;subst p hw q;obtain⟨f0,f1,_,f3,f4,f5⟩:=j Y (by simp);refine(W X.A (I.ok.hd n)).item i s _ _ g st λv h' tk D f l=>?_;obtain⟨c,u,C,F⟩:=D;have L:A6 X A4 σ H {s with heap:=h',toks:=tk}:=I.turned (λb o a e=>l b o (by simpa using a) e) f0 f1 f3 f4 f5;obtain⟨o,e,G,d⟩:=id f;exact⟨v,rfl,go_of (s:={s with heap:=h',toks:=tk}) e G d B ⟨.str ⟨#[c]⟩,H,L,⟨u,F⟩,⟨rfl,c,C,rfl⟩,f,λb a=>(j b a).1⟩⟩
 ·intro X p hw q n i A4 s σ H E I j st g;subst p hw q;obtain⟨f0,f1,_,f3,f4,f5⟩:=j Y (by simp);have g:i=x.cps.size:=g;subst g;exact(W X.A (I.ok.hd n)).done s _ _ st λh' tk l=>⟨rfl,I.turned (λb o a e=>l b o (by simpa using a) e) f0 f1 f3 f4 f5⟩
 ·rcases m with rfl|rfl
  ·exact wpAny_pyIter_striter_ascii st h
  ·exact wpAny_pyIter_striter_wide st h
theorem iter_str(x:p_):yh K F (Its x) (x.cps.toList.map λc=>.str ⟨#[c]⟩) where
 go:=λi F' H' _ _ hi=>by show i<x.cps.size;simpa using hi
 yl:=λi F' H' v H2 d e Y hd a=>by
  obtain⟨rfl,c,b,rfl⟩:=a;have I:x.cps.toList[i]?=a_ c:=by simpa using b
  rw[GB,I]at hd;cases hd;exact⟨F',A5.refl Y,rfl⟩
 st:=λF' H' _ _=>by show _=_;simp
section
variable{W:eD}{own:Bool}
theorem Bj(l:DE K W b_ X e fa)(u: ~~~(X.K=K)):DI K W X tg e (fItS fa):=by
 subst u;intro A4 s σ H R I ⟨F,ρ,r,g,p⟩;have p:(match (fa ρ).bind Aw with
  |.ok ds=>∀J F1 H1,A5 F H F1 H1->yh X.K F1 J ds->R J H1|.error e=>W.p e F H):=p
 refine Bs (l A4 s σ H (λv H1=>∃a F1,fa ρ=.ok a/\A5 F H F1 H1/\aT X.K F1 a v) I (aP r g (λe m=>by rw[m]at p;exact p) λa d v F1 H1 Y i=>⟨a,F1,d,Y,i⟩)) λv Y j=>?_;obtain⟨y,H1,f,h,a,F1,w,st,q⟩:=j;rw[w]at p;cases a with
 |str z=>
  cases(show y=V.str z from q);obtain⟨t,rfl⟩:=(show ∃t,v=Hu z t from h)
  have c:∀nm,(nm="str_ascii_iterator"\/nm="str_iterator")->PIE X A4 σ tg R (.ref Y.heap.objs.size) {Y with heap:=Y.heap.push {cls:=.type nm,data:=.fields #[.str z t,.int 0 0]}}:=λnm k=>by
   refine⟨Y.heap.objs.size,[Y.heap.objs.size],_,_,H1,rfl,f.kept (t':=Y.toks) λb o e=>n_ _ e,turn_str k z t _,⟨_,E_ _ rfl,rfl,rfl⟩,λb n=>?_,p (Its z) F1 H1 st (iter_str z)⟩
   obtain rfl:b=Y.heap.objs.size:=by simpa using n
   exact f.fpOk (sy _) (f.hok.fresh (sy _))
  cases d:z.cps.all (·<128)
  ·exact wpAny_pyIter_wide d (c _ (.inr rfl))
  ·exact wpAny_pyIter_ascii d (c _ (.inl rfl))
 |_=>exact(W.ns p).elim
theorem pj:MtR X "str.split" (rSM X.K W d_ oj):=by
 intro A4 s σ H x vs v us Q I w A h;obtain⟨F,z,b,y,n,rfl,rfl,C,p⟩:=h;obtain⟨u,rfl,B⟩:=A.one;obtain⟨t,rfl⟩:=(show ∃t,v=Hu z t from w)
 cases b with
 |str Y=>
  cases(show y=V.str Y from C);obtain⟨t2,rfl⟩:=(show ∃t,u=Hu Y t from B)
  have p:aN X.K W d_ F H (if (q_ (Y.length=1)&&q_ (z.length+2<=f_))=d_ then .ok (.lst ((Ih z Y).map .str))else stk) Q:=p;by_cases f:(q_ (Y.length=1)&&q_ (z.length+2<=f_))=d_
  ·rw[e_ f]at p;rw[l_,Gd,Gd]at f;have K:=split_le z Y;have j:∀l:List p_,aE X.K F (l.map .str) (l.map V.str):=λl=>by
    induction l with
    |nil=>rfl|cons a l g=>exact⟨.str a,_,rfl,rfl,g⟩
   have vs:∀l:List (p_×Nq),B' ((l.map (·.1)).map V.str) (IM l):=λl=>by
    induction l with
    |nil=>exact .nil|cons a l g=>exact .cons ⟨a.2,rfl⟩ g
   have d:∀(l:List (p_×Nq)) (k:Nat),l.map (·.1)=Ih z Y->EP X A4 σ Q (.ref s.heap.objs.size) {s with toks:=k,heap:=s.heap.push {cls:=.type "list",data:=.seq (IM l).toArray}}:=λl k E=>by
    have e:((Ih z Y).map V.str).length<=f_:=by rw[u_];omega
    refine⟨.ref s.heap.objs.size,_,I.laid (t':=k) (o:=.lst ((Ih z Y).map V.str)) (λ_ _ q=>n_ _ q) (sy _) ⟨e,IM l,0,by rw[<- E];exact vs l,E_ _ rfl⟩,rfl,?_⟩
    have c:=I.hok.fresh (sy s.heap.objs.size);exact p (.ref s.heap.objs.size) F _ (A5.grow n c) ⟨_,_,rfl,aq,n.free c,c,j _⟩
   have r:(Y.length==0)=b_:=by rw[f.1];rfl
   have D:(K0 z (Gx z Y 0 z.length (z.length+1)) Y.length).length<=f_:=by have:=StrLaws.occ_length_le z Y 0 z.length (z.length+1);rw[length_partsBetween];omega
   have i:∀{S:PySem.Spec},Meets (Builtin.«str.split» ⟨[.str z t,.str Y t2],[]⟩) S->S X.A (wants (EP X A4 σ Q) X.xe) s->Cb (D_ X.prog X.w) X.A (Jn (.builtin "str.split") [.str z t,.str Y t2]) (EP X A4 σ Q) X.xe s:=λm G=>Kl Ij (K7 _ _ _) PySem.F.entry_str_split (PySem.F.args_str_split_2 _ _) m G;cases h1:(q_ (z.length<Y.length)||q_ (Lu z<Lu Y))
   ·cases c:(Gx z Y 0 z.length (z.length+1)).isEmpty
    ·refine i (meets_str_split_sep z Y t t2 h1 r c (by omega) D) ?_;show wants _ _ _ {s with toks:=_,heap:=s.heap.push {cls:=.type "list",data:=.seq (strsFrom s.toks (K0 z (Gx z Y 0 z.length (z.length+1)) Y.length)).toArray}};rw[strsFrom_eq];exact d (numbered s.toks _) _ ((numbered_texts _ _).trans ((k_ (by rw[h1];decide)).trans (k_ (by rw[c];decide))).symm)
    ·exact i (meets_str_split_not_found z Y t t2 h1 r c) (d [(z,t)] s.toks ((k_ (by rw[h1];decide)).trans (e_ c)).symm)
   ·exact i (meets_str_split_cannot_occur z Y t t2 h1) (d [(z,t)] s.toks (e_ h1).symm)
  ·rw[k_ f]at p;exact aN.stuck p
 |_=>exact aN.stuck p
theorem Eu:MtR X "str.startswith" (rSM X.K W own nI):=by
 intro A4 s σ H x vs v us Q I c d h;obtain⟨F,z,b,y,a,rfl,rfl,f,p⟩:=h;obtain⟨u,rfl,e⟩:=d.one;obtain⟨t,rfl⟩:=(show ∃t,v=Hu z t from c)
 cases b with
 |str Y=>
  cases(show y=V.str Y from f);obtain⟨t2,rfl⟩:=(show ∃t,u=Hu Y t from e)
  have p:aN X.K W own F H (.ok (.bl (Ho z Y))) Q:=p;exact call_gives K3 (K7 _ _ _) PySem.F.entry_str_startswith (PySem.F.args_str_startswith_2 _ _) (gives_str_startswith z Y t t2) ⟨.bl _,H,I,rfl,p (.bl _) F H (A5.refl a) (by cases own<;>rfl)⟩
 |_=>exact aN.stuck p
theorem o_inS:Op2 K W own X (Gk .In) inSD:=OpR.imp Ei λx y H Q ⟨F,a,b,s,Y,I,p⟩=>by
 cases a with
 |str i=>cases b with
  |str j=>have p:aN K W own F H (.ok (.bl (!(Gx j i 0 j.length 1).isEmpty))) Q:=p;exact⟨i,j,Y,I,p (.bl _) F H (A5.refl s) (by cases own<;>rfl)⟩
  |_=>exact aN.stuck p
 |_=>exact aN.stuck p
theorem ph:Op2 K W own X (Gk .NotIn) jV:=OpR.imp wN λx y H Q ⟨F,a,b,s,Y,I,p⟩=>by
 cases a with
 |str i=>cases b with
  |str j=>have p:aN K W own F H (.ok (.bl (!(!(Gx j i 0 j.length 1).isEmpty)))) Q:=p;exact⟨i,j,Y,I,p (.bl _) F H (A5.refl s) (by cases own<;>rfl)⟩
  |_=>exact aN.stuck p
 |_=>exact aN.stuck p
theorem tQ:rC K W own X (.builtin "len") x9:=xU.imp λxs H Q h=>by
 obtain⟨F,d,x,s,e,q,p⟩:=lu (λds=>by match ds with|[d]=>exact .inl ⟨d,rfl⟩|[]=>exact .inr rfl|a::b::c=>exact .inr (by cases a<;>rfl)) h;cases d with
 |str z=>
  have p:aN K W own F H (if z.length<=f_ then .ok (.int z.length)else stk) Q:=p;by_cases I:z.length<=f_
  ·rw[e_ I]at p;exact⟨z,by rw[e,show x=.str z from q],I,p (.int _) F H (A5.refl s) (by cases own<;>rfl)⟩
  ·rw[k_ I]at p;exact aN.stuck p
 |_=>exact aN.stuck p
theorem FL:fW X (.type "int") (λxs H Q=>∃z n,xs=[.str z]/\z.length<=640/\II z=a_ n/\Q (.int n) H):=by
 intro A4 s σ H xs us Q I r ⟨z,n,e,b,a,q⟩;subst e;obtain⟨u,rfl,Y⟩:=vals1 r;obtain⟨t,rfl⟩:=(show ∃t,u=Hu z t from Y)
 exact PySem.W.KIN.call_text a b ⟨.int n,H,I.tok _,⟨_,rfl⟩,q⟩
theorem FR:rC K W own X (.type "int") EO:=FL.imp λxs H Q h=>by
 obtain⟨F,d,x,s,e,q,p⟩:=lu (λds=>by match ds with|[d]=>exact .inl ⟨d,rfl⟩|[]=>exact .inr rfl|a::b::c=>exact .inr (by cases a<;>rfl)) h;cases d with
 |str z=>
  have p:aN K W own F H (if z.length<=640 then(match II z with
   |some n=>.ok (.int n)|none=>stk)else stk) Q:=p
  by_cases Y:z.length<=640
  ·rw[e_ Y]at p;cases I:II z with
   |none=>rw[I]at p;exact aN.stuck p|some n=>rw[I]at p;exact⟨z,n,by rw[e,show x=.str z from q],Y,I,p (.int _) F H (A5.refl s) (by cases own<;>rfl)⟩
  ·rw[k_ Y]at p;exact aN.stuck p
 |_=>exact aN.stuck p
theorem uX{z:p_}(I:∃t,X.mg x=a_ (.str z t))(Y: ~~~(Gl X x))(hd:((x==("__debug__":p_))=b_)⁻¹):DE K W b_ X (.Name x pos) (fC (.str z)):=by obtain⟨t,e⟩:=I;exact(uA (v:=.str z) Y e ⟨t,rfl⟩ hd).imp λ_ _ _=>rd_c λ_=>rfl
end
def B8(xs:List p_)(k:p_):Option Nat:=xs.findIdx? (·==k)
def nP:A3->A3->M A3
 |.lst ds,.str k=>(gA ds).bind λxs=>match B8 xs k with
  |some j=>.ok (.int j)|none=>stk
 |_,_=>stk
@[simp] theorem e_indexS(ds:List A3)(k:p_):nP (.lst ds) (.str k)=(gA ds).bind λxs=>match B8 xs k with
  |some j=>.ok (.int j)|none=>stk:=id rfl
def gM(fo fe:ah->M A3):ah->M A3:=λρ=>(fo ρ).bind λa=>if isL a=d_ then(fe ρ).bind λb=>nP a b else stk
@[simp] theorem e_fIndexS(fo fe:ah->M A3)(ρ:ah):gM fo fe ρ=(fo ρ).bind λa=>if isL a=d_ then(fe ρ).bind λb=>nP a b else stk:=id rfl
def rIndexS(K:Pn):V->List V->Hp->VK->Prop:=λx vs H Q=>∃l is k j,x=.ref l/\vs=[.str k]/\SqL K H l (is.map V.str)/\B8 is k=a_ j/\Q (.int j) H
noncomputable def isKS(k:p_):i_->Bool
 |.str i _=>i==k|_=>b_
section
variable{W:eD}
theorem Ex(S:X.A.units+64<Hw):MtR X "list.index" (rIndexS X.K):=by
 intro A4 s σ H x vs v us Q I D E ⟨l,is,k,j,ex,R,P,O,q⟩;subst ex R;cases D;obtain⟨u,rfl,G⟩:=E.one;obtain⟨A8,r,pl,K⟩:=I.list P;obtain⟨⟨oc,f,d,osl⟩,n,e,Y,B,a⟩:=id pl;obtain⟨t,rfl⟩:=(show ∃t,u=Hu k t from G)
 obtain⟨o,p,g⟩:=Ja.mp O;obtain⟨L,rfl,rfl⟩:=pE r;have hsz:=C_;have C:(IM L).length=L.length:=by unfold IM;rw[u_]
 have b:∀m (c:m<(IM L).length),(IM L)[m]=.str ((L.map (·.1))[m]'(by rw[u_];omega)) (L[m]'(by omega)).2:=λm c=>by simp[IM]
 rw[u_]at o;refine Kl Lr ⟨_,e,Y⟩ PySem.F.entry_list_index (PySem.F.args_list_index_2 _ _) (SeqAt.list_indexAt l (IM L).toArray n f osl (.str k t) (isKS k) j (by rw[A_];omega) (by have:=K;rw[u_,u_]at this;omega) ?_ ?_) ⟨?_,λy N=>?_,⟨.int j,H,I.tok _,⟨_,rfl⟩,q⟩⟩
 ·rw[MF,b j (by omega)];exact p
 ·intro m c i;rw[A_]at c;rw[MF,b m c];simpa[isKS] using g m i
 ·rw[e];cases(show oc=.type "list" from Y);cases(show d=.seq (IM L).toArray n from a);rfl
 ·obtain⟨m,h,rfl⟩:=Ks (show y∈IM L by simpa using N);rw[b m h];generalize (L.map (·.1))[m]'(by rw[u_];omega)=z;have w:=F8 (F:=H) (x:=.str z) (y:=.str k) (A:=X.A.in1) I (aL.refl H) (.str z) (.str k) rfl rfl rfl rfl ⟨(L[m]'(by omega)).2,rfl⟩ ⟨t,rfl⟩ (by show X.A.units+1+40<Hw;omega);have e2:eqD (.str z) (.str k)=isKS k (.str z (L[m]'(by omega)).2):=by simp[eqD,isKS]
  rw[e2]at w;exact w
variable{o:GX}{fo:ah->M A3}
theorem n8(v:X.A.units+64<Hw)(A:DE K W b_ X o fo)(f:DE K W b_ X e fe)(D: ~~~(X.K=K))(c: ~~~(Ha o "index" X.env (Gj o X.env)=Gj o X.env))(d: ~~~(((GG cpos (iF [e] X.env)).all (λx=> !x.1)&&(HZ cpos (Hi [] X.env)).all (λx=>x.1.isSome)&&q_ ([e].length+([]:List IG).length+(if ([]:List IG).isEmpty then 0 else 1)<30))=d_))(Y: ~~~((apos.endLine==cpos.line)=d_))(m: ~~~(iF [e] X.env=(b_,Gj e X.env)::iF [] X.env))(I: ~~~((GG cpos (iF [] X.env)).any (·.1)=b_)):
  DE K W b_ X (.Call (.Attribute o "index" apos) [e] [] cpos) (gM fo fe):=by
 subst D;refine PE.imp (nL Gu Lr PySem.F.type_list_index (Ex v) A (ax f aO (by rw[m])) c d Y m I) λσ H Q w=>?_;obtain⟨F,ρ,r,s,p⟩:=w;refine aP r s (λe f=>p.err (by unfold gM;rw[f];rfl)) λa C x F1 H1 h q=>?_;rw[show gM fo fe ρ=if isL a=d_ then(fe ρ).bind λb=>nP a b else stk by unfold gM;rw[C];rfl]at p;have p:=p.step h;cases a with
 |lst ds=>
  have p:aN X.K W b_ F1 H1 ((fe ρ).bind λb=>nP (.lst ds) b) Q:=p;obtain⟨l,xs,rfl,t,z⟩:=id q;refine⟨.inl ⟨rfl,_,h.fh.lst t⟩,aP (r.mono h.ff) h.fh (λe f=>p.err (by rw[f];rfl)) λb B y F2 H2 g n=>?_⟩
  rw[B]at p;have p:aN X.K W b_ F1 H1 (nP (.lst ds) b) Q:=p;have p:=p.step g;cases b with
  |str k=>
   have p:aN X.K W b_ F2 H2 ((gA ds).bind λxs=>match B8 xs k with
    |some j=>.ok (.int j)|none=>stk) Q:=p
   cases hi:gA ds with
   |error e=>rw[hi]at p;rw[pM hi]at p;exact aN.stuck p|ok is=>
    rw[hi]at p;have p:aN X.K W b_ F2 H2 (match B8 is k with
     |some j=>.ok (.int j)|none=>stk) Q:=p
    have u:=pL z hi;subst u;cases i:B8 is k with
    |none=>rw[i]at p;exact aN.stuck p|some j=>rw[i]at p;cases(show y=V.str k from n);exact⟨l,is,k,j,rfl,rfl,g.fh.lst (g.ff.lst t),i,p (.int j) F2 H2 (A5.refl g.fh) rfl⟩
  |_=>exact aN.stuck p
 |_=>exact aN.stuck p
end
abbrev k1(t:Nq):List (p_×i_):=[(o_ "start",.int 1 t)]
theorem lst_it(h:GQ)(l:g_):(h.push {cls:=.type "list_iterator",data:=.fields #[.ref l,.int 0 0]}).objs.size=h.objs.size+1:=Hm ..
theorem Er(l:g_)(I:Array i_)(n:Nat)(t:Nq)(a:Option g_)(f:Array (Option i_)):
  Meets (Builtin.«enumerate.__new__» ⟨[.type "enumerate",.ref l],k1 t⟩) (λ_ R s=>s.heap.get? l=a_ {cls:=.type "list",dict:=a,data:=.seq I n,slots:=f} /\
   R (.ok (.ret (.ref (s.heap.objs.size+1)))) {s with heap:=(s.heap.push {cls:=.type "list_iterator",data:=.fields #[.ref l,.int 0 0]}).push {cls:=.type "enumerate",data:=.fields #[.none,.bool b_,.ref s.heap.objs.size,K8 1,.none,.none]}}):=
 Oh λP w A R s ⟨Y,h⟩=>by
  obtain⟨b,g,d,tk,os⟩:=s;rw[<- lst_it b l]at h;have z:=sub_enumerate;have e:Heap.IsList (Shared.heap ⟨b,g,d,tk,os⟩) l I:=⟨_,Y,rfl,n,rfl⟩
  wp_walk using JF Y
  refine wpAny_stack_any λst=>z_ ?_;split
  ·rename_i c _ _ _ _ _;cases(c==IJ "enumerate")<;>(wp_walk using JF Y,Jk e)<;>exact⟨_,rfl,h⟩
  ·wp_walk using JF Y,Jk e
   exact⟨_,rfl,h⟩
theorem ini_k1{I a:i_}{t:Nq}(d:NO (.type "enumerate") "__init__"=Hq (a_ (.builtin "object.__init__")))(c:Bind.madeBy (.type "enumerate")=Hq (a_ "enumerate.__new__")):
  Meets (Builtin.«object.__init__» ⟨[I,a],k1 t⟩) (λ_ R s=>s.TypeIs I "enumerate"/\R (.ok (.ret .none)) s):=Oh λP w A R s ⟨e,Y⟩=>by
 have b:(a_ "enumerate.__new__" != a_ "object.__new__")=d_:=by decide
 repeat (any_goals (first|assumption|wp_step))
 exact⟨_,rfl,Y⟩
section
variable{E:Mq}{Q:Mq}
theorem CU{Y:Array i_}{t:Nq}(O:s.heap.IsList l Y)(h:∀h',IsEnum h' (s.heap.objs.size+1) s.heap.objs.size 1 .none->h'.IsListIter s.heap.objs.size l 0->(∀b o,s.heap.get? b=a_ o->h'.get? b=a_ o)->Q (.ref (s.heap.objs.size+1)) {s with heap:=h'}):
  Cb (D_ prog w) A (Jn (.type "enumerate") [.ref l] (k1 t)) Q E s:=by
 obtain⟨⟨c,p,P,B⟩,H,L,n,hd⟩:=O;cases(show c=.type "list" from L);cases(show P=.seq Y n from hd);have ft:=F.called_enumerate;obtain⟨c,tl,z⟩:=ft.mro;have d:=ft.made;have y:=ft.sub;have h1:=ft.notType;have h2:=ft.canCreate;have K:checkTypeCall "enumerate" ⟨[.ref l],k1 t⟩=Hq ():=by kernel_rfl
 have m:Ly "enumerate.__new__" ⟨[.type "enumerate",.ref l],k1 t⟩=Hq ():=by kernel_rfl
 have i:∀a,argsOk "object.__init__" ⟨[a,.ref l],k1 t⟩:=λa=>by unfold argsOk;kernel_rfl
 have G:=lst_it s.heap l;have k:IsEnum ((s.heap.push {cls:=.type "list_iterator",data:=.fields #[.ref l,.int 0 0]}).push {cls:=.type "enumerate",data:=.fields #[.none,.bool b_,.ref s.heap.objs.size,K8 1,.none,.none]}) (s.heap.objs.size+1) s.heap.objs.size 1 .none:=by rw[<- G];exact E_ _ rfl
 refine Kk (codeAny_of_tree (show Cb _ _ (callAny (.type "enumerate") _) _ _ _ from z_ ⟨KA _ (by decide +kernel),codeAny_builtin F.entry_type_call ?_⟩));rw[Around.under_plain (weight_type_call_type "enumerate" [.ref l] (k1 t)) (units_type_call_type "enumerate" [.ref l] (k1 t))]
 repeat (any_goals (first|assumption|wp_step))
 refine HY (IU ft.plain F.entry_enumerate_new (wpAny_of_eq m (Er l Y n t p B prog w A.in1 (wants (λv D=>v=.ref (s.heap.objs.size+1)/\D={s with heap:=(s.heap.push {cls:=.type "list_iterator",data:=.fields #[.ref l,.int 0 0]}).push {cls:=.type "enumerate",data:=.fields #[.none,.bool b_,.ref s.heap.objs.size,K8 1,.none,.none]}}) E) s ⟨H,rfl,rfl⟩))) λr u g=>?_
 match r,g with
 |.error e,g=>exact g|.ok (.ret a),g=>
  obtain⟨rfl,rfl⟩:=g;have j:=ft.init.lookup;have N:=ft.init.bind (.ref (s.heap.objs.size+1))
  repeat (any_goals (first|assumption|wp_step))
  refine HY (IU ft.init.plain F.entry_object_init (ft.init.check _ _ _ _ _ _ _ _ ⟨_,k,rfl⟩ (i _) (ini_k1 j d prog w A.in1 (wants (λr C=>r=.none/\C=_) E) _ ⟨⟨_,k,rfl⟩,rfl,rfl⟩))) λf q I=>?_
  match f,I with
  |.error e,I=>exact I|.ok (.ret r),I=>
   obtain⟨rfl,rfl⟩:=I
   repeat (any_goals (first|assumption|wp_step))
   exact h _ k ⟨_,n_ _ (E_ _ rfl),rfl,rfl⟩ λb o x=>n_ _ (n_ _ x)
end
theorem draws1(hh:A.handled=c_){Y:g_}(f:l≠Y)(I:Array i_):Draws prog w A Y [Y,l] (I.size+1) (λk v=>∃j,k=j+1/\I[j]?=a_ v) (λk h=>∃j,k=j+1/\h.IsListIter Y l j/\h.IsList l I) where
 live:=λi h ⟨j,_,⟨o,e,_⟩,_⟩=>⟨o,e⟩
 frame:=λi h h' ⟨j,e,⟨o,a1,p⟩,⟨d,b1,b2⟩⟩ k=>⟨j,e,⟨o,k Y (by simp) _ a1,p⟩,⟨d,k l (by simp) _ b1,b2⟩⟩
 item:=λi s Q E hi ⟨j,e,a,b⟩ m=>by
  subst e;have c:j<I.size:=by omega
  refine wpAny_nextOf_list_item a b (x:=I[j]) (by simp[c]) λh' q g=>m _ h' s.toks ⟨j,rfl,by simp[c]⟩ ⟨j+1,rfl,q,?_⟩ g;obtain⟨d,b1,b2⟩:=b;exact⟨d,(g.2 l f).trans b1,b2⟩
 done:=λs Q E ⟨j,e,a,b⟩ n=>by
  have c:j=I.size:=by omega
  subst c;exact wpAny_nextOf_list_end hh a b (by simp) n
def Ite1(K:Pn)(a:g_):It:=
 ⟨λi H=>∃xs x,SqL K H a xs/\xs[i]?=a_ x,λi H x H'=>∃T y,H T=c_/\x=.ref T/\H'=upd H T (.tup [.int (i+1:Nat),y])/\∀xs,SqL K H a xs->xs[i]?=a_ y,λi H=>∃xs,SqL K H a xs/\xs.length=i⟩
theorem Bz{k:Nat}(a e g:g_)(t:e≠g):Turn P w K (.Tuple elts k pos) (Ite1 K a) [e,g] e (λi h=>(∃Y,IsEnum h e g (i+1:Nat) Y)/\h.IsListIter g a i):=by
 have n:∀{i:Nat} {h:GQ} {Y:i_} {A8:Array i_},IsEnum h e g (i+1:Nat) Y->h.IsListIter g a i->h.IsList a A8->a≠g/\e∉[g,a]:=λ{i h Y A8} l f ⟨ol,h1,B,_⟩=>by
  obtain⟨o,h2,F,_⟩:=f;refine⟨λz=>?_,λz=>?_⟩
  ·subst z;rw[h1]at h2;cases h2;rw[B]at F;exact Gb F (by decide)
  ·simp only[t_,G4,Jr]at z;rcases z with z|z
   ·exact t z
   ·subst z;rw[l]at h1;cases h1;exact Gb (show IJ "enumerate"=IJ "list" from B) (by decide)
 refine⟨by simp,λi h ⟨⟨Y,l⟩,o,e1,c,d⟩ b m=>?_,λi h h' ⟨⟨Y,l⟩,f⟩ kk=>⟨⟨Y,kk e (by simp) _ l⟩,f.at λo x=>kk g (by simp) o x⟩,?_,?_,λ_ _ _ _ _ ⟨⟨Y,l⟩,_⟩ h=>N1 l h⟩
 ·rcases t_.mp m with rfl|m
  ·exact⟨_,l,λv z=>by cases z⟩
  ·obtain rfl:b=g:=by simpa using m
   exact⟨o,e1,λv z=>by rw[d]at z;cases z⟩
 ·intro X C hw Z B i A4 s σ H E I N ⟨⟨Y,l⟩,f⟩ ⟨xs,x,L,R⟩;subst C hw Z;obtain⟨A8,O,p,hz⟩:=I.list L;obtain⟨u,hu,ru⟩:=O.get R;obtain⟨Q,n2⟩:=n l f p.isList;have hil:i<A8.length:=(tF.mp hu).1;refine wpAny_pyNext_enum_itemD (i:=i+1) (draws1 (A:=X.A.in1) (I.ok.hd B) Q A8.toArray) l ⟨i,rfl,f,p.isList⟩ (by simp;omega) t n2 λv h1 tk T ho S hT hsz hk=>?_;obtain⟨j,ej,C⟩:=T;obtain⟨j2,ej2,D,_⟩:=S;obtain rfl:j=i:=by omega
  obtain rfl:j2=j+1:=by omega
  obtain rfl:v=u:=by rw[Ms,hu]at C;exact(Gn C).symm
  refine⟨_,rfl,wpAny_letOwnedTupleGo_enum ho λh2 W r=>?_⟩
  have U:e<s.heap.objs.size:=x_ l;have G:s.heap.objs.size≠e:=JC U;have I1:A6 X A4 σ (upd H s.heap.objs.size (.tup [.int (j+1:Nat),x])) {s with heap:=h2,toks:=tk+1}:=I.Dj (ch:=[e,g]) N (λb o m q=>by have h3:=hk b o (λz=>m (by simp[z])) (λz=>m (by simp[z])) q;exact(r.2 b (λz=>m (by simp[z]))).trans h3) (sy _) ⟨by show 2<=f_;decide,[.int (j+1:Nat) tk,v],.cons ⟨_,rfl⟩ (.cons ru .nil),⟨_,(r.2 _ G).trans hT,rfl,0,rfl⟩⟩
  refine⟨.ref s.heap.objs.size,_,I1,rfl,⟨s.heap.objs.size,x,I.hok.fresh (sy _),rfl,rfl,λys hy=>by rw[I.pk hy L];exact R⟩,⟨⟨v,by simpa using W⟩,D.at λo y=>(r.2 g t.symm).trans y⟩,λb m=>?_⟩
  have:b≠s.heap.objs.size:=by
   rcases t_.mp m with rfl|m
   ·exact G.symm
   ·obtain rfl:b=g:=by simpa using m
    obtain⟨o,e1,_⟩:=f;exact Gs (x_ e1)
  rw[aw this];exact(N b m).1
 ·intro X C hw Z B i A4 s σ H E I N ⟨⟨Y,l⟩,f⟩ ⟨xs,L,R⟩;subst C hw Z;obtain⟨A8,O,p,hz⟩:=I.list L;obtain⟨Q,n2⟩:=n l f p.isList;have hl:=O.length;refine wpAny_pyNext_enum_endD (draws1 (A:=X.A.in1) (I.ok.hd B) Q A8.toArray) l ⟨i,by simp;omega,f,p.isList⟩ λh2 eb=>⟨rfl,I.Dl (t':=s.toks) (ch:=[e,g]) N λb o m q=>eb b o (λz=>m (by simp[z])) q⟩
section
variable{W:eD}{a:GX}
theorem xV{M:K2}{E:Mq}{env:KS}{Y:List IG}{Q:Mq}(h:Cb M A (N7 (GG pos (iF [e] env))) (λvs I=>Cb M A (evalAll ((HZ pos (Hi Y env)).map (·.2))) (λA7 b=>Cb M A (Jn (.type T) vs (((HZ pos (Hi Y env)).filterMap (·.1)).zip A7)) Q E b) E I) E s)(i:iF [e] env=[(b_,Gj e env)])(d:(HZ pos (Hi Y env)).all (·.1.isSome)=d_)(f:(HZ pos (Hi Y env)).any (·.1.isNone)=b_):
  Cb M A (Mf pos (.type T) [] (GG pos (iF [e] env)) (HZ pos (Hi Y env))) Q E s:=by
 have k:(GG pos (iF [e] env)).any (·.1)=b_:=by rw[i];rfl
 have g:∃x,GG pos (iF [e] env)=[(b_,x)]:=by rw[i];exact⟨_,rfl⟩
 obtain⟨x,g⟩:=g;unfold Mf;refine h_ (Ic (GK (Q:=λa I=>Cb M A (Jn (.type T) ([]++a.pos) a.kw) Q E I) ?_ (λa I c=>h_ (Jy ?_)) λ_ _ z=>z))
 ·rw[g]at h ⊢;exact PyProof.Rows.evalArgs_kwB d h
 ·rw[k,f];exact h_ (z_ (h_ (GK c (λr b j=>h_ (Ic (wpAny_point (z_ j)))) λ_ _ z=>z)))
def ER(K:Pn)(tl:TE):TI:=λσ H R=>tl σ H λx H1=>∃a,x=.ref a/\(∃xs,SqL K H1 a xs)/\R (Ite1 K a) H1
theorem pi_enum1{k:Nat}{B o:Of}{j}{tl:TE}(K:Gl X "enumerate")(E:X.mg "enumerate"=c_)(F:PE X a tl)(m: ~~~(iF [a] X.env=[(b_,Gj a X.env)])):
  PI X (.Tuple elts k q) (.Call (.Name "enumerate" p) [a] [⟨a_ (o_ "start"),.Constant (.int 1) j o,B⟩] pos) (ER X.K tl):=by
 intro A4 s σ H R I h;have L:PA X [a] (aR tl dP):=ax F aO m;refine Hk (sY I K E boot_enumerate ?_);refine xV (Bs (L pos A4 s σ H (λvs H1=>match vs with
  |[x]=>∃a,x=.ref a/\(∃xs,SqL X.K H1 a xs)/\R (Ite1 X.K a) H1
  |_=>False) I h) λus r ⟨vs,H1,O,A,e⟩=>?_) m rfl rfl
 rcases vs with _|⟨x,_|⟨_,_⟩⟩
 ·exact Gy e
 rotate_left
 ·exact Gy e
 ·obtain⟨l,e1,⟨xs,C⟩,q⟩:=e;subst e1;obtain⟨u,rfl,z⟩:=A.one;cases z;refine kws_cons (Bs (AR (X:=X) (i:=1) (j:=j) (pos:=o) A4 r σ H1 (λv H2=>v=.int 1/\H2=H1) O ⟨rfl,rfl⟩) λw Y D=>?_);obtain⟨y,H2,d,r2,e2,e3⟩:=D;refine kws_nil ?_;subst e2 e3;obtain⟨t,rfl⟩:=(show ∃t,w=G2 1 t from r2)
  obtain⟨A8,P,pl,Q⟩:=d.list C;refine CU pl.isList λh2 n f G=>?_;have N:A6 X A4 σ H2 {Y with heap:=h2}:=d.kept (t':=Y.toks) G;refine N1 n ⟨Y.heap.objs.size+1,[Y.heap.objs.size+1,Y.heap.objs.size],_,_,H2,rfl,N,Bz l _ _ (Nat.succ_ne_self _),⟨⟨_,n⟩,f⟩,λb g=>?_,q⟩;have c:Y.heap.objs.size<=b:=by
   rcases t_.mp g with rfl|g
   ·exact GC _
   ·obtain rfl:b=Y.heap.objs.size:=by simpa using g
    exact sy _
  exact d.fpOk c (d.hok.fresh c)
end
structure Cells(K:Pn)(F H:Hp)(xs:List g_)(ds:List A3):Prop where
 fh:aL F H
 nd:xs.Nodup
 len:xs.length=ds.length
 own:∀(j:Nat) (x:g_) (d:A3),xs[j]?=a_ x->ds[j]?=a_ d->isO d=d_/\lZ K F (λ_=>c_) H d (.ref x)
structure lX(xs:List g_)(F H F' H':Hp):Prop where
 ff:aL F F'
 hh:∀b o,b∉xs->H b=a_ o->H' b=a_ o
 fh:aL F' H'
 nw:∀b o,F' b=a_ o->F b=a_ o\/H b=c_
section
variable{xs:List g_}{ds:List A3}
theorem A5.toC(s:A5 F H F' H'):lX xs F H F' H':=⟨s.ff,λb o _ h=>s.hh b o h,s.fh,s.nw⟩
theorem lX.trans{F2 H2:Hp}(a:lX xs F H F' H')(b:lX xs F' H' F2 H2)(Y:∀x∈xs,∃o,H' x=a_ o):lX xs F H F2 H2:=
 ⟨a.ff.trans b.ff,λc o n h=>b.hh c o n (a.hh c o n h),b.fh,λc o h=>(b.nw c o h).elim (λz=>a.nw c o z) λz=>.inr (by
  cases e:H c with
  |none=>rfl|some u=>
   by_cases I:c∈xs
   ·obtain⟨o',d⟩:=Y c I;rw[d]at z;cases z
   ·rw[a.hh c u I e]at z;cases z)⟩
theorem Cells.at(c:Cells K F H xs ds){x:g_}(Y:x∈xs):F x=c_/\∃o,H x=a_ o/\isMu o=d_:=by
 obtain⟨j,I,rfl⟩:=Ks Y;have hd:j<ds.length:=by rw[<- c.len];exact I
 obtain⟨h1,h2⟩:=c.own j xs[j] ds[j] (Gr I) (Gr hd);obtain⟨a,o,e,p,m,f,_⟩:=h2.top h1;cases e;exact⟨f,o,p,m⟩
theorem Cells.step(c:Cells K F H xs ds)(s:A5 F H F' H'):Cells K F' H' xs ds:=⟨s.fh,c.nd,c.len,λj x d e1 e2=>by obtain⟨h1,h2⟩:=c.own j x d e1 e2;obtain⟨a,o,e,p,_,f,_⟩:=h2.top h1;cases e;exact⟨h1,h2.re h1 s.ff (s.stays f p) λo h=>s.hh _ _ h⟩⟩
theorem Cells.ff(c:Cells K F H xs ds):aL F (plus F H (·∈xs)):=λb o h=>by
 by_cases I:b∈xs
 ·rw[(c.at I).1]at h;cases h
 ·rw[cI I];exact h
theorem Cells.zh(c:Cells K F H xs ds):aL (plus F H (·∈xs)) H:=λb o h=>by
 by_cases I:b∈xs
 ·rw[jm I]at h;exact h
 ·rw[cI I]at h;exact c.fh b o h
theorem Cells.deep(c:Cells K F H xs ds){j:Nat}{x:g_}{d:A3}(e1:xs[j]?=a_ x)(e2:ds[j]?=a_ d):aT K (plus F H (·∈xs)) d (.ref x):=by obtain⟨h1,h2⟩:=c.own j x d e1 e2;exact h2.give h1 c.ff (jm (GI e1))
theorem Cells.back(c:Cells K F H xs ds)(s:A5 (plus F H (·∈xs)) H F' H'):A5 F H (minus F' (·∈xs)) H':=by
 refine⟨λb o h=>?_,s.hh,λb o h=>?_,λb o h=>?_⟩
 ·by_cases I:b∈xs
  ·rw[(c.at I).1]at h;cases h
  ·rw[dR I];exact s.ff b o (by rw[cI I];exact h)
 ·by_cases I:b∈xs
  ·rw[mC I]at h;cases h
  ·rw[dR I]at h;exact s.fh b o h
 ·by_cases I:b∈xs
  ·rw[mC I]at h;cases h
  ·rw[dR I]at h;exact(s.nw b o h).elim (λz=>by rw[cI I]at z;exact .inl z) .inr
theorem Cells.flat(c:Cells K F H xs ds)(s:A5 (plus F H (·∈xs)) H F' H'){d:A3}{v:V}(f:gL d=d_)(q:aT K F' d v):aT K (minus F' (·∈xs)) d v:=by
 have key:∀{b:g_} {o:HO},F' b=a_ o->isMu o=b_->minus F' (·∈xs) b=a_ o:=λ{b o} h n=>by
  by_cases I:b∈xs
  ·obtain⟨_,u,e,m⟩:=c.at I;have:=s.ff b u (by rw[jm I];exact e);rw[h]at this;cases this;rw[n]at m;cases m
  ·rw[dR I];exact h
 refine q.flat (λa ys h=>?_) f;rcases h with(h|⟨o,h⟩)|h
 ·exact .inl (.inl (key h rfl))
 ·exact .inl (.inr ⟨o,key h rfl⟩)
 ·exact .inr h
theorem Cells.put(c:Cells K F H xs ds){j:Nat}{x:g_}{u:HO}(e:xs[j]?=a_ x)(hd:isO d'=d_)(q:F x=c_->lZ K F (λ_=>c_) (upd H x u) d' (.ref x)):Cells K F (upd H x u) xs (ds.set j d') where
 fh:=λb o h=>by
  have:b≠x:=λz=>by rw[z,(c.at (GI e)).1]at h;cases h
  rw[aw this];exact c.fh b o h
 nd:=c.nd
 len:=by rw[B_,c.len]
 own:=λi y d e1 e2=>by
  by_cases I:j=i
  ·subst I;rw[e]at e1;cases e1;have g:j<ds.length:=by have:=(tF.mp e2).1;simpa using this
   rw[s_ g]at e2;cases e2;exact⟨hd,q (c.at (GI e)).1⟩
  ·rw[m_ I]at e2;obtain⟨h1,h2⟩:=c.own i y d e1 e2;have Y:y≠x:=λz=>I ((Nl (tF.mp e).1 c.nd).mp (by rw[e,e1,z]));obtain⟨a,o,k,p,_,f,_⟩:=h2.top h1;cases k;exact⟨h1,h2.re h1 (aL.refl _) f λo h=>by rw[aw Y];exact h⟩
theorem Cells.lst(c:Cells K F H xs ds){j:Nat}{x:g_}{es:List A3}(e1:xs[j]?=a_ x)(e2:ds[j]?=a_ (.lst es)):∃ys,H x=a_ (.lst ys)/\aE K F es ys:=by obtain⟨a,ys,I,p,_,_,q⟩:=(c.own j x _ e1 e2).2;cases I;exact⟨ys,p,q⟩
theorem Cells.dic(c:Cells K F H xs ds){j:Nat}{x:g_}{ks:List (List Int×A3)}(e1:xs[j]?=a_ x)(e2:ds[j]?=a_ (.dic ks)):∃rs ep,H x=a_ (yi x rs ep)/\cV K F ks rs:=by obtain⟨a,rs,I,⟨ep,p⟩,_,_,q⟩:=(c.own j x _ e1 e2).2;cases I;exact⟨rs,ep,p,q⟩
theorem Cells.app(c:Cells K F H xs ds){j:Nat}{x:g_}{es:List A3}{ys:List V}{d:A3}(e1:xs[j]?=a_ x)(p:H x=a_ (.lst ys))(q:aE K F es ys)(I:aT K F d v):Cells K F (upd H x (.lst (ys++[v]))) xs (ds.set j (.lst (es++[d]))):=
 c.put e1 rfl λf=>⟨x,_,rfl,aq,f,rfl,q.append ⟨v,[],rfl,I,rfl⟩⟩
theorem Cells.updC(c:Cells K F H xs ds){x:g_}(u:HO)(I:x∈xs):lX xs F H F (upd H x u):=
 ⟨aL.refl _,λb o n h=>by rw[aw (λz=>n (by rw[z];exact I))];exact h,λb o h=>by
  have:b≠x:=λz=>by rw[z,(c.at I).1]at h;cases h
  rw[aw this];exact c.fh b o h,λ_ _ h=>.inl h⟩
end
def fP(xs:List g_):List (p_×V):=(["kinds","gaps","beside","names","flights","closed"]:List p_).zip (xs.map V.ref)
structure Dr(K:Pn)(C:g_)(F H:Hp)(p dx:g_)(xs:List g_)(ds:List A3):Prop where
 c:Cells K F H xs ds
 ob:H p=a_ (.ins C dx (fP xs))
 fp:F p=c_
 np:p∉xs
section
variable{p:g_}{xs:List g_}{ds:List A3}
theorem Dr.step(d:Dr K C F H p dx xs ds)(s:A5 F H F' H'):Dr K C F' H' p dx xs ds:=⟨d.c.step s,s.hh _ _ d.ob,s.stays d.fp d.ob,d.np⟩
theorem Dr.put(d:Dr K C F H p dx xs ds){x:g_}{u:HO}(I:x∈xs)(c:Cells K F (upd H x u) xs ds'):Dr K C F (upd H x u) p dx xs ds':=
 ⟨c,by rw[aw (λz=>d.np (by rw[z];exact I))];exact d.ob,d.fp,d.np⟩
end
def mj:Sp:=λvs H Q _=>∃a v,vs=[.ref a,v]/\(v=.non->Q (.bl b_) H)/\(v≠.non->∃ys,H a=a_ (.lst ys)/\ys.length<f_/\Q (.bl d_) (upd H a (.lst (ys++[v]))))
theorem rs_told(h:mj vs H Q E):
  dO (nG (tB (tIsN (bV 1))) (rG (tC (.bl b_))) gJ) (dO (pI (tBM K "list" jl (bV 0) (aR (bV 1) dP))) (rG (tC (.bl d_)))) {nx:=λ_ H'=>Q .non H',rt:=Q} (start ["kept","told"] vs) H:=by
 obtain⟨a,v,rfl,h1,h2⟩:=h;refine⟨v,rfl,_,rfl,?_⟩
 by_cases hv:v=.non
 ·rw[r_ hv];exact h1 hv
 ·obtain⟨ys,I,Y,h2⟩:=h2 hv;rw[j_ hv];exact⟨.ref a,rfl,iG I,v,rfl,a,ys,v,rfl,rfl,I,Y,h2⟩
def yA(K:Pn)(mg:List A3->M A3):Sp:=λvs H Q _=>∃(k g:g_) (vw:V) (F:Hp) (xs:List g_) (ds:List A3) (b I:Nat) (a Y:A3) (ks:List (List Int×A3)),vs=[.ref k,.ref g,vw]/\Cells K F H xs ds/\xs[b]?=a_ k/\ds[b]?=a_ a/\xs[I]?=a_ g/\ds[I]?=a_ (.dic ks)/\aT K F Y vw /\
 ((mg [a,Y]=.ok .non/\∀F' H',A5 F H F' H'->Q (.bl b_) H')\/∃i j v:Int,mg [a,Y]=.ok (.tup [.int i,.int j,.int v])/\ks.length<f_/\∀F' H' u,A5 F H F' H'->Cells K F' (upd H' g u) xs (ds.set I (.dic (BV ks [i,j] (.int v))))->Q (.bl d_) (upd H' g u))
abbrev fk3:ah->M A3:=fL iC (aa (f2 ixD (ai 3) (fC (.int 0))) (aa (f2 ixD (ai 3) (fC (.int 1))) aD))
abbrev fv3:ah->M A3:=f2 ixD (ai 3) (fC (.int 2))
theorem dM.only{d:A3}(e:σ[i]?=a_ (a_ v))(q:aT K F d v):dM K F σ ((GV σ.length c_).set i (a_ d)):=
 ⟨by rw[B_,Ht],λj d' h=>by
  by_cases I:i=j
  ·subst I;rw[s_ (by rw[Ht];exact(tF.mp e).1)]at h;cases h;exact⟨v,e,q⟩
  ·rw[m_ I,IZ]at h;split at h<;>cases h⟩
theorem rs_gap{mg:List A3->M A3}{O:XK}(h:yA K mg vs H Q E):
  dO (pK (gS (spF K b_ mg 2) [] O (aR (bV 0) (aR (bV 2) dP))) (cu 3)) (dO (nG (tB (tIsN (bV 3))) (rG (tC (.bl b_))) gJ) (dO (sPut K (bV 1) (tD K C' b_ fk3) (tD K C' b_ fv3)) (rG (tC (.bl d_))))) {nx:=λ_ H'=>Q .non H',rt:=Q} (start ["kinds","gaps","words","told"] vs) H:=by
 obtain⟨k,g,vw,F,xs,ds,P,R,L,G,ks,rfl,c,ek,A,o,hd,u,h⟩:=h;refine⟨.ref k,rfl,vw,rfl,plus F H (·∈xs),[L,G],c.zh,⟨_,_,rfl,c.deep ek A,vw,_,rfl,u.mono c.ff,rfl⟩,rfl,?_⟩
 rcases h with⟨e,h⟩|⟨i,j,v,e,z,h⟩
 ·rw[e];intro w F1 H1 I d;cases(show w=V.non from d);exact⟨.non,rfl,_,rfl,h _ H1 (c.back I)⟩
 ·rw[e];intro w F1 H1 l d;have I:=c.back l;have n:aT K (minus F1 (·∈xs)) (.tup [.int i,.int j,.int v]) w:=c.flat l rfl d;obtain⟨b,ys,rfl,_⟩:=id n;refine⟨.ref b,rfl,_,rfl,?_⟩
  have m:dM K (minus F1 (·∈xs)) ([a_ (.ref k),a_ (.ref g),a_ vw,a_ (.ref b)]:St) [c_,c_,c_,a_ (.tup [.int i,.int j,.int v])]:=dM.only (i:=3) rfl n;refine⟨_,_,m,I.fh,?_⟩
  show aN K C' b_ _ H1 (.ok (.int v)) _;intro w2 F2 H2 Y y;cases(show w2=V.int v from y);refine⟨.ref g,rfl,F2,_,m.mono Y.ff,Y.fh,?_⟩
  have C:fk3 [c_,c_,c_,a_ (.tup [.int i,.int j,.int v])]=.ok (.tup [.int i,.int j]):=by show iC [.int i,.int j]=_;unfold iC;rw[e_ (by rw[C_];show 2<=16777216;decide)]
  rw[C];intro s q N t x;obtain⟨b3,r,rfl,t3,_,_,rfl,e4,_,_,rfl,e5,D⟩:=(show aT K q (.tup [.int i,.int j]) s from x)
  cases e4;cases e5;cases D;have st:=(I.trans Y).trans t;have p:=c.step st;obtain⟨rs,ep,B,a⟩:=p.dic o hd;exact⟨g,b3,[i,j],rs,ep,rfl,rfl,B,a.key.mono st.fh,st.fh.tup t3,by rw[a.length];exact z,λep'=>h q N _ st (p.put o rfl λf=>⟨g,_,rfl,⟨ep',aq⟩,f,rfl,a.put (k:=[i,j]) t3 rfl⟩)⟩
def tTr(K:Pn)(ta:TE):TT:=λσ H Q=>ta σ H λx H'=>∃k,TruV K x H' k/\Q k H'
def sE(j:Nat)(ds:List A3)(t:A3):M (Bool×List A3):=match t with
 |.non=>.ok (b_,ds)|t=>match ds[j]? with
  |some (.lst es)=>if (gL t&&q_ (es.length<f_))=d_ then .ok (d_,ds.set j (.lst (es++[t])))else stk
  |_=>stk
def D6(j:Nat)(ds:List A3)(t:A3):M (Bool×List A3):=match t with
 |.non=>.ok (b_,ds)|.tup [.int a,.int b,.int v]=>match ds[j]? with
  |some (.dic ks)=>if ks.length<f_ then .ok (d_,ds.set j (.dic (BV ks [a,b] (.int v))))else stk
  |_=>stk
 |_=>stk
def m8(mf:List A3->M A3)(ds ws:List A3):M (Bool×List A3):=match ds with
 |[.lst Y,.dic a,.dic d,.lst I,.lst b,.lst c]=>(mf [.lst Y,.lst I,.lst ws]).bind λt=>(sE 4 ds t).bind λr=>if r.1=d_ then(ixD (.lst ws) (.int 1)).bind λnm=>match nm with
  |.non=>stk|nm=>sE 3 r.2 nm
  else .ok r
 |_=>stk
def nF(t1 t2 t3 t4 t5:ah->M Bool)(t6:ah->M A3)(mk mg ms mf:List A3->M A3)(ds ws:List A3):M (Bool×List A3):=match ds with
 |[.lst I,.dic c,.dic f,.lst a,.lst e,.lst Y]=>
  (t1 [c_,a_ (.lst ws)]).bind λb=>if b=d_ then .ok (d_,ds)else
  (t2 [c_,a_ (.lst ws)]).bind λb=>if b=d_ then(mk [.lst I,.lst ws]).bind (sE 0 ds)else
  (t3 [c_,a_ (.lst ws)]).bind λb=>if b=d_ then(mg [.lst I,.lst ws]).bind (D6 1 ds)else
  (t4 [c_,a_ (.lst ws)]).bind λb=>if b=d_ then(mg [.lst I,.lst ws]).bind (D6 2 ds)else
  (t5 [c_,a_ (.lst ws)]).bind λb=>if b=d_ then(ms [.lst Y,.lst ws]).bind (sE 5 ds)else
  (t6 [c_,a_ (.lst ws)]).bind λd=>match d with
   |.bl d_=>m8 mf ds ws|.bl b_=>.ok (b_,ds)|_=>stk
 |_=>stk
theorem bind_eq{I:Type}{x:M α}{f:α->M I}{r:I}(h:x.bind f=.ok r):∃a,x=.ok a/\f a=.ok r:=by
 cases x with
 |error e=>cases h|ok a=>exact⟨a,rfl,h⟩
theorem aT.nn{t:A3}(q:aT K F t v):v=.non↔t=.non:=by
 cases t with
 |non=>exact⟨λ_=>rfl,λ_=>q⟩|bl b=>cases(show v=.bl b from q);exact⟨λh=>(nomatch h),λh=>(nomatch h)⟩
 |int b=>cases(show v=.int b from q);exact⟨λh=>(nomatch h),λh=>(nomatch h)⟩
 |str b=>cases(show v=.str b from q);exact⟨λh=>(nomatch h),λh=>(nomatch h)⟩
 |tup _=>obtain⟨a,_,rfl,_⟩:=q;exact⟨λh=>(nomatch h),λh=>(nomatch h)⟩
 |lst _=>obtain⟨a,_,rfl,_⟩:=q;exact⟨λh=>(nomatch h),λh=>(nomatch h)⟩
 |ins _ _=>obtain⟨a,_,_,rfl,_⟩:=q;exact⟨λh=>(nomatch h),λh=>(nomatch h)⟩
 |dic _=>obtain⟨a,_,rfl,_⟩:=q;exact⟨λh=>(nomatch h),λh=>(nomatch h)⟩
 |dil _=>obtain⟨a,_,rfl,_⟩:=q;exact⟨λh=>(nomatch h),λh=>(nomatch h)⟩
theorem nv{j:Nat}{ds:List A3}{t:A3}(n:t≠.non)(h:sE j ds t=.ok r):∃es,ds[j]?=a_ (.lst es)/\gL t=d_/\es.length<f_/\r=(d_,ds.set j (.lst (es++[t]))):=by
 have h:(match ds[j]? with
  |some (.lst es)=>if (gL t&&q_ (es.length<f_))=d_ then .ok (d_,ds.set j (.lst (es++[t])))else stk
  |_=>stk:M (Bool×List A3))=.ok r:=by
  cases t<;>first|exact Gb rfl n|exact h
 split at h
 ·rename_i es Y;split at h
  ·rename_i I;rw[l_,Gd]at I;cases h;exact⟨es,Y,I.1,I.2,rfl⟩
  ·cases h
 ·cases h
theorem dF0{k g n:g_}:(fP [k,g,b,n,f,c]).lookup ("kinds":p_)=a_ (V.ref k):=by with_unfolding_all rfl
theorem dF1{k g n:g_}:(fP [k,g,b,n,f,c]).lookup ("gaps":p_)=a_ (V.ref g):=by with_unfolding_all rfl
theorem dF2{k g n:g_}:(fP [k,g,b,n,f,c]).lookup ("beside":p_)=a_ (V.ref b):=by with_unfolding_all rfl
theorem dF3{k g n:g_}:(fP [k,g,b,n,f,c]).lookup ("names":p_)=a_ (V.ref n):=by with_unfolding_all rfl
theorem dF4{k g n:g_}:(fP [k,g,b,n,f,c]).lookup ("flights":p_)=a_ (V.ref f):=by with_unfolding_all rfl
theorem dF5{k g n:g_}:(fP [k,g,b,n,f,c]).lookup ("closed":p_)=a_ (V.ref c):=by with_unfolding_all rfl
section
variable{p:g_}{xs:List g_}{ds:List A3}
def FY(K:Pn)(C:g_)(F H:Hp)(p dx:g_)(xs:List g_)(r:Bool×List A3)(Q:VK):Prop:=∀F' H',lX xs F H F' H'->Dr K C F' H' p dx xs r.2->Q (.bl r.1) H'
theorem Dr.ex(d:Dr K C F H p dx xs ds):∀x∈xs,∃o,H x=a_ o:=λ_ I=>let ⟨_,o,h,_⟩:=d.c.at I;⟨o,h⟩
theorem FY.step{r:Bool×List A3}(f:FY K C F H p dx xs r Q)(d:Dr K C F H p dx xs ds)(s:A5 F H F' H'):FY K C F' H' p dx xs r Q:=λF2 H2 I d2=>f F2 H2 (s.toC.trans I (d.step s).ex) d2
theorem Dr.tell(d:Dr K C F H p dx xs ds){j:Nat}{x:g_}{t:A3}(E:XK)(ex:xs[j]?=a_ x)(q:aT K F t v)(e:sE j ds t=.ok r)(I:FY K C F H p dx xs r Q):mj [.ref x,v] H Q E:=by
 refine⟨x,v,rfl,λhv=>?_,λhv=>?_⟩
 ·cases q.nn.mp hv;cases e;exact I F H ⟨aL.refl _,λ_ _ _ h=>h,d.c.fh,λ_ _ h=>.inl h⟩ d
 ·obtain⟨es,g,f,c,rfl⟩:=nv (λz=>hv (q.nn.mpr z)) e;obtain⟨ys,a,Y⟩:=d.c.lst ex g;have b:=GI ex;exact⟨ys,a,by rw[Y.length];exact c,I F _ (d.c.updC _ b) (d.put b (d.c.app ex a Y q))⟩
variable{mg:List A3->M A3}
theorem vB{r:List α}(h:r.length=n+1):∃x t,r=x::t/\t.length=n:=by
 cases r with
 |nil=>cases h|cons x t=>exact⟨x,t,rfl,G8 h⟩
theorem Dr.len6{i h l m:List A3}{j o:List (List Int×A3)}(d:Dr K C F H p dx xs [.lst i,.dic j,.dic o,.lst h,.lst l,.lst m]):∃k g b n f c,xs=[k,g,b,n,f,c]:=by obtain⟨k,t,rfl,h1⟩:=vB d.c.len;obtain⟨g,t,rfl,h2⟩:=vB h1;obtain⟨b,t,rfl,e⟩:=vB h2;obtain⟨n,t,rfl,a⟩:=vB e;obtain⟨f,t,rfl,Y⟩:=vB a;obtain⟨c,t,rfl,I⟩:=vB Y;cases Ia.mp I;exact⟨k,g,b,n,f,c,rfl⟩
theorem AB{fx I:p_}{j jy:Nat}{x y:g_}{a:A3}(d:Dr K C F H p dx xs ds)(g:Cls K C)(m:bq K C fx)(l:bq K C I)(f:σ[0]?=a_ (a_ (.ref p)))(h1:σ[1]?=a_ (a_ vw))(h:aT K F (.lst ws) vw)(o:(fP xs).lookup fx=a_ (.ref x))(n:(fP xs).lookup I=a_ (.ref y))(ex:xs[j]?=a_ x)(s:xs[jy]?=a_ y)(q:ds[jy]?=a_ a)(e:(mk [a,.lst ws]).bind (sE j ds)=.ok r)(Y:FY K C F H p dx xs r Q):
  gS mj [] E1 (aR (uc K (bV 0) fx) (aR (gS (spF K b_ mk 2) [] E2 (aR (uc K (bV 0) I) (aR (bV 1) dP))) dP)) σ H Q:=by
 obtain⟨t,u,e⟩:=bind_eq e;refine⟨.ref p,f,p,C,dx,_,_,rfl,d.ob,g,m,o,?_⟩
 refine⟨.ref p,f,p,C,dx,_,_,rfl,d.ob,g,l,n,?_⟩
 refine⟨vw,h1,plus F H (·∈xs),[a,.lst ws],d.c.zh,⟨_,_,rfl,d.c.deep s q,_,_,rfl,h.mono d.c.ff,rfl⟩,rfl,?_⟩
 rw[u];intro v F1 H1 b k;have S:=d.c.back b;have i:aT K (minus F1 (·∈xs)) t v:=d.c.flat b (by
  by_cases c:t=.non
  ·rw[c];rfl
  ·exact(nv c e).choose_spec.2.1) k
 exact(d.step S).tell E1 ex i e (Y.step d S)
theorem rs_putD2{fx:p_}{j:Nat}{x k:g_}{Y:A3}(d:Dr K C F H p dx xs ds)(h:Cls K C)(m:bq K C fx)(n:bq K C "kinds")(f:σ[0]?=a_ (a_ (.ref p)))(h1:σ[1]?=a_ (a_ vw))(i:aT K F (.lst ws) vw)(q:(fP xs).lookup ("kinds":p_)=a_ (V.ref k))(o:(fP xs).lookup fx=a_ (.ref x))(ek:xs[0]?=a_ k)(y:ds[0]?=a_ Y)(ex:xs[j]?=a_ x)(hd:ds[j]?=a_ (.dic ks))(e:(mg [Y,.lst ws]).bind (D6 j ds)=.ok r)(I:FY K C F H p dx xs r Q):
  gS (yA K mg) [] E1 (aR (uc K (bV 0) "kinds") (aR (uc K (bV 0) fx) (aR (bV 1) dP))) σ H Q:=by
 obtain⟨t,g,e⟩:=bind_eq e;refine⟨.ref p,f,p,C,dx,_,_,rfl,d.ob,h,n,q,?_⟩
 refine⟨.ref p,f,p,C,dx,_,_,rfl,d.ob,h,m,o,?_⟩
 refine⟨vw,h1,k,x,vw,F,xs,ds,0,j,Y,.lst ws,ks,rfl,d.c,ek,y,ex,hd,i,?_⟩
 have c:=GI ex;cases t with
 |non=>cases e;exact .inl ⟨g,λF1 H1 s=>I _ H1 s.toC (d.step s)⟩|tup l=>
  unfold D6 at e;split at e
  ·rename_i hh;cases hh
  ·rename_i a b v hh;cases hh;rw[hd]at e;dsimp only at e;split at e
   rotate_left
   ·cases e
   rename_i w;cases e;exact .inr ⟨a,b,v,g,w,λF1 H1 u S z=>I _ _ (S.toC.trans ((d.step S).c.updC u c) (d.step S).ex) ((d.step S).put c z)⟩
  ·cases e
 |_=>cases e
def ud(K:Pn)(C:g_)(mr:List A3->List A3->M (Bool×List A3)):Sp:=λvs H Q _=>∃(p dx:g_) (xs:List g_) (F:Hp) (ds ws:List A3) (vw:V) (r:Bool×List A3),vs=[.ref p,vw]/\Dr K C F H p dx xs ds/\aT K F (.lst ws) vw/\mr ds ws=.ok r/\FY K C F H p dx xs r Q
theorem DR(q:Cls K C)(m:∀y∈(["kinds","gaps","beside","names","flights","closed"]:List p_),bq K C y)(h:ud K C (m8 mf) vs H Q E):
  dO (nG (tNot (tTr K (gS mj [] E1 (aR (uc K (bV 0) "flights") (aR (gS (spF K b_ mf 3) [] E2 (aR (uc K (bV 0) "kinds") (aR (uc K (bV 0) "names") (aR (bV 1) dP)))) dP))))) (rG (tC (.bl b_))) gJ)
   (dO (pI (tBM K "list" jl (uc K (bV 0) "names") (aR (tD K C' b_ (f2 ixD (ai 1) (fC (.int 1)))) dP))) (rG (tC (.bl d_)))) {nx:=λ_ H'=>Q .non H',rt:=Q} (start ["draft","words"] vs) H:=by
 obtain⟨p,dx,xs,F,ds,ws,vw,r,rfl,d,N,e,l⟩:=h;unfold m8 at e;split at e
 rotate_left
 ·cases e
 rename_i dk dg db dn df dc;obtain⟨k,g,b,n,f,c,rfl⟩:=d.len6;obtain⟨t,X,e⟩:=bind_eq e;obtain⟨s,e1,e⟩:=bind_eq e;refine⟨.ref p,rfl,p,C,dx,_,_,rfl,d.ob,q,(m _ (by simp)),dF4,?_⟩
 refine⟨.ref p,rfl,p,C,dx,_,_,rfl,d.ob,q,(m _ (by simp)),dF0,?_⟩
 refine⟨.ref p,rfl,p,C,dx,_,_,rfl,d.ob,q,(m _ (by simp)),dF3,?_⟩
 refine⟨vw,rfl,plus F H (·∈[k,g,b,n,f,c]),[.lst dk,.lst dn,.lst ws],d.c.zh,⟨_,_,rfl,d.c.deep (j:=0) rfl rfl,_,_,rfl,d.c.deep (j:=3) rfl rfl,_,_,rfl,N.mono d.c.ff,rfl⟩,rfl,?_⟩
 rw[X];intro v F1 H1 L U;have S:=d.c.back L;have T:aT K (minus F1 (·∈[k,g,b,n,f,c])) t v:=d.c.flat L (by
  by_cases I:t=.non
  ·rw[I];rfl
  ·exact(nv I e1).choose_spec.2.1) U
 have d1:=d.step S;unfold dP;dsimp only[];show mj [V.ref f,v] H1 _ E1;refine d1.tell E1 (j:=4) rfl T e1 (λF2 H2 G d2=>?_);refine⟨s.1,rfl,?_⟩
 cases A:s.1 with
 |false=>rw[A,k_ (by decide)]at e;cases e;have:=l F2 H2 (S.toC.trans G d1.ex) d2;rw[A]at this;exact this|true=>
  rw[A,e_ rfl]at e;obtain⟨nm,en,e⟩:=bind_eq e;have a:nm≠.non:=λz=>by rw[z]at e;cases e
  have e:sE 3 s.2 nm=.ok r:=by cases nm<;>first|exact Gb rfl a|exact e
  obtain⟨Z,D,W,B,rfl⟩:=nv a e;obtain⟨ys,I,O⟩:=d2.c.lst (j:=3) (x:=n) rfl D;refine⟨.ref p,rfl,p,C,dx,_,_,rfl,d2.ob,q,(m _ (by simp)),dF3,?_⟩
  have u:=(N.mono S.ff).mono G.ff;refine⟨iG I,F2,[c_,a_ (.lst ws)],dM.only (σ:=[a_ (.ref p),a_ vw]) (i:=1) rfl u,d2.c.fh,?_⟩
  rw[show f2 ixD (ai 1) (fC (.int 1)) [c_,a_ (.lst ws)]=.ok nm from en];intro w F3 H3 Y R;have o:=d2.step Y;have P:n∈[k,g,b,n,f,c]:=by simp
  refine⟨n,ys,w,rfl,rfl,Y.hh _ _ I,by rw[O.length];exact B,?_⟩
  exact l F3 _ (((S.toC.trans G d1.ex).trans Y.toC d2.ex).trans (o.c.updC _ P) o.ex) (o.put P (o.c.app (j:=3) rfl (Y.hh _ _ I) (O.mono Y.ff) R))
end
section
variable{p:g_}{xs:List g_}{ds:List A3}{mg ms:List A3->M A3}{E4 E5 E6 E7:XK}
theorem Dr.ask(d:Dr K C F H p dx xs ds)(g:aT K F (.lst ws) vw){t:ah->M Bool}{f:Bool->M (Bool×List A3)}(e:(t [c_,a_ (.lst ws)]).bind f=.ok r)(Y:FY K C F H p dx xs r Q){T:TS}{D:Ends}(c:∀F1 H1,Dr K C F1 H1 p dx xs ds->aT K F1 (.lst ws) vw->FY K C F1 H1 p dx xs r Q->f d_=.ok r->T D [a_ (.ref p),a_ vw] H1)(k:∀F1 H1,Dr K C F1 H1 p dx xs ds->aT K F1 (.lst ws) vw->FY K C F1 H1 p dx xs r Q->f b_=.ok r->U D [a_ (.ref p),a_ vw] H1):nG (tDT K C' t) T U D [a_ (.ref p),a_ vw] H:=by
 obtain⟨b,j,e⟩:=bind_eq e;refine i7 (dM.only (σ:=[a_ (.ref p),a_ vw]) (i:=1) rfl g) d.c.fh (λl h=>?_) λm a F1 H1 I=>?_
 ·have h:t [c_,a_ (.lst ws)]=.error l:=h;rw[j]at h;cases h
 ·have a:t [c_,a_ (.lst ws)]=.ok m:=a;rw[j]at a;cases a;cases b with
  |true=>exact c F1 H1 (d.step I) (g.mono I.ff) (Y.step d I) e|false=>exact k F1 H1 (d.step I) (g.mono I.ff) (Y.step d I) e
theorem rs_row{t2:ah->M Bool}{t6:ah->M A3}(w:Cls K C)(Y:∀y∈(["kinds","gaps","beside","names","flights","closed"]:List p_),bq K C y)(h:ud K C (nF t1 t2 t3 t4 t5 t6 mk mg ms mf) vs H Q E):
  dO (nG (tDT K C' t1) (rG (tC (.bl d_))) gJ)
  (dO (nG (tDT K C' t2) (rG (gS mj [] E1 (aR (uc K (bV 0) "kinds") (aR (gS (spF K b_ mk 2) [] E2 (aR (uc K (bV 0) "kinds") (aR (bV 1) dP))) dP)))) gJ)
  (dO (nG (tDT K C' t3) (rG (gS (yA K mg) [] E3 (aR (uc K (bV 0) "kinds") (aR (uc K (bV 0) "gaps") (aR (bV 1) dP))))) gJ)
  (dO (nG (tDT K C' t4) (rG (gS (yA K mg) [] E4 (aR (uc K (bV 0) "kinds") (aR (uc K (bV 0) "beside") (aR (bV 1) dP))))) gJ)
  (dO (nG (tDT K C' t5) (rG (gS mj [] E5 (aR (uc K (bV 0) "closed") (aR (gS (spF K b_ ms 2) [] E6 (aR (uc K (bV 0) "closed") (aR (bV 1) dP))) dP)))) gJ)
   (rG (tAndV (tD K C' b_ t6) (gS (ud K C (m8 mf)) [] E7 (aR (bV 0) (aR (bV 1) dP))))))))) {nx:=λ_ H'=>Q .non H',rt:=Q} (start ["draft","words"] vs) H:=by
 obtain⟨p,dx,xs,F,ds,ws,vw,r,rfl,d,G,e,I⟩:=h;unfold nF at e;split at e
 rotate_left
 ·cases e
 rename_i l o u m s t;obtain⟨k,g,b,n,f,c,rfl⟩:=d.len6;refine d.ask G e I (λF1 H1 d q I e=>?_) (λF1 H1 d q I e=>?_)
 ·cases e;exact I F1 H1 ⟨aL.refl _,λ_ _ _ h=>h,d.c.fh,λ_ _ h=>.inl h⟩ d
 refine d.ask q e I (λF1 H1 d q I e=>?_) (λF1 H1 d q I e=>?_)
 ·exact AB d w (Y _ (by simp)) (Y _ (by simp)) rfl rfl q dF0 dF0 (j:=0) rfl (jy:=0) rfl rfl e I
 have A:∀{j:Nat} {fx:p_} {x:g_} {ks:List (List Int×A3)} {D:XK} {F1 H1:Hp},Dr K C F1 H1 p dx [k,g,b,n,f,c] [.lst l,.dic o,.dic u,.lst m,.lst s,.lst t]->aT K F1 (.lst ws) vw->FY K C F1 H1 p dx [k,g,b,n,f,c] r Q->(mg [.lst l,.lst ws]).bind (D6 j [.lst l,.dic o,.dic u,.lst m,.lst s,.lst t])=.ok r->bq K C fx->(fP [k,g,b,n,f,c]).lookup fx=a_ (V.ref x)->[k,g,b,n,f,c][j]?=a_ x->([.lst l,.dic o,.dic u,.lst m,.lst s,.lst t]:List A3)[j]?=a_ (.dic ks) ->
   gS (yA K mg) [] D (aR (uc K (bV 0) "kinds") (aR (uc K (bV 0) fx) (aR (bV 1) dP))) [a_ (.ref p),a_ vw] H1 Q:=λ{j fx x ks D F1 H1} d q I e nx L ex hd=>rs_putD2 d w nx (Y _ (by simp)) rfl rfl q dF0 L rfl rfl ex hd e I
 refine d.ask q e I (λF1 H1 d q I e=>?_) (λF1 H1 d q I e=>?_)
 ·exact A (j:=1) d q I e (Y _ (by simp)) dF1 rfl rfl
 refine d.ask q e I (λF1 H1 d q I e=>?_) (λF1 H1 d q I e=>?_)
 ·exact A (j:=2) d q I e (Y _ (by simp)) dF2 rfl rfl
 refine d.ask q e I (λF1 H1 d q I e=>?_) (λF1 H1 d q I e=>?_)
 ·exact AB d w (Y _ (by simp)) (Y _ (by simp)) rfl rfl q dF5 dF5 (j:=5) rfl (jy:=5) rfl rfl e I
 obtain⟨dd,B,e⟩:=bind_eq e;refine aP (dM.only (σ:=[a_ (.ref p),a_ vw]) (i:=1) rfl q) d.c.fh (λN h=>?_) λd' hd v F1 H1 a z=>?_
 ·have h:t6 [c_,a_ (.lst ws)]=.error N:=h;rw[B]at h;cases h
 ·have hd:t6 [c_,a_ (.lst ws)]=.ok d':=hd;rw[B]at hd;cases hd;cases dd with
  |bl c=>
   cases c with
   |true=>cases(show v=V.bl d_ from z);exact⟨d_,rfl,.ref p,rfl,vw,rfl,p,dx,_,F1,_,ws,vw,r,rfl,d.step a,q.mono a.ff,e,I.step d a⟩|false=>cases(show v=V.bl b_ from z);cases e;exact⟨b_,rfl,I F1 H1 a.toC (d.step a)⟩
  |_=>cases e
end
def spID(C:g_):Sp:=λvs H Q _=>∃(p dx:g_),vs=[.ref p]/\H p=a_ (.ins C dx [])/\∀(k g b n f c:g_) (H':Hp),(∀m o,H m=a_ o->m≠p->H' m=a_ o)->(∀x∈[k,g,b,n,f,c],H x=c_)->[k,g,b,n,f,c].Nodup ->
 H' k=a_ (.lst [])->H' g=a_ (yi g [] 0)->H' b=a_ (yi b [] 0)->H' n=a_ (.lst [])->H' f=a_ (.lst [])->H' c=a_ (.lst [])->H' p=a_ (.ins C dx (fP [k,g,b,n,f,c]))->Q .non H'
section
variable{p:g_}{fs:List (p_×V)}{f:p_}{D:Ends}
theorem Cu.cell(c:Cu F H Hc p C dx fs)(q:Cls K C)(g:bq K C f)(i:f∉fs.map (·.1))(k:fs.length<1000)(n:σ[0]?=a_ (a_ (.ref p)))(Y:Hc l=c_)(I:∀b,Cu F H b p C dx (fs++[(f,.ref l)])->H l=c_->b l=a_ o->(∀m u,Hc m=a_ u->m≠p->b m=a_ u)->D.nx σ b):(bV 0) σ (upd Hc l o) λx H2=>∃a C dx fs,x=.ref a/\H2 a=a_ (.ins C dx fs)/\Cls K C/\bq K C f/\fs.length<1000/\D.nx σ (upd H2 a (.ins C dx (sU f (.ref l) fs))):=by
 refine⟨.ref p,n,p,C,dx,fs,rfl,(c.lay Y).ob,q,g,k,?_⟩
 rw[my f _ fs i];have d:l≠p:=λz=>by have h:=c.ob;rw[<- z,Y]at h;cases h
 refine I _ ((c.lay Y).put f (.ref l)) (c.new Y) (by rw[aw d,aq]) λm u e j=>?_
 have:m≠l:=λz=>by rw[z,Y]at e;cases e
 rw[aw j,aw this];exact e
end
theorem rs_initD(d:Cls K C)(a:∀y∈(["kinds","gaps","beside","names","flights","closed"]:List p_),bq K C y)(h:spID C vs H Q E):
  dO (Az K (bV 0) (Ar dP) "kinds") (dO (Az K (bV 0) tNewK "gaps") (dO (Az K (bV 0) tNewK "beside") (dO (Az K (bV 0) (Ar dP) "names") (dO (Az K (bV 0) (Ar dP) "flights") (Az K (bV 0) (Ar dP) "closed"))))) {nx:=λ_ H'=>Q .non H',rt:=Q} (start ["self"] vs) H:=by
 obtain⟨p,dx,rfl,F,q⟩:=h;have C0:Cu (λ_=>c_) H H p C dx []:=⟨rfl,λ_ _ h=>(nomatch h),λ_ _ e _=>e,F⟩
 have m:(0:Nat)<=f_:=GS _;refine⟨m,λk nk=>C0.cell d (a _ (by simp)) (by simp) (by simp) rfl nk λH1 C1 i a1 k1=>?_⟩
 refine λg B=>C1.cell d (a _ (by simp)) (by show("gaps":p_)∉(["kinds"]:List p_);decide +kernel) (by simp) rfl B λH2 C2 r W k2=>?_;refine λb u=>C2.cell d (a _ (by simp)) (by show("beside":p_)∉(["kinds","gaps"]:List p_);decide +kernel) (by simp) rfl u λH3 C3 t U k3=>?_;refine⟨m,λn s=>C3.cell d (a _ (by simp)) (by show("names":p_)∉(["kinds","gaps","beside"]:List p_);decide +kernel) (by simp) rfl s λH4 C4 A T v=>?_⟩
 refine⟨m,λf j=>C4.cell d (a _ (by simp)) (by show("flights":p_)∉(["kinds","gaps","beside","names"]:List p_);decide +kernel) (by simp) rfl j λH5 C5 Z S k5=>?_⟩
 refine⟨m,λc Y=>C5.cell d (a _ (by simp)) (by show("closed":p_)∉(["kinds","gaps","beside","names","flights"]:List p_);decide +kernel) (by simp) rfl Y λH6 X o6 a6 l=>?_⟩
 have np:∀{x:g_},H x=c_->x≠p:=λ{x} h z=>by rw[z,F]at h;cases h
 have b1:=k2 _ _ a1 (np i);have b2:=k3 _ _ b1 (np i);have b3:=v _ _ b2 (np i);have R:=k5 _ _ b3 (np i);have g2:=k3 _ _ W (np r);have L:=v _ _ g2 (np r);have G:=k5 _ _ L (np r);have P:=v _ _ U (np t);have O:=k5 _ _ P (np t);have N:=k5 _ _ T (np A);have I:∀{x y:g_} {w:Hp} {o:HO},w x=a_ o->w y=c_->x≠y:=λ{x y w o} h1 h2 z=>by rw[z,h2]at h1;cases h1
 refine q k g b n f c H6 X.kp (λx D=>?_) ?_ (l _ _ R (np i)) (l _ _ G (np r)) (l _ _ O (np t)) (l _ _ N (np A)) (l _ _ S (np Z)) a6 X.ob
 ·simp only[t_,G4,Jr]at D;rcases D with rfl|rfl|rfl|rfl|rfl|rfl<;>assumption
 ·simp only[IW,t_,G4,Jr,Mb,not_false_eq_true,Kg,and_true];exact⟨⟨I a1 B,I b1 u,I b2 s,I b3 j,I R Y⟩,⟨I W u,I g2 s,I L j,I G Y⟩,⟨I U s,I P j,I O Y⟩,⟨I T j,I N Y⟩,I S Y⟩
def drD(C:g_)(ds:List A3):A3:=.ins C ((["kinds","gaps","beside","names","flights","closed"]:List p_).zip ds)
noncomputable def ds0:List A3:=[.lst [],.dic [],.dic [],.lst [],.lst [],.lst []]
section
variable{p:g_}{xs:List g_}{ds:List A3}
theorem Dr.frz(d:Dr K C F H p dx xs ds)(r:xs.length=6)(st:A5 F0 H0 F H)(m:∀x∈p::xs,H0 x=c_):∃G,A5 F0 H0 G H/\aL F G/\aT K G (drD C ds) (.ref p):=by
 have Y:∀b,(b=p\/b∈xs)->F b=c_:=λb h=>h.elim (λz=>by rw[z];exact d.fp) λz=>(d.c.at z).1;have f:aL F (plus F H λb=>b=p\/b∈xs):=λb o h=>by
  by_cases I:b=p\/b∈xs
  ·rw[Y b I]at h;cases h
  ·rw[cI I];exact h
 refine⟨plus F H λb=>b=p\/b∈xs,⟨st.ff.trans f,st.hh,λb o h=>?_,λb o h=>?_⟩,f,p,dx,fP xs,rfl,by rw[jm (.inl rfl)];exact d.ob,?_⟩
 ·by_cases I:b=p\/b∈xs
  ·rw[jm I]at h;exact h
  ·rw[cI I]at h;exact st.fh b o h
 ·by_cases I:b=p\/b∈xs
  ·exact .inr (m b (I.elim (λz=>by rw[z];exact GF ..) λz=>Ga _ z))
  ·rw[cI I]at h;exact st.nw b o h
 ·have:∀(ns:List p_) (ys:List g_) (es:List A3),ys.length=es.length->(∀(j:Nat) y e,ys[j]?=a_ y->es[j]?=a_ e->aT K (plus F H λb=>b=p\/b∈xs) e (.ref y))->jh K (plus F H λb=>b=p\/b∈xs) (ns.zip es) (ns.zip (ys.map V.ref)):=by
   intro ns
   induction ns with
   |nil=>intro _ _ _ _;rfl|cons a ns l=>
    intro ys es c q
    match ys,es,c with
    |[],[],_=>rfl|y::ys,e::es,c=>exact⟨.ref y,_,rfl,q 0 y e rfl rfl,l ys es (by simpa using c) λj g n h1 h2=>q (j+1) g n (by simpa using h1) (by simpa using h2)⟩
  refine this _ xs ds d.c.len λj y e h1 h2=>?_;obtain⟨k,i⟩:=d.c.own j y e h1 h2;exact i.give k f (jm (.inr (GI h1)))
end
def eqE:A3->A3->M A3
 |.dic ks,.dic []=>.ok (.bl ks.isEmpty)|a,b=>eqM a b
@[simp] theorem e_eqE(ks:List (List Int×A3)):eqE (.dic ks) (.dic [])=.ok (.bl ks.isEmpty):=id rfl
theorem eq_dicE{E:Mq}{Q:Mq}{xs:List nC}(e:o9 s.heap a xs ep)(d:o9 s.heap b [] ep')(Y:A.units<Hw)(h:Q (.bool xs.isEmpty) s):Cb (D_ prog w) A (Gk .Eq (.ref a) (.ref b)) Q E s:=by
 cases xs with
 |nil=>obtain⟨m,d1⟩:=Ft (P:=prog) (w:=w) e;obtain⟨n2,d2⟩:=Ft (P:=prog) (w:=w) d;exact Ng m n2 d1 d2 Y (λ_=>.nil) h
 |cons x xs=>
  obtain⟨vs,f,l,_,_,j,es,h1,h2,o,n⟩:=e;obtain⟨us,g,k,_,_,i,fs,c,g2,q,p⟩:=d;have ta:s.TypeIs (.ref a) "dict":=⟨j,h1,h2.1⟩
  have tb:s.TypeIs (.ref b) "dict":=⟨i,c,g2.1⟩
  have I:es.size≠fs.size:=by
   have e1:es.size=vs.length:=by rw[<- HG,n,u_]
   have e2:fs.size=us.length:=by rw[<- HG,p,u_]
   have e3:=f.length;have e4:=g.length;rw[e1,e2,<- e3,<- e4];simp
  refine L7 (op:=.Eq) ta tb Jh (Kc Jh ta LN ?_ (LD _ _)) Y;refine(show Cb _ _ (IE "__eq__" ⟨[.ref a,.ref b],[]⟩ >>= _) _ _ s from h_ (by unfold IE;refine h_ (Nn ta (show Cb _ _ (Hq (FZ a,FZ b)) _ _ s from z_ (h_ (Ou (T:="dict") tb LM ?_))));simp only[NZ,KC,MH];refine h_ (z_ (h_ (z_ (h_ ?_))));unfold K4 K_;rw[k_ (by rw[l];decide),k_ (by rw[k];decide)];refine h_ (z_ (h_ (z_ (h_ (J6 h1 o (h_ (J6 c q ?_)))))));rw[e_ (by simpa using I)];refine h_ (wpAny_rule (z_ (z_ ⟨_,rfl,(λx=>nomatch x),?_⟩)));simpa using h))
section
variable{W:eD}{own:Bool}
theorem o_eqE(k:X.A.units+64<Hw)(l: ~~~(X.K=K)):Op2 K W own X (Gk .Eq) eqE:=by
 intro A4 s σ H x y v u Q I d c h;obtain⟨F,a,b,Y,g,f,p⟩:=h;by_cases i:∃ks,a=.dic ks/\b=.dic []
 ·obtain⟨ks,rfl,rfl⟩:=i;obtain⟨q,xs,rfl,⟨n,h1⟩,j⟩:=g;obtain⟨o,ys,rfl,⟨m,h2⟩,r2⟩:=f;cases d;cases c;cases(show ys=[]from r2);have e:xs.isEmpty=ks.isEmpty:=by
   have:=j.length;cases xs<;>cases ks<;>simp_all
  refine eq_dicE (Bh I (Y _ _ h1)) (Bh I (Y _ _ h2)) (by omega) ⟨.bl _,H,I,rfl,?_⟩;rw[e];exact p (.bl _) F H (A5.refl Y) (by cases own<;>rfl)
 ·have e:eqE a b=eqM a b:=by
   unfold eqE;split
   ·rename_i ks;exact Gb ⟨ks,rfl,rfl⟩ i
   ·rfl
  rw[e]at p;exact qx k l A4 s σ H x y v u Q I d c ⟨F,a,b,Y,g,f,p⟩
end
section
variable{base:GQ}{ps:List p_}{k:Nat}
def YR(_:∃f fd,Def K mg x st ps f fd)(P:GO)(w:Hg)(base:GQ)(k:Nat)(sp:Sp):Prop:=∃f fd,Yd P w K mg base CX0 k x st ps sp f fd
theorem fR(N:List p_){h:∃f fd,Def K mg x st ps f fd}(I:∀vs H Q E,sp vs H Q E->vs.length=ps.length)(a:∀z:B7,N.Nodup->i5 k (z.A.deeper (IH x (aJ st) z.s.heap.objs.size z.f z.c))->∀(vs:List V) (Q:VK),sp vs z.H Q z.E->∃t,PSs (zY CX0 P w K mg base N x (aJ st) z.f z.c z.A z.o z.s z.H z.E).nox (bS st) t/\t {nx:=λ_ H'=>Q .non H',rt:=Q} (start N vs) z.H)(S:autoParam (gr N ps (aJ st)) Jq9):YR h P w base (k+1) sp:=
 let ⟨f,fd,D⟩:=h
 ⟨f,fd,D,D.fn.okX S I λc A o s H vs Q E Y h=>a ⟨f,c,A,o,s,H,E⟩ S.nd Y vs Q h⟩
end
section
variable{t:TA}
theorem pY{j k:Nat}{ps:List p_}(Y:∃f fd,Yd X.prog X.w X.K X.mg X.base CX0 k x st ps sp f fd)(c:i5 j X.A)(h:PA X (e::es) t)(d:(k<=j)⁻¹)(g: ~~~(Gl X x))(b:((x==("__debug__":p_))=b_)⁻¹)(I: ~~~(iF (e::es) X.env=(b_,Gj e X.env)::iF es X.env))(a: ~~~((GG pos (iF es X.env)).any (·.1)=b_)):PE X (.Call (.Name x p) (e::es) [] pos) (gS sp [] E0 t):=let ⟨_,_,Y⟩:=Y;qj Y.o (c.mono d) g Y.d.mg Y.d.fn.kp Y.d.bd .nil ql h b I a
theorem hU(h:n+64<Hw):n+1<Hw:=by omega
end
theorem len_told(h:mj vs H Q E):vs.length=2:=by obtain⟨_,_,rfl,_⟩:=h;rfl
theorem len_gap{mg:List A3->M A3}(h:yA K mg vs H Q E):vs.length=3:=by obtain⟨_,_,_,_,_,_,_,_,_,_,_,rfl,_⟩:=h;rfl
theorem ED(h:ud K C mr vs H Q E):vs.length=2:=by obtain⟨_,_,_,_,_,_,_,_,rfl,_⟩:=h;rfl
theorem len_ID(h:spID C vs H Q E):vs.length=1:=by obtain⟨_,_,rfl,_⟩:=h;rfl
section
variable{ds:List A3}
theorem D4.upd{c:g_}{u:HO}(o:D4 K F G H ds vs)(n:∀k:Nat,vs[k]?≠a_ (.ref c)):D4 K F G (Lake.upd H c u) ds vs:=⟨o.len,λk d e=>by obtain⟨a,xs,es,h1,h2,Y,I⟩:=o.get k d e;exact⟨a,xs,es,h1,h2,by rw[aw (λz=>n k (by rw[<- z];exact h1))];exact Y,I⟩,o.ap⟩
theorem px(l:List α)(j k:Nat):(l.eraseIdx j)[k]?=l[if k<j then k else k+1]?:=by rw[List.getElem?_eraseIdx];split<;>rfl
theorem D4.erase(o:D4 K F G H ds vs)(j:Nat):D4 K F G H (ds.eraseIdx j) (vs.eraseIdx j):=by
 refine⟨by rw[MD,MD,o.len],λk d e=>?_,λi k a e1 e2=>?_⟩
 ·rw[px]at e ⊢;exact o.get _ d e
 ·rw[px]at e1 e2;have:=o.ap _ _ a e1 e2;split at this<;>split at this<;>omega
end
structure MixH(K:Pn)(F0 H0 F:Hp)(ar al:g_)(H:Hp)(xs ys:List V)(out rs:List A3):Prop where
 st:A5 F0 H0 F H
 hr:H ar=a_ (.lst xs)
 fr:F ar=c_/\H0 ar=c_
 hl:H al=a_ (.lst ys)
 fl:F al=c_/\H0 al=c_
 na:ar≠al
 nl:∀m:Nat,ys[m]?≠a_ (.ref al)
 nr:∀m:Nat,ys[m]?≠a_ (.ref ar)
 ow:D4 K F H0 H rs ys
 dq:aE K F out xs
def mixA(ar al:g_)(ys:List V)(c:g_):Prop:=c=ar\/c=al\/∃m:Nat,ys[m]?=a_ (.ref c)
section
variable{ar al:g_}{xs ys:List V}{out rs:List A3}
theorem MixH.same(h:MixH K F0 H0 F ar al H xs ys out rs)(s:aL H H'):MixH K F0 H0 F ar al H' xs ys out rs:=
 have t:=A5.same h.st.fh s
 ⟨h.st.trans t,s _ _ h.hr,h.fr,s _ _ h.hl,h.fl,h.na,h.nl,h.nr,h.ow.step t,h.dq⟩
theorem A5.put{u:HO}(s:A5 F0 H0 F H)(f:F c=c_/\H0 c=c_):A5 F0 H0 F (upd H c u):=
 ⟨s.ff,λb o e=>by rw[aw (aQ e f.2)];exact s.hh b o e,λb o e=>by rw[aw (aQ e f.1)];exact s.fh b o e,s.nw⟩
theorem MixH.drop(h:MixH K F0 H0 F ar al H xs ys out rs)(j:Nat):MixH K F0 H0 F ar al (upd H al (.lst (ys.eraseIdx j))) xs (ys.eraseIdx j) out (rs.eraseIdx j):=
 ⟨h.st.put h.fl,by rw[aw h.na];exact h.hr,h.fr,aq,h.fl,h.na,λm e=>h.nl _ (by rw[px]at e;exact e),λm e=>h.nr _ (by rw[px]at e;exact e),(h.ow.upd h.nl).erase j,h.dq⟩
theorem MixH.none(h:MixH K F0 H0 F ar al H xs ys out rs){c:g_}(I:mixA ar al ys c):F c=c_:=by
 rcases I with rfl|rfl|⟨m,e⟩
 ·exact h.fr.1
 ·exact h.fl.1
 ·obtain⟨_,_,_,_,z,_⟩:=h.ow.at e;exact z
end
def Th(F F':Hp):Prop:=∀b o,F b=a_ o->F' b=a_ (unF o)
theorem Th.tup(s:Th F F'){xs:List V}(h:SqT K F a xs):SqT K F' a xs:=by
 rcases h with(h|⟨o,h⟩)|h
 ·exact .inl (.inl (s _ _ h))
 ·exact .inl (.inl (s _ _ h))
 ·exact .inr h
theorem Th.lst(s:Th F F'){xs:List V}(h:SqL K F a xs):SqL K F' a xs:=by
 rcases h with(h|⟨o,h⟩)|h
 ·exact .inl (.inl (s _ _ h))
 ·exact .inl (.inl (s _ _ h))
 ·exact .inr h
mutual
theorem aT.th(s:Th F F'):∀{d:A3} {v:V},aT K F d v->aT K F' d v
 |.non,_,h=>h|.bl _,_,h=>h|.int _,_,h=>h|.str _,_,h=>h|.tup _,_,⟨a,xs,e,q,r⟩=>⟨a,xs,e,s.tup q,aE.th s r⟩|.lst _,_,⟨a,xs,e,q,r⟩=>⟨a,xs,e,s.lst q,aE.th s r⟩|.ins _ _,_,⟨a,dx,fs,e,q,r⟩=>⟨a,dx,fs,e,s _ _ q,jh.th s r⟩|.dic _,_,⟨a,xs,e,⟨ep,q⟩,r⟩=>⟨a,xs,e,⟨ep,s _ _ q⟩,cV.th s r⟩|.dil _,_,⟨a,xs,e,⟨ep,q⟩,r,z⟩=>⟨a,xs,e,⟨ep,s _ _ q⟩,r,λx Y=>let ⟨r,bs,t1,t2,l,t3⟩:=z x Y;⟨r,bs,s.tup t1,s.tup t2,l,λj I c e1 e2=>s.tup (t3 j I c e1 e2)⟩⟩
theorem aE.th(s:Th F F'):∀{ds:List A3} {xs:List V},aE K F ds xs->aE K F' ds xs
 |[],_,h=>h|_::_,_,⟨v,vs,e,q,r⟩=>⟨v,vs,e,aT.th s q,aE.th s r⟩
theorem jh.th(s:Th F F'):∀{gs:List (p_×A3)} {fs:List (p_×V)},jh K F gs fs->jh K F' gs fs
 |[],_,h=>h|(_,_)::_,_,⟨v,r,e,q,t⟩=>⟨v,r,e,aT.th s q,jh.th s t⟩
theorem cV.th(s:Th F F'):∀{ks:List (List Int×A3)} {xs:List nC},cV K F ks xs->cV K F' ks xs
 |[],_,h=>h|(_,_)::_,_,⟨b,v,r,e,t,q,z⟩=>⟨b,v,r,e,s.tup t,aT.th s q,cV.th s z⟩
end
open Classical in
structure Bent(F0 H0 F:Hp)(p C dx:Addr)(fs:List (Str×V))(bk bf be:Addr)(H:Hp):Prop where
 st:A5 F0 H0 F H
 ob:H p=some (.ins C dx fs)
 k:∃y,H bk=some (.lst y)
 f:∃y,H bf=some (.lst y)
 e:∃y,H be=some (.lst y)/\y.length<sizeLine
 nk:F bk=none/\H0 bk=none
 nf:F bf=none/\H0 bf=none
 ne:F be=none/\H0 be=none
section
variable{p:g_}{fs:List (p_×V)}{bk bf be:g_}
theorem Bent.same(b:Bent F0 H0 F p C dx fs bk bf be H)(s:aL H H'):Bent F0 H0 F p C dx fs bk bf be H':=
 ⟨b.st.trans (A5.same b.st.fh s),s _ _ b.ob,b.k.imp λ_ h=>s _ _ h,b.f.imp λ_ h=>s _ _ h,b.e.imp λ_ h=>⟨s _ _ h.1,h.2⟩,b.nk,b.nf,b.ne⟩
end
def spX1(C:g_)(f1:p_):Sp:=λvs H Q _=>∃a v1,vs=[.ref a,v1]/\H a=a_ (XO a C c_)/\∀d,H d=c_->d≠a->Q .non (upd (upd H d (XD d [(f1,v1)])) a (XO a C (a_ d)))
section
variable{k:Nat}{ps:List p_}{f1:p_}{v1:V}
theorem new_x1(FB:Jp B newId initId bmB)(D:la X.K C bmB newId f=d_)(y:K9 X.K (.ref f)=a_ (.type "function"))(F:i6 X.prog X.w X.K X.mg X.base CX0 k f fd ps (spX1 C f1))(t:i5 (k+1) X.A)(A:Binds X.K fd ps [])(I:A6 X A4 σ H s)(r:B' [v1] us):Cb (D_ X.prog X.w) X.A (Jn (.ref C) us) (λv s'=>∃a d,v=.ref a/\s.heap.objs.size<=a/\H a=c_/\H d=c_/\d≠a/\A6 X A4 σ (upd (upd H d (XD d [(f1,v1)])) a (XO a C (a_ d))) s') X.xe s:=by
 obtain⟨tl,N,nm,O,bs,hdct,sn,sub,ab,col,dd,k0,k1,k2,k3,k5,mN,l,j,i,h⟩:=uU I.kIn D;obtain⟨oI,p,o⟩:=fn_at I.kIn y;obtain⟨hh,gg,K,tk,os⟩:=s;have P:=C_;have x:us.length<=f_:=by rw[<- r.length];show 1<=f_;omega
 refine x_call FB h l j i p o x ?_;have m:(tX hh C us).get? (hh.objs.size+1)=a_ (Df C hh.objs.size):=vG;have J:A6 X A4 σ (upd H (hh.objs.size+1) (XO (hh.objs.size+1) C c_)) {(⟨hh,gg,K,tk,os⟩:y_)with heap:=tX hh C us,toks:=tk}:=
  I.laid (λb u q=>pD q) (GC _) (xo_ok (vs:=#[.ref hh.objs.size,.none,.none,.none,.bool b_,.none]) rfl m)
 have fa:H (hh.objs.size+1)=c_:=I.hok.fresh (GC _);have w:B' [V.ref (hh.objs.size+1),v1] (FZ (hh.objs.size+1)::us++[]):=by rw[IB];exact .cons rfl r
 have q:spX1 C f1 [V.ref (hh.objs.size+1),v1] (upd H (hh.objs.size+1) (XO (hh.objs.size+1) C c_)) (λv H2=>v=.non/\∃d,H d=c_/\d≠hh.objs.size+1/\H2=upd (upd H d (XD d [(f1,v1)])) (hh.objs.size+1) (XO (hh.objs.size+1) C (a_ d))) (λ_ _ _=>False):=
  ⟨_,v1,rfl,aq,λd hd c=>⟨rfl,d,by rw[aw c]at hd;exact hd,c,upd_low⟩⟩
 have n:(FZ (hh.objs.size+1)::us++[]).length=ps.length:=w.length.symm.trans (F.len _ _ _ _ q);refine Kk (HY (F.run _ X.stack _ _ ⟨.ref (hh.objs.size+1)::us,[]⟩ _ _ _ (λ_ _ _=>False) (t.make C us []) (J.env0.make C us []) (A _ (.ref (hh.objs.size+1)::us) J.kIn n) w q) λz s' Y=>?_);cases z with
 |error e=>exact(show False from Y).elim|ok fl=>
  cases fl with
  |ret u=>obtain⟨v,H',L,g,G,d,h1,h2,E⟩:=J.after Y;subst G E;exact⟨g,_,d,rfl,GC _,fa,h1,h2,L⟩
  |_=>exact Gy Y
end
def yw(t:TA)(C:g_)(f1:p_)(E:XK):TS:=λ_ σ H=>t σ H λvs H1=>∃v1,vs=[v1]/\∀d,H1 d=c_->E (.ref C) (a_ d) (upd H1 d (.xd [(f1,v1)]))
section
variable{t:TA}{k:Nat}{ps:List p_}{f1:p_}
theorem wD(FB:Jp B newId initId bmB)(Q:XEq2 X E C)(G:la X.K C bmB newId f=d_)(Z:K9 X.K (.ref f)=a_ (.type "function"))(U:HW X.K (.ref C)=d_)(F:i6 X.prog X.w X.K X.mg X.base CX0 k f fd ps (spX1 C f1))(y:i5 (k+1) X.A)(c:Binds X.K fd ps [])(S:X.mg x=a_ (.ref C))(ha:PA X [e1] t)(W: ~~~(Gl X x))(p:((x==("__debug__":p_))=b_)⁻¹)(m: ~~~(iF [e1] X.env=[(b_,Gj e1 X.env)])):
  PS X (.Raise (a_ (.Call (.Name x np) [e1] [] cpos)) c_ pos) (yw t C f1 E):=by
 intro A4 s σ H D I h;obtain⟨tl,N,nm,K,bs,hdct,sn,sub,ab,col,dd,k0,k1,k2,k3,k5,mN,O,o2,o3,L⟩:=uU I.mod.kin G;rw[arm_exec_Raise];refine h_ (Jy (yr (C:=C) (nm:=nm) (q:=K) (N:=N) (bs:=bs) (tl:=tl) (hdct:=hdct) (sn:=sn) (sub:=sub) (ab:=ab) (col:=col) (dd:=dd) (k0:=k0) (k1:=k1) (k2:=k2) (k3:=k3) (k5:=k5) (newId:=newId) (L.hasType FB.hasBase) y.hd (h_ (Bs ?_ λv w Y=>h_ (Jy (z_ Y))))));refine Hk (j5 I W S (Km (h₀:=X.base) I.ok.mod.kin U (Bs (ha cpos A4 s σ H _ I h) λus s1 n=>?_) m rfl) p);obtain⟨vs,H1,u,r,i⟩:=n;refine⟨u.kIn,?_⟩
 obtain⟨v1,rfl,i⟩:=i;refine Bs (new_x1 FB G Z F y c u r) λv g n=>?_;obtain⟨a,d,ev,R,fa,fd',j,J⟩:=n;subst ev;obtain⟨vs,w1,A⟩:=Dd (J.hok a _ aq);have e:upd (upd H1 d (XD d [(f1,v1)])) a (XO a C (a_ d)) d=a_ (XD d [(f1,v1)]):=by rw[aw j];exact aq
 have J2:A6 X A4 σ (upd H1 d (.xd [(f1,v1)])) {g with heap:=g.heap,toks:=g.toks}:=by
  refine J.turn (λb=>b=a\/b=d) (λb o _ q=>q) (λb l=>?_) (λb c=>?_) (λb o _ q=>⟨o,q⟩) λb o c q=>?_
  ·rw[aw λz=>l (.inr z),aw λz=>l (.inl z),aw λz=>l (.inr z)]
  ·rcases c with rfl|rfl
   ·exact .inl ⟨_,aq⟩
   ·exact .inl ⟨_,e⟩
  ·rcases c with rfl|rfl
   ·rw[aw (Gv j),fa]at q;cases q
   ·rw[aq]at q;cases q;obtain⟨mA,P,n2,_⟩:=xd_get (J.hok _ _ e);exact⟨mA,P,n2⟩
 refine⟨a,_,rfl,J.bk _ _ O,A,rfl,⟨vs,rfl,w1⟩,Q A4 σ _ g a d J2 ⟨⟨_,vs,A,rfl,rfl,rfl,w1⟩,λT hT=>nomatch hT⟩ (get_none (Gw u.sz R)) (by rw[aw (Gv j)];exact fa) (i d fd')⟩
end
def xRes1(C:g_)(f1:p_):List A3->M A9
 |[a]=>.error (.exc C [(f1,a)])|_=>.error .stuck
def BL(C:g_)(f1:p_)(fr:ah->M (List A3)):ah->M A9:=λρ=>(fr ρ).bind (xRes1 C f1)
@[simp] theorem e_sExc1(C:g_)(f1:p_)(fr:ah->M (List A3))(ρ:ah):BL C f1 fr ρ=(fr ρ).bind (xRes1 C f1):=id rfl
@[simp] theorem e_xRes1(C:g_)(f1:p_)(a:A3):xRes1 C f1 [a]=.error (.exc C [(f1,a)]):=id rfl
section
variable{O':List Nat}{fr:ah->M (List A3)}{k:Nat}{ps:List p_}{f1:p_}
theorem Fm(FB:Jp B newId initId bmB)(l:XEq2 X E C)(z:la X.K C bmB newId f=d_)(u:K9 X.K (.ref f)=a_ (.type "function"))(s:HW X.K (.ref C)=d_)(F:i6 X.prog X.w X.K X.mg X.base CX0 k f fd ps (spX1 C f1))(m:i5 (k+1) X.A)(w:Binds X.K fd ps [])(o:X.mg x=a_ (.ref C))(y:DA K (WE K E) X [e1] fr)(t: ~~~(Gl X x))(c:((x==("__debug__":p_))=b_)⁻¹)(b: ~~~(iF [e1] X.env=[(b_,Gj e1 X.env)])):
  DS K (WE K E) ro X OL O O' (.Raise (a_ (.Call (.Name x np) [e1] [] cpos)) c_ pos) (BL C f1 fr):=λF0 H0=>PS.imp (wD FB l z u s F m w o y t c b) λD σ H ⟨G,F,ρ,r,p⟩=>by
 have i:=r.freeze (O2:=[]) (by simp);refine pJ r.pU r.jN (λe v=>p.nX i.st (by unfold BL;rw[v];rfl)) λds hd vs F1 H1 h q=>?_;have A:BL C f1 fr ρ=xRes1 C f1 ds:=by unfold BL;rw[hd];rfl
 rw[A]at p;rcases ds with _|⟨a,_|⟨_,_⟩⟩
 ·exact((WE K E).ns p).elim
 rotate_left
 ·exact((WE K E).ns p).elim
 ·obtain⟨w1,Y,rfl,j,n⟩:=q;cases(show Y=[]from n);refine⟨w1,rfl,λd g=>?_⟩
  have st:=i.st.trans h;have I:A5 F1 H1 (upd F1 d (.xd [(f1,w1)])) (upd H1 d (.xd [(f1,w1)])):=A5.lay h.fh g;exact p _ _ (st.trans I) d _ aq ⟨w1,[],rfl,aT.mono I.ff j,rfl⟩
end
def nJ(CN:g_)(f1:p_)(mr:List A3->List A3->M (Bool×List A3))(mw:List A3->M A3):Nat->List A3->List A3->M (List A3)
 |_,[],ds=>.ok ds|k,I::rows,ds=>(noX (mw [I])).bind λw=>match w with
  |.lst ws=>(noX (mr ds ws)).bind λr=>if r.1=d_ then nJ CN f1 mr mw (k+1) rows r.2 else .error (.exc CN [(f1,.int (k:Nat))])
  |_=>stk
def pS(C CN:g_)(f1:p_)(mr:List A3->List A3->M (Bool×List A3))(mw:List A3->M A3)(di ni ri:Nat)(fs:ah->M A3)(g:ah->M A9):ah->M A9:=λρ=>if (q_ (di<ρ.length)&&q_ (ni<ρ.length)&&q_ (ri<ρ.length))=d_ then(noX (fs (ρ.set di c_))).bind λd=>match d with
 |.lst rows=>(nJ CN f1 mr mw 1 rows ds0).bind λds=>g ((((ρ.set di c_).set ni c_).set ri c_).set di (a_ (drD C ds)))|_=>stk
 else stk
section
variable{f1:p_}{O':List Nat}{D:Ends}{fs:ah->M A3}{gg:ah->M A9}
theorem DU(N:di≠ni)(L:di≠ri)(hnr:ni≠ri)(t:tS K (WE K E) b_ F0 H0 OL [] O' (pS C CN f1 mr mw di ni ri fs gg) D σ H):
  dO (pK (tMake C (spID C) [] E1 dP) (cu di)) (dO (tFor (ER K (tD K C' b_ fs)) (gTup K 2 (kL (cu ni) (kL (cu ri) gNil)))
   (nG (tNot (tTr K (gS (ud K C mr) [] E2 (aR (bV di) (aR (gS (spF K b_ mw 1) [] E3 (aR (bV ri) dP)) dP))))) (yw (aR (bV ni) dP) CN f1 E) gJ)) (tS K (WE K E) b_ F0 H0 OL [] O' gg)) D σ H:=by
 obtain⟨FB,F,ρ,r,q⟩:=t;unfold pS at q;split at q
 rotate_left
 ·exact q.stuck rfl
 rename_i hc;simp only[l_,Gd]at hc;obtain⟨⟨hd,hn⟩,hr⟩:=hc;have rE:=r.repE;have ls:=rE.len;intro p dx P hdx hne;refine⟨p,dx,rfl,aq,λk g b n f c H1 kp W nd ak ag ab an af ac ap=>⟨rfl,?_⟩⟩
 have old:∀{m:g_},upd (upd H dx (.own p)) p (.ins C dx []) m=c_->H m=c_:=λ{m} h=>by
  cases l:H m with
  |none=>rfl|some o=>
   have h1:m≠p:=λz=>by rw[z,P]at l;cases l
   have h2:m≠dx:=λz=>by rw[z,hdx]at l;cases l
   rw[aw h1,aw h2,l]at h;cases h
 have s1:aL H H1:=λm o e=>by
  have h1:m≠p:=λz=>by rw[z,P]at e;cases e
  have h2:m≠dx:=λz=>by rw[z,hdx]at e;cases e
  exact kp m o (by rw[aw h1,aw h2];exact e) h1
 have S1:A5 F H F H1:=A5.same r.st.fh s1;have O:∀x∈p::[k,g,b,n,f,c],H x=c_:=λx O=>(t_.mp O).elim (λz=>by rw[z];exact P) λz=>old (W x z);have h0:∀x∈p::[k,g,b,n,f,c],H0 x=c_:=λx h=>r.st.hh.free (O x h);have cell:∀(j:Nat) (x:g_) (d:A3),[k,g,b,n,f,c][j]?=a_ x->ds0[j]?=a_ d->isO d=d_/\lZ K F (λ_=>c_) H1 d (.ref x):=λj x d e1 e2=>by
  have fx:F x=c_:=r.st.fh.free (O x (Ga _ (GI e1)));rcases j with _|_|_|_|_|_|j
  ·cases e1;cases e2;exact⟨rfl,_,[],rfl,ak,fx,rfl,rfl⟩
  ·cases e1;cases e2;exact⟨rfl,_,[],rfl,⟨0,ag⟩,fx,rfl,rfl⟩
  ·cases e1;cases e2;exact⟨rfl,_,[],rfl,⟨0,ab⟩,fx,rfl,rfl⟩
  ·cases e1;cases e2;exact⟨rfl,_,[],rfl,an,fx,rfl,rfl⟩
  ·cases e1;cases e2;exact⟨rfl,_,[],rfl,af,fx,rfl,rfl⟩
  ·cases e1;cases e2;exact⟨rfl,_,[],rfl,ac,fx,rfl,rfl⟩
  ·simp at e1
 have d1:Dr K C F H1 p dx [k,g,b,n,f,c] ds0:=⟨⟨S1.fh,nd,rfl,cell⟩,ap,r.st.fh.free P,λz=>by have:=W p z;rw[aq]at this;cases this⟩
 have hs1:(σ.set di (a_ (.ref p)))[di]?=a_ (a_ (.ref p)):=s_ (by rw[<- ls];exact hd);refine aP (rE.hide di (a_ (.ref p))) S1.fh (λe he=>by rw[he]at q;exact q.stuck rfl) λdl hdl v F2 H2 U q2=>?_;rw[hdl]at q;simp only[noX_ok,aj]at q;cases dl with
 |lst rows=>
  dsimp only at q;obtain⟨a,ys,rfl,sq,qs⟩:=(show aT K F2 (.lst rows) v from q2)
  refine⟨a,rfl,⟨ys,U.fh.lst sq⟩,?_⟩
  have W1:=(r.st.trans S1).trans U;refine⟨λi m σ' H'=>m+i=rows.length/\σ'.length=σ.length/\(∀j,j≠ni->j≠ri->σ'[j]?=(σ.set di (a_ (.ref p)))[j]?)/\∃F' ds',aL F2 F'/\A5 F0 H0 F' H'/\Dr K C F' H' p dx [k,g,b,n,f,c] ds'/\iE K (WE K E) b_ F0 H0 FB OL O' D ((nJ CN f1 mr mw (i+1) (rows.drop i) ds').bind λds=>gg ((((ρ.set di c_).set ni c_).set ri c_).set di (a_ (drD C ds)))),
   ⟨rows.length,rfl,B_,λ_ _ _=>rfl,F2,ds0,aL.refl _,W1,d1.step U,q⟩,λi m σ' H' ⟨e1,e2,e3,F',ds',R,st,d,I⟩=>?_⟩
  have A:SqL K H' a ys:=st.fh.lst (R.lst sq);by_cases l:m=0
  ·refine .inl ⟨⟨ys,A,by rw[qs.length];omega⟩,?_⟩;rw[L_ (by omega)]at I;have q:iE K (WE K E) b_ F0 H0 FB OL O' D (gg ((((ρ.set di c_).set ni c_).set ri c_).set di (a_ (drD C ds')))):=I;obtain⟨G,sG,fG,qG⟩:=d.frz rfl st h0;refine⟨FB,G,_,Rep.ofE (F:=G) ?_ sG (r.fb.trans ((S1.ff.trans U.ff).trans (R.trans fG))),q⟩
   have a1:=(rE.mono ((S1.ff.trans U.ff).trans (R.trans fG))).hide di (a_ (.ref p));have a2:dM K G σ' (((ρ.set di c_).set ni c_).set ri c_):=⟨by rw[B_,B_,B_,e2,ls],λj d' h=>by
    have hj1:ri≠j:=λz=>by rw[z,LX]at h;cases hh:((ρ.set di c_).set ni c_)[j]?<;>rw[hh]at h<;>cases h
    rw[m_ hj1]at h;have hj2:ni≠j:=λz=>by rw[z,LX]at h;cases hh:(ρ.set di c_)[j]?<;>rw[hh]at h<;>cases h
    rw[m_ hj2]at h;obtain⟨v,h1,h2⟩:=a1.sl j d' h;exact⟨v,by rw[e3 j (Gv hj2) (Gv hj1)];exact h1,h2⟩⟩
   exact a2.tell (v:=.ref p) (by rw[e3 di N L];exact hs1) qG
  ·have hi:i<rows.length:=by omega
   have B:i<ys.length:=by rw[qs.length];exact hi
   refine .inr ⟨⟨ys,ys[i],A,by simp[B]⟩,_,λσ2 H2 z=>⟨m-1,by omega,z⟩,λx H3 P=>?_⟩;obtain⟨T,y,hT,ex,eH,hy⟩:=P;subst ex eH;have ey:=hy ys A;rw[Gr B]at ey;cases ey;obtain⟨y',hy',qy⟩:=qs.get (i:=i) (d:=rows[i]) (by simp[hi]);rw[Gr B]at hy';cases hy';have sT:A5 F' H' F' (upd H' T (.tup [.int (i+1:Nat),ys[i]])):=A5.grow st.fh hT;have dT:=d.step sT;rw[IT hi]at I;cases ew:mw [rows[i]]with
   |error e=>exact I.stuck (by rw[nJ,ew];rfl)|ok w=>
   refine⟨T,_,rfl,SqT.of aq,rfl,_,_,rfl,_,_,rfl,rfl,?_⟩
   have hσd:((σ'.set ni (a_ (.int (i+1:Nat)))).set ri (a_ ys[i]))[di]?=a_ (a_ (.ref p)):=by rw[m_ (Gv L),m_ (Gv N),e3 di N L];exact hs1
   have X:((σ'.set ni (a_ (.int (i+1:Nat)))).set ri (a_ ys[i]))[ri]?=a_ (a_ ys[i]):=s_ (by rw[B_,e2,<- ls];exact hr);refine⟨.ref p,hσd,ys[i],X,F',[rows[i]],sT.fh,⟨_,_,rfl,qy.mono R,rfl⟩,rfl,?_⟩
   rw[ew];intro w' F4 H4 s4 q4;cases w with
   |lst ws=>
    cases er:mr ds' ws with
    |error e=>exact I.stuck (by rw[nJ,ew];show((noX (mr ds' ws)).bind _).bind _=_;rw[er];rfl)|ok Y=>
    have I:iE K (WE K E) b_ F0 H0 FB OL O' D ((if Y.1=d_ then nJ CN f1 mr mw (i+1+1) (rows.drop (i+1)) Y.2 else .error (.exc CN [(f1,.int (i+1:Nat))])).bind λds=>gg ((((ρ.set di c_).set ni c_).set ri c_).set di (a_ (drD C ds)))):=by
     have e:nJ CN f1 mr mw (i+1) (rows[i]::rows.drop (i+1)) ds'=if Y.1=d_ then nJ CN f1 mr mw (i+1+1) (rows.drop (i+1)) Y.2 else .error (.exc CN [(f1,.int (i+1:Nat))]):=by rw[nJ,ew];show(noX (mr ds' ws)).bind _=_;rw[er];rfl
     rw[<- e];exact I
    have d4:=dT.step s4;unfold dP;dsimp only[];show ud K C mr [V.ref p,w'] H4 _ E2;refine⟨p,dx,_,F4,ds',ws,w',Y,rfl,d4,q4,er,λF5 H5 S d5=>⟨Y.1,rfl,?_⟩⟩
    have s:A5 F0 H0 F5 H5:=by have z:=(st.trans sT).trans s4;exact⟨z.ff.trans S.ff,λQ o h=>S.hh Q o (λl=>by rw[h0 Q (Ga _ l)]at h;cases h) (z.hh Q o h),S.fh,λQ o h=>(S.nw Q o h).elim (λu=>z.nw Q o u) λu=>.inr (z.hh.free u)⟩
    cases hb:Y.1 with
    |true=>rw[hb,e_ rfl]at I;exact⟨by omega,by rw[B_,B_];exact e2,λj h1 h2=>by rw[m_ (Gv h2),m_ (Gv h1)];exact e3 j h1 h2,F5,Y.2,(R.trans s4.ff).trans S.ff,s,d5,I⟩|false=>
     rw[hb,k_ (by decide)]at I;have Z:((σ'.set ni (a_ (.int (i+1:Nat)))).set ri (a_ ys[i]))[ni]?=a_ (a_ (.int (i+1:Nat))):=by rw[m_ (Gv hnr)];exact s_ (by rw[e2,<- ls];exact hn)
     refine⟨_,Z,_,rfl,λx O=>?_⟩
     have s6:A5 F5 H5 (upd F5 x (.xd [(f1,.int (i+1:Nat))])) (upd H5 x (.xd [(f1,.int (i+1:Nat))])):=A5.lay s.fh O;have I:(WE K E).p (.exc CN [(f1,.int (i+1:Nat))]) F0 H0:=I;exact I _ _ (s.trans s6) x _ aq ⟨_,[],rfl,rfl,rfl⟩
   |_=>exact I.stuck (by rw[nJ,ew];rfl)
 |_=>exact q.stuck rfl
end
theorem Fo{Y I:GW}{f1:p_}{fs:ah->M A3}{g:ah->M A9}{O':List Nat}(p1:PS X Y (pK (tMake C (spID C) [] E1 dP) (cu di)))(p2:PS X I (tFor (ER K (tD K C' b_ fs)) (gTup K 2 (kL (cu ni) (kL (cu ri) gNil))) (nG (tNot (tTr K (gS (ud K C mr) [] E2 (aR (bV di) (aR (gS (spF K b_ mw 1) [] E3 (aR (bV ri) dP)) dP))))) (yw (aR (bV ni) dP) CN f1 E) gJ)))(h:DSs K (WE K E) b_ X OL [] O' sts g)(c:(di≠ni)⁻¹)(b:(di≠ri)⁻¹)(a:(ni≠ri)⁻¹):DSs K (WE K E) b_ X OL [] O' (Y::I::sts) (pS C CN f1 mr mw di ni ri fs g):=λF0 H0=>PSs.imp (aB p1 (aB p2 (h F0 H0))) λ_ _ _=>DU c b a
def sI(i j:Nat)(f1:p_)(b1 b2 b3:Bool):List (p_×A3)->ah->M ah:=λfs ρ=>match fs.lookup f1 with
 |some (.int k)=>.ok ((ρ.set j (a_ (.lst [.non,.int k,.bl b1,.bl b2,.bl b3]))).set i c_)|_=>.error .stuck
@[simp] theorem e_xToldN(i j:Nat)(f1:p_)(b1 b2 b3:Bool)(k:Int)(fs:List (p_×A3))(ρ:ah):sI i j f1 b1 b2 b3 ((f1,.int k)::fs) ρ=.ok ((ρ.set j (a_ (.lst [.non,.int k,.bl b1,.bl b2,.bl b3]))).set i c_):=by unfold sI;rw[v_,JT]
def Ds(K:Pn)(i j:Nat)(f1:p_)(b1 b2 b3:Bool)(ys:List g_)(a d:g_):TS:=
 dO (pK (Ar (aR (tC .non) (aR (tFldX i a d f1) (aR (tIsiR i a (XDk d) b1) (aR (tIsiR i a (XDk d) b2) dP))))) (cu j)) (pI (tBM K "list" jl (bV j) (aR (tIsiTR i a (XDk d) ys b3) dP)))
def tsToldN(K:Pn)(i j:Nat)(f1:p_)(b1 b2 b3:Bool)(ys:List g_)(a:g_):Option g_->TS
 |none=>tNever|some d=>Ds K i j f1 b1 b2 b3 ys a d
section
variable{D:Ends}{j:Nat}{d:g_}{gs:List (p_×V)}{fs:List (p_×A3)}{f1:p_}{ys:List g_}
theorem rs_toldN(r:Rep K F0 H0 FB O F H σ ρ)(hd:F d=a_ (.xd gs))(t:jh K F fs gs)(f:i≠j)(hi:i<σ.length)(n:j<σ.length)(m:i∉O)(h:j∉O)(q:iE K C' ro F0 H0 FB OL O D ((sI i j f1 b1 b2 b3 fs ρ).bind λρ'=>.ok (.nx ρ'))):
  Ds K i j f1 b1 b2 b3 ys a d (D.less i) (σ.set i (a_ (.ref a))) H:=by
 have u:=C_;have c:H d=a_ (.xd gs):=r.st.fh d _ hd;have e1:(σ.set i (a_ (.ref a)))[i]?=a_ (a_ (.ref a)):=by rw[s_ hi]
 unfold sI at q;cases Y:fs.lookup f1 with
 |none=>rw[Y]at q;exact(C'.ns q).elim|some b=>
 rw[Y]at q;cases b with
 |int k=>
  obtain⟨v,s,o⟩:=t.at.1 _ Y;cases(show v=V.int k from o);refine⟨e1,gs,.int k,c,s,e1,⟨gs,c⟩,e1,⟨gs,c⟩,by show 4<=f_;omega,λl Y=>?_⟩
  have e2:((σ.set i (a_ (.ref a))).set j (a_ (.ref l)))[j]?=a_ (a_ (.ref l)):=by rw[s_ (by rw[B_];exact n)]
  have e3:((σ.set i (a_ (.ref a))).set j (a_ (.ref l)))[i]?=a_ (a_ (.ref a)):=by rw[m_ (Gv f)];exact e1
  refine⟨.ref l,e2,iG aq,e3,λp g=>?_⟩
  have I:l≠p:=λz=>by subst z;rw[aq]at g;cases g
  have e:H p=c_:=by rw[aw (Gv I)]at g;exact g
  refine⟨⟨gs,by rw[aw (aQ c e),aw (aQ c Y)];exact c⟩,l,[.non,.int k,.bl b1,.bl b2],.bl b3,rfl,rfl,by rw[aw I];exact aq,by show 4<f_;omega,?_⟩
  exact q _ _ _ (r.toldG f hi n m h (step_app (xs:=[.non,.int k,.bl b1,.bl b2]) r.st.fh Y e (Gv I)) (r.st.fh.free Y) ⟨_,_,rfl,rfl,_,_,rfl,rfl,_,_,rfl,rfl,_,_,rfl,rfl,_,_,rfl,rfl,rfl⟩)
 |_=>exact(C'.ns q).elim
end
section
variable{c n to:p_}{j:Nat}{fb:ah->M A9}{f1:p_}{ys:List g_}
theorem ds_toldN(v:∀(A4:Vp) (σ:St) (E:XK) (k:Mq),kJ (CXd X.prog X.w) (X.vJ k) A4 σ E->DSat K E ro (X.vJ k) OL [] O A4 σ body fb)(Z:XTry X.K X.mg c C)(w:X.N.Nodup)(o:∀(a d:g_) (oe:J_),oe.cls=.ref C->(∃vs,oe.data=.fields vs)->oe.dict=a_ d->PSs (X.hand a oe) (b₀::suite) (Ds K i j f1 b1 b2 b3 ys a d))(b:(i≠j)⁻¹)(e:(i∉O)⁻¹)(Y:(j∉O)⁻¹)(hi: ~~~(X.N[i]?=a_ n))(s: ~~~(X.N[j]?=a_ to))(q: ~~~(X.env.scope.names.lookup n=a_ .local))(t: ~~~(Gl X c))(g: ~~~(X.ex=[]))(I: ~~~(X.stack=X.env::X.outer))(f: ~~~(X.env.frame=a_ X.env.locals))(h:((c==("__debug__":p_))=b_)⁻¹):
  DS K C' ro X OL O O (.Try body [.ExceptHandler (a_ (.Name c np)) (a_ n) (b₀::suite) hpos] [] [] pos) (pR O C fb (sI i j f1 b1 b2 b3)):=by
 refine ds_tryF (ts:=λa dx=>tsToldN K i j f1 b1 b2 b3 ys a dx) v (λa oe u hd=>?_) (λF0 H0 D σ a d gs fs FB F H ρ l r h1 h2 p=>rs_toldN r h1 h2 b ?_ ?_ e Y p) Z.nm (by decide +kernel) Z.mg w hi q t g I f h
 ·cases m:oe.dict with
  |none=>exact wA|some d=>exact o a d oe u hd m
 ·rw[l];exact(tF.mp hi).1
 ·rw[l];exact(tF.mp s).1
end
noncomputable abbrev PKs:=List ((p_×p_)×Int)
noncomputable def oU(k:p_×p_):List Key:=[.inr k.1,.inr k.2]
theorem qF{a b:p_×p_}:oU a=oU b↔a=b:=by
 obtain⟨a1,I⟩:=a;obtain⟨b1,b2⟩:=b;constructor
 ·intro h;simp only[oU,JR,Sum.inr.injEq,and_true]at h;rw[h.1,h.2]
 ·intro h;rw[h]
def pkV(ks:PKs):List (List Key×V):=ks.map λp=>(oU p.1,.int p.2)
noncomputable def yn(ks:PKs)(k:p_×p_):Option Int:=(ks.find? λp=>q_ (p.1=k)).map (·.2)
def pX(ks:PKs)(k:p_×p_)(v:Int):PKs:=if (yn ks k).isSome=d_ then ks.map (λp=>if p.1=k then(p.1,v)else p)else ks++[(k,v)]
theorem yW(k:p_×p_):∀ks:PKs,vz (pkV ks) (oU k)=(yn ks k).map V.int
 |[]=>rfl|p::ks=>by
  have I:=yW k ks;unfold vz pkV yn at I ⊢;by_cases e:p.1=k
  ·simp only[F_,G1,qF,e,decide_true,J1]
  ·simp only[F_,G1,qF,e,MI];exact I
theorem Ef(ks:PKs)(k:p_×p_)(v:Int):putK (pkV ks) (oU k) (.int v)=pkV (pX ks k v):=by
 unfold putK pX;rw[pb,yW];by_cases h:(yn ks k).isSome=d_
 ·rw[e_ (by rw[I_];exact h),e_ h];unfold pkV;rw[Gf,Gf];refine H_ λp _=>?_;simp only[L0,qF];by_cases e:p.1=k
  ·rw[e_ e,e_ e]
  ·rw[k_ e,k_ e]
 ·rw[k_ (by rw[I_];exact h),k_ h];unfold pkV;rw[Hj];rfl
theorem Eg(ks:PKs):(pkV ks).length=ks.length:=u_ ..
structure Jst where
 dk:List A3
 dn:List A3
 df:List A3
 dc:List A3
 g:PKs
 b:PKs
variable{m1:Jst->List A3->M (Bool×Jst)}
noncomputable def Jst.ds(s:Jst):List A3:=[.lst s.dk,.lst s.dn,.lst s.df,.lst s.dc]
structure Jad where
 p:g_
 T:g_
 g:g_
 b:g_
 k:g_
 n:g_
 f:g_
 c:g_
noncomputable def Jad.xs(a:Jad):List g_:=[a.k,a.n,a.f,a.c]
def Jad.ys(a:Jad):List g_:=a.g::a.b::a.xs
noncomputable def tabs(a:Jad):List (Key×V):=[(.inr "gap",.ref a.g),(.inr "beside",.ref a.b)]
structure Lj(K:Pn)(F H:Hp)(a:Jad)(s:Jst):Prop where
 c:Cells K F H a.xs s.ds
 tp:H a.p=a_ (.tup [.ref a.k,.ref a.T,.ref a.n,.ref a.f,.ref a.c])
 ot:H a.T=a_ (.dK (tabs a))
 og:H a.g=a_ (.dT (pkV s.g))
 ob:H a.b=a_ (.dT (pkV s.b))
 fg:F a.g=c_
 fb:F a.b=c_
 ng:a.g≠a.b
 xg:a.g∉a.xs
 xb:a.b∉a.xs
section
variable{a:Jad}{s:Jst}
theorem Lj.step(L:Lj K F H a s)(t:A5 F H F' H'):Lj K F' H' a s:=
 ⟨L.c.step t,t.hh _ _ L.tp,t.hh _ _ L.ot,t.hh _ _ L.og,t.hh _ _ L.ob,t.stays L.fg L.og,t.stays L.fb L.ob,L.ng,L.xg,L.xb⟩
theorem Lj.ex(L:Lj K F H a s):∀x∈a.ys,∃o,H x=a_ o:=λx I=>by
 rcases t_.mp I with rfl|I
 ·exact⟨_,L.og⟩
 rcases t_.mp I with rfl|I
 ·exact⟨_,L.ob⟩
 ·obtain⟨_,o,h,_⟩:=L.c.at I;exact⟨o,h⟩
def FX(K:Pn)(F H:Hp)(a:Jad)(r:Bool×Jst)(Q:VK):Prop:=∀F' H',lX a.ys F H F' H'->Lj K F' H' a r.2->Q (.bl r.1) H'
theorem FX.step{r:Bool×Jst}(f:FX K F H a r Q)(L:Lj K F H a s)(t:A5 F H F' H'):FX K F' H' a r Q:=λF2 H2 t2 I=>f F2 H2 (t.toC.trans t2 (L.step t).ex) I
theorem FX.same{r:Bool×Jst}{b:Bool}(f:FX K F H a r Q)(L:Lj K F H a s)(e:(.ok (b,s):M (Bool×Jst))=.ok r):Q (.bl b) H:=by cases e;exact f F H ⟨aL.refl _,λ_ _ _ h=>h,L.c.fh,λ_ _ h=>.inl h⟩ L
theorem Cells.upd0{xs:List g_}{ds:List A3}(c:Cells K F H xs ds){x:g_}{u:HO}(Y:x∉xs)(a:F x=c_):Cells K F (upd H x u) xs ds where
 fh:=λb o h=>by
  have:b≠x:=λz=>by rw[z,a]at h;cases h
  rw[aw this];exact c.fh b o h
 nd:=c.nd
 len:=c.len
 own:=λi y d e1 e2=>by obtain⟨h1,h2⟩:=c.own i y d e1 e2;have I:y≠x:=λz=>Y (by rw[<- z];exact GI e1);obtain⟨_,o,e,p,_,f,_⟩:=h2.top h1;cases e;exact⟨h1,h2.re h1 (aL.refl _) f λo h=>by rw[aw I];exact h⟩
theorem Lj.app(L:Lj K F H a s){j:Nat}{x:g_}{es:List A3}{d:A3}{v:V}{s':Jst}(e1:a.xs[j]?=a_ x)(e2:s.ds[j]?=a_ (.lst es))(f:aT K F d v)(e3:s'.ds=s.ds.set j (.lst (es++[d])))(k:s'.g=s.g)(l:s'.b=s.b):
  ∃ys,H x=a_ (.lst ys)/\ys.length=es.length/\Lj K F (upd H x (.lst (ys++[v]))) a s'/\lX a.ys F H F (upd H x (.lst (ys++[v]))):=by
 obtain⟨ys,c,q⟩:=L.c.lst e1 e2;have i:=GI e1;have g:∀{y:g_} {o:HO},H y=a_ o->(∀Y,o≠.lst Y)->y≠x:=λ{y o} h n z=>by rw[z,c]at h;cases h;exact n _ rfl
 have I:∀{y:g_} {o:HO},H y=a_ o->(∀Y,o≠.lst Y)->upd H x (.lst (ys++[v])) y=a_ o:=λ{y o} h n=>by rw[aw (g h n)];exact h
 have e:=L.c.app (d:=d) (v:=v) e1 c q f;rw[<- e3]at e;refine⟨ys,c,q.length,⟨e,I L.tp (λ_ h=>nomatch h),I L.ot (λ_ h=>nomatch h),by rw[k];exact I L.og (λ_ h=>nomatch h),by rw[l];exact I L.ob (λ_ h=>nomatch h),L.fg,L.fb,L.ng,L.xg,L.xb⟩,?_⟩
 have u:=L.c.updC (.lst (ys++[v])) i;exact⟨u.ff,λb o n h=>u.hh b o (λz=>n (Ga _ (Ga _ z))) h,u.fh,u.nw⟩
theorem Lj.putg(L:Lj K F H a s)(k:p_×p_)(v:Int):Lj K F (upd H a.g (.dT (putK (pkV s.g) (oU k) (.int v)))) a {s with g:=pX s.g k v}/\lX a.ys F H F (upd H a.g (.dT (putK (pkV s.g) (oU k) (.int v)))):=by
 rw[Ef];have I:∀{y:g_} {o:HO},H y=a_ o->y≠a.g->upd H a.g (.dT (pkV (pX s.g k v))) y=a_ o:=λ{y o} h n=>by rw[aw n];exact h
 have c:a.p≠a.g:=λz=>by have h:=L.tp;rw[z,L.og]at h;cases h
 have n2:a.T≠a.g:=λz=>by have h:=L.ot;rw[z,L.og]at h;cases h
 have Y:=L.c.upd0 (u:=.dT (pkV (pX s.g k v))) L.xg L.fg;refine⟨⟨Y,I L.tp c,I L.ot n2,aq,I L.ob (Gv L.ng),L.fg,L.fb,L.ng,L.xg,L.xb⟩,aL.refl _,λb o n h=>I h (λz=>n (by rw[z];exact GF ..)),Y.fh,λ_ _ h=>.inl h⟩
theorem Lj.putb(L:Lj K F H a s)(k:p_×p_)(v:Int):Lj K F (upd H a.b (.dT (putK (pkV s.b) (oU k) (.int v)))) a {s with b:=pX s.b k v}/\lX a.ys F H F (upd H a.b (.dT (putK (pkV s.b) (oU k) (.int v)))):=by
 rw[Ef];have I:∀{y:g_} {o:HO},H y=a_ o->y≠a.b->upd H a.b (.dT (pkV (pX s.b k v))) y=a_ o:=λ{y o} h n=>by rw[aw n];exact h
 have c:a.p≠a.b:=λz=>by have h:=L.tp;rw[z,L.ob]at h;cases h
 have n2:a.T≠a.b:=λz=>by have h:=L.ot;rw[z,L.ob]at h;cases h
 have Y:=L.c.upd0 (u:=.dT (pkV (pX s.b k v))) L.xb L.fb;refine⟨⟨Y,I L.tp c,I L.ot n2,I L.og L.ng,aq,L.fg,L.fb,L.ng,L.xg,L.xb⟩,aL.refl _,λb o n h=>I h (λz=>n (by rw[z];exact Ga _ (GF ..))),Y.fh,λ_ _ h=>.inl h⟩
end
noncomputable def eJ(s:Jst)(ws:List A3)(r:List (Option A3)):ah:=[c_,a_ (.lst ws),a_ (.lst s.dk),c_,a_ (.lst s.dn),a_ (.lst s.df),a_ (.lst s.dc)]++r
noncomputable def eW(ws:List A3)(r:List (Option A3)):ah:=[c_,a_ (.lst ws),c_,c_,c_,c_,c_]++r
noncomputable def sJ(a:Jad)(vw:V)(τ:St):St:=[a_ (.ref a.p),a_ vw,a_ (.ref a.k),a_ (.ref a.T),a_ (.ref a.n),a_ (.ref a.f),a_ (.ref a.c)]++τ
def okJ(n:Nat)(x:Bool×Jst):M (Bool×Jst):=if n<f_ then .ok x else stk
def putJ(s:Jst):A3->A3->A3->A3->M (Bool×Jst)
 |.int v,.str w,.str x,.str y=>if w="gap" then okJ s.g.length (d_,{s with g:=pX s.g (x,y) v})else if w="beside" then okJ s.b.length (d_,{s with b:=pX s.b (x,y) v})else stk
 |_,_,_,_=>stk
def oneD(t1 t2 t3 t4 t5 t6 t7 t8 t9 t10:ah->M Bool)(a1 fg w0 w1 w2 fs fe fc fn a9 fl:ah->M A3)(s:Jst)(ws:List A3):M (Bool×Jst):=
 let I:List (Option A3):=[c_,c_,c_,c_]
 (t1 (eJ s ws I)).bind λb=>if b=d_ then(t2 (eJ s ws I)).bind λb=>if b=d_ then .ok (b_,s)else(a1 (eW ws I)).bind λd=>okJ s.dk.length (d_,{s with dk:=s.dk++[d]})else
 (t3 (eJ s ws I)).bind λb=>if b=d_ then(fg (eW ws I)).bind λa=>(t4 (eJ s ws [a_ a,c_,c_,c_])).bind λb=>if b=d_ then .ok (b_,s)else
  (w0 (eW ws [a_ a,c_,c_,c_])).bind λx=>(w1 (eW ws [a_ a,c_,c_,c_])).bind λy=>(w2 (eW ws [a_ a,c_,c_,c_])).bind λz=>putJ s a x y z else
 (t5 (eJ s ws I)).bind λb=>if b=d_ then(fs (eW ws I)).bind λc=>(fe (eW ws [c_,a_ c,c_,c_])).bind λe=>(t6 (eJ s ws [c_,a_ c,a_ e,c_])).bind λb=>if b=d_ then .ok (b_,s)else
  (fc (eW ws [c_,a_ c,a_ e,c_])).bind λd=>okJ s.dc.length (d_,{s with dc:=s.dc++[d]})else
 (t7 (eJ s ws I)).bind λb=>if b=d_ then .ok (b_,s)else
 (fn (eW ws I)).bind λdn=>let Y:List (Option A3):=[c_,c_,c_,a_ dn]
 (t8 (eJ s ws Y)).bind λb=>if b=d_ then .ok (b_,s)else
 (t9 (eJ s ws Y)).bind λb=>if b=d_ then .ok (b_,s)else
 (t10 (eJ s ws Y)).bind λb=>if b=d_ then .ok (b_,s)else
 (a9 (eW ws Y)).bind λnm=>(fl (eJ {s with dn:=s.dn++[nm]} ws Y)).bind λd=>if (gL d&&q_ (s.dn.length<f_))=d_ then okJ s.df.length (d_,{s with dn:=s.dn++[nm],df:=s.df++[d]})else stk
def tSetD(K:Pn)(i:Nat)(f:ah->M A3):TS:=λD σ H=>tD K C' b_ f σ H λv H'=>D.nx (σ.set i (a_ v)) H'
section
variable{a:Jad}{s:Jst}{τ:St}{r:List (Option A3)}{z:Bool×Jst}{D:Ends}
theorem dM.put{d:A3}(q:dM K F σ ρ)(e:σ[i]?=a_ (a_ v))(h:aT K F d v):dM K F σ (ρ.set i (a_ d)):=q.tell e h
theorem Lj.full(L:Lj K F H a s)(q:dM K F (sJ a vw τ) (eW ws r)):dM K (plus F H (·∈a.xs)) (sJ a vw τ) (eJ s ws r):=by have b:=(q.mono L.c.ff).put (i:=2) (v:=.ref a.k) rfl (L.c.deep (j:=0) rfl rfl);have Y:=b.put (i:=4) (v:=.ref a.n) rfl (L.c.deep (j:=1) rfl rfl);have I:=Y.put (i:=5) (v:=.ref a.f) rfl (L.c.deep (j:=2) rfl rfl);exact I.put (i:=6) (v:=.ref a.c) rfl (L.c.deep (j:=3) rfl rfl)
theorem Lj.ask(L:Lj K F H a s)(q:dM K F (sJ a vw τ) (eW ws r)){t:ah->M Bool}{f:Bool->M (Bool×Jst)}(e:(t (eJ s ws r)).bind f=.ok z)(I:FX K F H a z Q){T:TS}(Y:∀F1 H1,Lj K F1 H1 a s->dM K F1 (sJ a vw τ) (eW ws r)->FX K F1 H1 a z Q->f d_=.ok z->T D (sJ a vw τ) H1)(i:∀F1 H1,Lj K F1 H1 a s->dM K F1 (sJ a vw τ) (eW ws r)->FX K F1 H1 a z Q->f b_=.ok z->U D (sJ a vw τ) H1):nG (tDT K C' t) T U D (sJ a vw τ) H:=by
 obtain⟨b,d,e⟩:=bind_eq e;refine i7 (L.full q) L.c.zh (λj h=>by rw[d]at h;cases h) λk c F1 H1 g=>?_;rw[d]at c;cases c;have S:=L.c.back g;cases b with
 |true=>exact Y _ H1 (L.step S) (q.mono S.ff) (I.step L S) e|false=>exact i _ H1 (L.step S) (q.mono S.ff) (I.step L S) e
theorem Lj.val(L:Lj K F H a s)(q:dM K F (sJ a vw τ) (eW ws r)){g:ah->M A3}{f:A3->M (Bool×Jst)}(e:(g (eW ws r)).bind f=.ok z)(I:FX K F H a z Q){R:VK}(c:∀d v F1 H1,Lj K F1 H1 a s->dM K F1 (sJ a vw τ) (eW ws r)->FX K F1 H1 a z Q->aT K F1 d v->f d=.ok z->R v H1):tD K C' b_ g (sJ a vw τ) H R:=by obtain⟨d,Y,e⟩:=bind_eq e;refine aP q L.c.fh (λi h=>by rw[Y]at h;cases h) λd' hd v F1 H1 S b=>?_;rw[Y]at hd;cases hd;exact c d v F1 H1 (L.step S) (q.mono S.ff) (I.step L S) b e
theorem putJ_ok{Y I:A3}(e:putJ s d1 d2 Y I=.ok z):∃(v:Int) (w x y:p_),d1=.int v/\d2=.str w/\Y=.str x/\I=.str y/\((w="gap"/\okJ s.g.length (d_,{s with g:=pX s.g (x,y) v})=.ok z)\/(w="beside"/\okJ s.b.length (d_,{s with b:=pX s.b (x,y) v})=.ok z)):=by
 unfold putJ at e;split at e
 ·rename_i v w x y;refine⟨v,w,x,y,rfl,rfl,rfl,rfl,?_⟩
  split at e
  ·rename_i h;exact .inl ⟨h,e⟩
  ·split at e
   ·rename_i h;exact .inr ⟨h,e⟩
   ·cases e
 ·cases e
theorem wX{x:Bool×Jst}(e:okJ n x=.ok z):n<f_/\z=x:=by
 unfold okJ at e;split at e
 ·cases e;exact⟨by assumption,rfl⟩
 ·cases e
theorem Lj.add(L:Lj K F H a s){j:Nat}{x:g_}{es:List A3}{d:A3}{s':Jst}(I:σ[i]?=a_ (a_ (.ref x)))(e1:a.xs[j]?=a_ x)(e2:s.ds[j]?=a_ (.lst es))(e3:s'.ds=s.ds.set j (.lst (es++[d])))(l:s'.g=s.g)(m:s'.b=s.b)(h:es.length<f_)(g:∀R:VK,(∀v F1 H1,A5 F H F1 H1->aT K F1 d v->R v H1)->te σ H R)(k:∀F1 H1,lX a.ys F H F1 H1->Lj K F1 H1 a s'->U D σ H1):dO (pI (tBM K "list" jl (bV i) (aR te dP))) U D σ H:=by
 obtain⟨b,Y,_⟩:=L.c.lst e1 e2;refine⟨.ref x,I,iG Y,g _ λv F1 H1 S c=>?_⟩
 obtain⟨ys,f,e,o,n⟩:=(L.step S).app e1 e2 c e3 l m;exact⟨x,ys,v,rfl,rfl,f,by rw[e];exact h,k F1 _ (S.toC.trans n (L.step S).ex) o⟩
theorem Aq{a:Jad}(h:H a.T=a_ (.dK (tabs a))):yj H a.T (.str "gap") (a_ (.ref a.g)):=by
 have:vz (tabs a) (.inr "gap")=a_ (.ref a.g):=by unfold tabs;exact m5 rfl
 rw[<- this];exact yj.k (k:=.inr "gap") h
theorem lg{a:Jad}(h:H a.T=a_ (.dK (tabs a))):yj H a.T (.str "beside") (a_ (.ref a.b)):=by
 have:vz (tabs a) (.inr "beside")=a_ (.ref a.b):=by unfold tabs;rw[m7 (by show ¬(Jc (o_ "gap"):Key)=Jc (o_ "beside");decide +kernel)];exact m5 rfl
 rw[<- this];exact yj.k (k:=.inr "beside") h
end
def spOne(K:Pn)(m:Jst->List A3->M (Bool×Jst)):Sp:=λvs H Q _=>∃(a:Jad) (F:Hp) (s:Jst) (ws:List A3) (vw:V) (r:Bool×Jst),vs=[.ref a.p,vw]/\Lj K F H a s/\aT K F (.lst ws) vw/\m s ws=.ok r/\FX K F H a r Q
theorem len_one{m:Jst->List A3->M (Bool×Jst)}(h:spOne K m vs H Q E):vs.length=2:=by obtain⟨_,_,_,_,_,_,rfl,_⟩:=h;rfl
section
variable{t2 t6 t7 t8 t9 t10:ah->M Bool}{a1 fg w0 w1 w2 fs fn a9 fl:ah->M A3}
noncomputable def nOne:List p_:=["_law_state","_law_words_here","_law_kinds","_law_tables","_law_names","_law_flights","_law_closed","_law_gap_here","_law_start","_law_stop","_law_numbers"]
abbrev rNo:TS:=rG (tC (.bl b_))
abbrev rYes:TS:=rG (tC (.bl d_))
abbrev tAppJ(K:Pn)(i:Nat)(f:ah->M A3):TS:=pI (tBM K "list" jl (bV i) (aR (tD K C' b_ f) dP))
theorem rs_one(h:spOne K (oneD t1 t2 t3 t4 t5 t6 t7 t8 t9 t10 a1 fg w0 w1 w2 fs fe fc fn a9 fl) vs H Q E):
  dO (pK (bV 0) (gTup K 5 (kL (cu 2) (kL (cu 3) (kL (cu 4) (kL (cu 5) (kL (cu 6) gNil)))))))
  (dO (nG (tDT K C' t1) (dO (nG (tDT K C' t2) rNo gJ) (dO (tAppJ K 2 a1) rYes)) gJ)
  (dO (nG (tDT K C' t3) (dO (pK (tD K C' b_ fg) (cu 7)) (dO (nG (tDT K C' t4) rNo gJ) (dO (sDPut (tDGet (bV 3) (tD K C' b_ w0)) (tTup (aR (tD K C' b_ w1) (aR (tD K C' b_ w2) dP))) (bV 7)) rYes))) gJ)
  (dO (nG (tDT K C' t5) (dO (pK (tD K C' b_ fs) (cu 8)) (dO (pK (tD K C' b_ fe) (cu 9)) (dO (nG (tDT K C' t6) rNo gJ) (dO (tAppJ K 6 fc) rYes)))) gJ)
  (dO (nG (tDT K C' t7) rNo gJ)
  (dO (tSetD K 10 fn)
  (dO (nG (tDT K C' t8) rNo gJ)
  (dO (nG (tDT K C' t9) rNo gJ)
  (dO (nG (tDT K C' t10) rNo gJ)
  (dO (tAppJ K 4 a9)
  (dO (tAppJ K 5 fl) rYes)))))))))) {nx:=λ_ H'=>Q .non H',rt:=Q} (start nOne vs) H:=by
 obtain⟨a,F,s,ws,vw,z,rfl,L,qw,e,I⟩:=h;refine⟨.ref a.p,rfl,a.p,_,rfl,SqT.of L.tp,rfl,_,_,rfl,_,_,rfl,_,_,rfl,_,_,rfl,_,_,rfl,rfl,?_⟩
 have q:dM K F (sJ a vw [c_,c_,c_,c_]) (eW ws [c_,c_,c_,c_]):=dM.only (σ:=sJ a vw [c_,c_,c_,c_]) (i:=1) rfl qw;show dO _ _ _ (sJ a vw [c_,c_,c_,c_]) H;unfold oneD at e;dsimp only at e;refine L.ask q e I (λF L' L q I e=>?_) (λF H L q I e=>?_)
 ·rw[e_ rfl]at e;refine L.ask q e I (λF H L q I e=>?_) (λF H L q I e=>?_)
  ·rw[e_ rfl]at e;exact I.same L e
  ·rw[k_ (by decide)]at e;obtain⟨d,g,e⟩:=bind_eq e;obtain⟨f,rfl⟩:=wX e;refine L.add (i:=2) (j:=0) (d:=d) rfl rfl rfl (s':={s with dk:=s.dk++[d]}) rfl rfl rfl f (λR m=>aP q L.c.fh (λu h=>by rw[g]at h;cases h) λd' hd v F1 H1 S l=>?_) λF1 H1 S Y=>I F1 H1 S Y;rw[g]at hd;cases hd;exact m v F1 H1 S l
 rw[k_ (by decide)]at e;refine L.ask q e I (λF H L q I e=>?_) (λF H L q I e=>?_)
 ·rw[e_ rfl]at e;refine L.val q e I λD k F H L q I q7 e=>?_;have q:dM K F (sJ a vw [a_ k,c_,c_,c_]) (eW ws [a_ D,c_,c_,c_]):=q.set q7 7;refine L.ask q e I (λF H L q I e=>?_) (λF H L q I e=>?_)
  ·rw[e_ rfl]at e;exact I.same L e
  ·rw[k_ (by decide)]at e;refine⟨k,rfl,.ref a.T,rfl,L.val q e I λdw G F H L q I O e=>?_⟩
   have key:∀(x y:p_) (o:g_) (F H:Hp),Lj K F H a s->dM K F (sJ a vw [a_ k,c_,c_,c_]) (eW ws [a_ D,c_,c_,c_])->w1 (eW ws [a_ D,c_,c_,c_])=.ok (.str x)->w2 (eW ws [a_ D,c_,c_,c_])=.ok (.str y)->(∀F1 H1 q,Lj K F1 H1 a s->A5 F H F1 H1->H1 q=a_ (.tup ((oU (x,y)).map kV))->∃A C,V.ref o=V.ref A/\DPut H1 A (.ref q) k C/\Q (.bl d_) C) ->
     tTup (aR (tD K C' b_ w1) (aR (tD K C' b_ w2) dP)) (sJ a vw [a_ k,c_,c_,c_]) H λy' H3=>∃A C,V.ref o=V.ref A/\DPut H3 A y' k C/\Q (.bl d_) C:=λx y o F H L q e1 e2 go=>by
    refine aP q L.c.fh (λu h=>by rw[e1]at h;cases h) λd1 r u1 F1 H1 c T=>?_;rw[e1]at r;cases r;cases(show u1=V.str x from T);refine aP (q.mono c.ff) c.fh (λu h=>by rw[e2]at h;cases h) λd2 p u2 F2 H2 b P=>?_;rw[e2]at p;cases p;cases(show u2=V.str y from P);refine⟨by rw[C_];show 2<=16777216;decide,λt n=>?_⟩
    have S3:A5 F H F2 (upd H2 t (.tup [.str x,.str y])):=(c.trans b).trans (A5.grow b.fh n);exact go F2 _ t (L.step S3) S3 aq
   obtain⟨dx,ex,e⟩:=bind_eq e;obtain⟨dy,ey,e⟩:=bind_eq e;obtain⟨i,w,x,y,rfl,rfl,rfl,rfl,e9⟩:=putJ_ok e;clear e;cases(show k=V.int i from by obtain⟨v,h1,h2⟩:=q.sl 7 _ rfl;cases h1;exact h2)
   have X:G=V.str w:=O;subst X;rcases e9 with⟨rfl,Z⟩|⟨rfl,Z⟩
   ·obtain⟨f,rfl⟩:=wX Z;refine⟨a.T,.ref a.g,rfl,Aq L.ot,key x y a.g F H L q ex ey λF1 H1 t Y c n=>?_⟩
    obtain⟨B,b⟩:=Y.putg (x,y) i;exact⟨a.g,_,rfl,DPut.t Y.og n (by rw[Eg];exact f),I F1 _ (c.toC.trans b Y.ex) B⟩
   ·obtain⟨f,rfl⟩:=wX Z;refine⟨a.T,.ref a.b,rfl,lg L.ot,key x y a.b F H L q ex ey λF1 H1 t Y c n=>?_⟩
    obtain⟨B,b⟩:=Y.putb (x,y) i;exact⟨a.b,_,rfl,DPut.t Y.ob n (by rw[Eg];exact f),I F1 _ (c.toC.trans b Y.ex) B⟩
 rw[k_ (by decide)]at e;refine L.ask q e I (λF H L q I e=>?_) (λF H L q I e=>?_)
 ·rw[e_ rfl]at e;refine L.val q e I λd8 v8 F H L q I q8 e=>?_;have q:dM K F (sJ a vw [c_,a_ v8,c_,c_]) (eW ws [c_,a_ d8,c_,c_]):=q.set q8 8;refine L.val q e I λd9 v9 F H L q I q9 e=>?_;have q:dM K F (sJ a vw [c_,a_ v8,a_ v9,c_]) (eW ws [c_,a_ d8,a_ d9,c_]):=q.set q9 9;refine L.ask q e I (λF H L q I e=>?_) (λF H L q I e=>?_)
  ·rw[e_ rfl]at e;exact I.same L e
  ·rw[k_ (by decide)]at e;obtain⟨d,g,e⟩:=bind_eq e;obtain⟨f,rfl⟩:=wX e;refine L.add (i:=6) (j:=3) (d:=d) rfl rfl rfl (s':={s with dc:=s.dc++[d]}) rfl rfl rfl f (λR m=>aP q L.c.fh (λu h=>by rw[g]at h;cases h) λd' hd v F1 H1 S l=>?_) λF1 H1 S Y=>I F1 H1 S Y;rw[g]at hd;cases hd;exact m v F1 H1 S l
 rw[k_ (by decide)]at e;refine L.ask q e I (λF H L q I e=>?_) (λF H L q I e=>?_)
 ·rw[e_ rfl]at e;exact I.same L e
 rw[k_ (by decide)]at e;refine L.val q e I λdn N F H L q I U e=>?_;have q:dM K F (sJ a vw [c_,c_,c_,a_ N]) (eW ws [c_,c_,c_,a_ dn]):=q.set U 10;refine L.ask q e I (λF H L q I e=>?_) (λF H L q I e=>?_)
 ·rw[e_ rfl]at e;exact I.same L e
 rw[k_ (by decide)]at e;refine L.ask q e I (λF H L q I e=>?_) (λF H L q I e=>?_)
 ·rw[e_ rfl]at e;exact I.same L e
 rw[k_ (by decide)]at e;refine L.ask q e I (λF H L q I e=>?_) (λF H L q I e=>?_)
 ·rw[e_ rfl]at e;exact I.same L e
 rw[k_ (by decide)]at e;obtain⟨nm,en,e⟩:=bind_eq e;obtain⟨d,g,e⟩:=bind_eq e;split at e
 rotate_left
 ·cases e
 rename_i W;rw[l_,Gd]at W;obtain⟨f,rfl⟩:=wX e;refine L.add (i:=4) (j:=1) (d:=nm) rfl rfl rfl (s':={s with dn:=s.dn++[nm]}) rfl rfl rfl W.2 (λR m=>aP q L.c.fh (λu h=>by rw[en]at h;cases h) λd' hd v F1 H1 S l=>?_) λF1 H1 c Y=>?_
 ·rw[en]at hd;cases hd;exact m v F1 H1 S l
 ·have q1:=q.mono c.ff;refine Y.add (i:=5) (j:=2) (d:=d) rfl rfl rfl (s':={s with dn:=s.dn++[nm],df:=s.df++[d]}) rfl rfl rfl f (λR m=>aP (Y.full q1) Y.c.zh (λu h=>by rw[g]at h;cases h) λd' hd v F2 H2 b l=>?_) λF2 H2 b B=>I F2 H2 (c.trans b Y.ex) B;rw[g]at hd;cases hd;exact m v _ H2 (Y.c.back b) (Y.c.flat b W.1 l)
end
theorem eq_sz{E:Mq}{Q:Mq}{Y I:J_}{es fs:Array M6}(e:(a==G6)=b_)(d:(b==G6)=b_)(h1:s.heap.get? a=a_ Y)(h2:Y.ExactDict)(g:Y.data=.dict es ep)(c:s.heap.get? b=a_ I)(g2:I.ExactDict)(j:I.data=.dict fs ep')(k:fs.toList=[])(f:A.units<Hw)(h:Q (.bool es.toList.isEmpty) s):Cb (D_ prog w) A (Gk .Eq (.ref a) (.ref b)) Q E s:=by
 obtain⟨es⟩:=es;obtain⟨fs⟩:=fs;cases(show fs=[]from k);cases es with
 |nil=>exact Ng e d (show s.heap.DictOf (Lh prog w) a []from⟨Y,_,ep,h1,h2,g,λi hi=>Gb hi (by simp),.nil,.nil⟩) (show s.heap.DictOf (Lh prog w) b []from⟨I,_,ep',c,g2,j,λi hi=>Gb hi (by simp),.nil,.nil⟩) f (λ_=>.nil) h|cons x xs=>
  have ta:s.TypeIs (.ref a) "dict":=⟨Y,h1,h2.1⟩
  have tb:s.TypeIs (.ref b) "dict":=⟨I,c,g2.1⟩
  refine L7 (op:=.Eq) ta tb Jh (Kc Jh ta LN ?_ (LD _ _)) f;refine(show Cb _ _ (IE "__eq__" ⟨[.ref a,.ref b],[]⟩ >>= _) _ _ s from h_ (by unfold IE;refine h_ (Nn ta (show Cb _ _ (Hq (FZ a,FZ b)) _ _ s from z_ (h_ (Ou (T:="dict") tb LM ?_))));simp only[NZ,KC,MH];refine h_ (z_ (h_ (z_ (h_ ?_))));unfold K4 K_;rw[k_ (by rw[e];decide),k_ (by rw[d];decide)];refine h_ (z_ (h_ (z_ (h_ (J6 h1 g (h_ (J6 c j ?_)))))));rw[e_ (by simp)];refine h_ (wpAny_rule (z_ (z_ ⟨_,rfl,(λx=>nomatch x),?_⟩)));simpa using h))
noncomputable def rEqT:R2:=λx y H Q=>∃a b A7,x=.ref a/\y=.ref b/\H a=a_ (.dT A7)/\H b=a_ (.dT [])/\Q (.bl A7.isEmpty) H
theorem op_eqT(t:X.A.units+64<Hw):OpR X (Gk .Eq) rEqT:=by
 intro A4 s σ H y x u v Q I Y c h;obtain⟨a,b,A7,rfl,rfl,n,m,q⟩:=h;cases(show u=FZ a from Y);cases(show v=FZ b from c);obtain⟨_,f,xs,r,p,es,ep,h1,h2,i,g,_⟩:=dt_of I.hok n;obtain⟨_,d,ys,r',o,fs,ep',l,g2,k,j,_⟩:=dt_of I.hok m;cases r';refine eq_sz f d h1 h2 i l g2 k j (by omega) ⟨.bl _,H,I,rfl,?_⟩;have e:es.toList.isEmpty=A7.isEmpty:=by rw[g];have:=r.length;cases xs<;>cases A7<;>simp_all
 rw[e];exact q
noncomputable def eT(x:p_):ah:=[a_ (.str x),c_,c_,c_,c_,c_,c_,c_,c_,c_,c_,c_]
noncomputable def eK(rows:List A3)(k:Nat)(w:Option A3):ah:=[c_,c_,a_ (.lst rows),a_ (.int k),w,c_,c_,c_,c_,c_,c_,c_]
noncomputable def eM(s:Jst)(I:Option A3):ah:=[c_,c_,c_,c_,c_,a_ (.lst s.dk),c_,a_ (.lst s.dn),a_ (.lst s.df),a_ (.lst s.dc),I,c_]
def oY(m1:Jst->List A3->M (Bool×Jst))(fw fr:ah->M A3)(f1 f2:ah->M Bool)(rows:List A3):Nat->Nat->Jst->M (Sum A3 Jst)
 |0,_,s=>.ok (.inr s)|m+1,k,s=>(fw (eK rows k c_)).bind λw=>match w with
  |.lst ws=>(f1 (eK rows k (a_ (.lst ws)))).bind λb=>if b=d_ then(f2 (eK rows k (a_ (.lst ws)))).bind λb=>if b=d_ then(m1 s ws).bind λr=>if r.1=d_ then oY m1 fw fr f1 f2 rows m (k+1) r.2 else(fr (eK rows k (a_ (.lst ws)))).bind λd=>.ok (.inl d)
   else oY m1 fw fr f1 f2 rows m (k+1) s else oY m1 fw fr f1 f2 rows m (k+1) s
  |_=>stk
def rowJ(ks:PKs)(ns:List p_)(x:p_):A3:=.lst (ns.map λy=>.int ((yn ks (x,y)).getD 0))
def tabJ(ks:PKs)(ns:List p_):A3:=.lst (ns.map (rowJ ks ns))
def zu(s:Jst)(ns:List p_):List A3:=[tabJ s.g ns,if s.b.isEmpty=d_ then .non else tabJ s.b ns]
noncomputable def s0J:Jst:=⟨[],[],[],[],[],[]⟩
def tf(m1:Jst->List A3->M (Bool×Jst))(f0 fw fr f8:ah->M A3)(f1 f2 f4:ah->M Bool)(x:p_):M A3:=(f0 (eT x)).bind λd=>match d with
 |.lst rows=>if rows.length<=f_ then(oY m1 fw fr f1 f2 rows rows.length 0 s0J).bind λr=>match r with
  |.inl d=>.ok d|.inr s=>(f4 (eM s c_)).bind λb=>if b=d_ then .ok (.int 0)else(gA s.dk).bind λns=>if ns.length<=f_ then f8 (eM s (a_ (.lst (zu s ns))))else stk
  else stk
 |_=>stk
def sJud0(ρ:ah):M p_:=match ρ.head? with
 |some (a_ (.str x))=>.ok x|_=>stk
theorem sJud1(h:sJud0 ρ=.ok x):ρ[0]?=a_ (a_ (.str x)):=by
 unfold sJud0 at h;cases e:ρ.head? with
 |none=>rw[e]at h;cases h|some o=>
  rw[e]at h;cases o with
  |none=>cases h|some d=>cases d<;>first|(cases h;rw[<- List.head?_eq_getElem?];exact e)|cases h
def Ay(m1:Jst->List A3->M (Bool×Jst))(f0 fw fr f8:ah->M A3)(f1 f2 f4:ah->M Bool):ah->M A9:=λρ=>if ρ.length=12 then(sJud0 ρ).bind λx=>(tf m1 f0 fw fr f8 f1 f2 f4 x).bind λd=>.ok (.rt d)else stk
abbrev Dt:TE:=tTup (aR (Ar dP) (aR (tDisp [(tC (.str "gap"),Au),(tC (.str "beside"),Au)]) (aR (Ar dP) (aR (Ar dP) (aR (Ar dP) dP)))))
section
variable{R:VK}
theorem zt(a:Jad):ou [] [((.inr "gap":Key),V.ref a.g),(.inr "beside",.ref a.b)]=tabs a:=by show putK (putK [] (Jc "gap":Key) (V.ref a.g)) (Jc "beside":Key) (V.ref a.b)=_;rw[AK (V.ref a.g) Al,AK (V.ref a.b) (by rw[Lb,m7 (by show ¬(Jc (o_ "gap"):Key)=Jc (o_ "beside");decide +kernel)];exact Al)];rfl
theorem rd_state(s:aL F H)(h:∀(a:Jad) (H':Hp),A5 F H F H'->(∀x∈a.ys,H x=c_)->Lj K F H' a s0J->R (.ref a.p) H'):Dt σ H R:=by
 have z0:(0:Nat)<=f_:=GS _;refine⟨z0,λk nk=>λT nT=>λg ng=>λb L=>?_⟩
 generalize Z:upd H k (HO.lst [])=H1 at *;generalize X:upd H1 T (HO.dK [])=H2 at *;generalize W:upd H2 g (HO.dT [])=H3 at *;generalize U:upd H3 b (HO.dT [])=H4 at *;have k1:H1 k=a_ (.lst []):=by rw[<- Z];exact aq
 have r:∀{A B:Hp} {x:g_} {o:HO},upd A x o=B->A x=c_->aL A B:=λ{A B x o} e n c u N=>by rw[<- e,aw (λz=>by rw[z,n]at N;cases N)];exact N
 have S1:aL H H1:=r Z nk;have D:aL H1 H2:=r X nT;have C:aL H2 H3:=r W ng;have S4:aL H3 H4:=r U L;have T2:H2 T=a_ (.dK []):=by rw[<- X];exact aq
 have g3:H3 g=a_ (.dT []):=by rw[<- W];exact aq
 have b4:H4 b=a_ (.dT []):=by rw[<- U];exact aq
 have T4:H4 T=a_ (.dK []):=S4 _ _ (C _ _ T2);refine⟨T4,[(.inr "gap",.ref g),(.inr "beside",.ref b)],rfl,by show 2<=15;decide,?_⟩
 generalize S:upd H4 T (HO.dK (ou [] [((.inr "gap":Key),V.ref g),(.inr "beside",.ref b)]))=q at *;have T5:q T=a_ (.dK (ou [] [((.inr "gap":Key),V.ref g),(.inr "beside",.ref b)])):=by rw[<- S];exact aq
 have S5:∀x o,x≠T->H4 x=a_ o->q x=a_ o:=λx o n l=>by rw[<- S,aw n];exact l
 refine⟨z0,λn G=>⟨z0,λf w=>⟨z0,λc t=>⟨by rw[C_];show 5<=16777216;decide,λp np=>?_⟩⟩⟩⟩
 generalize Q:upd q n (HO.lst [])=H6 at *;generalize P:upd H6 f (HO.lst [])=H7 at *;generalize O:upd H7 c (HO.lst [])=E at *;have m:aL q H6:=r Q G;have v:aL H6 H7:=r P w;have S8:aL H7 E:=r O t;have S9:aL E (upd E p (.tup [.ref k,.ref T,.ref n,.ref f,.ref c])):=r rfl np;have I:∀{A:Hp} {x y:g_} {o:HO},A x=a_ o->A y=c_->x≠y:=λ{A x y o} h1 h2 z=>by rw[z,h2]at h1;cases h1
 have kT:k≠T:=I k1 nT;have k5:q k=a_ (.lst []):=S5 _ _ kT (S4 _ _ (C _ _ (D _ _ k1)));have gT:g≠T:=λz=>I T2 ng z.symm;have bT:b≠T:=λz=>I (C _ _ T2) L z.symm;have g5:q g=a_ (.dT []):=S5 _ _ gT (S4 _ _ g3);have b5:q b=a_ (.dT []):=S5 _ _ bT b4;have n6:H6 n=a_ (.lst []):=by rw[<- Q];exact aq
 have f7:H7 f=a_ (.lst []):=by rw[<- P];exact aq
 have c8:E c=a_ (.lst []):=by rw[<- O];exact aq
 have Y:aL q (upd E p (.tup [.ref k,.ref T,.ref n,.ref f,.ref c])):=((m.trans v).trans S8).trans S9;have i:aL H q:=λx o l=>S5 x o (λz=>by have hz:=S1 _ _ l;rw[z,nT]at hz;cases hz) (S4 _ _ (C _ _ (D _ _ (S1 _ _ l))));have fr:∀{A:Hp} {x:g_},aL H A->A x=c_->H x=c_:=λ{A x} hs l=>hs.free l;have hk:H k=c_:=nk;have hg:H g=c_:=fr (S1.trans D) ng;have hb:H b=c_:=fr ((S1.trans D).trans C) L;have hn:H n=c_:=fr i G;have hf:H f=c_:=fr (i.trans m) w;have N:H c=c_:=fr ((i.trans m).trans v) t;have knf:k≠n:=I k5 G;have kf:k≠f:=I (m _ _ k5) w;have kc:k≠c:=I (v _ _ (m _ _ k5)) t;have nf':n≠f:=I n6 w;have nc':n≠c:=I (v _ _ n6) t;have fc':f≠c:=I f7 t;have gn:g≠n:=I g5 G;have gf:g≠f:=I (m _ _ g5) w;have gc:g≠c:=I (v _ _ (m _ _ g5)) t;have bn:b≠n:=I b5 G;have bf:b≠f:=I (m _ _ b5) w;have bc:b≠c:=I (v _ _ (m _ _ b5)) t;have gk:g≠k:=λz=>I (D _ _ k1) ng z.symm;have bk:b≠k:=λz=>I (C _ _ (D _ _ k1)) L z.symm;have gb:g≠b:=I g3 L;have SH:aL H (upd E p (.tup [.ref k,.ref T,.ref n,.ref f,.ref c])):=i.trans Y;have all:∀x∈Jad.ys ⟨p,T,g,b,k,n,f,c⟩,H x=c_:=λx l=>by simp only[Jad.ys,Jad.xs,t_,G4,Jr]at l;rcases l with rfl|rfl|rfl|rfl|rfl|rfl<;>assumption
 refine h ⟨p,T,g,b,k,n,f,c⟩ _ (A5.same s SH) all ?_;refine⟨⟨s.trans SH,?_,rfl,λj x d e1 e2=>?_⟩,aq,?_,Y _ _ g5,Y _ _ b5,s.free hg,s.free hb,gb,?_,?_⟩
 ·simp only[Jad.xs,IW,t_,G4,Jr,Mb,not_false_eq_true,Kg,and_true];exact⟨⟨knf,kf,kc⟩,⟨nf',nc'⟩,fc'⟩
 ·have k9:=Y _ _ k5;have n9:=S9 _ _ (S8 _ _ (v _ _ n6));have f9:=S9 _ _ (S8 _ _ f7);have c9:=S9 _ _ c8;rcases j with _|_|_|_|j
  ·cases e1;cases e2;exact⟨rfl,_,[],rfl,k9,s.free hk,rfl,rfl⟩
  ·cases e1;cases e2;exact⟨rfl,_,[],rfl,n9,s.free hn,rfl,rfl⟩
  ·cases e1;cases e2;exact⟨rfl,_,[],rfl,f9,s.free hf,rfl,rfl⟩
  ·cases e1;cases e2;exact⟨rfl,_,[],rfl,c9,s.free N,rfl,rfl⟩
  ·simp[Jad.xs]at e1
 ·rw[<- zt];exact Y _ _ T5
 ·simp only[Jad.xs,t_,G4,Jr,Mb];exact⟨gk,gn,gf,gc⟩
 ·simp only[Jad.xs,t_,G4,Jr,Mb];exact⟨bk,bn,bf,bc⟩
end
abbrev tGet1:TE:=tDGet2 (tDGet (bV 2) (bV 3)) (tTup (aR (bV 1) (aR (bV 0) dP))) (tC (.int 0))
abbrev tRowJ(K:Pn):TE:=tComp (iList K (bV 1)) [c_,a_ 0,a_ 2,a_ 3] (cu 0) tYes tGet1
abbrev tTabJ(K:Pn):TE:=tComp (iList K (bV 5)) [c_,a_ 5,a_ 6,a_ 11] (cu 0) tYes (tRowJ K)
section
variable{a:Jad}{s:Jst}{R:VK}{k T o:g_}{ns:List p_}{ks:PKs}{w:p_}
theorem tL(f:p_->Int):∀ns:List p_,aE K F (ns.map λy=>A3.int (f y)) (ns.map λy=>V.int (f y))
 |[]=>rfl|_::ns=>⟨_,_,rfl,rfl,tL f ns⟩
theorem rd_rowJ(c:aL F H)(d:SqL K F k (ns.map V.str))(m:ns.length<=f_)(h:∀H',aL H H'->yj H' T (.str w) (a_ (.ref o)))(hd:H o=a_ (.dT (pkV ks)))(j:∀v F' H',A5 F H F' H'->aT K F' (rowJ ks ns x) v->R v H'):
  tRowJ K [a_ (.str x),a_ (.ref k),a_ (.ref T),a_ (.str w)] H R:=by
 refine⟨.ref k,rfl,k,rfl,⟨_,c.lst d⟩,xQ (xs:=ns.map V.str) (λi ys H'=>A5 F H F H'/\ys=(ns.take i).map λy=>V.int ((yn ks (x,y)).getD 0)) ⟨A5.refl c,rfl⟩ (λi ys H' hi ⟨st,e⟩=>⟨st.fh.lst d,?_⟩) (λi l ys H' I ⟨st,e⟩=>?_) λys H' ⟨st,e⟩ p g=>?_⟩
 ·rw[e,u_,Hx];omega
 ·rw[GB]at I;cases a:ns[i]? with
  |none=>rw[a]at I;cases I|some y=>
   rw[a]at I;cases I;have Y:=st.hh _ _ hd;refine⟨.ref T,rfl,.str w,rfl,T,.ref o,rfl,h H' st.hh,o,rfl,.inr ⟨_,.inl Y⟩,.str x,rfl,.str y,rfl,by rw[C_];show 2<=16777216;decide,λt f=>?_⟩
   have b:A5 F H' F (upd H' t (.tup [.str x,.str y])):=A5.grow st.fh f;refine⟨_,yj.t (k:=oU (x,y)) (b.hh _ _ Y) aq,st.trans b,?_⟩
   rw[yW,e,KW,a];simp only[ND,Hj,F_,Iu]
   congr 2
   cases yn ks (x,y)<;>rfl
 ·rw[u_,Nt]at e;refine j (.ref p) (upd F p (.lst ys)) _ (st.trans (A5.lay st.fh g)) ⟨p,ys,rfl,.inl (.inl aq),?_⟩;rw[e];exact tL _ ns
theorem rd_tabJ(g:σ[5]?=a_ (a_ (.ref k)))(l:σ[6]?=a_ (a_ (.ref T)))(c:σ[11]?=a_ (a_ (.str w)))(d:aL F H)(b:SqL K F k (ns.map V.str))(j:ns.length<=f_)(h:∀H',aL H H'->yj H' T (.str w) (a_ (.ref o)))(hd:H o=a_ (.dT (pkV ks)))(m:∀v F' H',A5 F H F' H'->aT K F' (tabJ ks ns) v->R v H'):
  tTabJ K σ H R:=by
 refine⟨.ref k,g,k,rfl,⟨_,d.lst b⟩,xQ (xs:=ns.map V.str) (λi ys H'=>∃F',A5 F H F' H'/\aE K F' ((ns.take i).map (rowJ ks ns)) ys) ⟨F,A5.refl d,rfl⟩ (λi ys H' hi ⟨F',st,e⟩=>⟨st.fh.lst (st.ff.lst b),?_⟩) (λi n ys H' Y ⟨F',st,e⟩=>?_) λys H' ⟨F',st,e⟩ p f=>?_⟩
 ·rw[e.length,u_,Hx];omega
 ·rw[GB]at Y;cases a:ns[i]? with
  |none=>rw[a]at Y;cases Y|some y=>
   rw[a]at Y;cases Y;have es:(inS [c_,a_ 5,a_ 6,a_ 11] σ).set 0 (a_ (.str y))=[a_ (.str y),a_ (.ref k),a_ (.ref T),a_ (.str w)]:=by unfold inS;simp only[F_,Iu,g,l,c];rfl
   unfold cu tYes;dsimp only;rw[e_ rfl,es];refine rd_rowJ (st.fh) (st.ff.lst b) j (λH2 h2=>h H2 (st.hh.trans h2)) (st.hh _ _ hd) λv F2 H2 I q=>⟨F2,st.trans I,?_⟩
   rw[KW,a];simp only[ND,Hj,F_,Iu];exact(e.mono I.ff).append ⟨v,[],rfl,q,rfl⟩
 ·rw[u_,Nt]at e;exact m (.ref p) (upd F' p (.lst ys)) _ (st.trans (A5.lay st.fh f)) ⟨p,ys,rfl,.inl (.inl aq),e.mono (A5.lay st.fh f).ff⟩
theorem Lj.frz(L:Lj K F H a s)(st:A5 F0 H0 F H)(Y:∀x∈a.ys,H0 x=c_):∃G,A5 F0 H0 G H/\aL F G/\aT K G (.lst s.dk) (.ref a.k)/\aT K G (.lst s.dn) (.ref a.n)/\aT K G (.lst s.df) (.ref a.f)/\aT K G (.lst s.dc) (.ref a.c):=
 ⟨plus F H (·∈a.xs),⟨st.ff.trans L.c.ff,st.hh,L.c.zh,λb o h=>by
  by_cases I:b∈a.xs
  ·exact .inr (Y b (Ga _ (Ga _ I)))
  ·rw[cI I]at h;exact st.nw b o h⟩,L.c.ff,L.c.deep (j:=0) rfl rfl,L.c.deep (j:=1) rfl rfl,L.c.deep (j:=2) rfl rfl,L.c.deep (j:=3) rfl rfl⟩
theorem DB:∀{ds:List A3} {ns:List p_} {ys:List V},gA ds=.ok ns->aE K F ds ys->ys=ns.map V.str
 |[],_,_,e,q=>by cases e;exact q|d::ds,ns,ys,e,⟨v,r,Y,q,I⟩=>by
  unfold gA at e;split at e
  ·rename_i hh;cases hh
  ·rename_i x r' hh;cases hh;obtain⟨xs,ex,e⟩:=bind_eq e;cases e;cases(show v=V.str x from q);rw[Y,DB ex I];rfl
  ·cases e
end
theorem lX.into{xs:List g_}(z:A5 F0 H0 F H)(t:lX xs F H F' H')(Y:∀x∈xs,H0 x=c_):A5 F0 H0 F' H':=
 ⟨z.ff.trans t.ff,λb o h=>t.hh b o (λI=>by rw[Y b I]at h;cases h) (z.hh b o h),t.fh,λb o h=>(t.nw b o h).elim (λu=>z.nw b o u) λu=>.inr (z.hh.free u)⟩
section
variable{D:Ends}{fr:ah->M A3}{f1 f2:ah->M Bool}
def Dw(K:Pn)(m1:Jst->List A3->M (Bool×Jst))(fw fr:ah->M A3)(f1 f2:ah->M Bool)(E1:XK):TS:=
 tFor (iRng1 (aR (tD K C' b_ (fL gY (aa (ai 2) aD))) dP)) (cu 3) (dO (pK (tD K C' b_ fw) (cu 4))
  (nG (tAnd (tDT K C' f1) (tAnd (tDT K C' f2) (tNot (tTr K (gS (spOne K m1) [] E1 (aR (bV 1) (aR (bV 4) dP))))))) (rG (tD K C' b_ fr)) gJ))
def Dv(K:Pn)(F0 H0:Hp)(OL:List Nat)(f8:ah->M A3)(f4:ah->M Bool):TS:=
 dO (pK (bV 1) (gTup K 5 (kL (cu 5) (kL (cu 6) (kL (cu 7) (kL (cu 8) (kL (cu 9) gNil)))))))
 (dO (nG (tDT K C' f4) (rG (tC (.int 0))) gJ)
 (dO (pK (Ar dP) (cu 10))
 (dO (tFor (iList K (Ar (aR (tC (.str "gap")) (aR (tC (.str "beside")) dP)))) (cu 11) (pI (tBM K "list" jl (bV 10) (aR (tTabJ K) dP))))
 (dO (nG (tTest (tOp rEqT (tDGet (bV 6) (tC (.str "beside"))) Au)) (tS K C' b_ F0 H0 OL [10] [10] (BK 10 (fC (.int 1)) (fC .non))) gJ)
  (rG (tD K C' b_ f8))))))
theorem rs_made{a:Jad}{s:Jst}{d:A3}{l k:Option V}(L:Lj K F H a s)(st:A5 F0 H0 F H)(h0:∀x∈a.ys,H0 x=c_)(e:((f4 (eM s c_)).bind λb=>if b=d_ then .ok (.int 0)else(gA s.dk).bind λns=>if ns.length<=f_ then f8 (eM s (a_ (.lst (zu s ns))))else stk)=.ok d)(q:∀v F H,A5 F0 H0 F H->aT K F d v->D.rt v H):
  Dv K F0 H0 OL f8 f4 D [l,a_ (.ref a.p),k,u3,u4,u5,u6,u7,u8,u9,u10,u11] H:=by
 refine⟨.ref a.p,rfl,a.p,_,rfl,SqT.of L.tp,rfl,_,_,rfl,_,_,rfl,_,_,rfl,_,_,rfl,_,_,rfl,rfl,?_⟩
 show dO _ _ D [l,a_ (.ref a.p),k,u3,u4,a_ (.ref a.k),a_ (.ref a.T),a_ (.ref a.n),a_ (.ref a.f),a_ (.ref a.c),u10,u11] H;obtain⟨G,sG,_,qk,qn,qf,qc⟩:=L.frz st h0;obtain⟨b,eb,e⟩:=bind_eq e;have R:∀(G':Hp) (B A:Option V),aL G G'->dM K G' [l,a_ (.ref a.p),k,u3,u4,a_ (.ref a.k),a_ (.ref a.T),a_ (.ref a.n),a_ (.ref a.f),a_ (.ref a.c),B,A] (eM s c_):=λG' B A Z=>(((dM.only (σ:=[l,a_ (.ref a.p),k,u3,u4,a_ (.ref a.k),a_ (.ref a.T),a_ (.ref a.n),a_ (.ref a.f),a_ (.ref a.c),B,A]) (i:=5) rfl (qk.mono Z)).put (i:=7) (v:=.ref a.n) rfl (qn.mono Z)).put (i:=8) (v:=.ref a.f) rfl (qf.mono Z)).put (i:=9) (v:=.ref a.c) rfl (qc.mono Z)
 refine i7 (R G _ _ (aL.refl _)) sG.fh (λe' h=>by rw[eb]at h;cases h) λb' hb F1 H1 p=>?_;rw[eb]at hb;cases hb;cases b with
 |true=>rw[e_ rfl]at e;cases e;exact q _ F1 H1 (sG.trans p) rfl|false=>
 rw[k_ (by decide)]at e;obtain⟨ns,en,e⟩:=bind_eq e;split at e
 rotate_left
 ·cases e
 rename_i hns;obtain⟨ka,ysk,hka,sqk,qks⟩:=id qk;cases hka;have eys:=DB en qks;subst eys;refine⟨GS _,λI E=>?_⟩
 show dO _ _ D [l,a_ (.ref a.p),k,u3,u4,a_ (.ref a.k),a_ (.ref a.T),a_ (.ref a.n),a_ (.ref a.f),a_ (.ref a.c),a_ (.ref I),u11] (upd H1 I (.lst []));have z0:H0 I=c_:=(sG.trans p).hh.free E;have S2:A5 F1 H1 F1 (upd H1 I (.lst [])):=A5.grow p.fh E;refine⟨by rw[C_];show 2<=16777216;decide,λP O=>⟨P,rfl,⟨_,.inl (.inl aq)⟩,?_⟩⟩
 have S3:A5 F1 H1 F1 (upd (upd H1 I (.lst [])) P (.lst [.str "gap",.str "beside"])):=S2.trans (A5.grow S2.fh O);have T:I≠P:=λz=>by rw[<- z,aq]at O;cases O
 have sk1:=p.ff.lst sqk;have hT:=L.ot
 let tb:List A3:=[tabJ s.g ns,tabJ s.b ns]
 refine⟨λi m σ' H'=>m+i=2/\(∃u,σ'=[l,a_ (.ref a.p),k,u3,u4,a_ (.ref a.k),a_ (.ref a.T),a_ (.ref a.n),a_ (.ref a.f),a_ (.ref a.c),a_ (.ref I),u])/\∃F' ys,aL F1 F'/\A5 F0 H0 F' H'/\F' I=c_/\H' I=a_ (.lst ys)/\H' P=a_ (.lst [.str "gap",.str "beside"])/\H' a.T=a_ (.dK (tabs a))/\H' a.g=a_ (.dT (pkV s.g))/\H' a.b=a_ (.dT (pkV s.b))/\aE K F' (tb.take i) ys,
  ⟨2,rfl,⟨_,rfl⟩,F1,[],aL.refl _,(sG.trans p).trans S3,p.fh.free E,by rw[aw T];exact aq,aq,S3.hh _ _ (p.hh _ _ hT),S3.hh _ _ (p.hh _ _ L.og),S3.hh _ _ (p.hh _ _ L.ob),rfl⟩,λi m σ' H' ⟨e1,⟨u,e2⟩,F',ys,sf,g,fm,N,hl,f,r,c,qy⟩=>?_⟩
 subst e2;by_cases hm0:m=0
 ·refine .inl ⟨⟨_,.inl (.inl hl),by show 2<=i;omega⟩,?_⟩;have hi:i=2:=by omega
  subst hi;refine⟨.ref a.T,rfl,a.T,.ref a.b,rfl,lg f,λnp C=>⟨a.b,np,pkV s.b,rfl,rfl,?_,aq,s.b.isEmpty,?_,?_⟩⟩
  ·rw[aw (λz=>by rw[<- z,c]at C;cases C)];exact c
  ·unfold pkV;cases s.b<;>rfl
  have S5:A5 F' H' F' (upd H' np (.dT [])):=A5.grow g.fh C;have hm5:=S5.hh _ _ N;have rp:Rep K F0 H0 F0 [10] F' (upd H' np (.dT [])) [l,a_ (.ref a.p),k,u3,u4,a_ (.ref a.k),a_ (.ref a.T),a_ (.ref a.n),a_ (.ref a.f),a_ (.ref a.c),a_ (.ref I),u] (eM s (a_ (.lst tb))):=by have r0:=Rep.ofE (FB:=F0) (R F' (a_ (.ref I)) u (p.ff.trans sf)) (g.trans S5) (g.trans S5).ff;refine r0.setOwn (i:=10) (d:=.lst tb) (v:=.ref I) ⟨I,ys,rfl,hm5,fm,z0,qy⟩ (λ_ _ _ hp=>?_);obtain⟨j,d',hj,_⟩:=hp;exact Gb hj (by simp)
  have X:∀(md:List A3) (Y:St) (F2 H2:Hp),zu s ns=md->Rep K F0 H0 F0 [10] F2 H2 Y (eM s (a_ (.lst md)))->rG (tD K C' b_ f8) D Y H2:=λmd Y F2 H2 hmd r2=>by rw[hmd]at e;refine aP r2.pU r2.jN (λe' h=>by rw[e]at h;cases h) λd' hd v F3 H3 t qd=>?_;rw[e]at hd;cases hd;exact q v F3 H3 ((r2.freeze (O2:=[]) (by simp)).st.trans t) qd
  cases U:s.b.isEmpty with
  |true=>
   show if d_=d_ then _ else _
   rw[e_ rfl];refine⟨F0,F',_,rp,?_⟩
   show ∀σ F H,Rep K F0 H0 F0 [10] F H σ (eM s (a_ (.lst [tabJ s.g ns,.non])))->_;exact λY F2 H2 r2=>X _ Y F2 H2 (by unfold zu;rw[U];rfl) r2
  |false=>
   show if b_=d_ then _ else _
   rw[k_ (by decide)];exact X _ _ _ _ (by unfold zu;rw[U];rfl) rp
 ·have hi:i<2:=by omega
  have Q:SqL K H' P [.str "gap",.str "beside"]:=.inl (.inl hl);have S:∀(w:p_) (o:g_) (ks:PKs),(∀H2,aL H' H2->yj H2 a.T (.str w) (a_ (.ref o)))->H' o=a_ (.dT (pkV ks))->tb[i]?=a_ (tabJ ks ns) ->
    pI (tBM K "list" jl (bV 10) (aR (tTabJ K) dP)) {D with nx:=λY H2=>(m-1)+(i+1)=2/\(∃u,Y=[l,a_ (.ref a.p),k,u3,u4,a_ (.ref a.k),a_ (.ref a.T),a_ (.ref a.n),a_ (.ref a.f),a_ (.ref a.c),a_ (.ref I),u])/\∃F' ys,aL F1 F'/\A5 F0 H0 F' H2/\F' I=c_/\H2 I=a_ (.lst ys)/\H2 P=a_ (.lst [.str "gap",.str "beside"])/\H2 a.T=a_ (.dK (tabs a))/\H2 a.g=a_ (.dT (pkV s.g))/\H2 a.b=a_ (.dT (pkV s.b))/\aE K F' (tb.take (i+1)) ys} [l,a_ (.ref a.p),k,u3,u4,a_ (.ref a.k),a_ (.ref a.T),a_ (.ref a.n),a_ (.ref a.f),a_ (.ref a.c),a_ (.ref I),a_ (.str w)] H':=λw o ks ho hd ht=>by
   refine⟨.ref I,rfl,iG N,?_⟩
   unfold aR dP;refine rd_tabJ (σ:=[l,a_ (.ref a.p),k,u3,u4,a_ (.ref a.k),a_ (.ref a.T),a_ (.ref a.n),a_ (.ref a.f),a_ (.ref a.c),a_ (.ref I),a_ (.str w)]) rfl rfl rfl g.fh (sf.lst sk1) hns ho hd λv F3 H3 t qv=>?_;have hm3:=t.hh _ _ N;have W:F3 I=c_:=t.stays fm N;have nu:∀{y:g_} {o':HO},H' y=a_ o'->y≠I->upd H3 I (.lst (ys++[v])) y=a_ o':=λ{y o'} h n=>by rw[aw n];exact t.hh _ _ h
   have ly:ys.length=i:=by rw[qy.length,Hx];show min i 2=i;omega
   have w1:a.T≠I:=λz=>by rw[z,N]at f;cases f
   have w2:a.g≠I:=λz=>by rw[z,N]at r;cases r
   have w3:a.b≠I:=λz=>by rw[z,N]at c;cases c
   refine⟨I,ys,v,rfl,rfl,hm3,by rw[ly,C_];omega,by omega,⟨_,rfl⟩,F3,ys++[v],sf.trans t.ff,?_,W,aq,nu hl (Gv T),nu f w1,nu r w2,nu c w3,?_⟩
   ·have z:=g.trans t;exact⟨z.ff,λb o' h=>by rw[aw (λx=>by rw[x,z0]at h;cases h)];exact z.hh b o' h,λb o' h=>by rw[aw (λx=>by rw[x,W]at h;cases h)];exact z.fh b o' h,z.nw⟩
   ·rw[KW,ht];exact(qy.mono t.ff).append ⟨v,[],rfl,qv,rfl⟩
  have hgo:i<[V.str "gap",V.str "beside"].length:=hi;refine .inr ⟨⟨_,[V.str "gap",V.str "beside"][i],Q,by rw[Gr hgo]⟩,_,λY H2 z=>⟨m-1,by omega,z⟩,λxv H2 ⟨eH,hx⟩=>?_⟩;subst eH;have ex:=hx _ Q;rcases i with _|_|i
  ·cases ex;exact S "gap" a.g s.g (λH2 h2=>Aq (h2 _ _ f)) r rfl
  ·cases ex;exact S "beside" a.b s.b (λH2 h2=>lg (h2 _ _ f)) c rfl
  ·exact Gb hi (by omega)
end
section
variable{D:Ends}{fr:ah->M A3}{f1 f2:ah->M Bool}{O':List Nat}
theorem rs_loopJ{F2:Hp}{a:Jad}{b:Sum A3 Jst}{rows:List A3}{g:g_}{k:Option V}(L:Lj K F H a s0J)(st:A5 F0 H0 F H)(h0:∀x∈a.ys,H0 x=c_)(qr:aT K F (.lst rows) (.ref g))(hl:rows.length<=f_)(e:oY m1 fw fr f1 f2 rows rows.length 0 s0J=.ok b)(X:∀d v F H,b=.inl d->A5 F0 H0 F H->aT K F d v->D.rt v H)(Z:∀s F H c Y,b=.inr s->A5 F0 H0 F H->Lj K F H a s->U D [k,a_ (.ref a.p),a_ (.ref g),c,Y,u5,u6,u7,u8,u9,u10,u11] H):
  dO (Dw K m1 fw fr f1 f2 E1) U D [k,a_ (.ref a.p),a_ (.ref g),u3,u4,u5,u6,u7,u8,u9,u10,u11] H:=by
 have A:∀(G:Hp) (c Y:Option V),aL F G->dM K G [k,a_ (.ref a.p),a_ (.ref g),c,Y,u5,u6,u7,u8,u9,u10,u11] [c_,c_,a_ (.lst rows),c_,c_,c_,c_,c_,c_,c_,c_,c_]:=λG c Y p=>dM.only (σ:=[k,a_ (.ref a.p),a_ (.ref g),c,Y,u5,u6,u7,u8,u9,u10,u11]) (i:=2) rfl (qr.mono p);refine aP (A F u3 u4 (aL.refl _)) st.fh (λR h=>nomatch h) λd0 hd0 v0 F1 H1 T q0=>?_;cases hd0;cases(show v0=V.int rows.length from q0);have hz:(rows.length:Int)<2^62:=by rw[C_]at hl;omega
 refine⟨_,rfl,by omega,hz,?_⟩
 show ∃W:Nat->Nat->St->Hp->Prop,_;refine⟨λi m σ' H'=>m+i=rows.length/\(∃c Y,σ'=[k,a_ (.ref a.p),a_ (.ref g),c,Y,u5,u6,u7,u8,u9,u10,u11])/\∃F' s',aL F F'/\A5 F0 H0 F' H'/\Lj K F' H' a s'/\oY m1 fw fr f1 f2 rows m i s'=.ok b,
  ⟨rows.length,rfl,⟨_,_,rfl⟩,F1,s0J,T.ff,st.trans T,L.step T,e⟩,λi m σ' H' ⟨e1,⟨c,Y,e2⟩,F',s',sf,n,L',I⟩=>?_⟩
 subst e2;cases m with
 |zero=>cases I;exact .inl ⟨by show(rows.length:Int).toNat<=i;omega,Z s' F' H' c Y rfl n L'⟩|succ m=>
  refine .inr ⟨by show i<(rows.length:Int).toNat;omega,_,λσ2 H2 z=>⟨m,IS m,z⟩,λxv H2 hp=>?_⟩;obtain⟨eH,ex⟩:=hp;subst eH ex;unfold oY at I;obtain⟨w,ew,I⟩:=bind_eq I;have xi:(0:Int)+(i:Int)=((i:Nat):Int):=by omega
  rw[xi];have rk:∀(G:Hp) (Y:Option V),aL F' G->dM K G [k,a_ (.ref a.p),a_ (.ref g),a_ (.int (i:Nat)),Y,u5,u6,u7,u8,u9,u10,u11] (eK rows i c_):=λG Y p=>(A G (a_ (.int (i:Nat))) Y (sf.trans p)).put (i:=3) (v:=.int (i:Nat)) (d:=.int (i:Nat)) rfl rfl;show tD K C' b_ fw [k,a_ (.ref a.p),a_ (.ref g),a_ (.int (i:Nat)),Y,u5,u6,u7,u8,u9,u10,u11] H2 _;refine aP (rk F' Y (aL.refl _)) n.fh (λR h=>by rw[ew]at h;cases h) λdw B vw F3 H3 y qw=>?_;rw[ew]at B;cases B;have L3:=L'.step y;have u:=n.trans y;cases w with
  |lst ws=>
   dsimp only at I;have o:∀(G:Hp),aL F3 G->dM K G [k,a_ (.ref a.p),a_ (.ref g),a_ (.int (i:Nat)),a_ vw,u5,u6,u7,u8,u9,u10,u11] (eK rows i (a_ (.lst ws))):=λG p=>(rk G (a_ vw) (y.ff.trans p)).put (i:=4) (v:=vw) rfl (qw.mono p);unfold cu;simp only[List.set_cons_succ,List.set_cons_zero];have j:∀(P O:Hp) (Q:Jst),aL F3 P->A5 F0 H0 P O->Lj K P O a Q->oY m1 fw fr f1 f2 rows m (i+1) Q=.ok b ->
     m+(i+1)=rows.length/\(∃c Y,[k,a_ (.ref a.p),a_ (.ref g),a_ (.int (i:Nat)),a_ vw,u5,u6,u7,u8,u9,u10,u11]=[k,a_ (.ref a.p),a_ (.ref g),c,Y,u5,u6,u7,u8,u9,u10,u11])/\∃F' s',aL F F'/\A5 F0 H0 F' O/\Lj K F' O a s'/\oY m1 fw fr f1 f2 rows m (i+1) s'=.ok b:=
    λP O Q g1 g2 g3 g4=>⟨by omega,⟨_,_,rfl⟩,P,Q,(sf.trans y.ff).trans g1,g2,g3,g4⟩
   obtain⟨b1,N,I⟩:=bind_eq I;refine i7 (o F3 (aL.refl _)) y.fh (λR h=>by rw[N]at h;cases h) λb' C F4 H4 f=>?_;rw[N]at C;cases C;cases b1 with
   |false=>rw[k_ (by decide)]at I;exact j F4 H4 s' f.ff (u.trans f) (L3.step f) I|true=>
    rw[e_ rfl]at I;obtain⟨b2,E,I⟩:=bind_eq I;refine i7 (o F4 f.ff) f.fh (λR h=>by rw[E]at h;cases h) λb' C F5 H5 q=>?_;rw[E]at C;cases C;have L5:=(L3.step f).step q;have t:=(u.trans f).trans q;cases b2 with
    |false=>rw[k_ (by decide)]at I;exact j F5 H5 s' (f.ff.trans q.ff) t L5 I|true=>
     rw[e_ rfl]at I;obtain⟨r,er,I⟩:=bind_eq I;refine⟨.ref a.p,rfl,vw,rfl,a,F5,s',ws,vw,r,rfl,L5,qw.mono (f.ff.trans q.ff),er,λF6 H6 S L6=>⟨r.1,rfl,?_⟩⟩
     have l:=lX.into t S h0;cases hr:r.1 with
     |true=>rw[hr,e_ rfl]at I;exact j F6 H6 r.2 ((f.ff.trans q.ff).trans S.ff) l L6 I|false=>rw[hr,k_ (by decide)]at I;obtain⟨d,ed,I⟩:=bind_eq I;cases I;refine aP (o F6 ((f.ff.trans q.ff).trans S.ff)) l.fh (λR h=>by rw[ed]at h;cases h) λd' hd v F7 H7 s7 qd=>?_;rw[ed]at hd;cases hd;exact X d v F7 H7 rfl (l.trans s7) qd
  |_=>cases I
theorem rs_judge(t:tS K C' b_ F0 H0 OL [] O' (Ay m1 f0 fw fr f8 f1 f2 f4) D σ H):
  dO (pK Dt (cu 1)) (dO (pK (tD K C' b_ f0) (cu 2)) (dO (Dw K m1 fw fr f1 f2 E1) (Dv K F0 H0 OL f8 f4))) D σ H:=by
 obtain⟨FB,F,ρ,r,q⟩:=t;unfold Ay at q;by_cases k:ρ.length=12
 rotate_left
 ·rw[k_ k]at q;exact q.stuck rfl
 rw[e_ k]at q;cases f:sJud0 ρ with
 |error e=>rw[f]at q;exact Gy q|ok x=>
 rw[f,aj]at q;obtain⟨v,hv,C⟩:=r.fz 0 _ (sJud1 f) (by simp);have N:σ.length=12:=by rw[<- r.len];exact k
 obtain⟨u0,y0,rfl,A0⟩:=vB N;obtain⟨u1,y1,rfl,A1⟩:=vB A0;obtain⟨n,y2,rfl,A2⟩:=vB A1;obtain⟨u3,y3,rfl,Z⟩:=vB A2;obtain⟨u4,y4,rfl,X⟩:=vB Z;obtain⟨u5,y5,rfl,W⟩:=vB X;obtain⟨u6,y6,rfl,U⟩:=vB W;obtain⟨u7,y7,rfl,T⟩:=vB U;obtain⟨u8,y8,rfl,S⟩:=vB T;obtain⟨u9,y9,rfl,R⟩:=vB S;obtain⟨u10,A,rfl,m⟩:=vB R;obtain⟨u11,z,rfl,l⟩:=vB m;cases Ia.mp l;cases(show v=V.str x from C);cases hv;cases I:tf m1 f0 fw fr f8 f1 f2 f4 x with
 |error e=>rw[I]at q;exact Gy q|ok d=>
 rw[I]at q;have q:∀v F H,A5 F0 H0 F H->aT K F d v->D.rt v H:=q;unfold tf at I;obtain⟨P,e0,I⟩:=bind_eq I;unfold dO pK;refine rd_state (K:=K) r.st.fh λa H1 Q c w=>?_;have u:∀y∈a.ys,H0 y=c_:=λy G=>r.st.hh.free (c y G);show tD K C' b_ f0 [a_ (.str x),a_ (.ref a.p),n,u3,u4,u5,u6,u7,u8,u9,u10,u11] H1 _;refine aP (ρ:=eT x) (dM.only (σ:=[a_ (.str x),a_ (.ref a.p),n,u3,u4,u5,u6,u7,u8,u9,u10,u11]) (i:=0) (d:=.str x) rfl rfl) w.c.fh (λe' h=>by rw[e0]at h;cases h) λO Y v0 F2 H2 o p=>?_;rw[e0]at Y;cases Y;cases P with
 |lst rows=>
  dsimp only at I;split at I
  rotate_left
  ·cases I
  rename_i g;obtain⟨ra,ys,rfl,_⟩:=id p;obtain⟨B,b,I⟩:=bind_eq I;refine rs_loopJ (F2:=F2) (a:=a) (w.step o) ((r.st.trans Q).trans o) u p g b (λd' v F H j st E=>?_) λs F H v3 v4 j st L=>?_
  ·subst j;cases I;exact q v F H st E
  ·subst j;exact rs_made L st u I q
 |_=>cases I
end
theorem ds_judge{fr:ah->M A3}{f1 f2:ah->M Bool}{O':List Nat}(p:∀F0 H0,PSs X sts (dO (pK Dt (cu 1)) (dO (pK (tD K C' b_ f0) (cu 2)) (dO (Dw K m1 fw fr f1 f2 E0) (Dv K F0 H0 OL f8 f4))))):DSs K C' b_ X OL [] O' sts (Ay m1 f0 fw fr f8 f1 f2 f4):=λF0 H0=>PSs.imp (p F0 H0) λ_ _ _=>rs_judge
theorem ps_compD{fi:ah->M (List A3)}{pt:Pat}(N':List p_)(ix:List (Option Nat))(k:X.N.Nodup)(hi:DI K C' X tg iter fi)(g:∀L cs s H fp,DG K (bp X N' sc L cs s H fp) tg pt)(d:rA ix (gP K pt))(b:∀L cs s H fp,PTs (bp X N' sc L cs s H fp) ifs (tDT K C' ft))(h:∀L cs s H fp,DE K C' b_ (bp X N' sc L cs s H fp) elt fe)(f: ~~~(X.N[i]?=a_ x))(a: ~~~(X.env.scope.names.lookup x=a_ .local))(j: ~~~(X.calm=d_))(I: ~~~(Hr (.ListComp elt [⟨tg,iter,ifs,0⟩] sc pos) (a_ (.Name x py)) spos.line X.env=Hq d_))(Y: ~~~(bP X.N X.env.scope N' sc ix=d_))(e: ~~~(sc.kind=.function))(c:autoParam (∀x,HX iter X.env x=Hq x) Jq5):
  PS X (.Assign [.Name x py] (.ListComp elt [⟨tg,iter,ifs,0⟩] sc pos) spos) (tSetD K i (cU fi ix pt ft fe)):=
 (sV N' ix k f a j hi g d b h I Y e c).imp λD σ H t=>yM (tD_fr t)
section
variable{f:ah->M A3}
theorem at_lst1(h:PEat X A4 σ e te)(f: ~~~(iF [e] X.env=[(b_,Gj e X.env)])):PEat X A4 σ (.List [e] pos) (Ar (aR te dP)):=by
 intro s H Q I g;refine NM (Bs (Q:=λus Y=>∃xs H1,A6 X A4 σ H1 Y/\B' xs us/\xs.length<=f_/\∀p,H1 p=c_->Q (.ref p) (upd H1 p (.lst xs))) ?_ λus Y ⟨xs,H1,a,r,z,q⟩=>⟨by rw[<- r.length];exact z,?_⟩)
 ·rw[f];show Cb _ _ (N7 ((b_,Gj e X.env)::[])) _ _ s;refine Ip (Bs (h s H _ I g) λu Y i=>?_);obtain⟨x,H1,a,d,c⟩:=i;refine JN ?_;exact⟨[x],H1,a,.cons d .nil,c.1,c.2⟩
 have j:H1 Y.heap.objs.size=c_:=a.hok.fresh (sy _);refine⟨.ref Y.heap.objs.size,upd H1 Y.heap.objs.size (.lst xs),a.laid (t':=Y.toks) (λb u e=>n_ _ e) (sy _) ?_,rfl,q _ j⟩
 exact⟨z,us,0,r,E_ _ rfl⟩
theorem dea_lst1(h:DEat K E b_ X A4 σ e f)(b: ~~~(iF [e] X.env=[(b_,Gj e X.env)])):DEat K E b_ X A4 σ (.List [e] pos) (fL bu (aa f aD)):=by
 refine PEat.imp (at_lst1 h b) λH Q c=>?_;obtain⟨F,ρ,r,s,p⟩:=c;refine aP r s (λi g=>?_) λd hd v F1 H1 I q=>⟨by show 1<=f_;rw[C_];omega,λa Y=>?_⟩
 ·have z:fL bu (aa f aD) ρ=.error i:=by unfold fL aa;rw[g];rfl
  rw[z]at p;exact p
 ·have z:fL bu (aa f aD) ρ=.ok (.lst [d]):=by
   unfold fL aa;rw[hd];show bu [d]=_;unfold bu;rw[e_ (by show 1<=f_;rw[C_];omega)]
  rw[z]at p;exact p (.ref a) (upd F1 a (.lst [v])) _ (I.trans (A5.lay I.fh Y)) ⟨a,[v],rfl,.inl (.inl aq),v,[],rfl,aT.mono (A5.lay I.fh Y).ff q,rfl⟩
end
def tMkFld(C:g_)(g:p_)(t:TA):TE:=λσ H Q=>t σ H λvs H1=>∃v1,vs=[v1]/\∀a d,H1 a=c_->H1 d=c_->d≠a->Q v1 (upd (upd H1 d (XD d [(g,v1)])) a (XO a C (a_ d)))
section
variable{g:p_}{t:TA}{k:Nat}{ps:List p_}{B2:String}{bmB2:List i_}{W:eD}
theorem pe_mkfld(FB:Jp B newId initId bmB)(FA:Jf B2 bmB2)(U:la X.K C bmB newId f=d_)(R:K9 X.K (.ref f)=a_ (.type "function"))(O:HW X.K (.ref C)=d_)(F:i6 X.prog X.w X.K X.mg X.base CX0 k f fd ps (spX1 C g))(G:i5 (k+1) X.A)(S:Binds X.K fd ps [])(L:X.mg x=a_ (.ref C))(Z:XIsi X.K C)(Y:D2 X.K C g)(T:PA X [e1] t)(P: ~~~(Gl X x))(m:((x==("__debug__":p_))=b_)⁻¹)(j: ~~~(iF [e1] X.env=[(b_,Gj e1 X.env)]))(n: ~~~(Ha (.Call (.Name x np) [e1] [] cpos) g X.env (Gj (.Call (.Name x np) [e1] [] cpos) X.env)=Gj (.Call (.Name x np) [e1] [] cpos) X.env)):PE X (.Attribute (.Call (.Name x np) [e1] [] cpos) g pos) (tMkFld C g t):=by
 intro A4 s σ H Q I h;have c:Cb (D_ X.prog X.w) X.A (Gj (.Call (.Name x np) [e1] [] cpos) X.env) (λu p=>∃a d v1 H1,u=.ref a/\d≠a/\A6 X A4 σ (upd (upd H1 d (XD d [(g,v1)])) a (XO a C (a_ d))) p/\Q v1 (upd (upd H1 d (XD d [(g,v1)])) a (XO a C (a_ d)))) X.xe s:=by
  refine Hk (j5 I P L (Km (h₀:=X.base) I.ok.mod.kin O (Bs (T cpos A4 s σ H _ I h) λus w b=>?_) j rfl) m);obtain⟨vs,H1,z,r,i⟩:=b;refine⟨z.kIn,?_⟩
  obtain⟨v1,rfl,i⟩:=i;refine Bs (new_x1 FB U R F G S z r) λv p b=>?_;obtain⟨a,d,W,hn,fa,fd',e,J⟩:=b;exact⟨a,d,v1,H1,W,e,J,i a d fa fd' e⟩
 refine Ae n (Bs c λu w b=>?_);obtain⟨a,d,v1,H1,eu,e,J,q⟩:=b;subst eu;obtain⟨vs,_,A⟩:=Dd (J.hok a _ aq);obtain⟨mA,D,r,_⟩:=xd_get (J.hok d (XD d [(g,v1)]) (by rw[aw e];exact aq));obtain⟨od,K,l⟩:=qB D;have N:([(g,v1)]:List (p_×V)).lookup g=a_ v1:=by rw[v_,JT]
 obtain⟨u',E,y⟩:=p8.some_of (v:=v1) (o:=mA g) (by rw[<- N];exact r g);have IA:HR w.heap a ⟨.ref C,a_ d,.fields vs,#[]⟩ C (a_ od):=⟨A,rfl,rfl,K⟩
 exact x_get FA J.kIn IA Z Y (by rw[l,E]) (qL y) ⟨v1,_,J.tok _,y,q⟩
theorem de_mkfld(FB:Jp B newId initId bmB)(D:Jf B2 bmB2)(A:la X.K C bmB newId f=d_)(w:K9 X.K (.ref f)=a_ (.type "function"))(t:HW X.K (.ref C)=d_)(F:i6 X.prog X.w X.K X.mg X.base CX0 k f fd ps (spX1 C g))(n:i5 (k+1) X.A)(z:Binds X.K fd ps [])(o:X.mg x=a_ (.ref C))(Z:XIsi X.K C)(Y:D2 X.K C g)(i:DE K W b_ X e1 fe)(u: ~~~(Gl X x))(b:((x==("__debug__":p_))=b_)⁻¹)(I: ~~~(iF [e1] X.env=[(b_,Gj e1 X.env)]))(h: ~~~(Ha (.Call (.Name x np) [e1] [] cpos) g X.env (Gj (.Call (.Name x np) [e1] [] cpos) X.env)=Gj (.Call (.Name x np) [e1] [] cpos) X.env)):DE K W b_ X (.Attribute (.Call (.Name x np) [e1] [] cpos) g pos) fe:=
 (pe_mkfld FB D A w t F n z o Z Y (ax i aO I) u b I h).imp λσ H Q ⟨F,ρ,r,s,p⟩=>by
  refine aP r s (λe y=>by rw[y]at p;exact p) λd hd v F1 H1 j q=>⟨v,rfl,λa d' i c m=>?_⟩
  rw[hd]at p;have l:A5 F1 H1 F1 (upd H1 d' (XD d' [(g,v)])):=A5.grow j.fh c;exact p v F1 _ (j.trans (l.trans (A5.grow l.fh (by rw[aw (Gv m)];exact i)))) q
end
def Et:A3->A3->M A3
 |.str z,.int n=>if z.length<=100/\0<=n/\n<=10000 then .ok (.str (Ml z n))else stk
 |_,_=>stk
@[simp] theorem e_mulSB(z:p_)(n:Int):Et (.str z) (.int n)=if z.length<=100/\0<=n/\n<=10000 then .ok (.str (Ml z n))else stk:=id rfl
theorem o_mulB{W:eD}{own:Bool}:Op2 K W own X (HK .Mult) Et:=by
 intro A4 s σ H x y v u Q I e d h;obtain⟨F,a,b,c,g,f,p⟩:=h;cases a with
 |str z=>cases b with
  |int n=>
   have p:aN K W own F H (if z.length<=100/\0<=n/\n<=10000 then .ok (.str (Ml z n))else stk) Q:=p;cases(show x=V.str z from g);cases(show y=V.int n from f);obtain⟨t,rfl⟩:=(show ∃t,v=Hu z t from e)
   obtain⟨t',rfl⟩:=(show ∃t,u=G2 n t from d)
   by_cases Y:z.length<=100/\0<=n/\n<=10000
   ·rw[e_ Y]at p;obtain⟨h1,h2,l⟩:=Y;have i:MulOk z n:=by
     refine⟨?_,λj _=>?_,λj _=>?_⟩
     ·rw[Bool.or_eq_false_iff];exact⟨j_ (by omega),j_ (by omega)⟩
     ·have:(z.length:Int)<=(2^63-1)/n:=by
       refine(Int.le_ediv_iff_mul_le (by omega)).mpr ?_;have a:(z.length:Int)*n<=100*10000:=LG (by omega) (by omega) (by omega) (by omega);omega
      omega
     ·have a:z.length*n.toNat<=100*10000:=NW h1 (by omega);exact j_ (by rw[C_];omega)
    exact SB.mul i λt1 k=>⟨.str (Ml z n),H,I.tok _,⟨_,rfl⟩,p.str c⟩
   ·rw[k_ Y]at p;exact aN.stuck p
  |_=>exact aN.stuck p
 |_=>exact aN.stuck p
noncomputable abbrev kFs(v:V)(k:Int):List (p_×V):=[("sheet",v),("shift",.int k)]
structure Dk(K:Pn)(C:g_)(F H:Hp)(p dx:g_)(v:V)(S:A3)(k:Int):Prop where
 fh:aL F H
 ob:H p=a_ (.ins C dx (kFs v k))
 fp:F p=c_
 sh:aT K F S v
section
variable{F2:Hp}{p:g_}{S:A3}{k:Int}
theorem Dk.step(d:Dk K C F H p dx v S k)(s:A5 F H F' H'):Dk K C F' H' p dx v S k:=⟨s.fh,s.hh _ _ d.ob,s.stays d.fp d.ob,d.sh.mono s.ff⟩
theorem Abt.of(s:A5 F H F' H')(f:F p=c_)(I:H p=a_ o):Abt p F H F' H':=⟨s.ff,s.fh,s.stays f I,s.nw,λc u e _=>s.hh c u e⟩
theorem Abt.trans(a:Abt p F H F' H')(b:Abt p F' H' F2 H2):Abt p F H F2 H2:=⟨a.ff.trans b.ff,b.fh,b.fp,λc u e=>(b.nw c u e).elim (a.nw c u) λz=>.inr (by
 cases Y:H c with
 |none=>rfl|some o'=>
  have I:c≠p:=λw=>by rw[w,b.fp]at e;cases e
  rw[a.hh c o' Y I]at z;cases z),λc u e I=>b.hh c u (a.hh c u e I) I⟩
theorem Abt.from(s:A5 F0 H0 F H)(a:Abt p F H F' H')(I:H0 p=c_):A5 F0 H0 F' H':=⟨s.ff.trans a.ff,λc u e=>a.hh c u (s.hh c u e) (λz=>by rw[z,I]at e;cases e),a.fh,λc u e=>(a.nw c u e).elim (s.nw c u) λz=>.inr (s.hh.free z)⟩
end
section
variable(K:Pn)(C p dx:g_)(Q:VK)(E:XK)
def SayQ(m:M (A3×Int))(F H:Hp):Prop:=match m with
 |.ok z=>∀I F' H',Abt p F H F' H'->Dk K C F' H' p dx I z.1 z.2->Q .non H'|.error e=>∀F' H',A5 F H F' H'->(WE K E).p e F' H'
end
section
variable{p:g_}{m:M (A3×Int)}
theorem SayQ.step(q:SayQ K C p dx Q E m F H)(s:A5 F H F1 H1)(f:F p=c_)(Y:H p=a_ o):SayQ K C p dx Q E m F1 H1:=by
 cases m with
 |error e=>exact λF' H' s'=>q F' H' (s.trans s')|ok z=>exact λI F' H' ab d=>q I F' H' ((Abt.of s f Y).trans ab) d
end
structure Ki(K:Pn)(C:g_)(F0 H0 FB:Hp)(ρ:ah)(di:Nat)(p dx:g_)(F H:Hp)(σ:St)(w:V)(S:A3)(k:Int):Prop where
 d:Dk K C F H p dx w S k
 r:dM K F σ ρ
 st:A5 F0 H0 F H
 fb:aL FB F
 sl:σ[di]?=a_ (a_ (.ref p))
 h0:H0 p=c_
section
variable{p:g_}{w:V}{S:A3}{k:Int}{t:TE}{r:A3}
theorem Ki.step(I:Ki K C F0 H0 FB ρ di p dx F H σ w S k)(s:A5 F H F' H'):Ki K C F0 H0 FB ρ di p dx F' H' σ w S k:=⟨I.d.step s,I.r.mono s.ff,I.st.trans s,I.fb.trans s.ff,I.sl,I.h0⟩
def Arg(K:Pn)(t:TE)(r:A3)(F H:Hp)(σ:St):Prop:=∀R:VK,(∀F1 H1 v,A5 F H F1 H1->aT K F1 r v->R v H1)->t σ H R
theorem Ki.text{a:p_}(I:Ki K C F0 H0 FB ρ di p dx F H σ w S k):Arg K (tC (.str a)) (.str a) F H σ:=λ_ h=>h F H _ (A5.refl I.d.fh) rfl
end
section
open PySem.W
theorem ask2:AskR 2 (λ_=>True) (NB 2):=And.intro (by decide) (And.intro (by decide) λb=>by cases b<;>exact K6)
noncomputable abbrev kas2(b:Bool):KasT (Array Nat):=match NB 2 with
 |.ask _ _ k=>k b|t=>t
theorem run2(lt:Nat->Nat->Bool):tRun lt (NB 2)=if lt 1 0=d_ then #[1,0]else #[0,1]:=by show tRun lt (kas2 (lt 1 0))=_;cases lt 1 0<;>rfl
variable{E:Mq}{i j:Int}{t u:Nq}
def out2(i j:Int)(t u:Nq):List i_:=if j<i then [.int j u,.int i t]else [.int i t,.int j u]
theorem EB{P:PySem.Fin->y_->Prop}(v:s.heap.get? a=a_ (Ik "list" #[.int i t,.int j u] n))(h:∀(h':GQ) (c:Nat),(∀b o,b≠a->s.heap.get? b=a_ o->h'.get? b=a_ o)->h'.get? a=a_ (Ik "list" (out2 i j t u).toArray c)->P (.done (.ret .none)) {s with heap:=h'}):
  Cb (D_ prog w) A (Builtin.«list.sort» ⟨[.ref a],[]⟩) P E s:=by
 have B:=C_;obtain⟨e1,f⟩:∃e1,(s.heap.update a (Hz λ_=>(#[]:Array i_))).get? a=a_ (Ik "list" #[] e1):=⟨_,get?_update_seq v λ_=>#[]⟩
 rw[list_sort_plain];refine h_ (listItems_at v rfl (h_ (listUpdate_at v rfl (h_ (seqEpoch_at f rfl (h_ (wpAny_newTuple (h_ (wpAny_newList (Ic ?_) (GS _))) (by show 2<=_;omega))))) (by show 2<=_;omega) (GS _))));have e:∀b o,b≠a->s.heap.get? b=a_ o->(((s.heap.update a (Hz λ_=>(#[]:Array i_))).push (Ik "tuple" #[.int i t,.int j u] 0)).push (Ik "list" #[] 0)).get? b=a_ o:=λb o l q=>n_ _ (n_ _ ((Gq _ _ (Gv l)).trans q))
 have d:(((s.heap.update a (Hz λ_=>(#[]:Array i_))).push (Ik "tuple" #[.int i t,.int j u] 0)).push (Ik "list" #[] 0)).get? a=a_ (Ik "list" #[] e1):=n_ _ (n_ _ f);show Cb (D_ prog w) A _ P E {s with heap:=((s.heap.update a (Hz λ_=>(#[]:Array i_))).push (Ik "tuple" #[.int i t,.int j u] 0)).push (Ik "list" #[] 0)};dsimp only;have h2:¬(#[G2 i t,G2 j u]).size<2:=by show ¬2<2;omega
 rw[k_ h2,k_ h2];have hi:Lp [.int i t,.int j u] [i,j]:=.cons i t (.cons j u .nil);rw[show keyKind' #[G2 i t,G2 j u]=_ from keyKind_ints hi];refine h_ (z_ ?_);refine h_ (GK (kat_run (ks:=[.int i t,.int j u]) (vs:=[.int i t,.int j u]) (Q:=λI s'=>s'={s with heap:=((s.heap.update a (Hz λ_=>(#[]:Array i_))).push (Ik "tuple" #[.int i t,.int j u] 0)).push (Ik "list" #[] 0)}/\(arrOf I).map (·.2)=(out2 i j t u).toArray/\NC I=c_)
  (G:=λp s'=>s'={s with heap:=((s.heap.update a (Hz λ_=>(#[]:Array i_))).push (Ik "tuple" #[.int i t,.int j u] 0)).push (Ik "list" #[] 0)}/\p=tRun (ltK λk=>[i,j].getD k 0) (NB 2)) rfl (sy 2) (by show 2<64;decide) (λp I s' _ D O K=>⟨K.1,?_,O⟩) (sZ (n:=2) (R:=λ_=>True) (λx y C m L S=>?_) _ ask2 ⟨rfl,rfl⟩)) (λr s' N=>?_) λ_ _ x=>x)
 ·rw[kat_snds rfl D,K.2,run2];unfold out2 ltK;by_cases Y:j<i
  ·rw[e_ (show q_ ([i,j].getD 1 0<[i,j].getD 0 0)=d_ from r_ Y),e_ Y];rfl
  ·rw[k_ (show ¬q_ ([i,j].getD 1 0<[i,j].getD 0 0)=d_ from λz=>Y (IC z)),k_ Y];rfl
 ·have g:∀x,x<2->∃t',[G2 i t,G2 j u].getD x Io=.int ([i,j].getD x 0) t':=λx m=>by
   match x,m with
   |0,_=>exact⟨t,rfl⟩|1,_=>exact⟨u,rfl⟩
  unfold kas_ask;obtain⟨t1,e1⟩:=g x m;obtain⟨t2,e2⟩:=g y L;rw[e1,e2];exact kat_lt_int S
 ·obtain⟨⟨⟩,I⟩:=r;obtain⟨es,F,H⟩:=N;have es:s'=_:=es;subst es;have F:(arrOf I).map (·.2)=(out2 i j t u).toArray:=F;have H:NC I=c_:=H;dsimp only;rw[F];refine h_ (seqEpoch_at d rfl (h_ (listUpdate_at d rfl ?_ (GS _) (by show(out2 i j t u).length<=_;unfold out2;split<;>(show 2<=_;omega)))));simp only[H,bne_self_eq_false,KC,MH];exact z_ (h _ _ (λb o l q=>(Gq _ _ (Gv l)).trans (e b o l q)) (get?_update_seq d λ_=>(out2 i j t u).toArray))
theorem BA{Q:Mq}(g:s.heap.IsList l #[.int i t,.int j u])(h:∀(h':GQ) (D:g_) (c:Nat),s.heap.objs.size<=D->(∀b o,s.heap.get? b=a_ o->h'.get? b=a_ o)->h'.get? D=a_ (Ik "list" (out2 i j t u).toArray c)->Q (.ref D) {s with heap:=h'}):
  Cb (D_ prog w) A (Jn (.builtin "sorted") [.ref l]) Q E s:=by
 have a:=C_;refine Calls.call_function_entry kind_sorted plain_sorted entry_sorted (args_sorted1 _) ?_;unfold Builtin.«sorted»;refine h_ (m:=checkCount "sorted" 1 1 _) (z_ (h_ (collect_list g (h_ (wpAny_newList ?_ (by show 2<=_;omega))) (by show 2<=_;omega))));have d:((s.heap.push (Ik "list" #[] 0)).update s.heap.objs.size (Hz (·++#[G2 i t,G2 j u]))).objs.size=s.heap.objs.size+1:=by rw[IP,size_push']
 have e:(((s.heap.push (Ik "list" #[] 0)).update s.heap.objs.size (Hz (·++#[G2 i t,G2 j u]))).push (Ik "list" #[.int i t,.int j u] 0)).get? (s.heap.objs.size+1)=a_ (Ik "list" #[.int i t,.int j u] 0):=by rw[<- d];exact E_ _ rfl
 have I:∀b o,s.heap.get? b=a_ o->(((s.heap.push (Ik "list" #[] 0)).update s.heap.objs.size (Hz (·++#[G2 i t,G2 j u]))).push (Ik "list" #[.int i t,.int j u] 0)).get? b=a_ o:=λb o q=>n_ _ ((Gq _ _ (JC (x_ q))).trans (n_ _ q))
 show Cb _ _ _ _ _ {s with heap:=((s.heap.push (Ik "list" #[] 0)).update s.heap.objs.size (Hz (·++#[G2 i t,G2 j u]))).push (Ik "list" #[.int i t,.int j u] 0)};rw[d];have Y:∀b o,s.heap.get? b=a_ o->b≠s.heap.objs.size+1:=λb o q=>Gs (K1 (x_ q));refine h_ (Ic (Kc slot_list_sort ⟨_,e,rfl⟩ entry_list_sort (EB e λh' c f k=>⟨_,rfl,?_⟩) (args_list_sort _)));exact z_ ⟨_,rfl,h h' _ c (GC _) (λb o q=>f b o (Y b o q) (I b o q)) k⟩
end
def srt2:List A3->M A3
 |[.lst [.int a,.int b]]=>.ok (.lst (if b<a then [.int b,.int a]else [.int a,.int b]))
 |_=>stk
theorem FO{W:eD}(G: ~~~(X.K=K)):rC K W d_ X (.builtin "sorted") srt2:=by
 subst G;intro A4 s σ H xs us Q I w h;obtain⟨F,d,x,m,e,q,p⟩:=lu (λds=>by match ds with|[d]=>exact .inl ⟨d,rfl⟩|[]=>exact .inr rfl|a::b::c=>exact .inr (by unfold srt2;split<;>first|(rename_i h;cases h;done)|rfl)) h;subst e;obtain⟨u,rfl,v⟩:=w.one;unfold srt2 at p;split at p
 ·rename_i i j E;cases E;obtain⟨a,ys,e1,t,r⟩:=q;subst e1;cases v;obtain⟨v1,ys,rfl,A,o,ys,rfl,z,C⟩:=r;cases(show v1=V.int i from A);cases(show o=V.int j from z);cases(show ys=[]from C);obtain⟨A8,Y,pl,N⟩:=I.list (m.lst t);obtain⟨t1,t2,rfl⟩:∃t1 t2,A8=[.int i t1,.int j t2]:=by
   cases Y with
   |cons y Y=>cases Y with
    |cons r2 Y=>cases Y;obtain⟨t1,rfl⟩:=y;obtain⟨t2,rfl⟩:=r2;exact⟨t1,t2,rfl⟩
  refine BA pl.isList λh' D c n B e=>?_;have l:=C_;have key:∃ys,B' ys (out2 i j t1 t2)/\ys.length<=f_/\aE X.K F (if j<i then [.int j,.int i]else [.int i,.int j]) ys:=by
   unfold out2;split
   ·exact⟨[.int j,.int i],.cons ⟨t2,rfl⟩ (.cons ⟨t1,rfl⟩ .nil),by show 2<=_;omega,_,_,rfl,rfl,_,_,rfl,rfl,rfl⟩
   ·exact⟨[.int i,.int j],.cons ⟨t1,rfl⟩ (.cons ⟨t2,rfl⟩ .nil),by show 2<=_;omega,_,_,rfl,rfl,_,_,rfl,rfl,rfl⟩
  obtain⟨ys,g,k,f⟩:=key;have L:A6 X A4 σ (upd H D (.lst ys)) {s with heap:=h'}:=I.laid (t':=s.toks) B n (show cN X.prog X.w _ h' D (.lst ys)from⟨k,_,c,g,e⟩);exact⟨.ref D,_,L,rfl,p.lst m f (I.hok.fresh n)⟩
 ·exact aN.stuck p
end Lake
namespace Tactic
open PySem Lake PyProof.Rows
variable{mg:Ld}{x w z nm y v:p_}{C CP CS CW CD AStripError ANoRow ANoRules ANoTime ANoPlace ANotFree ATooMany ANoPlan:g_}{f g:ah->M A3}{fd dA: HL}{n m i a b c:Nat}{dU: g_}{o:A3->A3->M A3}{ks r ns:List p_}{p:Pat}{rows r2:List (List Int)}{ρ:ah}{α:Type}{O:List Nat}
def su:ah->M A9:=
 sIf (fB (f2 gtD (f2 ixD (f2 ixD (ai 2) (ai 8)) (ai 9)) (fC (.int 0))))
   (i9 [7] 7 (fSM mH (fC (.str " ")) (fL bu (aa (fC (.str "gap")) (aa (f2 ixD (ai 1) (ai 8)) (aa (f2 ixD (ai 1) (ai 9)) (aa (fL DC (aa (f2 ixD (f2 ixD (ai 2) (ai 8)) (ai 9)) aD)) aD)))))))
   cE
def sr:ah->M A9:=
 sIf (fB (f2 uJ (ai 3) (fC .non)))
   (i9 [7] 7 (fSM mH (fC (.str " ")) (fL bu (aa (fC (.str "beside")) (aa (f2 ixD (ai 1) (ai 8)) (aa (f2 ixD (ai 1) (ai 9)) (aa (fL DC (aa (f2 ixD (f2 ixD (ai 3) (ai 8)) (ai 9)) aD)) aD)))))))
   cE
def sD:ah->M A9:=
 (br (su)
  (sr))
def sC:ah->M A9:=
 (oO [7] (qR rN (aa (fL gY (aa (ai 1) aD)) aD)) (.nm 9) (sD))
def sx:ah->M A9:=
 (i9 [7] 7 (f2 bX (f2 bX (f2 bX (fC (.str "closed ")) (fL DC (aa (ai 10) aD))) (fC (.str " "))) (fL DC (aa (ai 11) aD))))
def sv:ah->M A9:=
 (br (b7 [7] 14 (cU (fIt (fSl dQ (ai 13) (jP (fC (.int 1))) oQ)) [c_] (.nm 0) gZ (fL DC (aa (ai 0) aD))))
  (i9 [7] 7 (f2 bX (f2 bX (f2 bX (f2 bX (f2 bX (fC (.str "flight ")) (ai 12)) (fC (.str " "))) (f2 ixD (ai 1) (f2 ixD (ai 13) (fC (.int 0))))) (fC (.str " "))) (fSM mH (fC (.str " ")) (ai 14)))))
def xq:ah->M A9:=
 (br (rM [] (.tp [1,2,3,4,5,6]) (ai 0))
  (br (b7 [] 7 (cU (fIt (ai 1)) [c_] (.nm 0) gZ (f2 bX (fC (.str "kind ")) (ai 0))))
  (br (oO [7] (qR rN (aa (fL gY (aa (ai 1) aD)) aD)) (.nm 8) (sC))
  (br (oO [7] (fIt (ai 6)) (.tp [10,11]) (sx))
  (br (oO [7] (zI (ai 4) (ai 5)) (.tp [12,13]) (sv))
  (cC (ai 7)))))))
def iN:List A3->M A3:=bQ 15 1 (xq)
def iA:ah->M A9:=
 sIf (fB (f2 gtD (fL gY (aa (ai 2) aD)) (fC (.int 0))))
   (b7 [] 3 (f2 jt (f2 ixD (ai 2) (f2 jt (ai 1) (fL gY (aa (ai 2) aD)))) (f2 Ed (fC (.int 10)) (fC (.int 24)))))
   cE
def jx:ah->M A9:=
 (br (b7 [] 2 (fSl dQ (ai 0) oQ (jP (fC (.int 63)))))
  (br (b7 [] 3 (f2 bX (f2 zm (fC (.int 13)) (ai 1)) (fC (.int 5))))
  (br (iA)
  (br (b7 [] 4 (f2 jt (f2 zm (f2 bX (f2 bX (ai 3) (f2 zm (f2 zm (ai 1) (ai 1)) (fC (.int 7919)))) (fL gY (aa (ai 2) aD))) (fC (.int 48271))) (fC (.int 2305843009213693951))))
  (cC (f2 jt (f2 bX (f2 zm (ai 4) (fC (.int 1442695040888963407))) (fC (.int 4321))) (fC (.int 2305843009213693921))))))))
def ba:List A3->M A3:=bQ 5 2 (jx)
def vq:ah->M A9:=
 (br (b7 [] 0 (f2 bX (f2 bX (f2 zm (ai 0) (ai 0)) (f2 zm (fC (.int 48271)) (ai 0))) (ai 4)))
  (br (b7 [] 0 (f2 jt (ai 0) (fC (.int 2305843009213693951))))
  (b7 [] 3 (f2 bX (ai 3) (f2 ym (f2 bX (ai 2) (fC (.str "0123456789"))) (f2 jt (f2 gF (ai 0) (fC (.int 64))) (fC (.int 36))))))))
def zD:ah->M A9:=
 (br (b7 [] 2 (fC (.str "abcdefghijklmnopqrstuvwxyz")))
  (br (b7 [] 3 (f2 bX (f2 ym (ai 2) (f2 jt (ai 0) (fC (.int 26)))) (f2 ym (ai 2) (f2 jt (ai 1) (fC (.int 26))))))
  (br (oO [] (qR rN (aa (f2 jt (f2 gF (ai 0) (fC (.int 32))) (fC (.int 6))) aD)) (.nm 4) (vq))
  (cC (ai 3)))))
def lD:List A3->M A3:=bQ 5 2 (zD)
def gO:ah->M A9:=
 sIf (fB (f2 ltD (ai 1) (fL gY (aa (ai 0) aD))))
   (cC (f2 jt (f2 ixD (ai 0) (ai 1)) (f2 Ed (fC (.int 10)) (fC (.int 24)))))
   cE
def j6:ah->M A9:=
 (br (gO)
  (cC (fC (.int 0))))
def bC:List A3->M A3:=bQ 2 2 (j6)
def kQ:ah->M A9:=
 (br (b7 [] 0 (f2 bX (f2 bX (f2 zm (ai 0) (ai 0)) (f2 zm (fC (.int 48271)) (ai 0))) (ai 3)))
  (br (b7 [] 0 (f2 jt (ai 0) (fC (.int 2305843009213693951))))
  (b7 [] 2 (f2 bX (ai 2) (f2 ym (fC (.str "abcdefghijklmnopqrstuvwxyz0123456789")) (f2 jt (f2 gF (ai 0) (fC (.int 64))) (fC (.int 36))))))))
def mU:ah->M A9:=
 (br (b7 [] 2 (f2 bX (f2 ym (fC (.str "abcdefghijklmnopqrstuvwxyz")) (f2 jt (ai 1) (fC (.int 26)))) (f2 ym (fC (.str "0123456789")) (f2 gF (ai 1) (fC (.int 26))))))
  (br (oO [] (qR rN (aa (f2 jt (f2 gF (ai 0) (fC (.int 32))) (fC (.int 7))) aD)) (.nm 3) (kQ))
  (cC (ai 2))))
def eZ:List A3->M A3:=bQ 4 2 (mU)
def CF:ah->M A9:=
 (cC (f2 ixD (fL bu (aa (f2 jt (f2 gF (ai 0) (fC (.int 16))) (fC (.int 7))) (aa (f2 jt (f2 gF (ai 0) (fC (.int 16))) (f2 bX (f2 Ed (fC (.int 10)) (fC (.int 6))) (fC (.int 1)))) (aa (fC (.int 0)) (aa (f2 jt (f2 gF (ai 0) (fC (.int 16))) (fC (.int 100))) aD))))) (f2 jt (ai 0) (fC (.int 4)))))
def kA:List A3->M A3:=bQ 1 1 (CF)
def zC:ah->M A9:=
 (cC (f2 ixD (fL bu (aa (f2 jt (f2 gF (ai 0) (fC (.int 16))) (fC (.int 60))) (aa (f2 jt (f2 gF (ai 0) (fC (.int 16))) (f2 bX (f2 Ed (fC (.int 10)) (fC (.int 9))) (fC (.int 1)))) (aa (f2 jt (f2 gF (ai 0) (fC (.int 16))) (fC (.int 1000))) aD)))) (f2 jt (ai 0) (fC (.int 3)))))
def dz:List A3->M A3:=bQ 1 1 (zC)
def vy:ah->M A9:=
 (i9 [1] 1 (fL (lD) (aa (fL (ba) (aa (ai 0) (aa (ai 2) aD))) (aa (ai 2) aD))))
def vx:ah->M A9:=
 (br (b7 [3,4] 5 (cU (qR rN (aa (fL gY (aa (ai 1) aD)) aD)) [c_,a_ 0,a_ 1,a_ 2] (.nm 0) gZ (fL (ba) (aa (ai 1) (aa (f2 bX (f2 bX (fC (.int 7)) (f2 zm (ai 3) (fL gY (aa (ai 2) aD)))) (ai 0)) aD)))))
  (br (i9 [3,4] 3 (cU (fIt (ai 5)) [c_] (.nm 0) gZ (fL (kA) (aa (ai 0) aD))))
  (i9 [3,4] 4 (cU (fIt (ai 5)) [c_] (.nm 0) gZ (fL (kA) (aa (f2 gF (ai 0) (fC (.int 64))) aD))))))
def vn:ah->M A9:=
 sIf (fB (f2 eqM (f2 jt (fL (bC) (aa (ai 0) (aa (fC (.int 2)) aD))) (fC (.int 2))) (fC (.int 0))))
   (b7 [] 4 (fC .non))
   cE
def vm:ah->M A9:=
 sIf (fB (f2 eqM (f2 jt (f2 gF (fL (bC) (aa (ai 0) (aa (fC (.int 1)) aD))) (fC (.int 64))) (fC (.int 8))) (fC (.int 5))))
   (b7 [6,7] 8 (fC (.int 40)))
   cE
def vv:ah->M A9:=
 (br (b7 [6,7] 9 (fL (ba) (aa (ai 0) (aa (f2 bX (fC (.int 50)) (ai 2)) aD))))
  (br (b7 [6,7] 10 (fL srt2 (aa (fL bu (aa (fL (dz) (aa (ai 9) aD)) (aa (fL (dz) (aa (f2 gF (ai 9) (fC (.int 4096))) aD)) aD))) aD)))
  (br (i9 [6,7] 6 (fL (eZ) (aa (f2 gF (ai 9) (fC (.int 8))) (aa (ai 2) aD))))
  (i9 [6,7] 7 (fL iC (aa (f2 jt (ai 9) (fL gY (aa (ai 1) aD))) (aa (f2 ixD (ai 10) (fC (.int 0))) (aa (f2 ixD (ai 10) (fC (.int 1))) (aa (fL (dz) (aa (f2 gF (ai 9) (fC (.int 9))) aD)) (aa (fL (dz) (aa (f2 gF (ai 9) (fC (.int 27))) aD)) aD))))))))))
def vt:ah->M A9:=
 (br (b7 [11] 10 (fL srt2 (aa (fL bu (aa (fL (dz) (aa (fL (ba) (aa (ai 0) (aa (f2 bX (fC (.int 101)) (ai 2)) aD))) aD)) (aa (fL (dz) (aa (fL (ba) (aa (ai 0) (aa (f2 bX (fC (.int 107)) (ai 2)) aD))) aD)) aD))) aD)))
  (i9 [11] 11 (fL iC (aa (f2 gF (f2 ixD (ai 10) (fC (.int 0))) (fC (.int 2))) (aa (f2 bX (f2 gF (f2 ixD (ai 10) (fC (.int 1))) (fC (.int 2))) (fC (.int 1))) aD)))))
def zE:ah->M A9:=
 (br (b7 [] 1 (fL bu aD))
  (br (oO [1] (qR rN (aa (f2 bX (fC (.int 1)) (f2 jt (f2 jt (f2 zm (fL (bC) (aa (ai 0) (aa (fC (.int 0)) aD))) (fC (.int 16807))) (fC (.int 2147483647))) (fC (.int 6)))) aD)) (.nm 2) (vy))
  (br (b7 [] 3 (fL bu aD))
  (br (b7 [3] 4 (fL bu aD))
  (br (oO [3,4] (qR rN (aa (fL gY (aa (ai 1) aD)) aD)) (.nm 2) (vx))
  (br (vn)
  (br (b7 [] 6 (fL bu aD))
  (br (b7 [6] 7 (fL bu aD))
  (br (b7 [6,7] 8 (f2 jt (f2 jt (f2 zm (fL (bC) (aa (ai 0) (aa (fC (.int 1)) aD))) (fC (.int 39373))) (fC (.int 2147483629))) (fC (.int 9))))
  (br (vm)
  (br (oO [6,7] (qR rN (aa (ai 8) aD)) (.nm 2) (vv))
  (br (b7 [] 11 (fL bu aD))
  (br (oO [11] (qR rN (aa (f2 jt (f2 gF (fL (ba) (aa (ai 0) (aa (fC (.int 100)) aD))) (fC (.int 64))) (fC (.int 4))) aD)) (.nm 2) (vt))
  (cC (fL iC (aa (ai 1) (aa (ai 3) (aa (ai 4) (aa (ai 6) (aa (ai 7) (aa (ai 11) aD)))))))))))))))))))))
def ju:List A3->M A3:=bQ 12 1 (zE)
def oF:ah->M A9:=
 (cC (cU (fIt (fSM oj (ai 0) (fC (.str " ")))) [c_] (.nm 0) (fB (f2 neM (ai 0) (fC (.str "")))) (ai 0)))
def iM:List A3->M A3:=bQ 1 1 (oF)
def ee:ah->M A9:=
 sIf (fOr (fB (f2 ltD (fL x9 (aa (ai 0) aD)) (fC (.int 1)))) (fOr (fB (f2 gtD (fL x9 (aa (ai 0) aD)) (fC (.int 10)))) (fB (f2 neM (cU (fItS (ai 0)) [c_] (.nm 0) (fB (f2 jV (ai 0) (fC (.str "0123456789")))) (ai 0)) (fL bu aD)))))
   (cC (f1 negD (fC (.int 1))))
   cE
def ck:ah->M A9:=
 sIf (fOr (xw (fB (f2 eqM (f2 ym (ai 0) (fC (.int 0))) (fC (.str "0")))) (fB (f2 neM (ai 0) (fC (.str "0"))))) (fB (f2 gtD (fL EO (aa (ai 0) aD)) (ai 1))))
   (cC (f1 negD (fC (.int 1))))
   cE
def eI:ah->M A9:=
 (br (ee)
  (br (ck)
  (cC (fL EO (aa (ai 0) aD)))))
def bo:List A3->M A3:=bQ 2 2 (eI)
def cQ:ah->M A9:=
 sIf (fOr (fB (f2 ltD (fL x9 (aa (ai 0) aD)) (fC (.int 1)))) (fOr (fB (f2 gtD (fL x9 (aa (ai 0) aD)) (fC (.int 8)))) (fB (f2 jV (f2 ym (ai 0) (fC (.int 0))) (fC (.str "abcdefghijklmnopqrstuvwxyz"))))))
   (cC (fC (.bl b_)))
   cE
def gv:ah->M A9:=
 (br (cQ)
  (cC (f2 eqM (cU (fItS (ai 0)) [c_] (.nm 0) (fB (f2 jV (ai 0) (fC (.str "abcdefghijklmnopqrstuvwxyz0123456789")))) (ai 0)) (fL bu aD))))
def cf:List A3->M A3:=bQ 1 1 (gv)
def oi:ah->M Bool:=
 (xw (fB (f2 eqM (f2 ixD (ai 1) (fC (.int 0))) (fC (.str "kind")))) (fB (f2 eqM (fL gY (aa (ai 1) aD)) (fC (.int 2)))))
def eE:ah->M Bool:=
 (fOr (qS (kM (fL (cf) (aa (f2 ixD (ai 1) (fC (.int 1))) aD)))) (fOr (fB (f2 inM (f2 ixD (ai 1) (fC (.int 1))) (ai 2))) (fB (f2 gtD (fL gY (aa (ai 2) aD)) (fC (.int 5))))))
def kh:ah->M A3:=
 (f2 ixD (ai 1) (fC (.int 1)))
def oh:ah->M Bool:=
 (xw (fB (f2 inM (f2 ixD (ai 1) (fC (.int 0))) (fL bu (aa (fC (.str "gap")) (aa (fC (.str "beside")) aD))))) (fB (f2 eqM (fL gY (aa (ai 1) aD)) (fC (.int 4)))))
def iY:ah->M A3:=
 (fL (bo) (aa (f2 ixD (ai 1) (fC (.int 3))) (aa (f2 Ed (fC (.int 10)) (fC (.int 6))) aD)))
def bY:ah->M Bool:=
 (fOr (fB (f2 ib (f2 ixD (ai 1) (fC (.int 1))) (ai 2))) (fOr (fB (f2 ib (f2 ixD (ai 1) (fC (.int 2))) (ai 2))) (fB (f2 ltD (ai 7) (fC (.int 0))))))
def iX:ah->M A3:=
 (f2 ixD (ai 1) (fC (.int 0)))
def iW:ah->M A3:=
 (f2 ixD (ai 1) (fC (.int 1)))
def iV:ah->M A3:=
 (f2 ixD (ai 1) (fC (.int 2)))
def mh:ah->M Bool:=
 (xw (fB (f2 eqM (f2 ixD (ai 1) (fC (.int 0))) (fC (.str "closed")))) (fB (f2 eqM (fL gY (aa (ai 1) aD)) (fC (.int 3)))))
def i0:ah->M A3:=
 (fL (bo) (aa (f2 ixD (ai 1) (fC (.int 1))) (aa (f2 Ed (fC (.int 10)) (fC (.int 9))) aD)))
def hZ:ah->M A3:=
 (fL (bo) (aa (f2 ixD (ai 1) (fC (.int 2))) (aa (f2 Ed (fC (.int 10)) (fC (.int 9))) aD)))
def cH:ah->M Bool:=
 (fOr (fB (f2 ltD (ai 8) (fC (.int 0)))) (fOr (fB (f2 leD (ai 9) (ai 8))) (fB (f2 gtD (fL gY (aa (ai 6) aD)) (fC (.int 19))))))
def hV:ah->M A3:=
 (fL iC (aa (ai 8) (aa (ai 9) aD)))
def m9:ah->M Bool:=
 (fOr (fB (f2 neM (f2 ixD (ai 1) (fC (.int 0))) (fC (.str "flight")))) (fB (f2 neM (fL gY (aa (ai 1) aD)) (fC (.int 7)))))
def hI:ah->M A3:=
 (cU (fIt (fSl dQ (ai 1) (jP (fC (.int 3))) oQ)) [c_] (.nm 0) gZ (fL (bo) (aa (ai 0) (aa (f2 Ed (fC (.int 10)) (fC (.int 9))) aD))))
def eQ:ah->M Bool:=
 (fOr (qS (kM (fL (cf) (aa (f2 ixD (ai 1) (fC (.int 1))) aD)))) (fB (f2 inM (f2 ixD (ai 1) (fC (.int 1))) (ai 4))))
def gR:ah->M Bool:=
 (fOr (fB (f2 ib (f2 ixD (ai 1) (fC (.int 2))) (ai 2))) (fB (f2 ltD (fL minD (aa (ai 10) aD)) (fC (.int 0)))))
def dG:ah->M Bool:=
 (fOr (fB (f2 gtD (f2 ixD (ai 10) (fC (.int 0))) (f2 ixD (ai 10) (fC (.int 1))))) (fB (f2 gtD (fL gY (aa (ai 5) aD)) (fC (.int 39)))))
def fH:ah->M A3:=
 (f2 ixD (ai 1) (fC (.int 1)))
def fE:ah->M A3:=
 (fL iC (aa (gM (ai 2) (f2 ixD (ai 1) (fC (.int 2)))) (aa (f2 ixD (ai 10) (fC (.int 0))) (aa (f2 ixD (ai 10) (fC (.int 1))) (aa (f2 ixD (ai 10) (fC (.int 2))) (aa (f2 ixD (ai 10) (fC (.int 3))) aD))))))
def g6:Jst->List A3->M (Bool×Jst):=
 oneD (oi) (eE) (oh) (bY) (mh) (cH) (m9) (eQ) (gR) (dG) (kh) (iY) (iX) (iW) (iV) (i0) (hZ) (hV) (hI) (fH) (fE)
def fK:ah->M A3:=
 (fSM oj (ai 0) (fC (.str "\n")))
def cy:ah->M A3:=
 (fL (iM) (aa (f2 ixD (ai 2) (ai 3)) aD))
def bh:ah->M Bool:=
 (fB (f2 neM (ai 4) (fL bu aD)))
def cv:ah->M Bool:=
 (fB (f2 neM (f2 ym (f2 ixD (ai 4) (fC (.int 0))) (fC (.int 0))) (fC (.str "#"))))
def cx:ah->M A3:=
 (f2 bX (ai 3) (fC (.int 1)))
def eS:ah->M Bool:=
 (fB (f2 eqM (ai 5) (fL bu aD)))
def ir:ah->M A3:=
 (fL iC (aa (ai 5) (aa (f2 ixD (ai 10) (fC (.int 0))) (aa (f2 ixD (ai 10) (fC (.int 1))) (aa (ai 7) (aa (ai 8) (aa (ai 9) aD)))))))
def uS:ah->M A9:=
 (Ay (g6) (fK) (cy) (cx) (ir) (bh) (cv) (eS))
def gX:List A3->M A3:=bQ 12 1 (uS)
def j7:ah->M A9:=
 sIf (fB (f2 geD (ai 8) (ai 3)))
   (i9 [4] 4 (fJ [(f1 nV (ai 0)),(fC (.str " ")),(f1 nV (ai 5)),(fC (.str " ")),(f1 nV (ai 7)),(fC (.str " ")),(f1 nV (ai 8))]))
   cE
def cS:ah->M A9:=
 (j7)
def gz:ah->M A9:=
 (oO [4] (zI (ai 1) (ai 6)) (.tp [7,8]) (cS))
def oA:ah->M A9:=
 (br (b7 [] 4 (fL bu aD))
  (br (oO [4] (zI (ai 1) (ai 2)) (.tp [5,6]) (gz))
  (cC (ai 4))))
def gB:List A3->M A3:=bQ 9 4 (oA)
def mQ:ah->M A9:=
 (cC (cU (fIt (ai 0)) [c_] (.nm 0) gZ (fL zv (aa (ai 0) aD))))
def dH:List A3->M A3:=bQ 1 1 (mQ)
def jH(CR CP CS CW CD:g_)(n:Nat):ah->M A9:=
 (cC (fL (dH) (aa (f1 (bM [CR,CP] "gaps") (ai 0)) aD)))
def b6(CR CP CS CW CD:g_)(n:Nat):List A3->M A3:=bQ 1 1 (jH CR CP CS CW CD n)
def l7:ah->M A9:=
 (br (b7 [] 3 (f2 bX (fL bu (aa (fC (.str "flight")) (aa (ai 1) (aa (f2 ixD (ai 0) (f2 ixD (ai 2) (fC (.int 0)))) aD)))) (cU (fIt (fSl dQ (ai 2) (jP (fC (.int 1))) oQ)) [c_] (.nm 0) gZ (fL DC (aa (ai 0) aD)))))
  (cC (fSM mH (fC (.str " ")) (ai 3))))
def cR:List A3->M A3:=bQ 4 3 (l7)
def iT(CR CP CS CW CD:g_)(n:Nat):ah->M A9:=
 (cC (fL (dH) (aa (f1 (bM [CP] "beside") (ai 0)) aD)))
def bG(CR CP CS CW CD:g_)(n:Nat):List A3->M A3:=bQ 1 1 (iT CR CP CS CW CD n)
def jA(CR CP CS CW CD:g_)(n:Nat):ah->M A9:=
 sIf (kM (f1 (isiC [(CR,b_),(CP,d_)]) (ai 1)))
   (DM [5] 5 (fL (gB) (aa (fC (.str "beside")) (aa (ai 0) (aa (jM CP "beside_rows" (bG CR CP CS CW CD n) (ai 1) aD) (aa (fC (.int 0)) aD))))))
   cE
def xo(CR CP CS CW CD:g_)(n:Nat):ah->M A9:=
 (br (b7 [] 5 (cU (fIt (ai 0)) [c_] (.nm 0) gZ (fJ [(fC (.str "kind ")),(f1 nV (ai 0))])))
  (br (DM [5] 5 (fL (gB) (aa (fC (.str "gap")) (aa (ai 0) (aa (jb CR CP "gap_rows" (b6 CR CP CS CW CD n) (b6 CR CP CS CW CD n) (ai 1) aD) (aa (fC (.int 1)) aD))))))
  (br (jA CR CP CS CW CD n)
  (br (DM [5] 5 (cU (fIt (ai 4)) [c_,c_] (.tp [0,1]) gZ (fJ [(fC (.str "closed ")),(f1 nV (ai 0)),(fC (.str " ")),(f1 nV (ai 1))])))
  (br (DM [5] 5 (cU (zI (ai 2) (ai 3)) [c_,c_,a_ 0] (.tp [0,1]) gZ (fL (cR) (aa (ai 2) (aa (ai 0) (aa (ai 1) aD))))))
  (cC (fSM mH (fC (.str "")) (cU (fIt (ai 5)) [c_] (.nm 0) gZ (f2 bX (ai 0) (fC (.str "\n")))))))))))
def dS(CR CP CS CW CD:g_)(n:Nat):List A3->M A3:=bQ 6 5 (xo CR CP CS CW CD n)
def xp:ah->M A9:=
 (cC (cU (qR rN (aa (ai 2) aD)) [c_,a_ 0,a_ 1] (.nm 0) gZ (xu (ai 1) (fL iC (aa (ai 2) (aa (ai 0) aD))) (fC (.int 0)))))
def jX:List A3->M A3:=bQ 3 3 (xp)
def qM:ah->M A9:=
 (cC (cU (qR rN (aa (ai 1) aD)) [c_,a_ 0,a_ 1] (.nm 0) gZ (fL (jX) (aa (ai 1) (aa (ai 0) (aa (ai 2) aD))))))
def ie:List A3->M A3:=bQ 2 2 (qM)
def kH:ah->M A9:=
 sIf (fOr (qS (kM (f1 iP (ai 0)))) (kM (f1 k7 (ai 0))))
   (cC (fC (.bl b_)))
   cE
def pq:ah->M A9:=
 (br (kH)
  (cC (jc leD leD (fC (.int 0)) (ai 0) (fC (.int 1000000)))))
def eY:List A3->M A3:=bQ 1 1 (pq)
def oE:ah->M A9:=
 (cC (iq (f1 jZ (ai 0)) (iq (f2 eqM (fL gY (aa (ai 0) aD)) (ai 1)) (fL allD (aa (cU (fIt (ai 0)) [c_] (.nm 0) gZ (fL (eY) (aa (ai 0) aD))) aD)))))
def eG:List A3->M A3:=bQ 2 2 (oE)
def jJ:ah->M A9:=
 sIf (qS (fB (jc leD leD (fC (.int 1)) (ai 1) (fC (.int 6)))))
   sStk
   cE
def jI:ah->M A9:=
 sIf (qS (kM (fL allD (aa (cU (fIt (ai 0)) [c_,a_ 1] (.nm 0) gZ (fL (eG) (aa (ai 0) (aa (ai 1) aD)))) aD))))
   sStk
   cE
def l9:ah->M A9:=
 (br (b7 [] 1 (fL gY (aa (ai 0) aD)))
  (br (jJ)
  (br (jI)
  (cC (fL (dH) (aa (ai 0) aD))))))
def aM:List A3->M A3:=bQ 2 1 (l9)
def gq(CR CP CS CW CD:g_)(n:Nat):ah->M A9:=
 sIf (fB (f2 eqE (f1 (bM [CD] "beside") (ai 0)) (fC (.dic []))))
   (cC (fL (newR CR (aM)) (aa (ai 2) aD)))
   cE
def il(CR CP CS CW CD:g_)(n:Nat):ah->M A9:=
 (br (b7 [] 1 (fL gY (aa (f1 (bM [CD] "kinds") (ai 0)) aD)))
  (br (b7 [] 2 (fL (ie) (aa (f1 (bM [CD] "gaps") (ai 0)) (aa (ai 1) aD))))
  (br (gq CR CP CS CW CD n)
  (cC (fL (newP CP (aM)) (aa (ai 2) (aa (fL (ie) (aa (f1 (bM [CD] "beside") (ai 0)) (aa (ai 1) aD))) aD)))))))
def cw(CR CP CS CW CD:g_)(n:Nat):List A3->M A3:=bQ 3 1 (il CR CP CS CW CD n)
def fS:ah->M A9:=
 sIf (fOr (fB (f2 gtD (fL x9 (aa (ai 0) aD)) (fC (.int 10)))) (qS (kM (fL allD (aa (cU (fItS (ai 0)) [c_] (.nm 0) gZ (f2 inSD (ai 0) (fC (.str "0123456789")))) aD)))))
   (cC (fC .non))
   cE
def dJ:ah->M A9:=
 sIf (xw (fB (f2 eqM (f2 ym (ai 0) (fC (.int 0))) (fC (.str "0")))) (fB (f2 neM (ai 0) (fC (.str "0")))))
   (cC (fC .non))
   cE
def ik:ah->M A9:=
 (br (fS)
  (br (dJ)
  (cC (fL EO (aa (ai 0) aD)))))
def bz:List A3->M A3:=bQ 1 1 (ik)
def dC:ah->M A9:=
 sIf (fOr (fB (f2 neM (fL gY (aa (ai 1) aD)) (fC (.int 4)))) (fOr (fB (f2 ib (f2 ixD (ai 1) (fC (.int 1))) (ai 0))) (fB (f2 ib (f2 ixD (ai 1) (fC (.int 2))) (ai 0)))))
   (cC (fC .non))
   cE
def g9:ah->M A9:=
 (br (dC)
  (br (b7 [] 2 (fL (bz) (aa (f2 ixD (ai 1) (fC (.int 3))) aD)))
  (cC (fIte (kM (fL (eY) (aa (ai 2) aD))) (fL iC (aa (gM (ai 0) (f2 ixD (ai 1) (fC (.int 1)))) (aa (gM (ai 0) (f2 ixD (ai 1) (fC (.int 2)))) (aa (ai 2) aD)))) (fC .non)))))
def bj:List A3->M A3:=bQ 3 2 (g9)
def mP:ah->M A9:=
 (cC (jc leD leD (fC (.int 0)) (ai 0) (fC (.int 1000000000))))
def eX:List A3->M A3:=bQ 1 1 (mP)
def eC:ah->M A9:=
 (br (b7 [] 1 (f2 ixD (ai 0) (fC (.int 1))))
  (br (b7 [] 2 (f2 ixD (ai 0) (fC (.int 2))))
  (cC (iq (f2 leD (ai 1) (ai 2)) (fL allD (aa (cU (fIt (fSl dQ (ai 0) (jP (fC (.int 1))) oQ)) [c_] (.nm 0) gZ (fL (eX) (aa (ai 0) aD))) aD))))))
def bA:List A3->M A3:=bQ 3 1 (eC)
def iz:ah->M A9:=
 sIf (fOr (fB (f2 gtD (fL x9 (aa (ai 0) aD)) (fC (.int 8)))) (fB (f2 jV (f2 ym (ai 0) (fC (.int 0))) (fC (.str "abcdefghijklmnopqrstuvwxyz")))))
   (cC (fC (.bl b_)))
   cE
def mO:ah->M A9:=
 (br (iz)
  (cC (fL allD (aa (cU (fItS (ai 0)) [c_] (.nm 0) gZ (D9 (f2 inSD (ai 0) (fC (.str "abcdefghijklmnopqrstuvwxyz"))) (f2 inSD (ai 0) (fC (.str "0123456789"))))) aD))))
def gD:List A3->M A3:=bQ 1 1 (mO)
def cA:ah->M A9:=
 sIf (fOr (fB (f2 neM (fL gY (aa (ai 2) aD)) (fC (.int 7)))) (fOr (fB (f2 geD (fL gY (aa (ai 1) aD)) (fC (.int 40)))) (fB (f2 ib (f2 ixD (ai 2) (fC (.int 2))) (ai 0)))))
   (cC (fC .non))
   cE
def dD:ah->M A9:=
 sIf (fOr (qS (kM (fL (gD) (aa (f2 ixD (ai 2) (fC (.int 1))) aD)))) (fB (f2 inM (f2 ixD (ai 2) (fC (.int 1))) (ai 1))))
   (cC (fC .non))
   cE
def iy:ah->M A9:=
 sIf (fB (f2 inM (fC .non) (ai 3)))
   (cC (fC .non))
   cE
def cM:ah->M A9:=
 (br (cA)
  (br (dD)
  (br (b7 [] 3 (cU (fIt (fSl dQ (ai 2) (jP (fC (.int 3))) oQ)) [c_] (.nm 0) gZ (fL (bz) (aa (ai 0) aD))))
  (br (iy)
  (br (b7 [] 4 (fL iC (aa (gM (ai 0) (f2 ixD (ai 2) (fC (.int 2)))) (aa (f2 ixD (ai 3) (fC (.int 0))) (aa (f2 ixD (ai 3) (fC (.int 1))) (aa (f2 ixD (ai 3) (fC (.int 2))) (aa (f2 ixD (ai 3) (fC (.int 3))) aD)))))))
  (cC (fIte (kM (fL (bA) (aa (ai 4) aD))) (ai 4) (fC .non))))))))
def aV:List A3->M A3:=bQ 5 3 (cM)
def dI:ah->M A9:=
 sIf (fOr (fB (f2 neM (fL gY (aa (ai 1) aD)) (fC (.int 2)))) (fB (f2 geD (fL gY (aa (ai 0) aD)) (fC (.int 6)))))
   (cC (fC .non))
   cE
def g8:ah->M A9:=
 (br (dI)
  (cC (fIte (xw (kM (fL (gD) (aa (f2 ixD (ai 1) (fC (.int 1))) aD))) (fB (f2 ib (f2 ixD (ai 1) (fC (.int 1))) (ai 0)))) (f2 ixD (ai 1) (fC (.int 1))) (fC .non))))
def bx:List A3->M A3:=bQ 2 2 (g8)
def oB:ah->M A9:=
 (cC (kg leD ltD leD (fC (.int 0)) (f2 ixD (ai 0) (fC (.int 0))) (f2 ixD (ai 0) (fC (.int 1))) (fC (.int 1000000000))))
def gC:List A3->M A3:=bQ 1 1 (oB)
def lK:ah->M A9:=
 (cC (iq (f2 leD (fL gY (aa (ai 0) aD)) (fC (.int 20))) (fL allD (aa (cU (fIt (ai 0)) [c_] (.nm 0) gZ (fL (gC) (aa (ai 0) aD))) aD))))
def ic:List A3->M A3:=bQ 1 1 (lK)
def bJ:ah->M A9:=
 sIf (fB (f2 neM (fL gY (aa (ai 1) aD)) (fC (.int 3))))
   (cC (fC .non))
   cE
def cg:ah->M A9:=
 (br (bJ)
  (br (b7 [] 2 (fL iC (aa (fL (bz) (aa (f2 ixD (ai 1) (fC (.int 1))) aD)) (aa (fL (bz) (aa (f2 ixD (ai 1) (fC (.int 2))) aD)) aD))))
  (cC (fIte (xw (fB (f2 ib (fC .non) (ai 2))) (kM (fL (ic) (aa (f2 bX (ai 0) (fL bu (aa (ai 2) aD))) aD)))) (ai 2) (fC .non)))))
def aU:List A3->M A3:=bQ 3 2 (cg)
def bF:List A3->List A3->M (Bool×List A3):=
 nF (fOr (fB (f2 eqM (ai 1) (fL bu aD))) (kM (fSM nI (f2 ixD (ai 1) (fC (.int 0))) (fC (.str "#")))))
  (fB (f2 eqM (f2 ixD (ai 1) (fC (.int 0))) (fC (.str "kind"))))
  (fB (f2 eqM (f2 ixD (ai 1) (fC (.int 0))) (fC (.str "gap"))))
  (fB (f2 eqM (f2 ixD (ai 1) (fC (.int 0))) (fC (.str "beside"))))
  (fB (f2 eqM (f2 ixD (ai 1) (fC (.int 0))) (fC (.str "closed")))) (f2 eqM (f2 ixD (ai 1) (fC (.int 0))) (fC (.str "flight")))
  (bx) (bj) (aU) (aV)
def tu:ah->M A9:=
 (cC (cU (fIt (fSM oj (ai 0) (fC (.str " ")))) [c_] (.nm 0) (fB (f2 neM (ai 0) (fC (.str "")))) (ai 0)))
def g7:List A3->M A3:=bQ 1 1 (tu)
def cj(CR CP CS CW CD:g_)(n:Nat):ah->M A9:=
 sIf (fB (f2 eqM (f1 (bM [CD] "kinds") (ai 1)) (fL bu aD)))
   (BL CW "row" (aa (fC (.int 0)) aD))
   cE
def iR(CR CP CS CW CD:g_)(n:Nat):ah->M A9:=
 (pS CD CW "row" (bF) (g7) 1 2 3 (fSM oj (ai 0) (fC (.str "\n")))
  (br (cj CR CP CS CW CD n)
  (fNoX (cC (fL (newS CS (dS CR CP CS CW CD n)) (aa (f1 (bM [CD] "kinds") (ai 1)) (aa (fL (cw CR CP CS CW CD n) (aa (ai 1) aD)) (aa (f1 (bM [CD] "names") (ai 1)) (aa (f1 (bM [CD] "flights") (ai 1)) (aa (f1 (bM [CD] "closed") (ai 1)) aD))))))))))
def du(CR CP CS CW CD:g_)(n:Nat):List A3->M A3:=bQ 4 1 (iR CR CP CS CW CD n)
def fU(CR CP CS CW CD:g_)(n:Nat):ah->M A9:=
 pR [] CW (b7 [] 1 (fL bu (aa (fL (du CR CP CS CW CD n) (aa (ai 0) aD)) aD))) (sI 2 1 "row" d_ d_ b_)
def lL(CR CP CS CW CD:g_)(n:Nat):ah->M A9:=
 (br (b7 [] 1 (fL bu aD))
  (br (fU CR CP CS CW CD n)
  (cC (ai 1))))
def eB(CR CP CS CW CD:g_)(n:Nat):List A3->M A3:=bQ 3 1 (lL CR CP CS CW CD n)
def k8:ah->M A9:=
 (cC (iq (f1 iP (ai 0)) (f1 notD (f1 k7 (ai 0)))))
def dv:List A3->M A3:=bQ 1 1 (k8)
def kr:ah->M A9:=
 sIf (fOr (qS (kM (f1 jZ (ai 0)))) (fB (f2 neM (ai 0) (ai 1))))
   (cC (fC (.bl b_)))
   cE
def kq:ah->M A9:=
 sIf (fOr (qS (kM (f1 kB (ai 3)))) (fB (f2 neM (fL gY (aa (ai 3) aD)) (ai 2))))
   (cC (fC (.bl b_)))
   cE
def ko:ah->M A9:=
 sIf (qS (kM (fL allD (aa (cU (fIt (ai 3)) [c_] (.nm 0) gZ (fL (dv) (aa (ai 0) aD))) aD))))
   (cC (fC (.bl b_)))
   cE
def fV:ah->M A9:=
 (br (kq)
  (ko))
def mT:ah->M A9:=
 (br (kr)
  (br (oO [] (fIt (ai 0)) (.nm 3) (fV))
  (cC (fC (.bl d_)))))
def cJ:List A3->M A3:=bQ 4 3 (mT)
def ip:ah->M A9:=
 (cC (fC (.int 1)))
def cK:List A3->M A3:=bQ 1 1 (ip)
def iS:ah->M A9:=
 (cC (fC (.int 2)))
def cZ:List A3->M A3:=bQ 1 1 (iS)
def lV(CR CP CS CW CD:g_)(n:Nat):ah->M A9:=
 sIf (qS (kM (f1 (isiC [(CS,d_)]) (ai 0))))
   (cC (fC (.bl b_)))
   cE
def lU(CR CP CS CW CD:g_)(n:Nat):ah->M A9:=
 sIf (fOr (fB (f2 neM (f1 (bM [CS] "kinds") (ai 0)) (ai 2))) (fB (f2 neM (f1 (bM [CS] "names") (ai 0)) (ai 5))))
   (cC (fC (.bl b_)))
   cE
def lT(CR CP CS CW CD:g_)(n:Nat):ah->M A9:=
 sIf (fOr (qS (kM (fL (cJ) (aa (f1 (bM [CS] "flights") (ai 0)) (aa (ai 6) (aa (fC (.int 5)) aD)))))) (qS (kM (fL (cJ) (aa (f1 (bM [CS] "closed") (ai 0)) (aa (ai 7) (aa (fC (.int 2)) aD)))))))
   (cC (fC (.bl b_)))
   cE
def lS(CR CP CS CW CD:g_)(n:Nat):ah->M A9:=
 sIf (fOr (fB (f2 neM (jb CR CP "gap_rows" (b6 CR CP CS CW CD n) (b6 CR CP CS CW CD n) (f1 (bM [CS] "rules") (ai 0)) aD) (ai 3))) (fB (f2 neM (jb CR CP "many_strips" (cK) (cZ) (f1 (bM [CS] "rules") (ai 0)) aD) (f2 bX (fC (.int 1)) (fL intD (aa (f2 uJ (ai 4) (fC .non)) aD))))))
   (cC (fC (.bl b_)))
   cE
def qO(CR CP CS CW CD:g_)(n:Nat):ah->M A9:=
 (br (rM [] (.tp [2,3,4,5,6,7]) (ai 1))
  (br (lV CR CP CS CW CD n)
  (br (lU CR CP CS CW CD n)
  (br (lT CR CP CS CW CD n)
  (br (lS CR CP CS CW CD n)
  (cC (D9 (f2 isND (ai 4) (fC .non)) (f2 eqM (jM CP "beside_rows" (bG CR CP CS CW CD n) (f1 (bM [CS] "rules") (ai 0)) aD) (ai 4)))))))))
def jY(CR CP CS CW CD:g_)(n:Nat):List A3->M A3:=bQ 8 2 (qO CR CP CS CW CD n)
def eh:ah->M A9:=
 sIf (kM (f1 iP (ai 1)))
   (cC (iq (f2 eqM (ai 2) (fL bu (aa (fC .non) (aa (ai 1) (aa (fC (.bl d_)) (aa (fC (.bl d_)) (aa (fC (.bl b_)) aD))))))) (fL (dv) (aa (f2 ixD (ai 2) (fC (.int 1))) aD))))
   cE
def kb(CR CP CS CW CD:g_)(n:Nat):ah->M A9:=
 (br (b7 [] 1 (fL (gX) (aa (ai 0) aD)))
  (br (b7 [] 2 (fL (eB CR CP CS CW CD n) (aa (ai 0) aD)))
  (br (eh)
  (cC (iq (f2 eqM (fL gY (aa (ai 2) aD)) (fC (.int 1))) (fL (jY CR CP CS CW CD n) (aa (f2 ixD (ai 2) (fC (.int 0))) (aa (ai 1) aD))))))))
def bZ(CR CP CS CW CD:g_)(n:Nat):List A3->M A3:=bQ 3 1 (kb CR CP CS CW CD n)
def xW:ah->M A9:=
 sIf (fB (f2 neM (f2 ixD (ai 0) (fC (.int 3))) (fL bu aD)))
   (b7 [] 3 (f2 ixD (f2 ixD (ai 0) (fC (.int 3))) (f2 jt (f2 gF (ai 1) (fC (.int 64))) (fL gY (aa (f2 ixD (ai 0) (fC (.int 3))) aD)))))
   cE
def yf:ah->M A9:=
 (br (i9 [4] 4 (f2 bX (f2 bX (f2 bX (f2 bX (f2 bX (fC (.str "gap ")) (ai 2)) (fC (.str " "))) (ai 2)) (fC (.str " "))) (ai 5)))
  (i9 [4] 4 (f2 bX (fC (.str "closed 0 ")) (ai 5))))
def CC:ah->M A9:=
 (br (b7 [] 2 (f2 ixD (f2 ixD (ai 0) (fC (.int 0))) (f2 jt (f2 gF (ai 1) (fC (.int 64))) (fL gY (aa (f2 ixD (ai 0) (fC (.int 0))) aD)))))
  (br (b7 [] 3 (fC (.str "zz9")))
  (br (xW)
  (br (b7 [] 4 (fL bu (aa (fC (.str "kind")) (aa (f2 bX (fC (.str "kind ")) (ai 2)) (aa (fC (.str "kind a b")) (aa (fC (.str "kind Ab")) (aa (fC (.str "kind 1a")) (aa (fC (.str "kind abcdefghi")) (aa (fC (.str "kind a-b")) (aa (fC (.str "kinds a")) (aa (fC (.str "Kind a")) aD)))))))))))
  (br (b7 [] 4 (f2 bX (ai 4) (fL bu (aa (f2 bX (f2 bX (f2 bX (fC (.str "gap ")) (ai 2)) (fC (.str " "))) (ai 2)) (aa (f2 bX (f2 bX (fC (.str "gap ")) (ai 2)) (fC (.str " zz9 1"))) (aa (f2 bX (f2 bX (fC (.str "gap zz9 ")) (ai 2)) (fC (.str " 1"))) aD))))))
  (br (oO [4] (fIt (fL bu (aa (fC (.str "01")) (aa (fC (.str "-1")) (aa (fC (.str "+1")) (aa (fC (.str "1000001")) (aa (fC (.str "")) (aa (fC (.str "1_0")) (aa (fC (.str "1e3")) (aa (fC (.str "a")) (aa (fC (.str "00")) (aa (fC (.str "10000000000")) (aa (fC (.str "1.0")) (aa (f2 Et (fC (.str "9")) (fC (.int 5000))) aD)))))))))))))) (.nm 5) (yf))
  (br (b7 [] 4 (f2 bX (ai 4) (fL bu (aa (fC (.str "closed 5 5")) (aa (fC (.str "closed 7 3")) (aa (fC (.str "closed 4")) (aa (fC (.str "closed 1 2 3")) (aa (fC (.str "closed 0 1000000001")) (aa (f2 bX (f2 bX (fC (.str "beside ")) (ai 2)) (fC (.str " 1"))) aD)))))))))
  (br (b7 [] 4 (f2 bX (ai 4) (fL bu (aa (f2 bX (f2 bX (fC (.str "flight zz9 ")) (ai 2)) (fC (.str " 1 2 3"))) (aa (f2 bX (f2 bX (fC (.str "flight zz9 ")) (ai 2)) (fC (.str " 5 4 0 0"))) (aa (fC (.str "flight zz9 zz9 1 2 3 4")) aD))))))
  (br (b7 [] 4 (f2 bX (ai 4) (fL bu (aa (f2 bX (f2 bX (f2 bX (f2 bX (fC (.str "flight ")) (ai 3)) (fC (.str " "))) (ai 2)) (fC (.str " 1 2 3 4"))) (aa (f2 bX (f2 bX (fC (.str "flight zz9 ")) (ai 2)) (fC (.str " 1 2 3 1000000001"))) (aa (fC (.str "say a")) aD))))))
  (br (b7 [] 4 (f2 bX (ai 4) (fL bu (aa (f2 bX (f2 bX (f2 bX (f2 bX (fC (.str "beside ")) (ai 2)) (fC (.str " "))) (ai 2)) (fC (.str " 1000001"))) (aa (f2 bX (f2 bX (fC (.str "flight 9z ")) (ai 2)) (fC (.str " 1 2 3 4"))) (aa (f2 bX (fC (.str "flight zz9 ")) (ai 2)) aD))))))
  (cC (f2 ixD (ai 4) (f2 jt (f2 gF (ai 1) (fC (.int 8))) (fL gY (aa (ai 4) aD)))))))))))))))
def kz:List A3->M A3:=bQ 6 2 (CC)
def b_law_1:ah->M A9:=
 (br (b7 [1] 4 (fL (ba) (aa (ai 0) (aa (f2 bX (fC (.int 410)) (ai 3)) aD))))
  (br (uq b_ 5 (f2 jt (f2 gF (ai 4) (fC (.int 8))) (f2 bX (fL gY (aa (ai 1) aD)) (fC (.int 1)))))
  (sIns [1] 1 (ai 5) (fL (kz) (aa (fL (ju) (aa (ai 0) aD)) (aa (fL (ba) (aa (ai 0) (aa (f2 bX (fC (.int 420)) (ai 3)) aD))) aD))))))
def c_law_2(CR CP CS CW CD:g_)(n:Nat):ah->M A9:=
 sIf (qS (kM (fL (bZ CR CP CS CW CD n) (aa (fSM mH (fC (.str "\n")) (ai 1)) aD))))
   (cC (fC (.bl b_)))
   cE
def c_law_3:ah->M A9:=
 sIf (fB (f2 neM (fL gY (aa (ai 1) aD)) (fL gY (aa (ai 1) aD))))
   (cC (fC (.bl b_)))
   cE
def g_law(CR CP CS CW CD:g_)(n:Nat):ah->M A9:=
 (br (b7 [] 1 (fL (iN) (aa (fL (ju) (aa (ai 0) aD)) aD)))
  (br (uq d_ 2 (fL zv (aa (ai 1) aD)))
  (br (oO [1] (qR rN (aa (f2 bX (fC (.int 1)) (f2 jt (fL (bC) (aa (ai 0) (aa (fC (.int 3)) aD))) (fC (.int 2)))) aD)) (.nm 3) (b_law_1))
  (br (c_law_2 CR CP CS CW CD n)
  (br (c_law_3)
  (cC (iq (fL (bZ CR CP CS CW CD n) (aa (fSM mH (fC (.str "\n")) (ai 2)) aD)) (fL (bZ CR CP CS CW CD n) (aa (fSM mH (fC (.str "\n")) (fSl dQ (ai 2) (jP (fC (.int 1))) oQ)) aD)))))))))
def m_law(CR CP CS CW CD:g_)(n:Nat):List A3->M A3:=bQ 6 1 (g_law CR CP CS CW CD n)
noncomputable def top(i:Nat):GW:=NT.main.body.getD i (.Pass ⟨0,0,0,0⟩)
abbrev wg:GW:=top 74
abbrev um:GW:=top 58
abbrev yJ:GW:=top 59
abbrev rL:GW:=top 57
abbrev mq:GW:=top 60
abbrev BJ:GW:=top 61
abbrev yI:GW:=top 62
abbrev yK:GW:=top 63
abbrev wa:GW:=top 67
abbrev we:GW:=top 69
abbrev rK:GW:=top 68
abbrev BH:GW:=top 70
abbrev uo:GW:=top 71
abbrev vZ:GW:=top 43
abbrev uj:GW:=top 26
abbrev jE:GW:=inClass (top 28) 4
abbrev rJ:GW:=top 44
abbrev mx:GW:=inClass (top 29) 3
abbrev vY:GW:=top 45
abbrev DK:GW:=top 52
abbrev yG:GW:=top 53
abbrev s_is_gap:GW:=top 24
abbrev w9:GW:=top 25
abbrev j3:GW:=top 27
abbrev pQ:GW:=top 54
abbrev yD:GW:=top 48
abbrev yE:GW:=top 37
abbrev BE:GW:=top 39
abbrev BG:GW:=top 49
abbrev ui:GW:=top 14
abbrev lj:GW:=top 15
abbrev DH:GW:=top 36
abbrev ug:GW:=top 41
abbrev uh:GW:=top 50
abbrev yC:GW:=top 38
abbrev w5:GW:=top 19
abbrev yF:GW:=top 20
abbrev rH:GW:=top 40
abbrev BF:GW:=top 51
abbrev BD:GW:=top 35
abbrev w4:GW:=top 55
abbrev yH:GW:=top 72
abbrev wc:GW:=top 64
abbrev uk:GW:=top 65
abbrev ll:GW:=inClass (top 28) 2
abbrev mv:GW:=inClass (top 29) 1
abbrev DL:GW:=top 66
abbrev wj:GW:=top 73
abbrev BI:GW:=top 75
abbrev s_law:GW:=top 76
abbrev s_nR:GW:=inClass (top 28) 0
abbrev s_nP:GW:=inClass (top 29) 0
abbrev s_nS:GW:=inClass (top 46) 0
abbrev s_nCW:GW:=inClass (top 9) 0
abbrev s_nD:GW:=inClass (top 47) 0
structure Zs(K:Pn)(mg:Ld)(CR CP CS CW CD AStripError ANoRow ANoRules ANoTime ANoPlace ANotFree ATooMany ANoPlan:g_):Prop where
 uM:mg "StripError"=a_ (.ref AStripError)
 mI_NoRow:mg "NoRow"=a_ (.ref ANoRow)
 Cj:mg "NoRules"=a_ (.ref ANoRules)
 Ez:mg "NoTime"=a_ (.ref ANoTime)
 Ck:mg "NoPlace"=a_ (.ref ANoPlace)
 Ci:mg "NotFree"=a_ (.ref ANotFree)
 Cg:mg "TooMany"=a_ (.ref ATooMany)
 EA:mg "NoPlan"=a_ (.ref ANoPlan)
 xCW:XTry K mg "NoSheet" CW
 kR:Kls K mg "Rules" CR
 kP:Kls K mg "Pair" CP
 kS:Kls K mg "Sheet" CS
 kD:Kls K mg "Draft" CD
 ki_CR_CP:GL K (.ref CR) (.ref CP)=a_ b_
 ki_CP_CP:GL K (.ref CP) (.ref CP)=a_ d_
 oV:GL K (.ref CW) (.ref AStripError)=a_ d_
 oW:GL K (.ref CW) (.type "ValueError")=a_ d_
 kT_CW:kitAny K (.ref CW) ([ANoRow,ANoRules,ANoTime,ANoPlace,ANotFree,ATooMany,ANoPlan].map FZ)=a_ b_
 ki_CS_CS:GL K (.ref CS) (.ref CS)=a_ d_
 aCW_row:D2 K CW "row"
 mV:∀C∈[CR,CP],Cls K C/\bq K C "gaps"
 tH:∀C∈[CP],Cls K C/\bq K C "beside"
 CG:∀C∈[CS],Cls K C/\bq K C "closed"
 zH:∀C∈[CS],Cls K C/\bq K C "flights"
 EY:∀C∈[CS],Cls K C/\bq K C "kinds"
 EX:∀C∈[CS],Cls K C/\bq K C "names"
 qQ:∀C∈[CS],Cls K C/\bq K C "rules"
 naS:∀y∈(["kinds","rules","names","flights","closed","text"]:List p_),bq K CS y
 vF:mg "ValueError"=c_
 yq:mg "all"=c_
 z_bool:mg "bool"=c_
 yp:mg "enumerate"=c_
 yo:mg "int"=c_
 bg:mg "isinstance"=c_
 cb:mg "len"=c_
 vE:mg "list"=c_
 z_min:mg "min"=c_
 fZ:mg "range"=c_
 Ai:mg "sorted"=c_
 Bu:mg "str"=c_
 z_tuple:mg "tuple"=c_
 z_zip:mg "zip"=c_
 sd:∃t,mg "GREATEST_GAP"=a_ (.int 1000000 t)
 nR:∃t,mg "GREATEST_NUMBER"=a_ (.int 1000000000 t)
 qP:∃t,mg "GREATEST_STOP"=a_ (.int 1000000000 t)
 rZ:∃t,mg "MOST_FIGURES"=a_ (.int 10 t)
 rY:∃t,mg "MOST_FLIGHTS"=a_ (.int 40 t)
 oG:∃t,mg "MOST_KINDS"=a_ (.int 6 t)
 xr:∃t,mg "MOST_SIGNS"=a_ (.int 8 t)
 oZ:∃t,mg "MOST_STRETCHES"=a_ (.int 20 t)
 kit:Kit K
 gs_FIGURES:∃t,mg "FIGURES"=a_ (.str "0123456789" t)
 gs_LETTERS:∃t,mg "LETTERS"=a_ (.str "abcdefghijklmnopqrstuvwxyz" t)
 n_D:∃f fd,Mth K CD "__init__" "Draft.__init__" s_nD ["self"] f fd
 naD:∀y∈(["kinds","gaps","beside","names","flights","closed"]:List p_),bq K CD y
 fldD_beside:∀C∈[CD],Cls K C/\bq K C "beside"
 fldD_closed:∀C∈[CD],Cls K C/\bq K C "closed"
 fldD_flights:∀C∈[CD],Cls K C/\bq K C "flights"
 fldD_gaps:∀C∈[CD],Cls K C/\bq K C "gaps"
 fldD_kinds:∀C∈[CD],Cls K C/\bq K C "kinds"
 fldD_names:∀C∈[CD],Cls K C/\bq K C "names"
 CO:∃f fd,Def K mg "_law_one" BH ["_law_state","_law_words_here"] f fd
 zQ:∃f fd,Def K mg "take_told" yD ["kept","told"] f fd
 CM:∃f fd,Def K mg "take_gap" BG ["kinds","gaps","words"] f fd
 uZ:∃f fd,Def K mg "take_flight" uh ["draft","words"] f fd
 CL:∃f fd,Def K mg "take_row" BF ["draft","words"] f fd
 xO:∃f fd,Def K mg "_law_shown" wg ["_law_data_here"] f fd
 vh:∃f fd,Def K mg "_law_number" um ["_law_script","_law_k"] f fd
 zW:∃f fd,Def K mg "_law_name" yJ ["_law_number_here","_law_k"] f fd
 so:∃f fd,Def K mg "_law_cell_at" rL ["_law_script","_law_k"] f fd
 nh:∃f fd,Def K mg "_law_flight_name" mq ["_law_number_here","_law_k"] f fd
 CT:∃f fd,Def K mg "_law_gap" BJ ["_law_number_here"] f fd
 zV:∃f fd,Def K mg "_law_time" yI ["_law_number_here"] f fd
 zX:∃f fd,Def K mg "_law_data" yK ["_law_script"] f fd
 xJ:∃f fd,Def K mg "_law_words" wa ["_law_row"] f fd
 xN:∃f fd,Def K mg "_law_value" we ["_law_word","_law_most"] f fd
 sm:∃f fd,Def K mg "_law_is_name" rK ["_law_word"] f fd
 vi:∃f fd,Def K mg "_law_judged" uo ["_law_text"] f fd
 xE:∃f fd,Def K mg "shown_gaps" vZ ["word","kinds","rows","least"] f fd
 vf:∃f fd,Def K mg "copied_rows" uj ["rows"] f fd
 sj:∃f fd,Def K mg "shown_flight" rJ ["kinds","name","flight"] f fd
 Fy:∃f fd,Def K mg "text_of" vY ["kinds","rules","names","flights","closed"] f fd
 FE:∃f fd,Def K mg "gap_row" DK ["gaps","kind","many"] f fd
 zT:∃f fd,Def K mg "gap_table" yG ["gaps","many"] f fd
 d_is_gap:∃f fd,Def K mg "is_gap" s_is_gap ["number"] f fd
 xI:∃f fd,Def K mg "is_gap_row" w9 ["row","kinds"] f fd
 sk:∃f fd,Def K mg "checked_rows" j3 ["rows"] f fd
 rg:∃f fd,Def K mg "drafted_rules" pQ ["draft"] f fd
 zR:∃f fd,Def K mg "number_of" yE ["word"] f fd
 CK:∃f fd,Def K mg "told_gap" BE ["kinds","words"] f fd
 ve:∃f fd,Def K mg "is_in_range" ui ["number"] f fd
 lQ:∃f fd,Def K mg "has_right_numbers" lj ["flight"] f fd
 FC:∃f fd,Def K mg "is_name" DH ["word"] f fd
 uY:∃f fd,Def K mg "told_flight" ug ["kinds","names","words"] f fd
 zP:∃f fd,Def K mg "told_kind" yC ["kinds","words"] f fd
 xH:∃f fd,Def K mg "is_stretch" w5 ["stretch"] f fd
 zS:∃f fd,Def K mg "is_closed" yF ["closed"] f fd
 si:∃f fd,Def K mg "told_stretch" rH ["closed","words"] f fd
 CJ:∃f fd,Def K mg "words_of" BD ["row"] f fd
 xG:∃f fd,Def K mg "read_sheet" w4 ["text"] f fd
 zU:∃f fd,Def K mg "_law_told" yH ["_law_text"] f fd
 xK:∃f fd,Def K mg "_law_whole" wc ["_law_found"] f fd
 vg:∃f fd,Def K mg "_law_tuples" uk ["_law_found","_law_due","_law_long"] f fd
 FF:∃f fd,Def K mg "_law_is" DL ["_law_sheet","_law_data_here"] f fd
 xP:∃f fd,Def K mg "_law_right" wj ["_law_text"] f fd
 CQ:∃f fd,Def K mg "_law_odd" BI ["_law_data_here","_law_number_here"] f fd
 d_law:∃f fd,Def K mg "law" s_law ["_law_script"] f fd/\∀(s:y_) (v:i_),KU s fd ⟨[v],[]⟩ [("_law_script",v)]
 m_M_R_gap_rows:∃f fd,Mth K CR "gap_rows" "Rules.gap_rows" jE ["self"] f fd
 m_M_P_gap_rows:∃f fd,Mth K CP "gap_rows" "Rules.gap_rows" jE ["self"] f fd
 m_M_P_beside_rows:∃f fd,Mth K CP "beside_rows" "Pair.beside_rows" mx ["self"] f fd
 m_M_R_many_strips:∃f fd,Mth K CR "many_strips" "Rules.many_strips" ll ["self"] f fd
 m_M_P_many_strips:∃f fd,Mth K CP "many_strips" "Pair.many_strips" mv ["self"] f fd
 n_P:∃f fd,Mth K CP "__init__" "Pair.__init__" s_nP ["self","gaps","beside"] f fd
 n_R:∃f fd,Mth K CR "__init__" "Rules.__init__" s_nR ["self","gaps"] f fd/\Stat K CR (.type "type") "__init__" f
 n_S:∃f fd,Mth K CS "__init__" "Sheet.__init__" s_nS ["self","kinds","rules","names","flights","closed"] f fd
 n_CW:∃f fd,Mth K CW "__init__" "NoSheet.__init__" s_nCW ["self","row"] f fd/\XMk K mg "NoSheet" CW f
 ne:CR≠CP
noncomputable abbrev Zq(_:Nat)(_:GO)(_:Hg)(_:GQ):=Zs
theorem law_d{K:Pn}{st:GW}{ps:List p_}{q:HL->Prop}(h:∃f fd,Def K mg x st ps f fd/\q fd):∃f fd,Def K mg x st ps f fd:=let ⟨f,fd,D,_⟩:=h;⟨f,fd,D⟩
theorem putGB(a b:V):sU ("beside":p_) b [(("gaps":p_),a)]=[(("gaps":p_),a),(("beside":p_),b)]:=by show(if ("gaps":p_)="beside" then _ else(("gaps":p_),a)::sU "beside" b [])=_;rw[k_ (by decide +kernel)];rfl
theorem sc_nCW:gr ["self","row"] ["self","row"] (aJ s_nCW):=⟨rfl,rfl,rfl,by decide +kernel,rfl,by decide +kernel,by decide +kernel⟩
theorem okn_CW{P:GO}{w:Hg}{K:Pn}{base:GQ}{f:g_}{fd:HL}(N:Fun K "__init__" "NoSheet.__init__" s_nCW f fd)(Y:D2 K C "row"):i6 P w K mg base CX0 1 f fd ["self","row"] (spX1 C "row"):=by
 refine N.okX sc_nCW (λvs H Q E h=>?_) (λcdv A outer s H vs Q E c h=>?_)
 ·obtain⟨a,v1,rfl,_⟩:=h;rfl
 ·obtain⟨a,v1,rfl,b,q⟩:=h;refine⟨_,aX (ps_x1 (pv 0) (pv 1) Y),?_⟩
  exact⟨v1,rfl,_,rfl,a,rfl,b,λd hd I=>q d hd I⟩
section
variable{P:GO}{w:Hg}{base:GQ}{K:Pn}{CR:g_}(Z:Zq n P w base K mg CR CP CS CW CD AStripError ANoRow ANoRules ANoTime ANoPlace ANotFree ATooMany ANoPlan)
include Z
theorem uH:YO Z.xO P w base 1 d_ (iN):=
 fY ["_law_data_here","_law_kinds","_law_gaps","_law_beside","_law_names","_law_flights","_law_closed","_law_rows","_law_k","_law_j","_law_start","_law_stop","_law_name_here","_law_flight","_law_numbers"] λz I Y=>(au (Fh (ao 0) (xB rfl (bH (i:=1) I (bH (i:=2) I (bH (i:=3) I (bH (i:=4) I (bH (i:=5) I (bH (i:=6) I ki)))))))) (au (mY (i:=7) d_ ["_law_kind"] [c_] I (dX (ao 1)) (λ_ _ _ _ _=>cG (by decide +kernel)) (aG rfl) (λ_ _ _ _ _=>bW) (λ_ _ _ _ _=>(av (az aW ay (ao 0))))) (au (iu (pt:=.nm 8) (gN Z.fZ (da1 (aC de Z.cb w_ (da1 (ao 1))))) (qV I) (aA (iu (pt:=.nm 9) (gN Z.fZ (da1 (aC de Z.cb w_ (da1 (ao 1))))) (qV I) (au (d7 (aF Eo (aH bU (aH bU (ao 2) (ao 8)) (ao 9)) ae) (aA (gj (i:=7) (nY jW G3 He ay (av (bO (da4 ay (aH bU (ao 1) (ao 8)) (aH bU (ao 1) (ao 9)) (cP CV Z.Bu HF (da1 (aH bU (aH bU (ao 2) (ao 8)) (ao 9)))))))))) bB) (aA (d7 (aF o_notN (ao 3) eN) (aA (gj (i:=7) (nY jW G3 He ay (av (bO (da4 ay (aH bU (ao 1) (ao 8)) (aH bU (ao 1) (ao 9)) (cP CV Z.Bu HF (da1 (aH bU (aH bU (ao 3) (ao 8)) (ao 9)))))))))) bB)))))) (au (iu (pt:=.tp [10,11]) (dX (ao 6)) (xB rfl (bH (i:=10) I (bH (i:=11) I ki))) (aA (gj (i:=7) (av (az aW (av (az aW (av (az aW ay (cP CV Z.Bu HF (da1 (ao 10))))) ay)) (cP CV Z.Bu HF (da1 (ao 11)))))))) (au (iu (pt:=.tp [12,13]) (Bi Z.z_zip (ao 4) (ao 5)) (xB rfl (bH (i:=12) I (bH (i:=13) I ki))) (au (mY (i:=14) b_ ["_law_number_here"] [c_] I (dX (av (zM x_sl (ao 13) (lO ae) lP))) (λ_ _ _ _ _=>cG (by decide +kernel)) (aG rfl) (λ_ _ _ _ _=>bW) (λ_ _ _ _ _=>(cP CV Z.Bu HF (da1 (ao 0))))) (aA (gj (i:=7) (av (az aW (av (az aW (av (az aW (av (az aW (av (az aW ay (ao 12))) ay)) (aH bU (ao 1) (aH bU (ao 13) ae)))) ay)) (nY jW G3 He ay (ao 14)))))))) (aA (Fl (i:=7))))))))
theorem bN:YO Z.vh P w base 1 b_ (ba):=
 fY ["_law_script","_law_k","_law_cells","_law_cell","_law_number_here"] λz I Y=>(au (cF I (av (zM x_sl (ao 0) lP (lO ae)))) (au (cF I (av (az aW (az oS ae (ao 1)) ae))) (au (d7 (aF Eo (aC de Z.cb w_ (da1 (ao 2))) ae) (aA (cF I (az dm (aH bU (ao 2) (az dm (ao 1) (aC de Z.cb w_ (da1 (ao 2))))) (az wZ ae ae)))) bB) (au (cF I (az dm (az oS (av (az aW (av (az aW (ao 3) (az oS (az oS (ao 1) (ao 1)) ae))) (aC de Z.cb w_ (da1 (ao 2))))) ae) ae)) (aA (aK (az dm (av (az aW (az oS (ao 4) ae) ae)) ae)))))))
theorem wW:YO Z.zW P w base 1 b_ (lD):=
 fY ["_law_number_here","_law_k","_law_letters","_law_name_here","_law_j"] λz I Y=>(au (cF I ay) (au (cF I (av (az aW (aH pC (ao 2) (az dm (ao 0) ae)) (aH pC (ao 2) (az dm (ao 1) ae))))) (au (iu (pt:=.nm 4) (gN Z.fZ (da1 (az dm (az cY (ao 0) ae) ae))) (qV I) (au (cF I (av (az aW (av (az aW (az oS (ao 0) (ao 0)) (az oS ae (ao 0)))) (ao 4)))) (au (cF I (az dm (ao 0) ae)) (aA (cF I (av (az aW (ao 3) (aH pC (av (az aW (ao 2) ay)) (az dm (az cY (ao 0) ae) ae))))))))) (aA (aK (ao 3))))))
theorem dj:YO Z.so P w base 1 b_ (bC):=
 fY ["_law_script","_law_k"] λz I Y=>(au (d7 (aF o_lt (ao 1) (aC de Z.cb w_ (da1 (ao 0)))) (aA (aK (az dm (aH bU (ao 0) (ao 1)) (az wZ ae ae)))) bB) (aA (aK ae)))
theorem lA:YO Z.nh P w base 1 b_ (eZ):=
 fY ["_law_number_here","_law_k","_law_name_here","_law_j"] λz I Y=>(au (cF I (av (az aW (aH pC ay (az dm (ao 1) ae)) (aH pC ay (az cY (ao 1) ae))))) (au (iu (pt:=.nm 3) (gN Z.fZ (da1 (az dm (az cY (ao 0) ae) ae))) (qV I) (au (cF I (av (az aW (av (az aW (az oS (ao 0) (ao 0)) (az oS ae (ao 0)))) (ao 3)))) (au (cF I (az dm (ao 0) ae)) (aA (cF I (av (az aW (ao 2) (aH pC ay (az dm (az cY (ao 0) ae) ae))))))))) (aA (aK (ao 2)))))
theorem qu:YO Z.CT P w base 1 b_ (kA):=
 fY ["_law_number_here"] λz I Y=>(aA (aK (aH bU (av (bO (da4 (az dm (az cY (ao 0) ae) ae) (az dm (az cY (ao 0) ae) (av (az aW (az wZ ae ae) ae))) ae (az dm (az cY (ao 0) ae) ae)))) (az dm (ao 0) ae))))
theorem eF:YO Z.zV P w base 1 b_ (dz):=
 fY ["_law_number_here"] λz I Y=>(aA (aK (aH bU (av (bO (da3 (az dm (az cY (ao 0) ae) ae) (az dm (az cY (ao 0) ae) (av (az aW (az wZ ae ae) ae))) (az dm (az cY (ao 0) ae) ae)))) (az dm (ao 0) ae))))
theorem oq:YO Z.zX P w base 2 b_ (ju):=
 fY ["_law_script","_law_kinds","_law_k","_law_gaps","_law_beside","_law_row","_law_names","_law_flights","_law_many","_law_number_here","_law_times","_law_closed"] λz Y I=>(au (uV Y (bO dZ)) (au (iu (pt:=.nm 2) (gN Z.fZ (da1 (av (az aW ae (az dm (az dm (az oS (dY (dj Z) I (da2 (ao 0) ae)) ae) ae) ae))))) (qV Y) (aA (gj (i:=1) (dY (wW Z) I (da2 (dY (bN Z) I (da2 (ao 0) (ao 2))) (ao 2)))))) (gw (O2:=[]) (au (uV Y (bO dZ)) (au (uV Y (bO dZ)) (gw (O2:=[3,4]) (au (iu (pt:=.nm 2) (gN Z.fZ (da1 (aC de Z.cb w_ (da1 (ao 1))))) (qV Y) (au (mY (i:=5) b_ ["_law_j","_law_script","_law_kinds","_law_k"] [c_,a_ 0,a_ 1,a_ 2] Y (gN Z.fZ (da1 (aC de Z.cb w_ (da1 (ao 1))))) (λ_ _ _ _ _=>cG (by decide +kernel)) (aG rfl) (λ_ _ _ _ _=>bW) (λ_ _ _ _ _=>(dY (bN Z) I (da2 (ao 1) (av (az aW (av (az aW ae (az oS (ao 3) (aC de Z.cb w_ (da1 (ao 2)))))) (ao 0))))))) (au (gj (i:=3) (av (cz ["_law_number_here"] [c_] (dX (ao 5)) (λ_ _ _ _ _=>cG (by decide +kernel)) (aG rfl) (λ_ _ _ _ _=>bW) (λ_ _ _ _ _=>(dY (qu Z) I (da1 (ao 0))))))) (aA (gj (i:=4) (av (cz ["_law_number_here"] [c_] (dX (ao 5)) (λ_ _ _ _ _=>cG (by decide +kernel)) (aG rfl) (λ_ _ _ _ _=>bW) (λ_ _ _ _ _=>(dY (qu Z) I (da1 (az cY (ao 0) ae))))))))))) (gw (O2:=[]) (au (d7 (aF (qx I.units) (az dm (dY (dj Z) I (da2 (ao 0) ae)) ae) ae) (aA (cF Y eN)) bB) (au (uV Y (bO dZ)) (au (uV Y (bO dZ)) (gw (O2:=[6,7]) (au (cF Y (az dm (az dm (az oS (dY (dj Z) I (da2 (ao 0) ae)) ae) ae) ae)) (au (d7 (aF (qx I.units) (az dm (az cY (dY (dj Z) I (da2 (ao 0) ae)) ae) ae) ae) (aA (cF Y ae)) bB) (au (iu (pt:=.nm 2) (gN Z.fZ (da1 (ao 8))) (qV Y) (au (cF Y (dY (bN Z) I (da2 (ao 0) (av (az aW ae (ao 2)))))) (au (cF Y (av (aC FO Z.Ai boot_sorted (da1 (av (bO (da2 (dY (eF Z) I (da1 (ao 9))) (dY (eF Z) I (da1 (az cY (ao 9) ae)))))))))) (au (gj (i:=6) (dY (lA Z) I (da2 (az cY (ao 9) ae) (ao 2)))) (aA (gj (i:=7) (kj (da5 (az dm (ao 9) (aC de Z.cb w_ (da1 (ao 1)))) (aH bU (ao 10) ae) (aH bU (ao 10) ae) (dY (eF Z) I (da1 (az cY (ao 9) ae))) (dY (eF Z) I (da1 (az cY (ao 9) ae))))))))))) (gw (O2:=[]) (au (uV Y (bO dZ)) (au (iu (pt:=.nm 2) (gN Z.fZ (da1 (az dm (az cY (dY (bN Z) I (da2 (ao 0) ae)) ae) ae))) (qV Y) (au (cF Y (av (aC FO Z.Ai boot_sorted (da1 (av (bO (da2 (dY (eF Z) I (da1 (dY (bN Z) I (da2 (ao 0) (av (az aW ae (ao 2))))))) (dY (eF Z) I (da1 (dY (bN Z) I (da2 (ao 0) (av (az aW ae (ao 2)))))))))))))) (aA (gj (i:=11) (kj (da2 (az cY (aH bU (ao 10) ae) ae) (av (az aW (az cY (aH bU (ao 10) ae) ae) ae)))))))) (gw (O2:=[]) (aA (aK (kj (da6 (ao 1) (ao 3) (ao 4) (ao 6) (ao 7) (ao 11))))))))))))))))))))))))
theorem uG:YO Z.xJ P w base 1 b_ (iM):=
 fY ["_law_row"] λz Y I=>(aA (aK (av (cz ["_law_word"] [c_] (dX (av (nY pj Ij IY (ao 0) ay))) (λ_ _ _ _ _=>cG (by decide +kernel)) (aG rfl) (λ_ _ _ _ _=>ux (aF (rW I.units) (ao 0) ay)) (λ_ _ _ _ _=>(ao 0))))))
theorem gV:YO Z.xN P w base 1 b_ (bo):=
 fY ["_law_word","_law_most"] λz Y I=>(au (d7 (PW.pt (eO (aF o_lt (aC tQ Z.cb w_ (da1 (ao 0))) ae) (eO (aF Eo (aC tQ Z.cb w_ (da1 (ao 0))) ae) (dB (aF (rW I.units) (av (cz ["_law_sign"] [c_] (Bj (ao 0)) (λ_ _ _ _ _=>cG (by decide +kernel)) (aG rfl) (λ_ _ _ _ _=>ux (aF ph (ao 0) ay)) (λ_ _ _ _ _=>(ao 0)))) (av (bO dZ))))))) (aA (aK (de_un o_neg ae))) bB) (au (d7 (PW.pt (eO (PW.pt (qU (aF (qx I.units) (aH pC (ao 0) ae) ay) (lN (aF (rW I.units) (ao 0) ay)))) (dB (aF Eo (cP FR Z.yo IV (da1 (ao 0))) (ao 1))))) (aA (aK (de_un o_neg ae))) bB) (aA (aK (cP FR Z.yo IV (da1 (ao 0)))))))
theorem jT:YO Z.sm P w base 1 b_ (cf):=
 fY ["_law_word"] λz Y I=>(au (d7 (PW.pt (eO (aF o_lt (aC tQ Z.cb w_ (da1 (ao 0))) ae) (eO (aF Eo (aC tQ Z.cb w_ (da1 (ao 0))) ae) (dB (aF ph (aH pC (ao 0) ae) ay))))) (aA (aK kO)) bB) (aA (aK (jd (qx I.units) (av (cz ["_law_sign"] [c_] (Bj (ao 0)) (λ_ _ _ _ _=>cG (by decide +kernel)) (aG rfl) (λ_ _ _ _ _=>ux (aF ph (ao 0) ay)) (λ_ _ _ _ _=>(ao 0)))) (av (bO dZ))))))
theorem ze:YR Z.CO P w base 2 (spOne K (g6)):=
 fR ["_law_state","_law_words_here","_law_kinds","_law_tables","_law_names","_law_flights","_law_closed","_law_gap_here","_law_start","_law_stop","_law_numbers"] (λ_ _ _ _=>len_one) λz Y I vs Q h=>⟨_,(aB (AN (pv 0) (AQ rfl (cW (dh (i:=2) Y rfl (by first|exact .inl rfl|exact .inr rfl)) (cW (dh (i:=3) Y rfl (by first|exact .inl rfl|exact .inr rfl)) (cW (dh (i:=4) Y rfl (by first|exact .inl rfl|exact .inr rfl)) (cW (dh (i:=5) Y rfl (by first|exact .inl rfl|exact .inr rfl)) (cW (dh (i:=6) Y rfl (by first|exact .inl rfl|exact .inr rfl)) uz))))))) (aB (gU (PW.pt (qU (aF (qx I.units) (aH bU (ao 1) ae) ay) (lN (aF (qx I.units) (aC de Z.cb w_ (da1 (ao 1))) ae)))) (aB (gU (PW.pt (eO (iZ (dW (dY (jT Z) I (da1 (aH bU (ao 1) ae))))) (eO (aF (o_in I.units) (aH bU (ao 1) ae) (ao 2)) (dB (aF Eo (aC de Z.cb w_ (da1 (ao 2))) ae))))) (aX (cq jo)) bK) (aB (gK (nL Gu GD GN eV (pv 2) (ax (aH bU (ao 1) ae) aO))) (aX (cq jo)))) bK) (aB (gU (PW.pt (qU (aF (o_in I.units) (aH bU (ao 1) ae) (av (bO (da2 ay ay)))) (lN (aF (qx I.units) (aC de Z.cb w_ (da1 (ao 1))) ae)))) (aB (jF (i:=7) Y rfl (by first|exact .inl rfl|exact .inr rfl) (dY (gV Z) I (da2 (aH bU (ao 1) ae) (az wZ ae ae)))) (aB (gU (PW.pt (eO (aF (jU I.units) (aH bU (ao 1) ae) (ao 2)) (eO (aF (jU I.units) (aH bU (ao 1) ae) (ao 2)) (dB (aF o_lt (ao 7) ae))))) (aX (cq jo)) bK) (aB (ps_dput (hU I.units) (z9 (hU I.units) (pv 3) (aH bU (ao 1) ae) (λ_ _=>rfl)) (wM (ax (aH bU (ao 1) ae) (ax (aH bU (ao 1) ae) aO))) (pv 7) rfl) (aX (cq jo))))) bK) (aB (gU (PW.pt (qU (aF (qx I.units) (aH bU (ao 1) ae) ay) (lN (aF (qx I.units) (aC de Z.cb w_ (da1 (ao 1))) ae)))) (aB (jF (i:=8) Y rfl (by first|exact .inl rfl|exact .inr rfl) (dY (gV Z) I (da2 (aH bU (ao 1) ae) (az wZ ae ae)))) (aB (jF (i:=9) Y rfl (by first|exact .inl rfl|exact .inr rfl) (dY (gV Z) I (da2 (aH bU (ao 1) ae) (az wZ ae ae)))) (aB (gU (PW.pt (eO (aF o_lt (ao 8) ae) (eO (aF En (ao 9) (ao 8)) (dB (aF Eo (aC de Z.cb w_ (da1 (ao 6))) ae))))) (aX (cq jo)) bK) (aB (gK (nL Gu GD GN eV (pv 6) (ax (kj (da2 (ao 8) (ao 9))) aO))) (aX (cq jo)))))) bK) (aB (gU (PW.pt (eO (aF (rW I.units) (aH bU (ao 1) ae) ay) (dB (aF (rW I.units) (aC de Z.cb w_ (da1 (ao 1))) ae)))) (aX (cq jo)) bK) (aB (ps_compD (i:=10) ["_law_word"] [c_] Y (dX (av (zM x_sl (ao 1) (lO ae) lP))) (λ_ _ _ _ _=>cG (by decide +kernel)) (aG rfl) (λ_ _ _ _ _=>bW) (λ_ _ _ _ _=>(dY (gV Z) I (da2 (ao 0) (az wZ ae ae))))) (aB (gU (PW.pt (eO (iZ (dW (dY (jT Z) I (da1 (aH bU (ao 1) ae))))) (dB (aF (o_in I.units) (aH bU (ao 1) ae) (ao 4))))) (aX (cq jo)) bK) (aB (gU (PW.pt (eO (aF (jU I.units) (aH bU (ao 1) ae) (ao 2)) (dB (aF o_lt (aC (c_min rfl) Z.z_min boot_min (da1 (ao 10))) ae)))) (aX (cq jo)) bK) (aB (gU (PW.pt (eO (aF Eo (aH bU (ao 10) ae) (aH bU (ao 10) ae)) (dB (aF Eo (aC de Z.cb w_ (da1 (ao 5))) ae)))) (aX (cq jo)) bK) (aB (gK (nL Gu GD GN eV (pv 4) (ax (aH bU (ao 1) ae) aO))) (aB (gK (nL Gu GD GN eV (pv 5) (ax (kj (da5 (n8 I.units (ao 2) (aH bU (ao 1) ae)) (aH bU (ao 10) ae) (aH bU (ao 10) ae) (aH bU (ao 10) ae) (aH bU (ao 10) ae))) aO))) (aX (cq jo))))))))))))),rs_one h⟩
theorem rV:YO Z.vi P w base 3 b_ (gX):=
 fY ["_law_text","_law_state","_law_rows","_law_k","_law_words_here","_law_kinds","_law_tables","_law_names","_law_flights","_law_closed","_law_made","_law_word"] λz I Y=>(by refine ds_judge ?_;intro F0 H0;refine aB ?_ ?_;refine jF (i:=1) ?_ ?_ ?_ ?_;exact I;exact rfl;(first|exact .inl rfl|exact .inr rfl);refine wM ?_;refine ax ?_ ?_;refine jG ?_;exact aO;refine ax ?_ ?_;refine pe_disp ?_ ?_ ?_ ?_ ?_;refine AO ?_ ?_ ?_;exact sW;exact uB;refine AO ?_ ?_ ?_;exact sW;exact uB;exact pps_nil;exact rfl;exact rfl;exact List.cons_ne_nil _ _;exact MA rfl;refine ax ?_ ?_;refine jG ?_;exact aO;refine ax ?_ ?_;refine jG ?_;exact aO;refine ax ?_ ?_;refine jG ?_;exact aO;exact aO;refine aB ?_ ?_;exact(jF (i:=2) I rfl (by first|exact .inl rfl|exact .inr rfl) (av (nY pj Ij IY (ao 0) ay)));refine aB ?_ ?_;refine AM ?_ ?_ ?_ ?_ ?_;exact Mx;exact rfl;exact(wJ rfl Z.fZ (ax (aC de Z.cb w_ (da1 (ao 2))) aO));exact(dh (i:=3) I rfl (by first|exact .inl rfl|exact .inr rfl));refine aB ?_ ?_;exact(jF (i:=4) I rfl (by first|exact .inl rfl|exact .inr rfl) (dY (uG Z) Y (da1 (aH bU (ao 2) (ao 3)))));refine aX ?_;refine gU ?_ ?_ ?_;refine PW.pt ?_;refine Ec ?_ ?_;exact(aF (rW Y.units) (ao 4) (av (bO dZ)));refine Ec ?_ ?_;exact(aF (rW Y.units) (aH pC (aH bU (ao 4) ae) ae) ay);refine Eb ?_;exact(AL (pf (pY (ze Z) Y (ax (pv 1) (ax (pv 4) aO))) (λ_=>rfl)));refine aX ?_;refine cq ?_;exact(av (az aW (ao 3) ae));exact bK;refine aB ?_ ?_;exact(AN (pv 1) (AQ rfl (cW (dh (i:=5) I rfl (by first|exact .inl rfl|exact .inr rfl)) (cW (dh (i:=6) I rfl (by first|exact .inl rfl|exact .inr rfl)) (cW (dh (i:=7) I rfl (by first|exact .inl rfl|exact .inr rfl)) (cW (dh (i:=8) I rfl (by first|exact .inl rfl|exact .inr rfl)) (cW (dh (i:=9) I rfl (by first|exact .inl rfl|exact .inr rfl)) uz)))))));refine aB ?_ ?_;exact(gU (aF (qx Y.units) (ao 5) (av (bO dZ))) (aX (cq AR)) bK);refine aB ?_ ?_;exact(jF (i:=10) I rfl (by first|exact .inl rfl|exact .inr rfl) (jG aO));refine aB ?_ ?_;exact(AM Mx rfl (yX (jG (ax sW (ax sW aO)))) (dh (i:=11) I rfl (by first|exact .inl rfl|exact .inr rfl)) (aX (gK (nL Gu GD GN eV (pv 10) (ax (za ["_law_one_here","_law_kinds","_law_tables","_law_word"] [c_,a_ 5,a_ 6,a_ 11] rfl (yX (pv 5)) (λ_ _ _ _ _=>cG (K:=K) (by decide +kernel)) (aG rfl) (λ_ _ _ _ _=>yU) (λ_ _ _ _ _=>(za ["_law_other","_law_one_here","_law_tables","_law_word"] [c_,a_ 0,a_ 2,a_ 3] rfl (yX (pv 1)) (λ_ _ _ _ _=>cG (K:=K) (by decide +kernel)) (aG rfl) (λ_ _ _ _ _=>yU) (λ_ _ _ _ _=>pe_dget2 (hU Y.units) (z9 (hU Y.units) (pv 2) (pv 3) (λ_ _=>rfl)) (wM (ax (pv 1) (ax (pv 0) aO))) AR ⟨rfl,rfl,rfl,rfl⟩)))) aO)))));refine aB ?_ ?_;exact(gU (yV (op_eqT Y.units) (z9 (hU Y.units) (pv 6) sW (λ_ _=>rfl)) uB (AW _)) (aX ((ds_setI eN ae) F0 H0)) bK);refine aX ?_;refine cq ?_;exact(kj (da6 (ao 5) (aH bU (ao 10) ae) (aH bU (ao 10) ae) (ao 7) (ao 8) (ao 9))))
theorem mz:YO Z.xE P w base 1 d_ (gB):=
 fY ["word","kinds","rows","least","shown","kind","row","other","gap"] λz I Y=>(au (uV I (bO dZ)) (au (iu (pt:=.tp [5,6]) (Bi Z.z_zip (ao 1) (ao 2)) (xB rfl (bH (i:=5) I (bH (i:=6) I ki))) (aA (iu (pt:=.tp [7,8]) (Bi Z.z_zip (ao 1) (ao 6)) (xB rfl (bH (i:=7) I (bH (i:=8) I ki))) (aA (d7 (aF o_ge (ao 8) (ao 3)) (aA (gj (i:=4) (zN (gm (r9 (ao 0)) (gm ay (gm (r9 (ao 5)) (gm ay (gm (r9 (ao 7)) (gm ay (gm (r9 (ao 8)) Fq)))))))))) bB))))) (aA (Fl (i:=4)))))
theorem gu:YO Z.vf P w base 1 b_ (dH):=
 fY ["rows"] λz I Y=>(aA (aK (av (cz ["row"] [c_] (dX (ao 0)) (λ_ _ _ _ _=>cG (by decide +kernel)) (aG rfl) (λ_ _ _ _ _=>bW) (λ_ _ _ _ _=>(av (cP c_list Z.vE HB (da1 (ao 0)))))))))
theorem kY:YM Z.m_M_R_gap_rows P w mg base 2 b_ (b6 CR CP CS CW CD n):=
 fM ["self"] λz Y I=>(aA (aK (dY (gu Z) I (da1 (fN (Cs:=[CR,CP]) Z.mV (ao 0))))))
theorem kZ:YM Z.m_M_P_gap_rows P w mg base 2 b_ (b6 CR CP CS CW CD n):=
 fM ["self"] λz Y I=>(aA (aK (dY (gu Z) I (da1 (fN (Cs:=[CR,CP]) Z.mV (ao 0))))))
theorem qq:YO Z.sj P w base 1 b_ (cR):=
 fY ["kinds","name","flight","words"] λz I Y=>(au (cF I (av (az aW (av (bO (da3 ay (ao 1) (aH bU (ao 0) (aH bU (ao 2) ae))))) (av (cz ["number"] [c_] (dX (av (zM x_sl (ao 2) (lO ae) lP))) (λ_ _ _ _ _=>cG (by decide +kernel)) (aG rfl) (λ_ _ _ _ _=>bW) (λ_ _ _ _ _=>(cP CV Z.Bu HF (da1 (ao 0))))))))) (aA (aK (nY jW G3 He ay (ao 3)))))
theorem ja:YM Z.m_M_P_beside_rows P w mg base 2 b_ (bG CR CP CS CW CD n):=
 fM ["self"] λz Y I=>(aA (aK (dY (gu Z) I (da1 (fN (Cs:=[CP]) Z.tH (ao 0))))))
theorem C7:YO Z.Fy P w base 3 b_ (dS CR CP CS CW CD n):=
 fY ["kinds","rules","names","flights","closed","rows"] λz f b=>let ⟨_,_,e,I⟩:=ja Z;let ⟨_,_,c,a⟩:=kZ Z;let ⟨_,_,d,Y⟩:=kY Z;(au (mY (i:=5) d_ ["name"] [c_] f (dX (ao 0)) (λ_ _ _ _ _=>cG (by decide +kernel)) (aG rfl) (λ_ _ _ _ _=>bW) (λ_ _ _ _ _=>(zN (gm ay (gm (r9 (ao 0)) Fq))))) (au (Bg (i:=5) (dY (mz Z) b (da4 ay (ao 0) (qX Z.kR.cl d.mt Y b d.bd Z.kP.cl c.mt a b c.bd (ao 1)) ae))) (au (d7 (dW (Fv (tb:=[(CR,b_),(CP,d_)]) (isi2 ⟨⟨_,Z.kR⟩,Z.ki_CR_CP⟩ ⟨⟨_,Z.kP⟩,Z.ki_CP_CP⟩) Z.bg Z.kP.mg (ao 1))) (aA (Bg (i:=5) (dY (mz Z) b (da4 ay (ao 0) (xC Z.kP.cl e.mt I b e.bd (ao 1)) ae)))) bB) (au (Bg (i:=5) (cz ["start","stop"] [c_,c_] (dX (ao 4)) (λ_ _ _ _ _=>xB rfl (mZ (i:=0) (by decide +kernel) (mZ (i:=1) (by decide +kernel) ki))) (xf (by decide)) (λ_ _ _ _ _=>bW) (λ_ _ _ _ _=>(zN (gm ay (gm (r9 (ao 0)) (gm ay (gm (r9 (ao 1)) Fq)))))))) (au (Bg (i:=5) (cz ["name","flight","kinds"] [c_,c_,a_ 0] (Bi Z.z_zip (ao 2) (ao 3)) (λ_ _ _ _ _=>xB rfl (mZ (i:=0) (by decide +kernel) (mZ (i:=1) (by decide +kernel) ki))) (xf (by decide)) (λ_ _ _ _ _=>bW) (λ_ _ _ _ _=>(dY (qq Z) b (da3 (ao 2) (ao 0) (ao 1)))))) (gw (O2:=[]) (aA (aK (nY jW G3 He ay (av (cz ["row"] [c_] (dX (ao 5)) (λ_ _ _ _ _=>cG (by decide +kernel)) (aG rfl) (λ_ _ _ _ _=>bW) (λ_ _ _ _ _=>(av (az aW (ao 0) ay))))))))))))))
end
theorem sc_nS:gr ["self","kinds","rules","names","flights","closed"] ["self","kinds","rules","names","flights","closed"] (aJ s_nS):=⟨rfl,rfl,rfl,by decide +kernel,rfl,by decide +kernel,by decide +kernel⟩
theorem okn_S{P:GO}{w:Hg}{K:Pn}{base:GQ}{CR:g_}{Y f:g_}{I fd:HL}(D:Def K mg "text_of" vY ["kinds","rules","names","flights","closed"] Y I)(e:i6 P w K mg base CX0 3 Y I ["kinds","rules","names","flights","closed"] (spF K b_ (dS CR CP CS CW CD n) 5))(N:Fun K "__init__" "Sheet.__init__" s_nS f fd)(d:Cls K C)(b:∀y∈(["kinds","rules","names","flights","closed","text"]:List p_),bq K C y)(a:mg "list"=c_):i6 P w K mg base CX0 4 f fd ["self","kinds","rules","names","flights","closed"] (spIS K C (dS CR CP CS CW CD n)):=
 N.okX sc_nS (λvs H Q E h=>by obtain⟨_,_,_,_,_,_,_,_,_,_,_,_,_,_,_,_,_,_,rfl,_⟩:=h;rfl) λcdv A outer s H vs Q E c h=>
  ⟨_,aB (iJ (pv 0) (jO gG rfl a HB (ax (pv 1) aO)) rfl) (aB (iJ (pv 0) (pv 2) rfl) (aB (iJ (pv 0) (jO gG rfl a HB (ax (pv 3) aO)) rfl) (aB (iJ (pv 0) (jO gG rfl a HB (ax (pv 4) aO)) rfl)
   (aB (iJ (pv 0) (jO gG rfl a HB (ax (pv 5) aO)) rfl) (aX (iJ (pv 0) (qj e c (by rfl) D.mg D.fn.kp D.bd .nil ql (ax (pv 1) (ax (pv 2) (ax (pv 3) (ax (pv 4) (ax (pv 5) aO)))))) rfl)))))),rs_initS d b h⟩
section
variable{P:GO}{w:Hg}{base:GQ}{K:Pn}{CR:g_}(Z:Zq n P w base K mg CR CP CS CW CD AStripError ANoRow ANoRules ANoTime ANoPlace ANotFree ATooMany ANoPlan)
include Z
theorem C8:YO Z.FE P w base 1 b_ (jX):=
 fY ["gaps","kind","many"] λz Y I=>(aA (aK (av (cz ["other","gaps","kind"] [c_,a_ 0,a_ 1] (gN Z.fZ (da1 (ao 2))) (λ_ _ _ _ _=>cG (by decide +kernel)) (aG rfl) (λ_ _ _ _ _=>bW) (λ_ _ _ _ _=>(de_getD I.units (ao 1) (kj (da2 (ao 2) (ao 0))) ae))))))
theorem oo:YO Z.zT P w base 2 b_ (ie):=
 fY ["gaps","many"] λz Y I=>(aA (aK (av (cz ["kind","gaps","many"] [c_,a_ 0,a_ 1] (gN Z.fZ (da1 (ao 1))) (λ_ _ _ _ _=>cG (by decide +kernel)) (aG rfl) (λ_ _ _ _ _=>bW) (λ_ _ _ _ _=>(dY (C8 Z) I (da3 (ao 1) (ao 0) (ao 2))))))))
theorem wR:YO Z.d_is_gap P w base 1 b_ (eY):=
 fY ["number"] λz I Y=>(au (d7 (PW.pt (eO (iZ (dW (nZ Z.kit Z.bg Z.yo (ao 0)))) (dB (dW (qZ Z.kit Z.bg Z.z_bool (ao 0)))))) (aA (aK kO)) bB) (aA (aK (Bm En En ae (ao 0) (jz Z.sd)))))
theorem uF:YO Z.xI P w base 2 b_ (eG):=
 fY ["row","kinds"] λz Y I=>(aA (aK (oJ (qY Z.kit Z.bg Z.vE (ao 0)) (oJ (jd (qx I.units) (aC de Z.cb w_ (da1 (ao 0))) (ao 1)) (n5 (aC (Ac rfl) Z.yq KL (da1 (av (cz ["number"] [c_] (dX (ao 0)) (λ_ _ _ _ _=>cG (by decide +kernel)) (aG rfl) (λ_ _ _ _ _=>bW) (λ_ _ _ _ _=>(dY (wR Z) I (da1 (ao 0)))))))))))))
theorem jS:YO Z.sk P w base 3 b_ (aM):=
 fY ["rows","kinds"] λz Y I=>(au (cF Y (aC de Z.cb w_ (da1 (ao 0)))) (au (d7 (iZ (dt_chain En En ae (ao 1) (jz Z.oG))) (aA ds_stk) bB) (au (d7 (iZ (dW (aC (Ac rfl) Z.yq KL (da1 (av (cz ["row","kinds"] [c_,a_ 1] (dX (ao 0)) (λ_ _ _ _ _=>cG (by decide +kernel)) (aG rfl) (λ_ _ _ _ _=>bW) (λ_ _ _ _ _=>(dY (uF Z) I (da2 (ao 0) (ao 1)))))))))) (aA ds_stk) bB) (aA (aK (dY (gu Z) I (da1 (ao 0))))))))
end
theorem sc_nR:gr ["self","gaps"] ["self","gaps"] (aJ s_nR):=⟨rfl,rfl,rfl,by decide +kernel,rfl,by decide +kernel,by decide +kernel⟩
theorem okn_R{P : GO}{w : Hg}{K : Pn}{mg : p_ -> Option i_}{base : GQ}{C f: g_}(a : Def K mg "checked_rows" j3 ["rows"] dU dA)(y : i6 P w K mg base CX0 3 dU dA ["rows"] (spF K b_ (aM) 1))(N : Fun K "__init__" "Rules.__init__" s_nR f fd)(x : Cls K C)(l : bq K C "gaps"): i6 P w K mg base CX0 4 f fd ["self", "gaps"] (spI1 K C (aM)) := by
  refine N.okX sc_nR (λvs H Q E h => ?_) (λcdv A outer s H vs Q E n h => ?_)
  · obtain⟨p,dx,v,F,d,rfl,_⟩ := h
    rfl
  · obtain⟨p,dx,v,F,d,rfl,b,t,i,k,q⟩ := h
    refine⟨_,aX (iJ (pv 0) (qj y n (by rfl) a.mg a.fn.kp a.bd .nil ql (ax (pv 1) aO)) rfl),?_⟩
    refine⟨v,rfl,F,[d],i,⟨v,[],rfl,k,rfl⟩,rfl,?_⟩
    skip;cases g : aM [d]with
    | error e => rw[g]at q; exact q| ok r =>
      rw[g]at q;intro u F' H' st j;have I : F' p = c_ := by
        cases m : F' p with
        | none => rfl| some o =>
          rcases st.nw p o m with z | z
          · rw[t]at z; cases z
          · rw[b]at z; cases z
      refine⟨_,rfl,p,C,dx,[],rfl,st.hh _ _ b,x,l,(by show 0 < 1000; decide),?_⟩
      refine q u F' _ st.ff (λc o e => ?_) I st.nw (λc o e Y => by rw[aw Y]; exact st.hh _ _ e) aq j;have Y : c ≠ p :=λz => by rw[z,I]at e; cases e
      rw[aw Y];exact st.fh _ _ e
theorem sc_nP:gr ["self","gaps","beside"] ["self","gaps","beside"] (aJ s_nP):=⟨rfl,rfl,rfl,by decide +kernel,rfl,by decide +kernel,by decide +kernel⟩
theorem okn_P{P : GO}{w : Hg}{K : Pn}{mg : p_ -> Option i_}{base : GQ}{CR CP : g_}{f O: g_}{g: HL}{mc : i_}(n : Def K mg "checked_rows" j3 ["rows"] dU dA)(OK : i6 P w K mg base CX0 3 dU dA ["rows"] (spF K b_ (aM) 1))(S : Stat K CR mc "__init__" O)(bI : Binds K g ["self", "gaps"] [])(FI : i6 P w K mg base CX0 4 O g ["self", "gaps"] (spI1 K CP (aM)))(mR : mg "Rules" = a_ (.ref CR))(x : mg "len" = c_)(N : Fun K "__init__" "Pair.__init__" s_nP f fd)(t : Cls K CP)(na : bq K CP "gaps")(C : bq K CP "beside"): i6 P w K mg base CX0 5 f fd ["self", "gaps", "beside"] (spI2 K CP (aM)) := by
  refine N.okX sc_nP (λvs H Q E h => ?_) (λcdv A outer s H vs Q E D h => ?_)
  · obtain⟨p,dx,v,j,F,d,d2,rfl,_⟩ := h
    rfl
  · obtain⟨p,dx,v,j,F,d,d2,rfl,hp,hF,s1,qd,l,q⟩ := h
    refine⟨_,aB (gK (pe_cmeth S (by rfl) mR FI D bI .nil ql (ax (pv 0) (ax (pv 1) aO))))
      (aB (iJ (pv 0) (qj OK (D.mono (by decide)) (by rfl) n.mg n.fn.kp n.bd .nil ql (ax (pv 2) aO)) rfl)
      (aX (gU (yV op_ne (iK km (by rfl) x w_ (ax (ia (pv 0) rfl) aO)) (iK km (by rfl) x w_ (ax (ia (pv 0) rfl) aO)) (AW _)) wA bK))),?_⟩
    refine⟨_,rfl,_,rfl,p,dx,v,F,d,rfl,hp,hF,s1,qd,?_⟩
    cases G : aM [d]with
    | error e => rw[G]at q; exact q| ok r =>
      rw[G,aj]at q;intro u F1 H1 a1 a2 a3 a4 U T R;refine⟨j,rfl,F1,[d2],a2,⟨j,[],rfl,aT.mono a1 l,rfl⟩,rfl,?_⟩
      skip;cases a : aM [d2]with
      | error e => rw[a]at q; exact Gy q| ok r2 =>
        rw[a,aj]at q;intro y F2 H2 st B;by_cases Y : twoL r r2 = d_
        · rw[e_ Y]at q
          have I : F2 p = c_ := by
            cases m : F2 p with
            | none => rfl| some o =>
              rcases st.nw p o m with z | z
              · rw[a3]at z; cases z
              · rw[T]at z; cases z
          refine⟨_,rfl,p,CP,dx,_,rfl,st.hh _ _ T,t,C,(by show 1 < 1000; decide),?_⟩
          rw[putGB];have k : aL F2 (upd H2 p (.ins CP dx [("gaps", u),("beside", y)])) :=λc o e => by
            have i : c ≠ p :=λz => by rw[z,I]at e; cases e
            rw[aw i];exact st.fh _ _ e
          cases r with
          | lst xs =>
            cases r2 with
            | lst ys =>
              have hl : xs.length = ys.length := IC Y;obtain⟨g1,xs1,e1,t1,X⟩ := aT.mono st.ff R;obtain⟨g2,Z,e2,t2,W⟩ := id B;refine⟨_,rfl,p,CP,dx,_,_,rfl,aq,t,C,rfl,g2,_,by rw[e2],.inl (k.lst t2),_,rfl,p,CP,dx,_,_,rfl,aq,t,na,rfl,g1,_,by rw[e1],.inl (k.lst t1),rfl,_,rfl,?_⟩
              refine iteNS (by rw[X.length,W.length,hl]) ?_;refine q u y F2 _ (a1.trans st.ff) k I (λb o e => ?_) (λc o e i => by rw[aw i]; exact st.hh _ _ (U c o e i)) aq (aT.mono st.ff R) B;rcases st.nw b o e with z | z
              · exact a4 b o z
              · refine .inr ?_
                cases m : H b with
                | none => rfl| some o' =>
                  by_cases L : b = p
                  · subst L; rw[I]at e; cases e
                  · rw[U b o' m L]at z; cases z
            | _ => cases Y
          | _ => cases Y
        · rw[k_ Y]at q; exact Gy q
section
variable{P:GO}{w:Hg}{base:GQ}{K:Pn}{CR:g_}(Z:Zq n P w base K mg CR CP CS CW CD AStripError ANoRow ANoRules ANoTime ANoPlace ANotFree ATooMany ANoPlan)
include Z
theorem on_P:∃f fd,Mth K CP "__init__" "Pair.__init__" s_nP ["self","gaps","beside"] f fd/\i6 P w K mg base CX0 5 f fd ["self","gaps","beside"] (spI2 K CP (aM)):=
 let ⟨_,_,Y⟩:=jS Z;let ⟨_,_,N,S⟩:=Z.n_R;let ⟨_,_,M⟩:=Z.n_P;⟨_,_,M,okn_P Y.d Y.o S N.bd (okn_R (C:=CP) Y.d Y.o N.fn Z.kP.cl (Z.mV CP (by simp)).2) Z.kR.mg Z.cb M.fn Z.kP.cl (Z.mV CP (by simp)).2 (Z.tH CP (by simp)).2⟩
theorem on_R:∃f fd,Mth K CR "__init__" "Rules.__init__" s_nR ["self","gaps"] f fd/\i6 P w K mg base CX0 4 f fd ["self","gaps"] (spI1 K CR (aM)):=
 let ⟨_,_,Y⟩:=jS Z;let ⟨_,_,N,_⟩:=Z.n_R;⟨_,_,N,okn_R Y.d Y.o N.fn Z.kR.cl (Z.mV CR (by simp)).2⟩
theorem oR:YO Z.rg P w base 7 b_ (cw CR CP CS CW CD n):=
 fY ["draft","many","gaps"] λz d c=>let ⟨_,_,b,Y⟩:=on_P Z;let ⟨_,_,a,I⟩:=on_R Z;(au (cF d (aC de Z.cb w_ (da1 (fN (Cs:=[CD]) Z.fldD_kinds (ao 0))))) (au (cF d (dY (oo Z) c (da2 (fN (Cs:=[CD]) Z.fldD_gaps (ao 0)) (ao 1)))) (au (d7 (aF (o_eqE c.units) (fN (Cs:=[CD]) Z.fldD_beside (ao 0)) (av de_newK)) (aA (aK (de_newR ⟨Z.kR.mks,a.mt.at_,a.mt.fn,Z.kR.kp⟩ I (c.mono (by decide)) Z.kR.mg a.bd (da1 (ao 2))))) bB) (aA (aK (de_newP ⟨Z.kP.mks,b.mt.at_,b.mt.fn,Z.kP.kp⟩ Y c Z.kP.mg b.bd (da2 (ao 2) (dY (oo Z) c (da2 (fN (Cs:=[CD]) Z.fldD_beside (ao 0)) (ao 1))))))))))
theorem jQ:YR Z.zQ P w base 1 mj:=
 fR ["kept","told"] (λ_ _ _ _=>len_told) λz I Y vs Q h=>⟨_,(aB (gU (pt_cmp (pc_isN (pv 1))) (aX (cq jo)) bK) (aB (gK (nL Gu GD GN eV (pv 0) (ax (pv 1) aO))) (aX (cq jo)))),rs_told h⟩
theorem iL:YO Z.zR P w base 1 b_ (bz):=
 fY ["word"] λz Y I=>(au (d7 (PW.pt (eO (aF Eo (aC tQ Z.cb w_ (da1 (ao 0))) (jz Z.rZ)) (dB (iZ (dW (aC (Ac rfl) Z.yq KL (da1 (av (cz ["sign"] [c_] (Bj (ao 0)) (λ_ _ _ _ _=>cG (by decide +kernel)) (aG rfl) (λ_ _ _ _ _=>bW) (λ_ _ _ _ _=>(jd o_inS (ao 0) (uX Z.gs_FIGURES)))))))))))) (aA (aK eN)) bB) (au (d7 (PW.pt (qU (aF (qx I.units) (aH pC (ao 0) ae) ay) (lN (aF (rW I.units) (ao 0) ay)))) (aA (aK eN)) bB) (aA (aK (cP FR Z.yo IV (da1 (ao 0)))))))
theorem zc:YO Z.CK P w base 2 b_ (bj):=
 fY ["kinds","words","gap"] λz Y I=>(au (d7 (PW.pt (eO (aF (rW I.units) (aC de Z.cb w_ (da1 (ao 1))) ae) (eO (aF (jU I.units) (aH bU (ao 1) ae) (ao 0)) (dB (aF (jU I.units) (aH bU (ao 1) ae) (ao 0)))))) (aA (aK eN)) bB) (au (cF Y (dY (iL Z) I (da1 (aH bU (ao 1) ae)))) (aA (aK (Bk (dW (dY (wR Z) I (da1 (ao 2)))) (kj (da3 (n8 I.units (ao 0) (aH bU (ao 1) ae)) (n8 I.units (ao 0) (aH bU (ao 1) ae)) (ao 2))) eN)))))
theorem qp:YR Z.CM P w base 3 (yA K (bj)):=
 fR ["kinds","gaps","words","told"] (λ_ _ _ _=>len_gap) λz Y I vs Q h=>⟨_,(aB (jF (i:=3) Y rfl (.inl rfl) (pY (zc Z) I (ax (pv 0) (ax (pv 2) aO)))) (aB (gU (pt_cmp (pc_isN (pv 3))) (aX (cq jo)) bK) (aB (ps_put (hU I.units) (pv 1) (kj (da2 (aH bU (ao 3) ae) (aH bU (ao 3) ae))) (aH bU (ao 3) ae) rfl) (aX (cq jo))))),rs_gap h⟩
theorem rR:YO Z.ve P w base 1 b_ (eX):=
 fY ["number"] λz I Y=>(aA (aK (Bm En En ae (ao 0) (jz Z.nR))))
theorem kK:YO Z.lQ P w base 2 b_ (bA):=
 fY ["flight","first","last"] λz I Y=>(au (cF I (aH bU (ao 0) ae)) (au (cF I (aH bU (ao 0) ae)) (aA (aK (oJ (jd En (ao 1) (ao 2)) (n5 (aC (Ac rfl) Z.yq KL (da1 (av (cz ["number"] [c_] (dX (av (zM x_sl (ao 0) (lO ae) lP))) (λ_ _ _ _ _=>cG (by decide +kernel)) (aG rfl) (λ_ _ _ _ _=>bW) (λ_ _ _ _ _=>(dY (rR Z) Y (da1 (ao 0))))))))))))))
theorem sX:YO Z.FC P w base 1 b_ (gD):=
 fY ["word"] λz I Y=>(au (d7 (PW.pt (eO (aF Eo (aC tQ Z.cb w_ (da1 (ao 0))) (jz Z.xr)) (dB (aF ph (aH pC (ao 0) ae) (uX Z.gs_LETTERS))))) (aA (aK kO)) bB) (aA (aK (aC (Ac rfl) Z.yq KL (da1 (av (cz ["sign"] [c_] (Bj (ao 0)) (λ_ _ _ _ _=>cG (by decide +kernel)) (aG rfl) (λ_ _ _ _ _=>bW) (λ_ _ _ _ _=>(de_or (jd o_inS (ao 0) (uX Z.gs_LETTERS)) (n5 (jd o_inS (ao 0) (uX Z.gs_FIGURES))))))))))))
theorem rP:YO Z.uY P w base 3 b_ (aV):=
 fY ["kinds","names","words","numbers","flight"] λz Y I=>(au (d7 (PW.pt (eO (aF (rW I.units) (aC de Z.cb w_ (da1 (ao 2))) ae) (eO (aF o_ge (aC de Z.cb w_ (da1 (ao 1))) (jz Z.rY)) (dB (aF (jU I.units) (aH bU (ao 2) ae) (ao 0)))))) (aA (aK eN)) bB) (au (d7 (PW.pt (eO (iZ (dW (dY (sX Z) I (da1 (aH bU (ao 2) ae))))) (dB (aF (o_in I.units) (aH bU (ao 2) ae) (ao 1))))) (aA (aK eN)) bB) (au (mY (i:=3) b_ ["word"] [c_] Y (dX (av (zM x_sl (ao 2) (lO ae) lP))) (λ_ _ _ _ _=>cG (by decide +kernel)) (aG rfl) (λ_ _ _ _ _=>bW) (λ_ _ _ _ _=>(dY (iL Z) I (da1 (ao 0))))) (au (d7 (aF (o_in I.units) eN (ao 3)) (aA (aK eN)) bB) (au (cF Y (kj (da5 (n8 I.units (ao 0) (aH bU (ao 2) ae)) (aH bU (ao 3) ae) (aH bU (ao 3) ae) (aH bU (ao 3) ae) (aH bU (ao 3) ae)))) (aA (aK (Bk (dW (dY (kK Z) I (da1 (ao 4)))) (ao 4) eN))))))))
theorem rQ:YR Z.uZ P w base 4 (ud K CD (m8 (aV))):=
 fR ["draft","words"] (λ_ _ _ _=>ED) λz Y I vs Q h=>⟨_,(aB (gU (AL (pf (pY (jQ Z) I (ax (ia (pv 0) rfl) (ax (pY (rP Z) I (ax (ia (pv 0) rfl) (ax (ia (pv 0) rfl) (ax (pv 1) aO)))) aO))) (λ_=>rfl))) (aX (cq jo)) bK) (aB (gK (nL Gu GD GN eV (ia (pv 0) rfl) (ax (aH bU (ao 1) ae) aO))) (aX (cq jo)))),DR Z.kD.cl Z.naD h⟩
theorem wQ:YO Z.zP P w base 2 b_ (bx):=
 fY ["kinds","words"] λz Y I=>(au (d7 (PW.pt (eO (aF (rW I.units) (aC de Z.cb w_ (da1 (ao 1))) ae) (dB (aF o_ge (aC de Z.cb w_ (da1 (ao 0))) (jz Z.oG))))) (aA (aK eN)) bB) (aA (aK (Bk (PW.pt (qU (dW (dY (sX Z) I (da1 (aH bU (ao 1) ae)))) (lN (aF (jU I.units) (aH bU (ao 1) ae) (ao 0))))) (aH bU (ao 1) ae) eN))))
theorem uE:YO Z.xH P w base 1 b_ (gC):=
 fY ["stretch"] λz I Y=>(aA (aK (Fw En o_lt En ae (aH bU (ao 0) ae) (aH bU (ao 0) ae) (jz Z.qP))))
theorem wU:YO Z.zS P w base 2 b_ (ic):=
 fY ["closed"] λz Y I=>(aA (aK (oJ (jd En (aC de Z.cb w_ (da1 (ao 0))) (jz Z.oZ)) (n5 (aC (Ac rfl) Z.yq KL (da1 (av (cz ["stretch"] [c_] (dX (ao 0)) (λ_ _ _ _ _=>cG (by decide +kernel)) (aG rfl) (λ_ _ _ _ _=>bW) (λ_ _ _ _ _=>(dY (uE Z) I (da1 (ao 0))))))))))))
theorem qo:YO Z.si P w base 3 b_ (aU):=
 fY ["closed","words","stretch"] λz Y I=>(au (d7 (aF (rW I.units) (aC de Z.cb w_ (da1 (ao 1))) ae) (aA (aK eN)) bB) (au (cF Y (kj (da2 (dY (iL Z) I (da1 (aH bU (ao 1) ae))) (dY (iL Z) I (da1 (aH bU (ao 1) ae)))))) (aA (aK (Bk (PW.pt (qU (aF (jU I.units) eN (ao 2)) (lN (dW (dY (wU Z) I (da1 (av (az aW (ao 0) (av (bO (da1 (ao 2)))))))))))) (ao 2) eN)))))
theorem zd:YR Z.CL P w base 5 (ud K CD (bF)):=
 fR ["draft","words"] (λ_ _ _ _=>ED) λz Y I vs Q h=>⟨_,(aB (gU (PW.pt (eO (aF (qx I.units) (ao 1) (av (bO dZ))) (dB (dW (nY Eu K3 PySem.F.type_str_startswith (aH bU (ao 1) ae) ay))))) (aX (cq jo)) bK) (aB (gU (aF (qx I.units) (aH bU (ao 1) ae) ay) (aX (cq (pY (jQ Z) I (ax (ia (pv 0) rfl) (ax (pY (wQ Z) I (ax (ia (pv 0) rfl) (ax (pv 1) aO))) aO))))) bK) (aB (gU (aF (qx I.units) (aH bU (ao 1) ae) ay) (aX (cq (pY (qp Z) I (ax (ia (pv 0) rfl) (ax (ia (pv 0) rfl) (ax (pv 1) aO)))))) bK) (aB (gU (aF (qx I.units) (aH bU (ao 1) ae) ay) (aX (cq (pY (qp Z) I (ax (ia (pv 0) rfl) (ax (ia (pv 0) rfl) (ax (pv 1) aO)))))) bK) (aB (gU (aF (qx I.units) (aH bU (ao 1) ae) ay) (aX (cq (pY (jQ Z) I (ax (ia (pv 0) rfl) (ax (pY (qo Z) I (ax (ia (pv 0) rfl) (ax (pv 1) aO))) aO))))) bK) (aX (cq (pe_and (jd (qx I.units) (aH bU (ao 1) ae) ay) (pe_one (pY (rQ Z) I (ax (pv 0) (ax (pv 1) aO)))))))))))),rs_row Z.kD.cl Z.naD h⟩
theorem zb:YO Z.CJ P w base 1 b_ (g7):=
 fY ["row"] λz Y I=>(aA (aK (av (cz ["word"] [c_] (dX (av (nY pj Ij IY (ao 0) ay))) (λ_ _ _ _ _=>cG (by decide +kernel)) (aG rfl) (λ_ _ _ _ _=>ux (aF (rW I.units) (ao 0) ay)) (λ_ _ _ _ _=>(ao 0))))))
theorem on_CW:∃f fd,Mth K CW "__init__" "NoSheet.__init__" s_nCW ["self","row"] f fd/\XMk K mg "NoSheet" CW f/\i6 P w K mg base CX0 1 f fd ["self","row"] (spX1 CW "row"):=
 let ⟨_,_,N,X⟩:=Z.n_CW;⟨_,_,N,X,okn_CW N.fn Z.aCW_row⟩
theorem on_D:∃f fd,Mth K CD "__init__" "Draft.__init__" s_nD ["self"] f fd/\i6 P w K mg base CX0 1 f fd ["self"] (spID CD):=
 let ⟨f,fd,N⟩:=Z.n_D;⟨f,fd,N,N.fn.okX (N:=["self"]) (by exact⟨rfl,rfl,rfl,by decide +kernel,rfl,by decide +kernel,by decide +kernel⟩) (λ_ _ _ _=>len_ID) λc A o s H vs Q E I h=>⟨_,aB (iJ (pv 0) (jG aO) rfl) (aB (iJ (pv 0) yY rfl) (aB (iJ (pv 0) yY rfl) (aB (iJ (pv 0) (jG aO) rfl) (aB (iJ (pv 0) (jG aO) rfl) (aX (iJ (pv 0) (jG aO) rfl)))))),rs_initD Z.kD.cl Z.naD h⟩⟩
theorem on_S:∃f fd,Mth K CS "__init__" "Sheet.__init__" s_nS ["self","kinds","rules","names","flights","closed"] f fd/\i6 P w K mg base CX0 4 f fd ["self","kinds","rules","names","flights","closed"] (spIS K CS (dS CR CP CS CW CD n)):=
 let ⟨_,_,Y⟩:=C7 Z;let ⟨_,_,N⟩:=Z.n_S;⟨_,_,N,okn_S Y.d Y.o N.fn Z.kS.cl Z.naS Z.vE⟩
theorem uD:YX Z.xG P w base 8 b_ (du CR CP CS CW CD n):=
 fX ["text","draft","number","row"] λz f Y=>let ⟨_,_,a,I,g⟩:=on_CW Z;let ⟨_,_,e,c⟩:=on_D Z;let ⟨_,_,d,b⟩:=on_S Z;(Fo (jF (i:=1) f rfl (.inl rfl) (pe_make0 ⟨Z.kD.mks,e.mt.at_,e.mt.fn,Z.kD.kp⟩ c (Y.mono (by decide)) rfl Z.kD.mg e.bd .nil ql)) (AM PassesOwn.leaving rfl (pi_enum1 rfl Z.yp (av (nY pj Ij IY (ao 0) ay))) (AQ rfl (cW (dh (i:=2) f rfl (.inl rfl)) (cW (dh (i:=3) f rfl (.inl rfl)) uz))) (aX (gU (AL (pf (pY (zd Z) Y (ax (pv 1) (ax (pY (zb Z) Y (ax (pv 3) aO)) aO))) (λ_=>rfl))) (aX (wD Jw xeqD2 I.ex I.fn I.kp g (Y.mono (by decide)) a.bd I.mg (ax (pv 2) aO))) bK))) (au (d7 (aF (qx Y.units) (fN (Cs:=[CD]) Z.fldD_kinds (ao 1)) (av (bO dZ))) (aA (Fm Jw xeqD2 I.ex I.fn I.kp g (Y.mono (by decide)) a.bd I.mg (da1 ae))) bB) (dss_lift (aA (aK (de_newS ⟨Z.kS.mks,d.mt.at_,d.mt.fn,Z.kS.kp⟩ b (Y.mono (by decide)) Z.kS.mg d.bd (da5 (fN (Cs:=[CD]) Z.fldD_kinds (ao 1)) (dY (oR Z) Y (da1 (ao 1))) (fN (Cs:=[CD]) Z.fldD_names (ao 1)) (fN (Cs:=[CD]) Z.fldD_flights (ao 1)) (fN (Cs:=[CD]) Z.fldD_closed (ao 1)))))))))
theorem wV:YO Z.zU P w base 9 b_ (eB CR CP CS CW CD n):=
 fY ["_law_text","_law_told_here","e"] λz I e=>let ⟨_,_,Y⟩:=uD Z;(au (cF I (av (bO dZ))) (au (ds_toldN (i:=2) (j:=1) (ys:=[ANoRow,ANoRules,ANoTime,ANoPlace,ANotFree,ATooMany,ANoPlan]) (λA4 σ E g f=>(dsa_set (own:=b_) I (dea_lst1 (dea_call Y.o f e Y.d.mg Y.d.fn.kp Y.d.bd (da1 (ao 0)))))) Z.xCW I (λa d oe c hd b=>aB (jF I rfl (.inl rfl) (jG (ax pe_non (ax (pe_xfld HE Z.xCW.isi Z.aCW_row c hd b) (ax (pe_isO (FQ HE Z.xCW.isi c hd b) Z.bg Z.uM Z.oV) (ax (pe_isB (FQ HE Z.xCW.isi c hd b) Z.bg Z.vF (by decide +kernel) Z.oW) aO)))))) (aX (gK (nL Gu GD GN eV (pv 1) (ax (pe_isT (FQ HE Z.xCW.isi c hd b) Z.bg (lr (lr (lr (lr (lr (lr (lr pa_refs0 Z.EA) Z.Cg) Z.Ci) Z.Ck) Z.Ez) Z.Cj) Z.mI_NoRow) (by show 7<=f_;rw[C_];decide) Z.kT_CW) aO)))))) (aA (aK (ao 1)))))
theorem mB:YO Z.xK P w base 1 b_ (dv):=
 fY ["_law_found"] λz I Y=>(aA (aK (oJ (nZ Z.kit Z.bg Z.yo (ao 0)) (n5 (de_not (qZ Z.kit Z.bg Z.z_bool (ao 0)))))))
theorem kW:YO Z.vg P w base 2 b_ (cJ):=
 fY ["_law_found","_law_due","_law_long","_law_one_here"] λz Y I=>(au (d7 (PW.pt (eO (iZ (dW (qY Z.kit Z.bg Z.vE (ao 0)))) (dB (aF (rW I.units) (ao 0) (ao 1))))) (aA (aK kO)) bB) (au (iu (pt:=.nm 3) (dX (ao 0)) (qV Y) (au (d7 (PW.pt (eO (iZ (dW (xD Z.kit Z.bg Z.z_tuple (ao 3)))) (dB (aF (rW I.units) (aC de Z.cb w_ (da1 (ao 3))) (ao 2))))) (aA (aK kO)) bB) (aA (d7 (iZ (dW (aC (Ac rfl) Z.yq KL (da1 (av (cz ["_law_number_here"] [c_] (dX (ao 3)) (λ_ _ _ _ _=>cG (by decide +kernel)) (aG rfl) (λ_ _ _ _ _=>bW) (λ_ _ _ _ _=>(dY (mB Z) I (da1 (ao 0)))))))))) (aA (aK kO)) bB)))) (aA (aK kO))))
theorem nM:YM Z.m_M_R_many_strips P w mg base 1 b_ (cK):=
 fM ["self"] λz I Y=>(aA (aK ae))
theorem nO:YM Z.m_M_P_many_strips P w mg base 1 b_ (cZ):=
 fM ["self"] λz I Y=>(aA (aK ae))
theorem C9:YO Z.FF P w base 3 b_ (jY CR CP CS CW CD n):=
 fY ["_law_sheet","_law_data_here","_law_kinds","_law_gaps","_law_beside","_law_names","_law_flights","_law_closed"] λz e d=>let ⟨_,_,k,a⟩:=ja Z;let ⟨_,_,h,c⟩:=kZ Z;let ⟨_,_,f,Y⟩:=nO Z;let ⟨_,_,j,b⟩:=kY Z;let ⟨_,_,g,I⟩:=nM Z;(au (Fh (ao 1) (xB rfl (bH (i:=2) e (bH (i:=3) e (bH (i:=4) e (bH (i:=5) e (bH (i:=6) e (bH (i:=7) e ki)))))))) (au (d7 (iZ (dW (Fv (tb:=[(CS,d_)]) (isi1 ⟨⟨_,Z.kS⟩,Z.ki_CS_CS⟩) Z.bg Z.kS.mg (ao 0)))) (aA (aK kO)) bB) (au (d7 (PW.pt (eO (aF (rW d.units) (fN (Cs:=[CS]) Z.EY (ao 0)) (ao 2)) (dB (aF (rW d.units) (fN (Cs:=[CS]) Z.EX (ao 0)) (ao 5))))) (aA (aK kO)) bB) (au (d7 (PW.pt (eO (iZ (dW (dY (kW Z) d (da3 (fN (Cs:=[CS]) Z.zH (ao 0)) (ao 6) ae)))) (dB (iZ (dW (dY (kW Z) d (da3 (fN (Cs:=[CS]) Z.CG (ao 0)) (ao 7) ae))))))) (aA (aK kO)) bB) (au (d7 (PW.pt (eO (aF (rW d.units) (qX Z.kR.cl j.mt b d j.bd Z.kP.cl h.mt c d h.bd (fN (Cs:=[CS]) Z.qQ (ao 0))) (ao 3)) (dB (aF (rW d.units) (qX Z.kR.cl g.mt I (d.mono (by decide)) g.bd Z.kP.cl f.mt Y (d.mono (by decide)) f.bd (fN (Cs:=[CS]) Z.qQ (ao 0))) (av (az aW ae (cP c_int Z.yo IV (da1 (jd o_notN (ao 4) eN))))))))) (aA (aK kO)) bB) (aA (aK (de_or (jd o_isN (ao 4) eN) (n5 (jd (qx d.units) (xC Z.kP.cl k.mt a d k.bd (fN (Cs:=[CS]) Z.qQ (ao 0))) (ao 4)))))))))))
theorem jq:YO Z.xP P w base 10 b_ (bZ CR CP CS CW CD n):=
 fY ["_law_text","_law_due","_law_told_here"] λz Y I=>(au (cF Y (dY (rV Z) I (da1 (ao 0)))) (au (cF Y (dY (wV Z) I (da1 (ao 0)))) (au (d7 (dW (nZ Z.kit Z.bg Z.yo (ao 1))) (aA (aK (oJ (jd (qx I.units) (ao 2) (av (bO (da5 eN (ao 1) kO kO kO)))) (n5 (dY (mB Z) I (da1 (aH bU (ao 2) ae))))))) bB) (aA (aK (oJ (jd (qx I.units) (aC de Z.cb w_ (da1 (ao 2))) ae) (n5 (dY (C9 Z) I (da2 (aH bU (ao 2) ae) (ao 1))))))))))
theorem zf:YO Z.CQ P w base 1 b_ (kz):=
 fY ["_law_data_here","_law_number_here","_law_kind","_law_name_here","_law_odd_here","_law_word"] λz I Y=>(au (cF I (aH bU (aH bU (ao 0) ae) (az dm (az cY (ao 1) ae) (aC de Z.cb w_ (da1 (aH bU (ao 0) ae)))))) (au (cF I ay) (au (d7 (aF (rW Y.units) (aH bU (ao 0) ae) (av (bO dZ))) (aA (cF I (aH bU (aH bU (ao 0) ae) (az dm (az cY (ao 1) ae) (aC de Z.cb w_ (da1 (aH bU (ao 0) ae))))))) bB) (au (cF I (av (bO (aZ ay (aZ (av (az aW ay (ao 2))) (aZ ay (da6 ay ay ay ay ay ay))))))) (au (uV I (az aW (ao 4) (av (bO (da3 (av (az aW (av (az aW (av (az aW ay (ao 2))) ay)) (ao 2))) (av (az aW (av (az aW ay (ao 2))) ay)) (av (az aW (av (az aW ay (ao 2))) ay))))))) (by refine au (O':=[4]) ?_ ?_;refine iu (pt:=.nm 5) ?_ ?_ ?_;refine dX ?_;refine av ?_;refine bO ?_;refine aZ ?_ ?_;exact ay;refine aZ ?_ ?_;exact ay;refine aZ ?_ ?_;exact ay;refine aZ ?_ ?_;exact ay;refine aZ ?_ ?_;exact ay;refine aZ ?_ ?_;exact ay;refine aZ ?_ ?_;exact ay;refine aZ ?_ ?_;exact ay;refine aZ ?_ ?_;exact ay;refine aZ ?_ ?_;exact ay;refine aZ ?_ ?_;exact ay;refine aZ ?_ ?_;refine az ?_ ?_ ?_;exact o_mulB;exact ay;exact ae;exact dZ;exact(qV I);exact(au (gj (i:=4) (av (az aW (av (az aW (av (az aW (av (az aW (av (az aW ay (ao 2))) ay)) (ao 2))) ay)) (ao 5)))) (aA (gj (i:=4) (av (az aW ay (ao 5))))));exact(gw (O2:=[]) (au (cF I (av (az aW (ao 4) (av (bO (da6 ay ay ay ay ay (av (az aW (av (az aW ay (ao 2))) ay)))))))) (au (cF I (av (az aW (ao 4) (av (bO (da3 (av (az aW (av (az aW ay (ao 2))) ay)) (av (az aW (av (az aW ay (ao 2))) ay)) ay)))))) (au (cF I (av (az aW (ao 4) (av (bO (da3 (av (az aW (av (az aW (av (az aW (av (az aW ay (ao 3))) ay)) (ao 2))) ay)) (av (az aW (av (az aW ay (ao 2))) ay)) ay)))))) (au (cF I (av (az aW (ao 4) (av (bO (da3 (av (az aW (av (az aW (av (az aW (av (az aW ay (ao 2))) ay)) (ao 2))) ay)) (av (az aW (av (az aW ay (ao 2))) ay)) (av (az aW ay (ao 2))))))))) (aA (aK (aH bU (ao 4) (az dm (az cY (ao 1) ae) (aC de Z.cb w_ (da1 (ao 4))))))))))))))))))
theorem ok_law:YO (law_d Z.d_law) P w base 11 b_ (m_law CR CP CS CW CD n):=
 fY ["_law_script","_law_rows","_law_kept","_law_k","_law_number_here","_law_at"] λz a I=>let ⟨_,_,b,Y,c⟩:=on_CW Z;(au (uV a (dY (uH Z) I (da1 (dY (oq Z) I (da1 (ao 0)))))) (au (Fj (i:=2) (own:=d_) a (cP c_list Z.vE HB (da1 (ao 1)))) (gw (O2:=[1]) (au (iu (pt:=.nm 3) (gN Z.fZ (da1 (av (az aW ae (az dm (dY (dj Z) I (da2 (ao 0) ae)) ae))))) (qV a) (au (cF a (dY (bN Z) I (da2 (ao 0) (av (az aW ae (ao 3)))))) (au (Fj (i:=5) (own:=b_) a (az dm (az cY (ao 4) ae) (av (az aW (aC de Z.cb w_ (da1 (ao 1))) ae)))) (aA (ds_ins (i:=1) (ao 5) (dY (zf Z) I (da2 (dY (oq Z) I (da1 (ao 0))) (dY (bN Z) I (da2 (ao 0) (av (az aW ae (ao 3)))))))))))) (gw (O2:=[]) (au (d7 (iZ (dW (dY (jq Z) I (da1 (nY jW G3 He ay (ao 1)))))) (aA (aK kO)) bB) (au (d7 (aF (rW I.units) (de_mkfld Jw HE Y.ex Y.fn Y.kp c (I.mono (by decide)) b.bd Y.mg Z.xCW.isi Z.aCW_row (aC de Z.cb w_ (da1 (ao 1)))) (aC de Z.cb w_ (da1 (ao 1)))) (aA (aK kO)) bB) (aA (aK (oJ (dY (jq Z) I (da1 (nY jW G3 He ay (ao 2)))) (n5 (dY (jq Z) I (da1 (nY jW G3 He ay (av (zM x_sl (ao 2) (lO ae) lP))))))))))))))))
end
noncomputable abbrev vC:=Int×Int
variable{cs:List vC}
noncomputable def stD(p:vC):A3:=.tup [.int p.1,.int p.2]
@[simp] theorem getI_c0(a:A3)(l:List A3):gE (a::l) 0=.ok a:=by unfold gE atI ixN;rw[e_ (by omega),e_ (by simp<;>omega)];rfl
@[simp] theorem getI_c2(a b c:A3)(l:List A3):gE (a::b::c::l) 2=.ok c:=by unfold gE atI ixN;rw[e_ (by omega),e_ (by simp<;>omega)];rfl
section
variable(CR CP CS CW CD:g_)
noncomputable def pT(r:List Int):A3:=.lst (r.map .int)
def aY(rows:List (List Int)):A3:=.lst (rows.map pT)
def FW(k:Nat)(r:List Int):Prop:=r.length=k/\∀x∈r,0<=x/\x<=1000000
def eA(k:Nat)(rows:List (List Int)):Prop:=rows.length=k/\∀r∈rows,FW k r
theorem BM{lo:Int}{d:A3}(h:(gQ lo m)[i]?=a_ d):i<m/\d=.int (lo+i):=by unfold gQ at h;rw[GB]at h;obtain⟨a,h1,h2⟩:=LP.mp h;have hi:=(tF.mp h1).1;rw[List.length_range]at hi;rw[MV hi]at h1;cases h1;exact⟨hi,h2.symm⟩
theorem BN{d:A3}(h:(gQ 0 m)[i]?=a_ d):i<m/\d=.int i:=by obtain⟨h1,h2⟩:=BM h;exact⟨h1,by rw[h2,Int.zero_add]⟩
end
section
variable(CR CP CS CW CD:g_)
theorem xm(n:Nat)(x:Int)(I:0<=x)(h1:x<=1000000):eY [.int x]=.ok (.bl d_):=by simp[eY,pq,kH,I,h1]
theorem uO(n:Nat)(k:Nat)(r:List Int)(b:k<=6)(h:FW k r):eG [pT r,.int k]=.ok (.bl d_):=by
 have a:r.length<=16777216:=by have:=h.1;omega
 have I:k<=16777216:=by omega
 have e:bw (.nm 0) gZ (fL (eY) (aa (ai 0) aD)) [c_] (r.map .int)=.ok ((r.map λ_=>d_).map A3.bl):=by
  have:=nq (p:=.nm 0) (fe:=fL (eY) (aa (ai 0) aD)) (ρ0:=[c_]) (λ_=>.bl d_) (r.map .int) (λd hd=>by obtain⟨x,Y,rfl⟩:=GJ.mp hd;exact⟨[a_ (.int x)],by simp,by simp[xm n x (h.2 x Y).1 (h.2 x Y).2]⟩)
  rw[this,Gf,Gf];rfl
 simp[eG,oE,pT,e,a,I,h.1,-Gf]
theorem rj(n:Nat)(rows:List (List Int))(a:rows.length<=1000):dH [aY rows]=.ok (aY rows):=by
 have I:rows.length<=16777216:=by omega
 have e:bw (.nm 0) gZ (fL zv (aa (ai 0) aD)) [c_] (rows.map pT)=.ok (rows.map pT):=by
  have:=nq (p:=.nm 0) (fe:=fL zv (aa (ai 0) aD)) (ρ0:=[c_]) id (rows.map pT) (λd hd=>by obtain⟨x,Y,rfl⟩:=GJ.mp hd;exact⟨[a_ (pT x)],by simp,by simp[pT]⟩)
  rw[this,OM]
 simp[dH,mQ,aY,e,I]
theorem o7(n:Nat)(k:Nat)(rows:List (List Int))(h1:1<=k)(a:k<=6)(h:eA k rows):aM [aY rows]=.ok (aY rows):=by
 have I:rows.length<=16777216:=by have:=h.1;omega
 have e:bw (.nm 0) gZ (fL (eG) (aa (ai 0) (aa (ai 1) aD))) [c_,a_ (.int rows.length)] (rows.map pT)=.ok ((rows.map λ_=>d_).map A3.bl):=by
  have:=nq (p:=.nm 0) (fe:=fL (eG) (aa (ai 0) (aa (ai 1) aD))) (ρ0:=[c_,a_ (.int rows.length)]) (λ_=>.bl d_) (rows.map pT) (λd hd=>by obtain⟨x,Y,rfl⟩:=GJ.mp hd;exact⟨[a_ (pT x),a_ (.int rows.length)],by simp,by simp[h.1,uO n k x a (h.2 x Y)]⟩)
  rw[this,Gf,Gf];rfl
 have a1:(1:Int)<=rows.length:=by have:=h.1;omega
 have b:(rows.length:Int)<=6:=by have:=h.1;omega
 have e3:=rj n rows (by have:=h.1;omega);simp only[aY]at e3;simp[aM,l9,jJ,jI,aY,e,e3,I,a1,b,-Gf]
def om(rows:List (List Int)):A3->A3
 |.non=>.ins CR [("gaps",aY rows)]|o=>.ins CP [("gaps",aY rows),("beside",o)]
theorem gaps_at(rows:List (List Int))(o:A3)(Y:o=.non\/∃I,o=aY I):bM [CR,CP] "gaps" (om CR CP rows o)=.ok (aY rows):=by
 have h1:((("gaps":p_)==("gaps":p_))=d_):=by decide +kernel
 rcases Y with rfl|⟨I,rfl⟩
 ·show(if ([CR,CP].contains CR)=d_ then(match GH ("gaps":p_) [(("gaps":p_),aY rows)]with|some d=>Ge d|none=>stk)else stk)=_;rw[e_ (by simp),v_,h1]
 ·show(if ([CR,CP].contains CP)=d_ then(match GH ("gaps":p_) [(("gaps":p_),aY rows),(("beside":p_),aY I)]with|some d=>Ge d|none=>stk)else stk)=_;rw[e_ (by simp),v_,h1]
end
structure Fli where
 kind:Int
 first:Int
 last:Int
 due:Int
 price:Int
def flD(f:Fli):A3:=.tup [.int f.kind,.int f.first,.int f.last,.int f.due,.int f.price]structure GoodFl (k:Nat) (f:Fli):Prop where
 k0:0<=f.kind
 k1:f.kind<k
 f0:0<=f.first
 f1:f.first<=f.last
 l1:f.last<=1000000000
 d0:0<=f.due
 d1:f.due<=1000000000
 p0:0<=f.price
 p1:f.price<=1000000000
theorem fQ{α:Type}{p:Pat}{fe:ah->M A3}{ρ0:ah}(g f:α->A3):∀(L:List α),(∀x∈L,∃ρ,jC p (g x) ρ0=.ok ρ/\fe ρ=.ok (f x))->bw p gZ fe ρ0 (L.map g)=.ok (L.map f)
 |[],_=>rfl|d::ds,h=>by obtain⟨ρ,e1,e2⟩:=h d (by simp);rw[F_,bw,e1];simp only[aj,gZ,e2,fQ g f ds λx I=>h x (by simp[I])];simp
theorem BC(a b c:p_):a++b++c=a++(b++c):=by
 show(⟨(a.cps++b.cps)++c.cps⟩:p_)=⟨a.cps++(b.cps++c.cps)⟩
 rw[Ky]
theorem Ax(a:p_):a++(Ii:p_)=a:=by show(⟨a.cps++#[]⟩:p_)=a;simp
theorem ue(a:p_):(Ii:p_)++a=a:=by show(⟨#[]++a.cps⟩:p_)=a;simp
theorem vA(a b:p_):(a++b).length=a.length+b.length:=strLen_append a b
def cat:List p_->p_
 |[]=>Ii|x::xs=>x++cat xs
theorem B6:∀xs:List p_,Hv "" xs=cat xs
 |[]=>rfl|[x]=>by rw[cat,cat,Ax];rfl|x::y::xs=>by rw[cat,<- B6 (y::xs)];show x++o_ ""++Hv "" (y::xs)=_;rw[show(o_ "":p_)=Ii by decide +kernel,Ax]
theorem lenLe(xs:List p_)(B:Nat)(h:∀x∈xs,x.length<=B):(xs.map (·.length)).sum<=xs.length*B:=StrLaws.sumLen_le xs h
theorem str_len{i:Int}(h:i.natAbs<10^10):(j8 i).length<=11:=by unfold j8;rw[PySem.ofString_length];exact int_text_length_le10 (k:=10) (by decide) h
theorem nH{i:Int}(h:i.natAbs<10^10):i.natAbs.log2<1920:=by
 by_cases I:i.natAbs=0
 ·rw[I];decide
 ·exact(Nat.log2_lt I).mpr (Gg h (Gw (show 10^10<=2^34 by decide) (Nat.pow_le_pow_right (by decide) (by decide))))
noncomputable def SP:p_:=" "
noncomputable def NLs:p_:="\n"
noncomputable def lH(k:p_):p_:="kind "++k
def oz(w k o:p_)(g:Int):p_:=w++SP++k++SP++o++SP++j8 g
def jf(p:vC):p_:="closed "++j8 p.1++SP++j8 p.2
noncomputable def kAt(ks:List p_)(i:Int):p_:=ks.getD i.toNat ""
def fj(ks:List p_)(p:p_×Fli):p_:="flight"++SP++p.1++SP++kAt ks p.2.kind++SP++j8 p.2.first++SP++j8 p.2.last++SP++j8 p.2.due++SP++j8 p.2.price
def bE(w:p_)(I:Int)(k:p_):List p_->List Int->List p_
 |o::ks,g::r=>(if I<=g then [oz w k o g]else [])++bE w I k ks r
 |_,_=>[]
def bL(w:p_)(I:Int)(ks:List p_):List p_->List (List Int)->List p_
 |k::l,r::rows=>bE w I k ks r++bL w I ks l rows|_,_=>[]
def vp(ks:List p_):Option (List (List Int))->List p_
 |some r2=>bL "beside" 0 ks ks r2|none=>[]
def rowsOf(ks:List p_)(rows:List (List Int))(o:Option (List (List Int)))(ns:List (p_×Fli))(cs:List vC):List p_:=
 ks.map lH++bL "gap" 1 ks ks rows++vp ks o++cs.map jf++ns.map (fj ks)
def textOf(rs:List p_):p_:=cat (rs.map (·++NLs))
theorem qH(ρ:ah)(I:p_):oX [] ρ I=.ok I:=rfl
theorem bR(f:ah->M A3)(fs:List (ah->M A3))(ρ:ah)(I z:p_)(h:f ρ=.ok (.str z))(a:I.length+z.length<=16777216):oX (f::fs) ρ I=oX fs ρ (I++z):=by
 have Y:(I++z).length<=f_:=by rw[vA,C_];exact a
 show(f ρ).bind _=_;rw[h];show(if (I++z).length<=f_ then oX fs ρ (I++z)else stk)=_;rw[e_ Y]
theorem fmt_s(h:z.length<=16777216):nV (.str z)=.ok (.str z):=by rw[e_fmtS,C_,e_ h]
theorem fmt_i{i:Int}(h:i.natAbs<10^10):nV (.int i)=.ok (.str (j8 i)):=by rw[e_fmtI,e_ (nH h)]
theorem EE(ks:List p_)(Y:∀k∈ks,k.length<=100):bw (.nm 0) gZ (fJ [(fC (.str "kind ")),(f1 nV (ai 0))]) [c_] (ks.map .str)=.ok ((ks.map lH).map .str):=by
 rw[Gf];refine fQ _ _ ks λk I=>⟨[a_ (.str k)],rfl,?_⟩
 have h:=Y k I;have e5:(o_ "kind ").length=5:=by decide +kernel
 unfold fJ;rw[bR _ _ _ _ (o_ "kind ") rfl (by rw[e5];show 0+5<=_;decide),ue,bR _ _ _ _ k (by show(nV (.str k))=_;exact fmt_s (by omega)) (by rw[e5];omega),qH];rfl
theorem Ba{k o:p_}{g:Int}(ρ:ah)(hw:w.length<=100)(f:k.length<=100)(e:o.length<=100)(Y:g.natAbs<10^10)(e0:ai 0 ρ=.ok (.str w))(e5:ai 5 ρ=.ok (.str k))(c:ai 7 ρ=.ok (.str o))(b:ai 8 ρ=.ok (.int g)):
  fJ [(f1 nV (ai 0)),(fC (.str " ")),(f1 nV (ai 5)),(fC (.str " ")),(f1 nV (ai 7)),(fC (.str " ")),(f1 nV (ai 8))] ρ=.ok (.str (oz w k o g))/\(oz w k o g).length<=400:=by
 have I:(o_ " ").length=1:=by decide +kernel
 have es:=str_len Y;have f0:f1 nV (ai 0) ρ=.ok (.str w):=by unfold f1;rw[e0];exact fmt_s (by omega)
 have f5:f1 nV (ai 5) ρ=.ok (.str k):=by unfold f1;rw[e5];exact fmt_s (by omega)
 have a:f1 nV (ai 7) ρ=.ok (.str o):=by unfold f1;rw[c];exact fmt_s (by omega)
 have f8:f1 nV (ai 8) ρ=.ok (.str (j8 g)):=by unfold f1;rw[b];exact fmt_i Y
 have d:Ii.length=0:=rfl;refine⟨?_,by unfold oz SP;simp only[vA,I];omega⟩
 unfold fJ;rw[bR _ _ _ _ w f0 (by omega),ue,bR _ _ _ _ (o_ " ") rfl (by omega),bR _ _ _ _ k f5 (by simp only[vA,I];omega),bR _ _ _ _ (o_ " ") rfl (by simp only[vA,I];omega),bR _ _ _ _ o a (by simp only[vA,I];omega),bR _ _ _ _ (o_ " ") rfl (by simp only[vA,I];omega),bR _ _ _ _ (j8 g) f8 (by simp only[vA,I];omega),qH];rfl
section
variable(CR CP CS CW CD:g_)
theorem zA(n:Nat){w k:p_}(hw:w.length<=100)(m:k.length<=100)(I:Int)(a1 b a:Option A3):∀(os:List p_) (r:List Int) (Y:List p_) (e d:Option A3),(∀o∈os,o.length<=100)->(∀g∈r,g.natAbs<10^10)->Y.length+os.length<=10000->∃h f,
  nU (.tp [7,8]) (cS) (nA (os.map .str) (r.map .int)) [a_ (.str w),a1,b,a_ (.int I),a_ (.lst (Y.map .str)),a_ (.str k),a,e,d]=.ok (.nx [a_ (.str w),a1,b,a_ (.int I),a_ (.lst ((Y++bE w I k os r).map .str)),a_ (.str k),a,h,f])
 |[],r,Y,e,d,_,_,_=>⟨e,d,by simp[nA,nU,bE]⟩|o::os,[],Y,e,d,_,_,_=>⟨e,d,by simp[nA,nU,bE]⟩|o::os,g::r,Y,e,d,l,j,s=>by
  obtain⟨e1,e2⟩:=Ba (w:=w) (k:=k) (o:=o) (g:=g) [a_ (.str w),a1,b,a_ (.int I),a_ (.lst (Y.map .str)),a_ (.str k),a,a_ (.str o),a_ (.int g)] hw m (l o (by simp)) (j g (by simp)) rfl rfl rfl rfl;have i:Y.length<16777216:=by simp at s;omega
  have u:=Ba (w:=w) (k:=k) (o:=o) (g:=g) [a_ (.str w),a1,b,a_ (.int I),c_,a_ (.str k),a,a_ (.str o),a_ (.int g)] hw m (l o (by simp)) (j g (by simp)) rfl rfl rfl rfl;by_cases p:I<=g
  ·have t:cS [a_ (.str w),a1,b,a_ (.int I),a_ (.lst (Y.map .str)),a_ (.str k),a,a_ (.str o),a_ (.int g)]=.ok (.nx [a_ (.str w),a1,b,a_ (.int I),a_ (.lst ((Y++[oz w k o g]).map .str)),a_ (.str k),a,a_ (.str o),a_ (.int g)]):=by
    simp[cS,j7,p,u.1,e1,i]
   obtain⟨h,f,q⟩:=zA n hw m I a1 b a os r (Y++[oz w k o g]) (a_ (.str o)) (a_ (.int g)) (λx c=>l x (by simp[c])) (λx c=>j x (by simp[c])) (by simp at s ⊢;omega);refine⟨h,f,?_⟩
   rw[bE,e_ p,<- Jb,<- q];simp[nA,nU,t]
  ·have t:cS [a_ (.str w),a1,b,a_ (.int I),a_ (.lst (Y.map .str)),a_ (.str k),a,a_ (.str o),a_ (.int g)]=.ok (.nx [a_ (.str w),a1,b,a_ (.int I),a_ (.lst (Y.map .str)),a_ (.str k),a,a_ (.str o),a_ (.int g)]):=by
    simp[cS,j7,p]
   obtain⟨h,f,q⟩:=zA n hw m I a1 b a os r Y (a_ (.str o)) (a_ (.int g)) (λx c=>l x (by simp[c])) (λx c=>j x (by simp[c])) (by simp at s ⊢;omega);refine⟨h,f,?_⟩
   rw[bE,k_ p,Lb,<- q];simp[nA,nU,t]
theorem jw(w:p_)(I:Int)(k:p_):∀(os:List p_) (r:List Int),(bE w I k os r).length<=os.length
 |[],_=>by simp[bE]|_::_,[]=>by simp[bE]|o::os,g::r=>by rw[bE,Gp,Gi];have:=jw w I k os r;split<;>simp<;>omega
theorem B9(n:Nat){w:p_}(hw:w.length<=100)(ks:List p_)(h:∀k∈ks,k.length<=100)(C:ks.length<=6)(I:Int)(f:Option A3):∀(l:List p_) (rows:List (List Int)) (Y:List p_) (d c b a:Option A3),(∀k∈l,k.length<=100)->(∀r∈rows,∀g∈r,g.natAbs<10^10)->Y.length+6*l.length<=9000->∃u t j i,
  nU (.tp [5,6]) (gz) (nA (l.map .str) (rows.map pT)) [a_ (.str w),a_ (.lst (ks.map .str)),f,a_ (.int I),a_ (.lst (Y.map .str)),d,c,b,a]=.ok (.nx [a_ (.str w),a_ (.lst (ks.map .str)),f,a_ (.int I),a_ (.lst ((Y++bL w I ks l rows).map .str)),u,t,j,i])
 |[],rows,Y,d,c,b,a,_,_,_=>⟨d,c,b,a,by simp[nA,nU,bL]⟩|k::l,[],Y,d,c,b,a,_,_,_=>⟨d,c,b,a,by simp[nA,nU,bL]⟩|k::l,r::rows,Y,d,c,b,a,q,o,s=>by
  obtain⟨j,i,e⟩:=zA n hw (q k (by simp)) I (a_ (.lst (ks.map .str))) f (a_ (pT r)) ks r Y b a h (o r (by simp)) (by simp at s;omega);have p:=jw w I k ks r;have D:gz [a_ (.str w),a_ (.lst (ks.map .str)),f,a_ (.int I),a_ (.lst (Y.map .str)),a_ (.str k),a_ (pT r),b,a]=.ok (.nx [a_ (.str w),a_ (.lst (ks.map .str)),f,a_ (.int I),a_ (.lst ((Y++bE w I k ks r).map .str)),a_ (.str k),a_ (pT r),j,i]):=by unfold gz;rw[<- e];simp[pT,mJ]
  obtain⟨A,z,y,v,B⟩:=B9 n hw ks h C I f l rows (Y++bE w I k ks r) (a_ (.str k)) (a_ (pT r)) j i (λx m=>q x (by simp[m])) (λx m=>o x (by simp[m])) (by simp at s ⊢;omega);refine⟨A,z,y,v,?_⟩
  rw[bL,<- Jb,<- B];simp[nA,nU,D]
theorem ml(n:Nat)(hw:w.length<=100)(ks:List p_)(Y:∀k∈ks,k.length<=100)(b:ks.length<=6)(I:Int)(rows:List (List Int))(a:∀r∈rows,∀g∈r,g.natAbs<10^10):
  gB [.str w,.lst (ks.map .str),aY rows,.int I]=.ok (.lst ((bL w I ks ks rows).map .str)):=by
 obtain⟨h,f,d,c,e⟩:=B9 n hw ks Y b I (a_ (aY rows)) ks rows [] c_ c_ c_ c_ Y a (by simp;omega);simp only[Iu,Lb]at e;simp[gB,oA,aY,mJ]at e ⊢;simp[e]
end
theorem sget{i:Int}(Y:0<=i)(h1:i<ks.length):gE (ks.map .str) i=.ok (.str (kAt ks i))/\kAt ks i∈ks:=by
 obtain⟨j,rfl⟩:∃j:Nat,i=j:=⟨i.toNat,by omega⟩
 have I:j<ks.length:=by omega
 have e:kAt ks (j:Int)=ks[j]:=by unfold kAt;simp[I]
 refine⟨?_,by rw[e];exact IQ I⟩
 rw[e];unfold gE atI ixN;rw[e_ (by omega),e_ (by simp<;>omega)];simp[I]
structure BFl(k:Nat)(f:Fli):Prop where
 k0:0<=f.kind
 k1:f.kind<k
 a:f.first.natAbs<10^10
 b:f.last.natAbs<10^10
 c:f.due.natAbs<10^10
 d:f.price.natAbs<10^10
theorem uT{f:Fli}(c:nm.length<=100)(Y:∀k∈ks,k.length<=100)(I:BFl ks.length f):(fj ks (nm,f)).length<=400:=by
 have a:(o_ " ").length=1:=by decide +kernel
 have b:(o_ "flight").length=6:=by decide +kernel
 have h1:=str_len I.a;have h2:=str_len I.b;have g:=str_len I.c;have e:=str_len I.d;have d:=Y _ (sget I.k0 I.k1).2;unfold fj SP;simp only[vA,a,b];omega
section
variable(CR CP CS CW CD:g_)
theorem pP(n:Nat){f:Fli}(q:ks.length<=6)(p:nm.length<=100)(a:∀k∈ks,k.length<=100)(I:BFl ks.length f):cR [.lst (ks.map .str),.str nm,flD f]=.ok (.str (fj ks (nm,f))):=by
 have h:(o_ " ").length=1:=by decide +kernel
 have j:(o_ "flight").length=6:=by decide +kernel
 have h1:=str_len I.a;have h2:=str_len I.b;have t:=str_len I.c;have s:=str_len I.d;obtain⟨e0,Y⟩:=sget I.k0 I.k1;have r:=a _ Y;have g:=nH I.a;have e:=nH I.b;have d:=nH I.c;have c:=nH I.d;have i:Hv (o_ " ") [o_ "flight",nm,kAt ks f.kind,j8 f.first,j8 f.last,j8 f.due,j8 f.price]=fj ks (nm,f):=by unfold fj SP;simp only[Hv,BC]
 have o:6+(nm.length+((kAt ks f.kind).length+((j8 f.first).length+((j8 f.last).length+((j8 f.due).length+((j8 f.price).length+0))))))+7*1<=16777216:=by omega
 have b:dQ (.tup [.int f.kind,.int f.first,.int f.last,.int f.due,.int f.price]) (a_ 1) c_=.ok (.tup [.int f.first,.int f.last,.int f.due,.int f.price]):=rfl;have l:bw (.nm 0) gZ (fL DC (aa (ai 0) aD)) [c_] [.int f.first,.int f.last,.int f.due,.int f.price]=.ok [.str (j8 f.first),.str (j8 f.last),.str (j8 f.due),.str (j8 f.price)]:=by simp[bw,g,e,d,c]
 have m:bX (.lst [.str (o_ "flight"),.str nm,.str (kAt ks f.kind)]) (.lst [.str (j8 f.first),.str (j8 f.last),.str (j8 f.due),.str (j8 f.price)])=.ok (.lst [.str (o_ "flight"),.str nm,.str (kAt ks f.kind),.str (j8 f.first),.str (j8 f.last),.str (j8 f.due),.str (j8 f.price)]):=by simp[bX,C_]
 simp[cR,l7,flD,e0,b,l,m,i,h,j];rw[e_]
 ·rfl
 ·omega
end
theorem zZ(cs:List vC)(h:∀p∈cs,p.1.natAbs<10^10/\p.2.natAbs<10^10):bw (.tp [0,1]) gZ (fJ [(fC (.str "closed ")),(f1 nV (ai 0)),(fC (.str " ")),(f1 nV (ai 1))]) [c_,c_] (cs.map stD)=.ok ((cs.map jf).map .str):=by
 rw[Gf];refine fQ _ _ cs λp I=>⟨[a_ (.int p.1),a_ (.int p.2)],rfl,?_⟩
 obtain⟨h1,h2⟩:=h p I;have e1:(o_ "closed ").length=7:=by decide +kernel
 have e2:(o_ " ").length=1:=by decide +kernel
 have b:=str_len h1;have a:=str_len h2;have Y:Ii.length=0:=rfl;unfold fJ;rw[bR _ _ _ _ (o_ "closed ") rfl (by omega),ue,bR _ _ _ _ (j8 p.1) (fmt_i h1) (by omega),bR _ _ _ _ (o_ " ") rfl (by simp only[vA];omega),bR _ _ _ _ (j8 p.2) (fmt_i h2) (by simp only[vA];omega),qH];rfl
theorem vk{p:vC}(h:p.1.natAbs<10^10/\p.2.natAbs<10^10):(jf p).length<=400:=by
 have e1:(o_ "closed ").length=7:=by decide +kernel
 have e2:(o_ " ").length=1:=by decide +kernel
 have Y:=str_len h.1;have I:=str_len h.2;unfold jf SP;simp only[vA];omega
theorem zx{k:p_}(h:k.length<=100):(lH k).length<=400:=by
 have e1:(o_ "kind ").length=5:=by decide +kernel
 unfold lH;simp only[vA];omega
theorem CB{k o:p_}{g:Int}(hw:w.length<=100)(b:k.length<=100)(a:o.length<=100)(I:g.natAbs<10^10):(oz w k o g).length<=400:=by
 have Y:(o_ " ").length=1:=by decide +kernel
 have es:=str_len I;unfold oz SP;simp only[vA,Y];omega
theorem mL{w:p_}{I:Int}{k:p_}(hw:w.length<=100)(c:k.length<=100):∀(os:List p_) (r:List Int),(∀o∈os,o.length<=100)->(∀g∈r,g.natAbs<10^10)->∀x∈bE w I k os r,x.length<=400
 |[],_,_,_,x,h=>by simp[bE]at h|_::_,[],_,_,x,h=>by simp[bE]at h|o::os,g::r,b,a,x,h=>by
  rw[bE,GU]at h;rcases h with h|h
  ·split at h
   ·rw[G9]at h;rw[h];exact CB hw c (b o (by simp)) (a g (by simp))
   ·cases h
  ·exact mL hw c os r (λy Y=>b y (by simp[Y])) (λy Y=>a y (by simp[Y])) x h
theorem lI{w:p_}{I:Int}{ks:List p_}(hw:w.length<=100)(Y:∀k∈ks,k.length<=100):∀(l:List p_) (rows:List (List Int)),(∀k∈l,k.length<=100)->(∀r∈rows,∀g∈r,g.natAbs<10^10)->∀x∈bL w I ks l rows,x.length<=400
 |[],_,_,_,x,h=>by simp[bL]at h|_::_,[],_,_,x,h=>by simp[bL]at h|k::l,r::rows,c,b,x,h=>by
  rw[bL,GU]at h;rcases h with h|h
  ·exact mL hw (c k (by simp)) ks r Y (b r (by simp)) x h
  ·exact lI hw Y l rows (λy a=>c y (by simp[a])) (λy a=>b y (by simp[a])) x h
theorem lJ(w:p_)(I:Int)(ks:List p_):∀(l:List p_) (rows:List (List Int)),(bL w I ks l rows).length<=l.length*ks.length
 |[],_=>by simp[bL]|_::_,[]=>by simp[bL]|k::l,r::rows=>by rw[bL,Gp,Gi,Nat.succ_mul];have h1:=jw w I k ks r;have h2:=lJ w I ks l rows;omega
structure Sht where
 ks:List p_
 rows:List (List Int)
 o:Option (List (List Int))
 nf:List (p_×Fli)
 cs:List vC
structure Sht.Good(w:Sht):Prop where
 k1:1<=w.ks.length
 k6:w.ks.length<=6
 kl:∀k∈w.ks,k.length<=100
 rows:eA w.ks.length w.rows
 o:∀r2,w.o=a_ r2->eA w.ks.length r2
 nm:w.nf.length<=40
 nl:∀p∈w.nf,p.1.length<=100/\BFl w.ks.length p.2
 cm:w.cs.length<=20
 cl:∀p∈w.cs,p.1.natAbs<10^10/\p.2.natAbs<10^10
noncomputable def Sht.kD(w:Sht):A3:=.lst (w.ks.map .str)
def Sht.bD(w:Sht):A3:=match w.o with
 |some r2=>aY r2|none=>.non
noncomputable def Sht.nD(w:Sht):A3:=.lst ((w.nf.map (·.1)).map .str)
def Sht.fD(w:Sht):A3:=.lst ((w.nf.map (·.2)).map flD)
def Sht.cD(w:Sht):A3:=.lst (w.cs.map stD)
def Sht.D(w:Sht):A3:=.tup [w.kD,aY w.rows,w.bD,w.nD,w.fD,w.cD]
def Sht.rs(w:Sht):List p_:=rowsOf w.ks w.rows w.o w.nf w.cs
def Sht.tx(w:Sht):p_:=textOf w.rs
theorem eA.nat{k:Nat}(h:eA k rows):∀r∈rows,∀g∈r,g.natAbs<10^10:=λr I g Y=>by
 have:=(h.2 r I).2 g Y;have e:(10:Nat)^10=10000000000:=by decide
 omega
theorem lgap:(o_ "gap").length<=100:=by decide +kernel
theorem lbes:(o_ "beside").length<=100:=by decide +kernel
theorem Sht.Good.DV{w:Sht}(h:w.Good):∀x∈w.rs,x.length<=400:=λx I=>by
 unfold Sht.rs rowsOf at I;simp only[GU]at I;rcases I with(((I|I)|I)|I)|I
 ·obtain⟨k,b,rfl⟩:=GJ.mp I;exact zx (h.kl k b)
 ·exact lI lgap h.kl w.ks w.rows h.kl h.rows.nat x I
 ·cases a:w.o with
  |none=>rw[a]at I;cases(show x∈([]:List p_)from I)|some r2=>rw[a]at I;exact lI lbes h.kl w.ks r2 h.kl (h.o r2 a).nat x I
 ·obtain⟨p,Y,rfl⟩:=GJ.mp I;exact vk (h.cl p Y)
 ·obtain⟨p,Y,rfl⟩:=GJ.mp I;exact uT (h.nl p Y).1 h.kl (h.nl p Y).2
theorem Sht.Good.rs_len{w:Sht}(h:w.Good):w.rs.length<=200:=by
 unfold Sht.rs rowsOf;simp only[Gp,u_];have h1:=lJ "gap" 1 w.ks w.ks w.rows;have h2:(vp w.ks w.o).length<=w.ks.length*w.ks.length:=by
  cases w.o with
  |none=>simp[vp]|some r2=>exact lJ _ _ _ _ _
 have I:=h.k6;have b:=NW I I;have a:=h.nm;have Y:=h.cm;omega
theorem i8:∀xs:List p_,gA (xs.map .str)=.ok xs
 |[]=>rfl|x::xs=>by rw[F_,e_strs1,i8 xs];rfl
theorem nl_len:NLs.length=1:=by decide +kernel
theorem nl_comp(rs:List p_)(h:∀r∈rs,r.length<=400):bw (.nm 0) gZ (f2 bX (ai 0) (fC (.str "\n"))) [c_] (rs.map .str)=.ok ((rs.map (·++NLs)).map .str):=by
 rw[Gf];refine fQ _ _ rs λr I=>⟨[a_ (.str r)],rfl,?_⟩
 have h1:=h r I;have h2:r.length+(o_ "\n").length<=f_:=by have:(o_ "\n").length=1:=nl_len;rw[C_];omega
 show bX (.str r) (.str "\n")=_;unfold bX;simp only;rw[e_ h2];rfl
theorem zip_nf:∀I:List (p_×Fli),nA ((I.map (·.1)).map .str) ((I.map (·.2)).map flD)=I.map λp=>A3.tup [.str p.1,flD p.2]
 |[]=>rfl|p::I=>by simp only[F_,nA,zip_nf I]
section
variable(CR CP CS CW CD:g_)
theorem fl_comp(n:Nat)(b:ks.length<=6)(Y:∀k∈ks,k.length<=100)(I:List (p_×Fli))(h:∀p∈I,p.1.length<=100/\BFl ks.length p.2):
  bw (.tp [0,1]) gZ (fL (cR) (aa (ai 2) (aa (ai 0) (aa (ai 1) aD)))) [c_,c_,a_ (.lst (ks.map .str))] (I.map λp=>A3.tup [.str p.1,flD p.2])=.ok ((I.map (fj ks)).map .str):=by
 rw[Gf];refine fQ _ _ I λp a=>⟨[a_ (.str p.1),a_ (flD p.2),a_ (.lst (ks.map .str))],rfl,?_⟩
 obtain⟨h1,h2⟩:=h p a;have e:=pP n b h1 Y h2;show(cR [.lst (ks.map .str),.str p.1,flD p.2])=_;rw[e];rfl
theorem bes_at(rows r2:List (List Int)):bM [CP] "beside" (om CR CP rows (aY r2))=.ok (aY r2):=by
 have h1:((("beside":p_)==("gaps":p_))=b_):=by decide +kernel
 have h2:((("beside":p_)==("beside":p_))=d_):=by decide +kernel
 show(if ([CP].contains CP)=d_ then(match GH ("beside":p_) [(("gaps":p_),aY rows),(("beside":p_),aY r2)]with|some d=>Ge d|none=>stk)else stk)=_;rw[e_ (by simp),v_,h1,v_,h2]
def Sht.ru(w:Sht):A3:=om CR CP w.rows w.bD
theorem Sht.bD_or(w:Sht):w.bD=.non\/∃r2,w.bD=aY r2:=by
 unfold Sht.bD;cases w.o with
 |none=>exact .inl rfl|some r2=>exact .inr ⟨r2,rfl⟩
theorem zB(n:Nat){w:Sht}(h:w.Good):b6 CR CP CS CW CD n [w.ru CR CP]=.ok (aY w.rows):=by have e1:=gaps_at CR CP w.rows w.bD w.bD_or;have e2:=rj n w.rows (by have:=h.rows.1;have:=h.k6;omega);simp[b6,jH,Sht.ru,e1,e2]
theorem Ad(n:Nat){w:Sht}(h:w.Good)(I:w.o=a_ r2):bG CR CP CS CW CD n [w.ru CR CP]=.ok (aY r2):=by
 have e2:=rj n r2 (by have:=(h.o r2 I).1;have:=h.k6;omega);have Y:w.bD=aY r2:=by unfold Sht.bD;rw[I]
 have e1:=bes_at CR CP w.rows r2;simp[bG,iT,Sht.ru,Y,e1,e2]
end
section
variable(CR CP CS CW CD:g_)
theorem DQ(I:CR≠CP)(w:Sht)(m:p_)(h1:(m==("gaps":p_))=b_)(h2:(m==("beside":p_))=b_)(g g2:List A3->M A3)(fo:ah->M A3)(ρ:ah)(e:fo ρ=.ok (w.ru CR CP)):
  jb CR CP m g g2 fo aD ρ=if w.o.isSome=d_ then g2 [w.ru CR CP]else g [w.ru CR CP]:=by
 unfold jb;rw[e];unfold Sht.ru Sht.bD;have Y:(CP==CR)=b_:=by simp;exact λz=>I z.symm
 cases w.o with
 |none=>
  show(if isC CR m (.ins CR [("gaps",aY w.rows)])=d_ then _ else _)=_;have:isC CR m (.ins CR [("gaps",aY w.rows)])=d_:=by show((CR==CR)&&(GH m [(("gaps":p_),aY w.rows)]).isNone)=d_;rw[v_,h1];simp
  rw[e_ this];rfl
 |some r2=>
  show(if isC CR m (.ins CP [("gaps",aY w.rows),("beside",aY r2)])=d_ then _ else if isC CP m (.ins CP [("gaps",aY w.rows),("beside",aY r2)])=d_ then _ else _)=_;have b:isC CR m (.ins CP [("gaps",aY w.rows),("beside",aY r2)])=b_:=by show((CP==CR)&&_)=b_;rw[Y];rfl
  have a:isC CP m (.ins CP [("gaps",aY w.rows),("beside",aY r2)])=d_:=by show((CP==CP)&&(GH m [(("gaps":p_),aY w.rows),(("beside":p_),aY r2)]).isNone)=d_;rw[v_,h1,v_,h2];simp
  rw[b,k_ (by decide),e_ a];rfl
theorem ru_gap(I:CR≠CP)(n:Nat){w:Sht}(h:w.Good)(fo:ah->M A3)(ρ:ah)(e:fo ρ=.ok (w.ru CR CP)):jb CR CP "gap_rows" (b6 CR CP CS CW CD n) (b6 CR CP CS CW CD n) fo aD ρ=.ok (aY w.rows):=by rw[DQ CR CP I w "gap_rows" (by decide +kernel) (by decide +kernel) _ _ fo ρ e,zB CR CP CS CW CD n h];split<;>rfl
theorem DO(I:CR≠CP)(n:Nat){w:Sht}(fo:ah->M A3)(ρ:ah)(e:fo ρ=.ok (w.ru CR CP)):jb CR CP "many_strips" (cK) (cZ) fo aD ρ=.ok (.int (if w.o.isSome=d_ then 2 else 1)):=by rw[DQ CR CP I w "many_strips" (by decide +kernel) (by decide +kernel) _ _ fo ρ e];split<;>simp[cZ,iS,cK,ip]
theorem ru_bes(n:Nat){w:Sht}(h:w.Good)(I:w.o=a_ r2)(fo:ah->M A3)(ρ:ah)(e:fo ρ=.ok (w.ru CR CP)):jM CP "beside_rows" (bG CR CP CS CW CD n) fo aD ρ=.ok (aY r2):=by
 have b:=Ad CR CP CS CW CD n h I;unfold jM;rw[e];have a:w.ru CR CP=.ins CP [("gaps",aY w.rows),("beside",aY r2)]:=by unfold Sht.ru Sht.bD;rw[I];rfl
 have Y:isC CP "beside_rows" (w.ru CR CP)=d_:=by rw[a];show((CP==CP)&&(GH ("beside_rows":p_) [(("gaps":p_),aY w.rows),(("beside":p_),aY r2)]).isNone)=d_;rw[v_,show(("beside_rows":p_)==("gaps":p_))=b_ by decide +kernel,v_,show(("beside_rows":p_)==("beside":p_))=b_ by decide +kernel];simp
 show(if isC CP "beside_rows" (w.ru CR CP)=d_ then _ else _)=_;rw[e_ Y];exact b
theorem ru_isi(I:CR≠CP)(w:Sht):isiC [(CR,b_),(CP,d_)] (w.ru CR CP)=.ok (.bl w.o.isSome):=by
 unfold Sht.ru Sht.bD;have Y:(CP==CR)=b_:=by simp;exact λz=>I z.symm
 cases w.o with
 |none=>show(match GH CR [(CR,b_),(CP,d_)]with|some b=>Ge (A3.bl b)|none=>stk)=_;rw[v_,show(CR==CR)=d_ by simp];rfl
 |some r2=>show(match GH CP [(CR,b_),(CP,d_)]with|some b=>Ge (A3.bl b)|none=>stk)=_;rw[v_,Y,v_,show(CP==CP)=d_ by simp];rfl
theorem text_ok(a:CR≠CP)(n:Nat){w:Sht}(h:w.Good):dS CR CP CS CW CD n [w.kD,w.ru CR CP,w.nD,w.fD,w.cD]=.ok (.str w.tx):=by
 have e1:=EE w.ks h.kl;have e2:=ru_gap CR CP CS CW CD a n h (ai 1) [a_ w.kD,a_ (w.ru CR CP),a_ w.nD,a_ w.fD,a_ w.cD,c_] rfl;have e3:=ml n lgap w.ks h.kl h.k6 1 w.rows h.rows.nat;have e4:=ru_isi CR CP a w;have e5:=zZ w.cs h.cl;have E:=fl_comp n h.k6 h.kl w.nf h.nl;have D:=nl_comp w.rs h.DV;have s:=h.rs_len;have p:w.ks.length<=16777216:=by have:=h.k6;omega
 have o:w.cs.length<=16777216:=by have:=h.cm;omega
 have m:w.nf.length<=16777216:=by have:=h.nm;omega
 have e:w.rs.length<=16777216:=by omega
 obtain⟨B,Y⟩:∃B,vp w.ks w.o=B:=⟨_,rfl⟩
 have i:w.ks.length+(bL "gap" 1 w.ks w.ks w.rows).length+B.length+w.cs.length+w.nf.length<=200:=by have:=h.rs_len;unfold Sht.rs rowsOf at this;simp only[Gp,u_,Y]at this;exact this
 have C:∀I:List p_,I.length<=200->jA CR CP CS CW CD n [a_ w.kD,a_ (w.ru CR CP),a_ w.nD,a_ w.fD,a_ w.cD,a_ (.lst (I.map .str))]=.ok (.nx [a_ w.kD,a_ (w.ru CR CP),a_ w.nD,a_ w.fD,a_ w.cD,a_ (.lst ((I++B).map .str))]):=λI j=>by
  cases d:w.o with
  |none=>rw[d]at e4 Y;have Y:B=[]:=Y.symm;simp[jA,e4,Y]|some r2=>
   have l:=ru_bes CR CP CS CW CD n h d (ai 1) [a_ w.kD,a_ (w.ru CR CP),a_ w.nD,a_ w.fD,a_ w.cD,c_] rfl;have c:=ml n lbes w.ks h.kl h.k6 0 r2 (h.o r2 d).nat;rw[d]at e4 Y;have Y:bL "beside" 0 w.ks w.ks r2=B:=Y;rw[Y]at c;have f:I.length+B.length<=16777216:=by omega
   simp[jA,e4,l,Sht.kD,c,f]at l ⊢
 have k:w.ks.map lH++bL "gap" 1 w.ks w.ks w.rows++B++w.cs.map jf++w.nf.map (fj w.ks)=w.rs:=by rw[<- Y];rfl
 have b1:w.ks.length+(bL "gap" 1 w.ks w.ks w.rows).length<=16777216:=by omega
 have b2:w.ks.length+((bL "gap" 1 w.ks w.ks w.rows).length+B.length)+w.cs.length<=16777216:=by omega
 have b3:w.ks.length+((bL "gap" 1 w.ks w.ks w.rows).length+(B.length+w.cs.length))+w.nf.length<=16777216:=by omega
 have b:=C (w.ks.map lH++bL "gap" 1 w.ks w.ks w.rows) (by simp;omega);have t:((w.rs.map (·++NLs)).map (·.length)).sum<=16777216:=by
  have:=lenLe (w.rs.map (·++NLs)) 401 (λx r=>by obtain⟨y,q,rfl⟩:=GJ.mp r;have:=h.DV y q;rw[vA,nl_len];omega)
  rw[u_]at this;omega
 have u:(o_ "").length=0:=by decide +kernel
 have es:=i8 (w.rs.map (·++NLs));have A:=B6 (w.rs.map (·++NLs));have z:=zip_nf w.nf;have v:JX A3.str (JX lH w.ks)++(JX A3.str (bL "gap" 1 w.ks w.ks w.rows)++(JX A3.str B++(JX A3.str (JX jf w.cs)++JX A3.str (JX (fj w.ks) w.nf))))=w.rs.map .str:=by rw[<- k];simp only[Hj,Jb]
 rw[<- k]at e;simp only[Sht.kD,Sht.nD,Sht.fD,Sht.cD,Hj,Jb]at e2 b ⊢;simp only[Gp,u_,Oo]at e;simp[dS,xo,e1,p,e2,e3,b1,b,e5,o,b2,z,E,m,b3,mJ,e,-Gf];rw[v,D];have g:((w.rs.map (·++NLs)).map (·.length)).sum+(w.rs.map (·++NLs)).length*(o_ "").length<=16777216:=by rw[u,Nat.mul_zero];exact t
 simp only[aj,e_joinD,es,C_,e_ g,A];rfl
end
theorem gW{α:Type}(f:α->A3)(n:Nat)(h:∀x,C6 (f x) n=d_):∀L:List α,l5 (L.map f) n=d_
 |[]=>rfl|x::L=>by simp[l5,h x,gW f n h L]
theorem lh{d:A3}(h:C6 d 40=d_):neM d d=.ok (.bl b_):=by unfold neM;rw[h];simp[pA h]
theorem yB{d:A3}(h:C6 d 40=d_):eqM d d=.ok (.bl d_):=by unfold eqM;rw[h];simp[pA h]
theorem okE_tz(x:List Int)(n:Nat):C6 (An x) (n+1)=d_:=by unfold An;simp only[C6];exact gW _ _ (λ_=>by simp[C6]) x
theorem okE_lt(xs:List (List Int))(n:Nat):C6 (.lst (xs.map An)) (n+2)=d_:=by simp only[C6];exact gW _ _ (λx=>okE_tz x n) xs
theorem El(rows:List (List Int))(n:Nat):C6 (aY rows) (n+2)=d_:=by unfold aY;simp only[C6];refine gW _ _ (λr=>?_) rows;unfold pT;simp only[C6];exact gW _ _ (λ_=>by simp[C6]) r
theorem AU(xs:List p_)(n:Nat):C6 (.lst (xs.map .str)) (n+1)=d_:=by simp only[C6];exact gW _ _ (λ_=>by simp[C6]) xs
noncomputable def flZ(f:Fli):List Int:=[f.kind,f.first,f.last,f.due,f.price]
noncomputable def stZ(p:vC):List Int:=[p.1,p.2]
theorem flD_map(l:List Fli):l.map flD=(l.map flZ).map An:=by rw[Gf];rfl
theorem stD_map(l:List vC):l.map stD=(l.map stZ).map An:=by rw[Gf];rfl
section
variable(CR CP CS CW CD:g_)
theorem Bw(n:Nat)(x:List Int):bw (.nm 0) gZ (fL (dv) (aa (ai 0) aD)) [c_] (x.map .int)=.ok ((x.map λ_=>d_).map A3.bl):=by
 rw[Gf];refine fQ _ _ x λi _=>⟨[a_ (.int i)],rfl,?_⟩
 simp[dv,k8]
theorem pF(n:Nat)(L:Nat)(f:L<=100)(I a1:Option A3):∀(xs:List (List Int)) (Y:Option A3),(∀x∈xs,x.length=L)->∃a,nU (.nm 3) (fV) (xs.map An) [I,a1,a_ (.int L),Y]=.ok (.nx [I,a1,a_ (.int L),a])
 |[],Y,_=>⟨Y,rfl⟩|x::xs,Y,h=>by
  have e:=h x (by simp);have k:x.length<=16777216:=by omega
  have b:L<=16777216:=by omega
  have g:=Bw n x;have l:neM (.int (L:Int)) (.int (L:Int))=.ok (.bl b_):=lh rfl;have j:(x.map λ_=>d_).all id=d_:=by simp
  have i:fV [I,a1,a_ (.int L),a_ (An x)]=.ok (.nx [I,a1,a_ (.int L),a_ (An x)]):=by simp[fV,kq,ko,An,e,b,g,j,-Gf]
  obtain⟨a,c⟩:=pF n L f I a1 xs (a_ (An x)) λy d=>h y (by simp[d]);refine⟨a,?_⟩
  rw[<- c];simp[nU,i]
theorem vO(n:Nat)(L:Nat)(I:L<=100)(xs:List (List Int))(h:∀x∈xs,x.length=L):cJ [.lst (xs.map An),.lst (xs.map An),.int L]=.ok (.bl d_):=by have Y:=lh (okE_lt xs 38);obtain⟨a,e⟩:=pF n L I (a_ (.lst (xs.map An))) (a_ (.lst (xs.map An))) xs c_ h;simp[cJ,mT,kr,Y,e]
def Sht.obj(w:Sht):A3:=.ins CS [("kinds",w.kD),("rules",w.ru CR CP),("names",w.nD),("flights",w.fD),("closed",w.cD),("text",.str w.tx)]
theorem obj_at(w:Sht):bM [CS] "kinds" (w.obj CR CP CS)=.ok w.kD/\bM [CS] "rules" (w.obj CR CP CS)=.ok (w.ru CR CP)/\bM [CS] "names" (w.obj CR CP CS)=.ok w.nD/\bM [CS] "flights" (w.obj CR CP CS)=.ok w.fD/\bM [CS] "closed" (w.obj CR CP CS)=.ok w.cD/\bM [CS] "text" (w.obj CR CP CS)=.ok (.str w.tx):=by
 have m:∀a b:p_,a≠b->(a==b)=b_:=λa b h=>by simp[h]
 have key:∀(y:p_) (d:A3),GH y [(("kinds":p_),w.kD),(("rules":p_),w.ru CR CP),(("names":p_),w.nD),(("flights":p_),w.fD),(("closed":p_),w.cD),(("text":p_),.str w.tx)]=a_ d->bM [CS] y (w.obj CR CP CS)=.ok d:=λy d h=>by show(if ([CS].contains CS)=d_ then(match GH y [(("kinds":p_),w.kD),(("rules":p_),w.ru CR CP),(("names":p_),w.nD),(("flights":p_),w.fD),(("closed":p_),w.cD),(("text":p_),A3.str w.tx)]with|some d=>Ge d|none=>stk)else stk)=_;rw[e_ (by simp),h]
 have e1:(("rules":p_)==("kinds":p_))=b_:=by decide +kernel
 have e2:(("names":p_)==("kinds":p_))=b_:=by decide +kernel
 have e3:(("names":p_)==("rules":p_))=b_:=by decide +kernel
 have e4:(("flights":p_)==("kinds":p_))=b_:=by decide +kernel
 have e5:(("flights":p_)==("rules":p_))=b_:=by decide +kernel
 have l:(("flights":p_)==("names":p_))=b_:=by decide +kernel
 have k:(("closed":p_)==("kinds":p_))=b_:=by decide +kernel
 have j:(("closed":p_)==("rules":p_))=b_:=by decide +kernel
 have i:(("closed":p_)==("names":p_))=b_:=by decide +kernel
 have g:(("closed":p_)==("flights":p_))=b_:=by decide +kernel
 have f:(("text":p_)==("kinds":p_))=b_:=by decide +kernel
 have e:(("text":p_)==("rules":p_))=b_:=by decide +kernel
 have c:(("text":p_)==("names":p_))=b_:=by decide +kernel
 have Y:(("text":p_)==("flights":p_))=b_:=by decide +kernel
 have I:(("text":p_)==("closed":p_))=b_:=by decide +kernel
 refine⟨key _ _ ?_,key _ _ ?_,key _ _ ?_,key _ _ ?_,key _ _ ?_,key _ _ ?_⟩<;>simp only[v_,JT,e1,e2,e3,e4,e5,l,k,j,i,g,f,e,c,Y,I]
theorem obj_isi(w:Sht):isiC [(CS,d_)] (w.obj CR CP CS)=.ok (.bl d_):=by show(match GH CS [(CS,d_)]with|some b=>Ge (A3.bl b)|none=>stk)=_;rw[v_,show(CS==CS)=d_ by simp]
theorem is_ok(a:CR≠CP)(n:Nat){w:Sht}(h:w.Good):jY CR CP CS CW CD n [w.obj CR CP CS,w.D]=.ok (.bl d_):=by
 obtain⟨a1,r,o,m,l,t⟩:=obj_at CR CP CS w;have k:=obj_isi CR CP CS w;have i:neM w.kD w.kD=.ok (.bl b_):=lh (AU _ 39);have n2:neM w.nD w.nD=.ok (.bl b_):=lh (AU _ 39);have c:neM (aY w.rows) (aY w.rows)=.ok (.bl b_):=lh (El _ 38);have t1:cJ [w.fD,w.fD,.int 5]=.ok (.bl d_):=by unfold Sht.fD;rw[flD_map];exact vO n 5 (by decide) _ λx d=>by obtain⟨f,_,rfl⟩:=GJ.mp d;rfl
 have t2:cJ [w.cD,w.cD,.int 2]=.ok (.bl d_):=by unfold Sht.cD;rw[stD_map];exact vO n 2 (by decide) _ λx d=>by obtain⟨f,_,rfl⟩:=GJ.mp d;rfl
 generalize j:([a_ (w.obj CR CP CS),a_ w.D,a_ w.kD,a_ (aY w.rows),a_ w.bD,a_ w.nD,a_ w.fD,a_ w.cD]:ah)=E;have g:f1 (bM [CS] "rules") (ai 0) E=.ok (w.ru CR CP):=by rw[<- j];exact r
 have I:=ru_gap CR CP CS CW CD a n h (f1 (bM [CS] "rules") (ai 0)) E g;have g2:=DO CR CP a n (w:=w) (f1 (bM [CS] "rules") (ai 0)) E g;subst j;cases Y:w.o with
 |none=>
  have b:w.bD=.non:=by unfold Sht.bD;rw[Y]
  rw[b]at I g2;rw[Y]at g2;simp only[Sht.D,b]at I g2 ⊢;simp[jY,qO,lV,lU,lT,lS,k,a1,o,i,n2,m,l,t1,t2,I,c,g2,b2z]
 |some r2=>
  have b:w.bD=aY r2:=by unfold Sht.bD;rw[Y]
  have e:=ru_bes CR CP CS CW CD n h Y (f1 (bM [CS] "rules") (ai 0)) _ g;have q:=yB (El r2 38);have s:uJ (aY r2) .non=.ok (.bl d_):=rfl;have p:isND (aY r2) .non=.ok (.bl b_):=rfl;rw[b]at I g2 e;rw[Y]at g2;simp only[Sht.D,b,aY]at I g2 e c q ⊢;simp[jY,qO,lV,lU,lT,lS,k,a1,o,i,n2,m,l,t1,t2,I,c,g2,e,q,b2z]
end
theorem take63{ns:List Int}(h:ns.length<=63):dQ (.lst (ns.map .int)) c_ (a_ 63)=.ok (.lst (ns.map .int)):=by
 show Ge (A3.lst (Bo (ns.map A3.int) c_ (a_ 63)))=_
 congr 2
 unfold Bo cX;rw[Kj,J9];simp;omega
section
variable(CR CP CS CW CD:g_)
theorem AV(y:Int):0<=(y*1442695040888963407+4321)%2305843009213693921/\(y*1442695040888963407+4321)%2305843009213693921<2305843009213693921:=⟨Kb _ (by decide),JL _ (by decide)⟩
theorem Ep(n:Nat)(ns:List Int)(f:ns.length<=63)(k:Int)(l:0<=k)(h1:k<1000000):∃x,ba [.lst (ns.map .int),.int k]=.ok (.int x)/\0<=x/\x<2305843009213693921:=by
 have c: -18446744073709551616<k:=by omega
 have Y:k<18446744073709551616:=by omega
 have j:=take63 f;by_cases d:0<ns.length
 ·have h:0<=k%(ns.length:Int):=Kb _ (by omega);have g:k%(ns.length:Int)<(ns.length:Int):=JL _ (by omega);have i:(0:Int)<ns.length:=by omega
  have I:ns≠[]:=λe=>by rw[e]at d;simp at d
  refine⟨_,?_,AV ((ns[(k%(ns.length:Int)).toNat]'(by omega)%1000000000000000000000000+k*k*7919+ns.length)*48271%2305843009213693951)⟩
  simp[ba,jx,iA,j,d,I,getI_int h g,e_mod i,c,Y]
 ·have I:ns=[]:=by cases ns with|nil=>rfl|cons a b=>simp at d
  subst I;refine⟨_,?_,AV ((13*k+5+k*k*7919+0)*48271%2305843009213693951)⟩
  simp only[Iu]at j;simp[ba,jx,iA,j,c,Y]
end
section
variable(CR CP CS CW CD:g_)
theorem mem_range{k:Nat}{d:A3}(h:d∈gQ 0 k):∃j:Nat,j<k/\d=.int j:=by obtain⟨i,hi⟩:=List.mem_iff_getElem?.mp h;obtain⟨h1,h2⟩:=BN hi;exact⟨_,h1,h2⟩
end
section
variable(CR CP CS CW CD:g_)
theorem new1(n:Nat){k:Nat}(h1:1<=k)(Y:k<=6)(I:eA k rows):newR CR (aM) [aY rows]=.ok (om CR CP rows .non):=by have e:=o7 n k rows h1 Y I;simp[newR,e,om]
theorem new2(n:Nat){k:Nat}(h1:1<=k)(a:k<=6)(Y:eA k rows)(I:eA k r2):newP CP (aM) [aY rows,aY r2]=.ok (om CR CP rows (aY r2)):=by
 have e1:=o7 n k rows h1 a Y;have e2:=o7 n k r2 h1 a I;have b:twoL (aY rows) (aY r2)=d_:=by simp[twoL,aY,Y.1,I.1]
 simp only[newP,e1,e2,aj,b,LH];rfl
end
noncomputable def jn(c:Nat):List (List Nat)->List Nat
 |[]=>[]|[x]=>x|x::y::r=>x++c::jn c (y::r)
theorem jn_uniq(c:Nat):∀(ps I:List (List Nat)),ps≠[]->I≠[]->(∀p∈ps,c∉p)->(∀q∈I,c∉q)->jn c ps=jn c I->ps=I:=by
 have key:∀(x y a b:List Nat),c∉x->c∉y->x++c::a=y++c::b->x=y/\a=b:=by
  intro x
  induction x with
  |nil=>
   intro y a b _ f h;cases y with
   |nil=>exact⟨rfl,by simpa using h⟩|cons z y=>exact Gb (by simp at h;simp[h.1]) f
  |cons z x e=>
   intro y a b j f h;cases y with
   |nil=>exact Gb (by simp at h;simp[h.1]) j|cons l y=>simp only[List.cons_append,JR]at h;obtain⟨h1,h2⟩:=e y a b (λm=>j (by simp[m])) (λm=>f (by simp[m])) h.2;exact⟨by rw[h.1,h1],h2⟩
 have d:∀{x a:List Nat},c∈x++c::a:=by intro x a;simp
 intro ps
 induction ps with
 |nil=>intro I h;exact Gb rfl h|cons x ps e=>
  intro I _ k g Y h;cases ps with
  |nil=>
   match I,k with
   |[y],_=>exact HI (λz=>[z]) h|y::i::I,_=>exact Gb (by rw[show x=_ from h];exact d) (g x (by simp))
  |cons n ps=>
   match I,k with
   |[y],_=>exact Gb (by rw[show y=_ from h.symm];exact d) (Y y (by simp))|y::i::I,_=>obtain⟨h1,h2⟩:=key x y _ _ (g x (by simp)) (Y y (by simp)) h;rw[h1,e (i::I) (by simp) (by simp) (λp m=>g p (by simp[m])) (λq m=>Y q (by simp[m])) h2]
theorem join_one(I a:p_):Hv I [a]=a:=rfl
theorem B4(I a b:p_)(r:List p_):Hv I (a::b::r)=a++I++Hv I (b::r):=rfl
theorem uN(c:Nat):∀xs:List p_,(Hv ⟨#[c]⟩ xs).cps.toList=jn c (xs.map λx=>x.cps.toList)
 |[]=>rfl|[x]=>rfl|x::y::r=>by rw[B4];show((x.cps++#[c])++(Hv ⟨#[c]⟩ (y::r)).cps).toList=_;rw[MG,MG,uN c (y::r)];simp[jn]
theorem yx{a b:p_}(h:a.cps.toList=b.cps.toList):a=b:=by obtain⟨⟨a⟩⟩:=a;obtain⟨⟨b⟩⟩:=b;cases(show a=b from h);rfl
def free(c:Nat)(x:p_):Prop:=c∉x.cps.toList
theorem split_of(c:Nat)(ps:List p_)(i:ps≠[])(h:∀p∈ps,free c p):Ih (Hv ⟨#[c]⟩ ps) ⟨#[c]⟩=ps:=by
 have h1:=StrLaws.join_split (Hv ⟨#[c]⟩ ps) ⟨#[c]⟩;have h2:=StrLaws.split_free (Hv ⟨#[c]⟩ ps) c;have e:=split_pos (Hv ⟨#[c]⟩ ps) ⟨#[c]⟩;generalize Ih (Hv ⟨#[c]⟩ ps) ⟨#[c]⟩=f at h1 h2 e;have k:jn c (f.map λx=>x.cps.toList)=jn c (ps.map λx=>x.cps.toList):=by rw[<- uN,<- uN,h1]
 have j:=jn_uniq c _ _ (by intro z;rw[Kr]at z;rw[z]at e;simp at e) (by simpa using i) (λp d=>by
  obtain⟨x,Y,rfl⟩:=GJ.mp d;exact h2 x Y) (λp d=>by
  obtain⟨x,Y,rfl⟩:=GJ.mp d;exact h x Y) k
 have I:∀(l m:List p_),(l.map λx=>x.cps.toList)=(m.map λx=>x.cps.toList)->l=m:=by
  intro l
  induction l with
  |nil=>intro m h;cases m with
   |nil=>rfl|cons _ _=>simp at h
  |cons a l g=>intro m h;cases m with
   |nil=>simp at h|cons b m=>simp only[F_,JR]at h;rw[yx h.1,g m h.2]
 exact I _ _ j
def lowD(c:Nat):Prop:=(97<=c/\c<=122)\/(48<=c/\c<=57)
structure Wd(x:p_):Prop where
 ne:x.cps.toList≠[]
 sg:∀c∈x.cps.toList,lowD c
theorem Wd.free{x:p_}(h:Wd x){c:Nat}(I:¬lowD c):Tactic.free c x:=λm=>I (h.sg c m)
theorem FIG_list:(o_ "0123456789").cps.toList=OJ 48 10:=by decide +kernel
theorem LET_list:(o_ "abcdefghijklmnopqrstuvwxyz").cps.toList=OJ 97 26:=by decide +kernel
theorem nW(c:Nat):c∈(o_ "0123456789").cps.toList↔48<=c/\c<=57:=by rw[FIG_list,Nk];omega
theorem lE(c:Nat):c∈(o_ "abcdefghijklmnopqrstuvwxyz").cps.toList↔97<=c/\c<=122:=by rw[LET_list,Nk];omega
theorem one_eq(c:Nat)(s:p_)(d:Nat)(I:s=⟨#[d]⟩):eqM (.str ⟨#[c]⟩) (.str s)=.ok (.bl (q_ (c=d))):=by
 subst I;by_cases h:c=d
 ·subst h;simp[eqM,C6,eqD]
 ·have:(⟨#[c]⟩:p_)≠⟨#[d]⟩:=λz=>h (by injection z with z;injection z with z;injection z);simp[eqM,C6,eqD,h]
section
variable(CR CP CS CW CD:g_)
structure Nm(x:p_):Prop where
 wd:Wd x
 l8:x.length<=8
 hd:∃c r,x.cps.toList=c::r/\97<=c/\c<=122
end
theorem memS(k:p_)(ks:List p_):((ks.map A3.str).any λd=>eqD d (.str k))=q_ (k∈ks):=by
 rw[Ju];simp only[K5,GJ,Gd];constructor
 ·rintro⟨d,⟨s,I,rfl⟩,h⟩;have:s=k:=by simpa[eqD] using h
  rw[<- this];exact I
 ·intro h;exact⟨.str k,⟨k,h,rfl⟩,by simp[eqD]⟩
theorem inS(k:p_)(ks:List p_):inM (.str k) (.lst (ks.map .str))=.ok (.bl (q_ (k∈ks))):=by have h2:l5 (ks.map A3.str) 40=d_:=gW _ _ (λ_=>rfl) ks;show(if (C6 (.str k) 40&&l5 (ks.map A3.str) 40)=d_ then Ge (A3.bl ((ks.map A3.str).any λd=>eqD d (.str k)))else stk)=_;rw[e_ (by rw[h2];rfl),memS]
theorem qz(k:p_)(ks:List p_):ib (.str k) (.lst (ks.map .str))=.ok (.bl (!decide (k∈ks))):=by have h2:l5 (ks.map A3.str) 40=d_:=gW _ _ (λ_=>rfl) ks;show(if (C6 (.str k) 40&&l5 (ks.map A3.str) 40)=d_ then Ge (A3.bl (!((ks.map A3.str).any λd=>eqD d (.str k))))else stk)=_;rw[e_ (by rw[h2];rfl),memS]
theorem idx_at(Y:ks.Nodup)(hi:i<ks.length):B8 ks ks[i]=a_ i:=by
 refine Ja.mpr ⟨hi,by simp,λj a=>?_⟩;have I:ks[j]≠ks[i]:=λz=>by have:=(Nl (show j<ks.length by omega) Y (j:=i)).mp (by rw[Gr (by omega),Gr hi,z]);omega
 simpa using I
theorem uL(a b:Int)(h:a=b):neM (.int a) (.int b)=.ok (.bl b_):=by subst h;exact lh rfl
section
variable(CR CP CS CW CD:g_)
def St1(p:vC):Prop:=0<=p.1/\p.1<p.2/\p.2<=1000000000
structure Fl1(k:Nat)(f:Fli):Prop where
 k0:0<=f.kind
 k1:f.kind<k
 a:0<=f.first
 b:f.first<=f.last
 c:f.last<=1000000000
 d:0<=f.due/\f.due<=1000000000
 e:0<=f.price/\f.price<=1000000000
end
structure DSt where
 ks:List p_
 G:List (List Int×A3)
 B:List (List Int×A3)
 nf:List (p_×Fli)
 cs:List vC
def DSt.D(s:DSt):List A3:=[.lst (s.ks.map .str),.dic s.G,.dic s.B,.lst ((s.nf.map (·.1)).map .str),.lst ((s.nf.map (·.2)).map flD),.lst (s.cs.map stD)]
theorem jR(l:List p_)(n:Nat):l5 (l.map A3.str) n=d_:=gW _ _ (λ_=>rfl) l
theorem get0:gE ((w::r).map A3.str) 0=.ok (.str w):=by have:=kC (ds:=(w::r).map A3.str) (k:=0) (by simp);rw[show((0:Nat):Int)=0 from rfl]at this;rw[this];rfl
theorem t1_ok(hw:Ho w "#"=b_):(fOr (fB (f2 eqM (ai 1) (fL bu aD))) (kM (fSM nI (f2 ixD (ai 1) (fC (.int 0))) (fC (.str "#"))))) [c_,a_ (.lst ((w::r).map .str))]=.ok b_:=by
 have I:gE ((w::r).map A3.str) 0=.ok (.str w):=get0;have e:eqM (.lst ((w::r).map A3.str)) (.lst [])=.ok (.bl b_):=by have h1:C6 (.lst ((w::r).map A3.str)) 40=d_:=jR (w::r) 39;show(if (C6 (.lst ((w::r).map A3.str)) 40&&C6 (.lst []) 40)=d_ then _ else _)=_;rw[e_ (by rw[h1];rfl)];rfl
 simp[e,I,hw,-F_]
theorem t6_ok(x:p_):(f2 eqM (f2 ixD (ai 1) (fC (.int 0))) (fC (.str x))) [c_,a_ (.lst ((w::r).map .str))]=.ok (.bl (q_ (w=x))):=by
 have I:gE ((w::r).map A3.str) 0=.ok (.str w):=get0;have e:eqM (.str w) (.str x)=.ok (.bl (q_ (w=x))):=by
  by_cases h:w=x
  ·subst h;simp[eqM,C6,eqD]
  ·simp[eqM,C6,eqD,h]
 simp[I,e,-F_]
theorem tw_ok(x:p_):(fB (f2 eqM (f2 ixD (ai 1) (fC (.int 0))) (fC (.str x)))) [c_,a_ (.lst ((w::r).map .str))]=.ok (q_ (w=x)):=by show((f2 eqM (f2 ixD (ai 1) (fC (.int 0))) (fC (.str x))) [c_,a_ (.lst ((w::r).map .str))]).bind asB=_;rw[t6_ok];rfl
noncomputable def wK:p_:="kind"
noncomputable def wG:p_:="gap"
noncomputable def wB:p_:="beside"
noncomputable def wC:p_:="closed"
noncomputable def wF:p_:="flight"
theorem rF:wG≠wK/\wB≠wK/\wB≠wG/\wC≠wK/\wC≠wG/\wC≠wB/\wF≠wK/\wF≠wG/\wF≠wB/\wF≠wC:=by decide +kernel
section
variable(CR CP CS CW CD:g_)
theorem row_way(n:Nat)(s:DSt)(w:p_)(r:List p_)(hw:Ho w "#"=b_):bF s.D ((w::r).map .str) =
  if w=wK then(bx [.lst (s.ks.map .str),.lst ((w::r).map .str)]).bind (sE 0 s.D)else
  if w=wG then(bj [.lst (s.ks.map .str),.lst ((w::r).map .str)]).bind (D6 1 s.D)else
  if w=wB then(bj [.lst (s.ks.map .str),.lst ((w::r).map .str)]).bind (D6 2 s.D)else
  if w=wC then(aU [.lst (s.cs.map stD),.lst ((w::r).map .str)]).bind (sE 5 s.D)else
  if w=wF then m8 (aV) s.D ((w::r).map .str)else .ok (b_,s.D):=by
 unfold bF nF;show((fOr _ _ _).bind _)=_;rw[t1_ok hw,aj,k_ (by decide),tw_ok,aj,tw_ok,aj,tw_ok,aj,tw_ok,aj,t6_ok,aj];simp only[Gd];show(if w=wK then _ else if w=wG then _ else if w=wB then _ else if w=wC then _ else _)=_;by_cases h1:w=wK
 ·rw[e_ h1,e_ h1]
 rw[k_ h1,k_ h1];by_cases h2:w=wG
 ·rw[e_ h2,e_ h2]
 rw[k_ h2,k_ h2];by_cases a:w=wB
 ·rw[e_ a,e_ a]
 rw[k_ a,k_ a];by_cases Y:w=wC
 ·rw[e_ Y,e_ Y]
 rw[k_ Y,k_ Y];by_cases I:w=wF
 ·rw[e_ I,show q_ (w=o_ "flight")=d_ from r_ I]
 ·rw[k_ I,show q_ (w=o_ "flight")=b_ from j_ I]
theorem row_none(n:Nat)(s:DSt):bF s.D []=.ok (d_,s.D):=by
 have e:eqM (.lst []) (.lst [])=.ok (.bl d_):=rfl;have t:(fOr (fB (f2 eqM (ai 1) (fL bu aD))) (kM (fSM nI (f2 ixD (ai 1) (fC (.int 0))) (fC (.str "#"))))) [c_,a_ (.lst [])]=.ok d_:=by simp[e]
 unfold bF nF;show((fOr _ _ _).bind _)=_;rw[t];rfl
end
def Tb(k:Nat)(G:List (List Int×A3))(t:Nat->Nat->Int):Prop:=∀a c,a<k->c<k->(D8 G [(a:Int),(c:Int)]).getD (.int 0)=.int (t a c)
section
variable(CR CP CS CW CD:g_)
theorem Nm.l100(h:Nm x):x.length<=100:=by have:=h.l8;omega
noncomputable def wq(r:List Int)(c:Nat):Int:=r.getD c 0
end
theorem Fl1.bfl{k:Nat}{f:Fli}(h:Fl1 k f):BFl k f:=by obtain⟨k0,k1,a,b,c,d,e⟩:=h;constructor<;>omega
def tabL(k:Nat)(t:Nat->Nat->Int):List (List Int):=(Hf k).map λi=>(Hf k).map λj=>t i j
theorem rangeD(k:Nat):gQ 0 k=(Hf k).map λi:Nat=>A3.int (i:Int):=by unfold gQ;refine H_ λi _=>?_;simp
theorem vS{k:Nat}(h:eA k rows):tabL k (λa c=>wq (rows.getD a []) c)=rows:=by refine Nv (by simp[tabL,h.1]) λi h1 h2=>?_;have I:=h.2 rows[i] (IQ h2);refine Nv (by simp[tabL,I.1]) λj b Y=>?_;simp[tabL,wq,h2,Y]
section
variable(CR CP CS CW CD:g_)
theorem oy(n:Nat){k:Nat}(d:k<=6){G:List (List Int×A3)}{t:Nat->Nat->Int}(h:Tb k G t):ie [.dic G,.int k]=.ok (aY (tabL k t)):=by
 have k1:(-4611686018427387904:Int)<=(k:Int):=by omega
 have k2:(k:Int)<4611686018427387904:=by omega
 have k3:((k:Int)).toNat=k:=by omega
 have I:k<=16777216:=by omega
 have Y:∀i,i<k->jX [.dic G,.int (i:Nat),.int k]=.ok (pT ((Hf k).map λj=>t i j)):=λi hi=>by
  have a:bw (.nm 0) gZ (xu (ai 1) (fL iC (aa (ai 2) (aa (ai 0) aD))) (fC (.int 0))) [c_,a_ (.dic G),a_ (.int (i:Nat))] ((Hf k).map λj:Nat=>A3.int (j:Int))=.ok ((Hf k).map λj=>A3.int (t i j)):=
   fQ _ _ _ λj c=>⟨[a_ (.int (j:Int)),a_ (.dic G),a_ (.int (i:Nat))],by simp,by have:=h i j hi (List.mem_range.mp c);have b:keyD (.tup [.int (i:Nat),.int (j:Nat)])=.ok [(i:Int),(j:Int)]:=rfl;simp[xu,isDic,EV,b,this]⟩
  simp[jX,xp,k1,k2,k3,rangeD,I,a];simp[pT]
 have a:bw (.nm 0) gZ (fL (jX) (aa (ai 1) (aa (ai 0) (aa (ai 2) aD)))) [c_,a_ (.dic G),a_ (.int k)] ((Hf k).map λj:Nat=>A3.int (j:Int))=.ok ((Hf k).map λi=>pT ((Hf k).map λj=>t i j)):=
  fQ _ _ _ λi hi=>⟨[a_ (.int (i:Int)),a_ (.dic G),a_ (.int k)],by simp,by simp[Y i (List.mem_range.mp hi)]⟩
 simp[ie,qM,k1,k2,k3,rangeD,I,a];simp[aY,tabL]
end
structure Sht.SG(w:Sht):Prop where
 k1:1<=w.ks.length
 k6:w.ks.length<=6
 kn:∀k∈w.ks,Nm k
 kd:w.ks.Nodup
 rows:eA w.ks.length w.rows
 o:∀r2,w.o=a_ r2->eA w.ks.length r2
 nm:w.nf.length<=40
 nn:∀p∈w.nf,Nm p.1/\Fl1 w.ks.length p.2
 nd:(w.nf.map (·.1)).Nodup
 cm:w.cs.length<=20
 cl:∀p∈w.cs,St1 p
theorem Sht.SG.good{w:Sht}(h:w.SG):w.Good:=⟨h.k1,h.k6,λk Y=>(h.kn k Y).l100,h.rows,h.o,h.nm,λp I=>⟨(h.nn p I).1.l100,(h.nn p I).2.bfl⟩,h.cm,λp I=>by obtain⟨a,b,c⟩:=h.cl p I;omega⟩
abbrev tR(rows:List (List Int)):Nat->Nat->Int:=λa c=>wq (rows.getD a []) c
structure Desc(s:DSt)(w:Sht):Prop where
 ks:s.ks=w.ks
 nf:s.nf=w.nf
 cs:s.cs=w.cs
 g:Tb w.ks.length s.G (tR w.rows)
 b0:w.o=c_->s.B=[]
 b1:∀r2,w.o=a_ r2->s.B≠[]/\Tb w.ks.length s.B (tR r2)
section
variable{CR:g_}
theorem dr_at(s:DSt):bM [CD] "kinds" (drD CD s.D)=.ok (.lst (s.ks.map .str))/\bM [CD] "gaps" (drD CD s.D)=.ok (.dic s.G)/\bM [CD] "beside" (drD CD s.D)=.ok (.dic s.B)/\bM [CD] "names" (drD CD s.D)=.ok (.lst ((s.nf.map (·.1)).map .str))/\bM [CD] "flights" (drD CD s.D)=.ok (.lst ((s.nf.map (·.2)).map flD))/\bM [CD] "closed" (drD CD s.D)=.ok (.lst (s.cs.map stD)):=by
 have key:∀(y:p_) (d:A3),((["kinds","gaps","beside","names","flights","closed"]:List p_).zip s.D).lookup y=a_ d->bM [CD] y (drD CD s.D)=.ok d:=λy d h=>by show(if ([CD].contains CD)=d_ then(match ((["kinds","gaps","beside","names","flights","closed"]:List p_).zip s.D).lookup y with|some d=>Ge d|none=>stk)else stk)=_;rw[e_ (by simp),h]
 exact⟨key _ _ (by with_unfolding_all rfl),key _ _ (by with_unfolding_all rfl),key _ _ (by with_unfolding_all rfl),key _ _ (by with_unfolding_all rfl),key _ _ (by with_unfolding_all rfl),key _ _ (by with_unfolding_all rfl)⟩
theorem CI(n:Nat){s:DSt}{w:Sht}(h:w.SG)(d:Desc s w):cw CR CP CS CW CD n [drD CD s.D]=.ok (w.ru CR CP):=by
 obtain⟨a1,e,c,_,_,_⟩:=dr_at (CD:=CD) s;have t1:=oy n h.k6 d.g;rw[vS h.rows]at t1;have g:s.ks.length=w.ks.length:=by rw[d.ks]
 rw[d.ks]at a1;cases I:w.o with
 |none=>
  have a:=d.b0 I;have e1:=new1 CR CP n h.k1 h.k6 h.rows;have b:w.ru CR CP=om CR CP w.rows .non:=by unfold Sht.ru Sht.bD;rw[I]
  rw[b];rw[a]at c;simp[cw,il,gq,a1,e,c,t1,e1]
 |some r2=>
  obtain⟨a,tb⟩:=d.b1 r2 I;have t2:=oy n h.k6 tb;rw[vS (h.o r2 I)]at t2;have e1:=new2 CR CP n h.k1 h.k6 h.rows (h.o r2 I);have b:w.ru CR CP=om CR CP w.rows (aY r2):=by unfold Sht.ru Sht.bD;rw[I]
  rw[b];have Y:s.B.isEmpty=b_:=by cases f:s.B with
   |nil=>exact Gb f a|cons _ _=>rfl
  simp[cw,il,gq,a1,e,c,t1,t2,e1,Y]
end
noncomputable def Co(c:Nat):Bool:=q_ (97<=c/\c<=122)||q_ (48<=c/\c<=57)
noncomputable def zK(c:Nat):Bool:=q_ (48<=c/\c<=57)
theorem ix0'{r:List Nat}(e:z.cps.toList=c::r)(I:z.length<=16777216):ym (.str z) (.int 0)=.ok (.str ⟨#[c]⟩):=by
 show(if z.length<=f_ then _ else _)=_;rw[e_ (by rw[C_];omega),e];have:atI (c::r) (0:Int)=a_ c:=by unfold atI ixN;simp
 rw[this]
def lC(x:p_)(c:Nat):Bool:=q_ (x.length<=8)&&q_ (97<=c/\c<=122)&&x.cps.toList.all Co
section
variable(CR CP CS CW CD:g_)
theorem zy(n:Nat){r:List Nat}(e:x.cps.toList=c::r)(o:x.length<=1000000):gD [.str x]=.ok (.bl (lC x c)):=by
 have I:x.length<=16777216:=by omega
 have hsz:x.cps.size<=16777216:=I;have g:=ix0' e I;by_cases f:(8:Int)<(x.length:Int)
 ·have:lC x c=b_:=by unfold lC;rw[j_ (by omega)];rfl
  rw[this];simp[gD,mO,iz,I,gtD,f]
 ·by_cases d:97<=c/\c<=122
  ·have k:iz [a_ (.str x)]=.ok (.nx [a_ (.str x)]):=by
    simp[iz,I,gtD,f,g,(lE c).mpr d]
   have j:bw (.nm 0) gZ (D9 (f2 inSD (ai 0) (fC (.str "abcdefghijklmnopqrstuvwxyz"))) (f2 inSD (ai 0) (fC (.str "0123456789")))) [c_] (x.cps.toList.map λc=>.str ⟨#[c]⟩)=.ok ((x.cps.toList.map Co).map A3.bl):=by
    rw[Gf];refine fQ _ _ _ λc l=>⟨[a_ (.str ⟨#[c]⟩)],by simp,?_⟩
    by_cases a:97<=c/\c<=122
    ·simp[D9,(lE c).mpr a,Co,a]
    ·have b:c∉(o_ "abcdefghijklmnopqrstuvwxyz").cps.toList:=λm=>a ((lE c).mp m);by_cases Y:48<=c/\c<=57
     ·simp[D9,b,(nW c).mpr Y,Co,Y]
     ·have n2:c∉(o_ "0123456789").cps.toList:=λm=>Y ((nW c).mp m);have i:Co c=b_:=by unfold Co;rw[j_ a,j_ Y];rfl
      simp[D9,b,n2,i]
   have h:lC x c=(x.cps.toList.map Co).all id:=by unfold lC;rw[r_ (show x.length<=8 by omega),r_ d,JA];rfl
   rw[h];simp[gD,mO,k,j,hsz,-Gf,-JA]
  ·have b:c∉(o_ "abcdefghijklmnopqrstuvwxyz").cps.toList:=λm=>d ((lE c).mp m);have:lC x c=b_:=by unfold lC;rw[j_ d,Ib];rfl
   rw[this];simp[gD,mO,iz,I,gtD,f,g,b]
end
def rD(x:p_)(c:Nat):Bool:=q_ (x.length<=10)&&x.cps.toList.all zK&& !(q_ (c=48)&& !decide (x="0"))
section
variable(CR CP CS CW CD:g_)
theorem Ca(n:Nat){r:List Nat}(e:x.cps.toList=c::r)(p:x.length<=1000000):bz [.str x]=.ok (if rD x c=d_ then .int (((HA x.cps.toList:Nat):Int))else .non):=by
 have I:x.length<=16777216:=by omega
 have hsz:x.cps.size<=16777216:=I;have f:=ix0' e I;have i:bw (.nm 0) gZ (f2 inSD (ai 0) (fC (.str "0123456789"))) [c_] (x.cps.toList.map λc=>.str ⟨#[c]⟩)=.ok ((x.cps.toList.map zK).map A3.bl):=by
  rw[Gf];refine fQ _ _ _ λc o=>⟨[a_ (.str ⟨#[c]⟩)],by simp,?_⟩
  by_cases z:48<=c/\c<=57
  ·simp[(nW c).mpr z,zK,z]
  ·have n2:c∉(o_ "0123456789").cps.toList:=λm=>z ((nW c).mp m);have l:zK c=b_:=by unfold zK;rw[j_ z]
   simp[n2,l]
 by_cases b:(10:Int)<(x.length:Int)
 ·have:rD x c=b_:=by unfold rD;rw[j_ (by omega)];rfl
  rw[this];simp[bz,ik,fS,I,gtD,b]
 ·have Y:((x.cps.toList.map zK).all id)=x.cps.toList.all zK:=by rw[JA];rfl
  cases d:x.cps.toList.all zK with
  |false=>
   have:rD x c=b_:=by unfold rD;rw[d,Ib];rfl
   rw[this];rw[d]at Y;simp[bz,ik,fS,I,gtD,b,i,hsz,Y,-Gf,-JA]
  |true=>
   rw[d]at Y;have j:fS [a_ (.str x)]=.ok (.nx [a_ (.str x)]):=by simp[fS,I,gtD,b,i,hsz,Y,-Gf,-JA]
   have k:(o_ "0")=⟨#[48]⟩:=by decide +kernel
   have e1:=one_eq c (o_ "0") 48 k;have e2:neM (.str x) (.str "0")=.ok (.bl (!decide (x="0"))):=by
    by_cases hw:x=(o_ "0")
    ·subst hw;simp[neM,C6,eqD]
    ·simp[neM,C6,eqD,hw]
   have hd:II x=a_ ((HA x.cps.toList:Nat):Int):=Me (λc a=>by have:=Hy.mp d c a;unfold zK at this;exact IC this) (by rw[e];simp) (by omega);have g:x.length<=640:=by omega
   by_cases a:c=48/\¬x=(o_ "0")
   ·have:rD x c=b_:=by unfold rD;rw[r_ a.1,j_ a.2];simp
    rw[this];have e3:eqM (.str ⟨#[c]⟩) (.str "0")=.ok (.bl d_):=by rw[e1];simp[a.1]
    have e4:neM (.str x) (.str "0")=.ok (.bl d_):=by rw[e2];simp[a.2]
    have h:dJ [a_ (.str x)]=.ok (.rt .non):=by simp[dJ,f,e3,e4]
    simp[bz,ik,j,h]
   ·have:rD x c=d_:=by
     unfold rD;rw[r_ (show x.length<=10 by omega),d];by_cases h1:c=48
     ·have h2:x=(o_ "0"):=Gz λz=>a ⟨h1,z⟩;simp[h2]
     ·simp[h1]
    rw[this];have h:dJ [a_ (.str x)]=.ok (.nx [a_ (.str x)]):=by
     by_cases h1:c=48
     ·have h2:x=(o_ "0"):=Gz λz=>a ⟨h1,z⟩;have e3:eqM (.str ⟨#[c]⟩) (.str "0")=.ok (.bl d_):=by rw[e1];simp[h1]
      have e4:neM (.str x) (.str "0")=.ok (.bl b_):=by rw[e2];simp[h2]
      simp[dJ,f,e3,e4]
     ·have e3:eqM (.str ⟨#[c]⟩) (.str "0")=.ok (.bl b_):=by rw[e1];simp[h1]
      simp[dJ,f,e3]
    simp[bz,ik,j,h,g,hd]
end
theorem vj{α:Type}{p:Pat}{ft:ah->M Bool}{fe:ah->M A3}{ρ0:ah}(g f:α->A3)(P:α->Bool):∀(L:List α),(∀x∈L,∃ρ,jC p (g x) ρ0=.ok ρ/\ft ρ=.ok (P x)/\fe ρ=.ok (f x))->bw p ft fe ρ0 (L.map g)=.ok ((L.filter P).map f)
 |[],_=>rfl|x::L,h=>by
  obtain⟨ρ,e1,e2,e3⟩:=h x (by simp);have I:=vj g f P L λy a=>h y (by simp[a]);rw[F_,bw,e1,aj,e2,aj];cases Y:P x with
  |true=>rw[e_ rfl,e3,aj,I,LY Y];rfl|false=>rw[k_ (by decide),I,LZ (by rw[Y];decide)]
noncomputable def pcs(c:Nat):List Nat->List (List Nat)
 |[]=>[[]]|x::r=>if x=c then []::pcs c r else match pcs c r with
  |p::ps=>(x::p)::ps|[]=>[[x]]
theorem pcs_ok(c:Nat):∀l:List Nat,pcs c l≠[]/\jn c (pcs c l)=l/\(∀p∈pcs c l,c∉p/\p.length<=l.length)/\(pcs c l).length<=l.length+1
 |[]=>⟨by simp[pcs],rfl,by simp[pcs],by simp[pcs]⟩|x::r=>by
  obtain⟨h1,h2,d,f⟩:=pcs_ok c r;unfold pcs;cases g:pcs c r with
  |nil=>exact Gb g h1|cons p ps=>
   rw[g]at h2 d f;by_cases Y:x=c
   ·rw[e_ Y];refine⟨by simp,?_,λq I=>?_,by simpa using f⟩
    ·show []++c::jn c (p::ps)=_;rw[h2,Y];rfl
    ·rcases t_.mp I with rfl|I
     ·simp
     ·obtain⟨a,b⟩:=d q I;exact⟨a,by simp;omega⟩
   ·rw[k_ Y];refine⟨by simp,?_,λq I=>?_,by simp at f ⊢;omega⟩
    ·rw[<- h2];cases ps with
     |nil=>rfl|cons y ys=>rfl
    ·rcases t_.mp I with rfl|I
     ·obtain⟨a,b⟩:=d p (by simp);refine⟨λm=>?_,by simp;omega⟩
      rcases t_.mp m with e|m
      ·exact Y e.symm
      ·exact a m
     ·obtain⟨a,b⟩:=d q (by simp[I]);exact⟨a,by simp;omega⟩
theorem pO(c:Nat)(x:p_):∃ps:List p_,ps≠[]/\(∀p∈ps,p.length<=x.length)/\ps.length<=x.length+1/\Ih x ⟨#[c]⟩=ps:=by
 obtain⟨h1,h2,a,d⟩:=pcs_ok c x.cps.toList;have b:x=Hv ⟨#[c]⟩ ((pcs c x.cps.toList).map λl=>(⟨l.toArray⟩:p_)):=by
  refine yx ?_;rw[uN,Gf];have:(pcs c x.cps.toList).map ((λx:p_=>x.cps.toList)∘λl=>(⟨l.toArray⟩:p_))=pcs c x.cps.toList:=by
   conv=>rhs;rw[<- OM (pcs c x.cps.toList)]
   exact H_ λl _=>by simp
  rw[this,h2]
 refine⟨(pcs c x.cps.toList).map λl=>(⟨l.toArray⟩:p_),by simpa using h1,λp I=>?_,by rw[u_];exact d,?_⟩
 ·obtain⟨l,Y,rfl⟩:=GJ.mp I;have:=(a l Y).2;show l.toArray.size<=x.cps.size;simpa using this
 ·conv=>lhs;rw[b]
  refine split_of c _ (by simpa using h1) λp I=>?_;obtain⟨l,Y,rfl⟩:=GJ.mp I;show c∉l.toArray.toList;simpa using (a l Y).1
noncomputable def cO(x:p_):List p_:=Ih x "\n"
noncomputable def jD(r:p_):List p_:=(Ih r " ").filter λw=> !decide (w="")
theorem nl_is:(o_ "\n")=(⟨#[10]⟩:p_):=by decide +kernel
theorem sp_is:(o_ " ")=(⟨#[32]⟩:p_):=by decide +kernel
theorem AF(x:p_):cO x≠[]/\(∀p∈cO x,p.length<=x.length)/\(cO x).length<=x.length+1:=by
 obtain⟨ps,h1,h2,Y,I⟩:=pO 10 x;have:cO x=ps:=by unfold cO;rw[nl_is];exact I
 rw[this];exact⟨h1,h2,Y⟩
def WOk(w:p_):Prop:=w.cps.toList≠[]/\w.length<=1000000
theorem vH{r:p_}(Y:r.length<=1000000):∀w∈jD r,WOk w:=by
 obtain⟨ps,h1,h2,a,I⟩:=pO 32 r;intro w hw;unfold jD at hw;rw[sp_is,I,G_]at hw;refine⟨λe=>?_,?_⟩
 ·have:w=o_ "":=yx (by rw[e];decide +kernel);rw[this]at hw;exact Gb hw.2 (by decide +kernel)
 ·have:=h2 w hw.1;omega
theorem vI{r:p_}(Y:r.length<=1000000):(Ih r (o_ " ")).length<=16777216:=by obtain⟨ps,h1,h2,a,I⟩:=pO 32 r;rw[sp_is,I];omega
section
variable(CR CP CS CW CD:g_)
theorem Aj{r:p_}:bw (.nm 0) (fB (f2 neM (ai 0) (fC (.str "")))) (ai 0) [c_] ((Ih r " ").map .str)=.ok ((jD r).map .str):=by
 refine vj A3.str A3.str (λw=> !decide (w="")) _ λw _=>⟨[a_ (.str w)],by simp,?_,by simp⟩
 have e:neM (.str w) (.str "")=.ok (.bl (!decide (w=""))):=by
  by_cases hw:w=(o_ "")
  ·subst hw;simp[neM,C6,eqD]
  ·simp[neM,C6,eqD,hw]
 simp[e]
theorem Dh(n:Nat){r:p_}(b:r.length<=1000000):g7 [.str r]=.ok (.lst ((jD r).map .str)):=by
 have a:(o_ " ").length=1:=by decide +kernel
 have Y:r.length+2<=16777216:=by omega
 have I:=vI b;have c:=Aj (r:=r);simp[g7,tu,a,Y,I,c,ig]
theorem Cm(n:Nat){r:p_}(b:r.length<=1000000):iM [.str r]=.ok (.lst ((jD r).map .str)):=by
 have a:(o_ " ").length=1:=by decide +kernel
 have Y:r.length+2<=16777216:=by omega
 have I:=vI b;have c:=Aj (r:=r);simp[iM,oF,a,Y,I,c,ig]
end
def jK(x:p_):Bool:=match x.cps.toList with
 |[]=>b_|c::_=>lC x c
def d6(x:p_):Option Int:=match x.cps.toList with
 |[]=>c_|c::_=>if rD x c=d_ then a_ ((HA x.cps.toList:Nat):Int)else c_
noncomputable def lY:Option Int->A3
 |none=>.non|some i=>.int i
def m4(x:p_)(m:Int):Int:=match d6 x with
 |none=> -1|some k=>if m<k then -1 else k
section
variable(CR CP CS CW CD:g_)
theorem AX(n:Nat)(h:WOk x):gD [.str x]=.ok (.bl (jK x)):=by
 obtain⟨h1,h2⟩:=h;unfold jK;cases e:x.cps.toList with
 |nil=>exact Gb e h1|cons c r=>exact zy n e h2
theorem lB(n:Nat)(h:WOk x):bz [.str x]=.ok (lY (d6 x)):=by
 obtain⟨h1,h2⟩:=h;have e2:∀c r,x.cps.toList=c::r->d6 x=if rD x c=d_ then a_ ((HA x.cps.toList:Nat):Int)else c_:=λc r e=>by unfold d6;rw[e]
 cases e:x.cps.toList with
 |nil=>exact Gb e h1|cons c r=>rw[Ca n e h2,e2 c r e];cases rD x c<;>rfl
theorem ld_mem(c:Nat):c∈(o_ "abcdefghijklmnopqrstuvwxyz0123456789").cps.toList↔Co c=d_:=by
 have:(o_ "abcdefghijklmnopqrstuvwxyz0123456789").cps.toList=(o_ "abcdefghijklmnopqrstuvwxyz").cps.toList++(o_ "0123456789").cps.toList:=by decide +kernel
 rw[this,GU,lE,nW];unfold Co;simp
theorem eq_chars(l:List Nat):eqM (.lst (l.map λc=>A3.str ⟨#[c]⟩)) (.lst [])=.ok (.bl l.isEmpty):=by
 have e:l.map (λc=>A3.str ⟨#[c]⟩)=(l.map λc=>(⟨#[c]⟩:p_)).map A3.str:=by rw[Gf];rfl
 rw[e];have h1:C6 (.lst ((l.map λc=>(⟨#[c]⟩:p_)).map A3.str)) 40=d_:=jR _ 39;show(if (C6 (.lst ((l.map λc=>(⟨#[c]⟩:p_)).map A3.str)) 40&&C6 (.lst []) 40)=d_ then _ else _)=_;rw[e_ (by rw[h1];rfl)];cases l<;>rfl
theorem ne_chars(l:List Nat):neM (.lst (l.map λc=>A3.str ⟨#[c]⟩)) (.lst [])=.ok (.bl (!l.isEmpty)):=by
 have e:l.map (λc=>A3.str ⟨#[c]⟩)=(l.map λc=>(⟨#[c]⟩:p_)).map A3.str:=by rw[Gf];rfl
 rw[e];have h1:C6 (.lst ((l.map λc=>(⟨#[c]⟩:p_)).map A3.str)) 40=d_:=jR _ 39;show(if (C6 (.lst ((l.map λc=>(⟨#[c]⟩:p_)).map A3.str)) 40&&C6 (.lst []) 40)=d_ then _ else _)=_;rw[e_ (by rw[h1];rfl)];cases l<;>rfl
theorem Be(P:Nat->Bool)(l:List Nat):(l.filter λc=> !P c).isEmpty=l.all P:=by
 induction l with
 |nil=>rfl|cons c l Y=>
  cases I:P c with
  |true=>rw[LZ (by rw[I];decide),Y,Kx,I,Bool.true_and]|false=>rw[LY (by rw[I];decide),Kx,I];rfl
theorem Cc(P:Nat->Bool)(s:p_)(h:∀c,c∈s.cps.toList↔P c=d_)(c:Nat):jV (.str ⟨#[c]⟩) (.str s)=.ok (.bl (!P c)):=by
 cases I:P c with
 |true=>simp[(h c).mpr I]|false=>
  have:c∉s.cps.toList:=λm=>by have:=(h c).mp m;rw[I]at this;cases this
  simp[this]
theorem EZ(P:Nat->Bool)(s:p_)(h:∀c,c∈s.cps.toList↔P c=d_)(x:p_):bw (.nm 0) (fB (f2 jV (ai 0) (fC (.str s)))) (ai 0) [c_] (x.cps.toList.map λc=>.str ⟨#[c]⟩)=.ok ((x.cps.toList.filter λc=> !P c).map λc=>.str ⟨#[c]⟩):=by
 refine vj (λc:Nat=>A3.str ⟨#[c]⟩) (λc:Nat=>A3.str ⟨#[c]⟩) (λc=> !P c) _ λc _=>⟨[a_ (.str ⟨#[c]⟩)],by simp,?_,by simp⟩
 have e:=Cc P s h c;simp[e]
theorem x4(n:Nat)(h:WOk x):cf [.str x]=.ok (.bl (jK x)):=by
 obtain⟨h1,h2⟩:=h;have I:x.length<=16777216:=by omega
 have hsz:x.cps.size<=16777216:=I;unfold jK;cases e:x.cps.toList with
 |nil=>exact Gb e h1|cons c r=>
  dsimp only;have d:=ix0' e I;have j:=EZ Co _ ld_mem x;have f:=eq_chars (x.cps.toList.filter λc=> !Co c);rw[Be]at f;have a:¬((x.length:Int)<1):=by have:x.length=x.cps.toList.length:=rfl;rw[this,e];simp;omega
  by_cases b:(8:Int)<(x.length:Int)
  ·have:lC x c=b_:=by unfold lC;rw[j_ (by omega)];rfl
   rw[this];simp[cf,gv,cQ,I,gtD,ltD,b,a]
  ·by_cases Y:97<=c/\c<=122
   ·have k:cQ [a_ (.str x)]=.ok (.nx [a_ (.str x)]):=by
     simp[cQ,I,gtD,ltD,b,a,d,(lE c).mpr Y]
    have g:lC x c=x.cps.toList.all Co:=by unfold lC;rw[r_ (show x.length<=8 by omega),r_ Y];rfl
    rw[g];simp[cf,gv,k,j,hsz,f,-Gf]
   ·have i:c∉(o_ "abcdefghijklmnopqrstuvwxyz").cps.toList:=λm=>Y ((lE c).mp m);have:lC x c=b_:=by unfold lC;rw[j_ Y,Ib];rfl
    rw[this];simp[cf,gv,cQ,I,gtD,ltD,b,a,d,i]
theorem dg_mem(c:Nat):c∈(o_ "0123456789").cps.toList↔zK c=d_:=by rw[nW];unfold zK;simp
theorem jv(n:Nat)(h:WOk x)(m:Int):bo [.str x,.int m]=.ok (.int (m4 x m)):=by
 obtain⟨h1,h2⟩:=h;have I:x.length<=16777216:=by omega
 have hsz:x.cps.size<=16777216:=I;cases e:x.cps.toList with
 |nil=>exact Gb e h1|cons c r=>
  have k:=ix0' e I;have hw:m4 x m=if rD x c=d_ then(if m<((HA x.cps.toList:Nat):Int)then -1 else((HA x.cps.toList:Nat):Int))else -1:=by unfold m4 d6;rw[e];dsimp only;cases rD x c<;>rfl
  have p:=EZ zK _ dg_mem x;have f:=ne_chars (x.cps.toList.filter λc=> !zK c);rw[Be]at f;have j:¬((x.length:Int)<1):=by have:x.length=x.cps.toList.length:=rfl;rw[this,e];simp;omega
  by_cases b:(10:Int)<(x.length:Int)
  ·have:rD x c=b_:=by unfold rD;rw[j_ (by omega)];rfl
   rw[hw,this];simp[bo,eI,ee,I,gtD,ltD,b,j]
  ·cases d:x.cps.toList.all zK with
   |false=>
    have:rD x c=b_:=by unfold rD;rw[d,Ib];rfl
    rw[hw,this];rw[d]at f;simp[bo,eI,ee,I,gtD,ltD,b,j,p,hsz,f,-Gf]
   |true=>
    rw[d]at f;have l:ee [a_ (.str x),a_ (.int m)]=.ok (.nx [a_ (.str x),a_ (.int m)]):=by simp[ee,I,gtD,ltD,b,j,p,hsz,f,-Gf]
    have q:(o_ "0")=⟨#[48]⟩:=by decide +kernel
    have e1:=one_eq c (o_ "0") 48 q;have e2:neM (.str x) (.str "0")=.ok (.bl (!decide (x="0"))):=by
     by_cases hw:x=(o_ "0")
     ·subst hw;simp[neM,C6,eqD]
     ·simp[neM,C6,eqD,hw]
    have hd:II x=a_ ((HA x.cps.toList:Nat):Int):=Me (λc a=>by have:=Hy.mp d c a;unfold zK at this;exact IC this) (by rw[e];simp) (by omega);have Y:x.length<=640:=by omega
    have o:(rD x c=d_)↔¬(c=48/\¬x=(o_ "0")):=by unfold rD;rw[r_ (show x.length<=10 by omega),d];by_cases h1:c=48<;>by_cases h2:x=o_ "0"<;>simp[h1,h2]
    by_cases a:c=48/\¬x=(o_ "0")
    ·have:rD x c=b_:=by
      cases s:rD x c with
      |false=>rfl|true=>exact Gb a (o.mp s)
     rw[hw,this];have e3:eqM (.str ⟨#[c]⟩) (.str "0")=.ok (.bl d_):=by rw[e1];simp[a.1]
     have e4:neM (.str x) (.str "0")=.ok (.bl d_):=by rw[e2];simp[a.2]
     have g:ck [a_ (.str x),a_ (.int m)]=.ok (.rt (.int (-1))):=by simp[ck,k,e3,e4]
     simp[bo,eI,l,g]
    ·rw[hw,o.mpr a];have ft:(xw (fB (f2 eqM (f2 ym (ai 0) (fC (.int 0))) (fC (.str "0")))) (fB (f2 neM (ai 0) (fC (.str "0"))))) [a_ (.str x),a_ (.int m)]=.ok b_:=by
      by_cases h1:c=48
      ·have h2:x=(o_ "0"):=Gz λz=>a ⟨h1,z⟩;have e3:eqM (.str ⟨#[c]⟩) (.str "0")=.ok (.bl d_):=by rw[e1];simp[h1]
       have e4:neM (.str x) (.str "0")=.ok (.bl b_):=by rw[e2];simp[h2]
       simp[k,e3,e4]
      ·have e3:eqM (.str ⟨#[c]⟩) (.str "0")=.ok (.bl b_):=by rw[e1];simp[h1]
       simp[k,e3]
     by_cases i:m<((HA x.cps.toList:Nat):Int)
     ·have g:ck [a_ (.str x),a_ (.int m)]=.ok (.rt (.int (-1))):=by
       unfold ck;rw[e_if,e_or,ft];simp[Y,hd,gtD,i]
      rw[e_ rfl,e_ i];simp[bo,eI,l,g]
     ·have g:ck [a_ (.str x),a_ (.int m)]=.ok (.nx [a_ (.str x),a_ (.int m)]):=by
       unfold ck;rw[e_if,e_or,ft];simp[Y,hd,gtD,i]
      rw[e_ rfl,k_ i];simp[bo,eI,l,g,Y,hd]
end
theorem run_rt{nN:Nat}{g:ah->M A9}{ds:List A3}{x:A3}(I:ds.length=n)(h:g (ds.map a_++GV (nN-ds.length) c_)=.ok (.rt x)):bQ nN n g ds=.ok x:=by rw[e_run,e_ I,h];rfl
theorem neI(a b:Int):neM (.int a) (.int b)=.ok (.bl (!decide (a=b))):=by
 by_cases h:a=b
 ·subst h;rw[lh rfl];simp
 ·simp[neM,C6,eqD,h]
theorem eqI(a b:Int):eqM (.int a) (.int b)=.ok (.bl (q_ (a=b))):=by
 by_cases h:a=b
 ·subst h;simp[eqM,C6,eqD]
 ·simp[eqM,C6,eqD,h]
theorem eqS(a b:p_):eqM (.str a) (.str b)=.ok (.bl (q_ (a=b))):=by
 by_cases h:a=b
 ·subst h;simp[eqM,C6,eqD]
 ·simp[eqM,C6,eqD,h]
theorem neS(a b:p_):neM (.str a) (.str b)=.ok (.bl (!decide (a=b))):=by
 by_cases h:a=b
 ·subst h;simp[neM,C6,eqD]
 ·simp[neM,C6,eqD,h]
theorem jr{i:Int}(h:d6 x=a_ i):0<=i:=by
 unfold d6 at h;split at h
 ·cases h
 ·split at h
  ·cases h;omega
  ·cases h
theorem AY(h:jK x=d_):Nm x:=by
 unfold jK at h;split at h
 ·cases h
 ·rename_i c r e;unfold lC at h;simp only[l_,Gd]at h;obtain⟨⟨h1,h2⟩,I⟩:=h;refine⟨⟨by rw[e];simp,λd hd=>?_⟩,h1,c,r,e,h2.1,h2.2⟩
  have:=Hy.mp I d hd;unfold Co at this;simpa[lowD] using this
def kI(ks:List p_)(x:p_):Nat:=(B8 ks x).getD 0
theorem xj(h:x∈ks):B8 ks x=a_ (kI ks x)/\kI ks x<ks.length/\ks[kI ks x]?=a_ x:=by
 have I:(B8 ks x).isSome=d_:=by unfold B8;rw[List.findIdx?_isSome];exact K5.mpr ⟨x,h,by simp⟩
 cases e:B8 ks x with
 |none=>rw[e]at I;cases I|some i=>
  have Y:kI ks x=i:=by unfold kI;rw[e];rfl
  unfold B8 at e;obtain⟨hi,h1,_⟩:=Ja.mp e;rw[Y];exact⟨rfl,hi,by rw[Gr hi];simpa using h1⟩
section
variable(CR CP CS CW CD:g_)
theorem tZ(n:Nat){W:List A3}(h:W.length≠2):bx [.lst (ks.map .str),.lst W]=.ok .non:=by have e:=neI W.length 2;rw[j_ (by omega)]at e;simp[bx,g8,dI,e]
theorem ua(n:Nat)(h:WOk x):bx [.lst (ks.map .str),.lst [.str w,.str x]]=.ok (if (q_ (ks.length<6)&&jK x&& !decide (x∈ks))=d_ then .str x else .non):=by
 have e1:=AX n h;have e2:=qz x ks;have e3:=uL 2 2 rfl;have Y:gE [.str w,.str x] 1=.ok (.str x):=rfl;by_cases b:ks.length<6
 ·have e4:¬(6:Int)<=(ks.length:Int):=by omega
  rw[r_ b];cases a:jK x with
  |false=>rw[a]at e1;simp[bx,g8,dI,e1,e3,e4,Y]|true=>
   rw[a]at e1;by_cases I:x∈ks
   ·rw[r_ I]at e2;simp[bx,g8,dI,e1,e2,e3,e4,Y,I]
   ·rw[j_ I]at e2;simp[bx,g8,dI,e1,e2,e3,e4,Y,I]
 ·have e4:(6:Int)<=(ks.length:Int):=by omega
  rw[j_ b];simp[bx,g8,dI,e3,e4]
theorem vP(n:Nat){W:List A3}(h:W.length≠4):bj [.lst (ks.map .str),.lst W]=.ok .non:=by have e:=neI W.length 4;rw[j_ (by omega)]at e;simp[bj,g9,dC,e]
theorem Ct(n:Nat):eY [.non]=.ok (.bl b_):=by simp[eY,pq,kH]
theorem Cw(n:Nat){i:Int}(h:1000000<i):eY [.int i]=.ok (.bl b_):=by
 have h2:¬i<=1000000:=by omega
 have I:0<=i:=by omega
 simp[eY,pq,kH,jc,h2,I]
theorem vQ(n:Nat)(h:WOk v):bj [.lst (ks.map .str),.lst [.str w,.str x,.str y,.str v]]=.ok (if x∈ks/\y∈ks then(match d6 v with
  |some i=>if i<=1000000 then .tup [.int (kI ks x),.int (kI ks y),.int i]else .non
  |none=>.non)else .non):=by
 have e1:=lB n h;have e3:=uL 4 4 rfl;have m1:=qz x ks;have I:=qz y ks;have c:gE [.str w,.str x,.str y,.str v] 1=.ok (.str x):=rfl;have g2:gE [.str w,.str x,.str y,.str v] 2=.ok (.str y):=rfl;have b:gE [.str w,.str x,.str y,.str v] 3=.ok (.str v):=rfl;by_cases Y:x∈ks
 ·by_cases a:y∈ks
  ·rw[r_ Y]at m1;rw[r_ a]at I;rw[e_ ⟨Y,a⟩];cases hv:d6 v with
   |none=>rw[hv]at e1;have e2:=Ct n;simp[bj,g9,dC,e1,e2,e3,m1,I,c,g2,b,lY]|some i=>
    rw[hv]at e1;have f:=jr hv;dsimp only;by_cases hi:i<=1000000
    ·have e2:=xm n i f hi;have e:=(xj Y).1;have d:=(xj a).1;simp[bj,g9,dC,e1,e2,e3,m1,I,e,d,c,g2,b,i8,isL,lY,hi]
    ·have e2:=Cw n (i:=i) (by omega);simp[bj,g9,dC,e1,e2,e3,m1,I,c,g2,b,lY,hi]
  ·rw[r_ Y]at m1;rw[j_ a]at I;rw[k_ (λz=>a z.2)];simp[bj,g9,dC,e3,m1,I,c,g2,b]
 ·rw[j_ Y]at m1;rw[k_ (λz=>Y z.1)];simp[bj,g9,dC,e3,m1,c,g2,b]
theorem oK(n:Nat){W:List A3}(h:W.length≠3):aU [.lst (cs.map stD),.lst W]=.ok .non:=by have e:=neI W.length 3;rw[j_ (by omega)]at e;simp[aU,cg,bJ,e]
noncomputable def stB(p:vC):Bool:=q_ (0<=p.1)&&(q_ (p.1<p.2)&&q_ (p.2<=1000000000))
theorem Av{p:vC}:stB p=d_↔St1 p:=by unfold stB St1;simp
theorem rX(n:Nat)(p:vC):gC [stD p]=.ok (.bl (stB p)):=by have a:gE [.int p.1,.int p.2] 0=.ok (.int p.1):=rfl;have Y:gE [.int p.1,.int p.2] 1=.ok (.int p.2):=rfl;unfold stB;by_cases I:0<=p.1<;>by_cases h1:p.1<p.2<;>by_cases h2:p.2<=1000000000<;>simp[gC,oB,kg,stD,a,Y,I,h1,h2]
theorem uP(n:Nat)(h:∀p∈cs,St1 p)(g:cs.length<=20)(p:vC):ic [.lst ((cs++[p]).map stD)]=.ok (.bl (q_ (cs.length<20)&&stB p)):=by
 have Y:bw (.nm 0) gZ (fL (gC) (aa (ai 0) aD)) [c_] ((cs++[p]).map stD)=.ok (((cs++[p]).map stB).map A3.bl):=by rw[Gf];exact fQ _ _ _ λp f=>⟨[a_ (stD p)],by simp,by simp[rX n p]⟩
 have al:((cs++[p]).map stB).all id=stB p:=by
  rw[Hj,List.all_append,List.map_singleton,Kx,List.all_nil,N0];have:(cs.map stB).all id=d_:=Hy.mpr λb d=>by obtain⟨q,a,rfl⟩:=GJ.mp d;exact Av.mpr (h q a)
  rw[this];rfl
 have h2:cs.length+1<=16777216:=by omega
 by_cases h1:cs.length<20
 ·have I:(cs.length:Int)+1<=20:=by omega
  rw[r_ h1];generalize e:(cs++[p]).map stB=L at Y al;have c:L.length=cs.length+1:=by rw[<- e];simp
  simp[ic,lK,I,h2,Y,ig,al,iq,-Hj]
 ·have I:¬(cs.length:Int)+1<=20:=by omega
  rw[j_ h1];simp[ic,lK,I,iq]
theorem oM(n:Nat)(g:WOk x)(f:WOk y)(h:∀p∈cs,St1 p)(k:cs.length<=20):aU [.lst (cs.map stD),.lst [.str w,.str x,.str y]]=.ok (match d6 x,d6 y with
  |some i,a_ j=>if (q_ (cs.length<20)&&stB (i,j))=d_ then stD (i,j)else .non
  |_,_=>.non):=by
 have e1:=lB n g;have e2:=lB n f;have e3:=uL 3 3 rfl;have Y:gE [.str w,.str x,.str y] 1=.ok (.str x):=rfl;have g2:gE [.str w,.str x,.str y] 2=.ok (.str y):=rfl;cases ex:d6 x with
 |none=>
  rw[ex]at e1;have I:∀d:A3,(d=.non\/∃i,d=.int i)->ib .non (.tup [.non,d])=.ok (.bl b_):=λd hd=>by rcases hd with rfl|⟨i,rfl⟩<;>rfl
  cases a:d6 y with
  |none=>rw[a]at e2;simp[aU,cg,bJ,e1,e2,e3,Y,g2,lY,I .non (.inl rfl)]|some j=>rw[a]at e2;simp[aU,cg,bJ,e1,e2,e3,Y,g2,lY,I (.int j) (.inr ⟨j,rfl⟩)]
 |some i=>
  rw[ex]at e1;cases a:d6 y with
  |none=>rw[a]at e2;have I:ib .non (.tup [.int i,.non])=.ok (.bl b_):=rfl;simp[aU,cg,bJ,e1,e2,e3,Y,g2,lY,I]|some j=>
   rw[a]at e2;have I:ib .non (.tup [.int i,.int j])=.ok (.bl d_):=rfl;have b:=uP n h k (i,j);have e:bX (.lst (cs.map stD)) (.lst [.tup [.int i,.int j]])=.ok (.lst ((cs++[(i,j)]).map stD)):=by
    have:cs.length+1<=16777216:=by omega
    simp[bX,stD,this]
   dsimp only;cases c:(q_ (cs.length<20)&&stB (i,j))with
   |true=>rw[c]at b;simp[aU,cg,bJ,e1,e2,e3,Y,g2,lY,I,e,b,-Hj];rfl|false=>rw[c]at b;simp[aU,cg,bJ,e1,e2,e3,Y,g2,lY,I,e,b,-Hj]
end
noncomputable def rgB(x:Int):Bool:=q_ (0<=x)&&q_ (x<=1000000000)
def flB(f:Fli):Bool:=q_ (f.first<=f.last)&&(rgB f.first&&(rgB f.last&&(rgB f.due&&rgB f.price)))
theorem in_non(p q r s:Option Int):inM .non (.lst [lY p,lY q,lY r,lY s])=.ok (.bl (p.isNone||(q.isNone||(r.isNone||s.isNone)))):=by cases p<;>cases q<;>cases r<;>cases s<;>rfl
theorem flB_ok{k:Nat}{f:Fli}(h:flB f=d_)(e:0<=f.kind)(h1:f.kind<k):Fl1 k f:=by unfold flB rgB at h;simp only[l_,Gd]at h;obtain⟨h2,⟨d,i⟩,⟨g,c⟩,⟨b,a⟩,Y,I⟩:=h;exact⟨e,h1,d,h2,c,⟨b,a⟩,⟨Y,I⟩⟩
def num4(a b c d:p_):Option (Int×Int×Int×Int):=match d6 a,d6 b,d6 c,d6 d with
 |some a,a_ b,a_ c,a_ d=>a_ (a,b,c,d)|_,_,_,_=>c_
section
variable(CR CP CS CW CD:g_)
theorem iQ(n:Nat)(x:Int):eX [.int x]=.ok (.bl (rgB x)):=by unfold rgB;by_cases h1:0<=x<;>by_cases h2:x<=1000000000<;>simp[eX,mP,jc,h1,h2]
theorem DX(n:Nat)(f:Fli):bA [flD f]=.ok (.bl (flB f)):=by
 have Y:gE [.int f.kind,.int f.first,.int f.last,.int f.due,.int f.price] 1=.ok (.int f.first):=rfl;have g2:gE [.int f.kind,.int f.first,.int f.last,.int f.due,.int f.price] 2=.ok (.int f.last):=rfl;have es:dQ (.tup [.int f.kind,.int f.first,.int f.last,.int f.due,.int f.price]) (a_ 1) c_=.ok (.tup [.int f.first,.int f.last,.int f.due,.int f.price]):=by simp[dQ,Bo,cX]
 have d:=iQ n f.first;have r2:=iQ n f.last;have c:=iQ n f.due;have b:=iQ n f.price;have a:bw (.nm 0) gZ (fL (eX) (aa (ai 0) aD)) [c_] [.int f.first,.int f.last,.int f.due,.int f.price]=.ok ([rgB f.first,rgB f.last,rgB f.due,rgB f.price].map A3.bl):=by simp[bw,d,r2,c,b]
 unfold flB;generalize e:[rgB f.first,rgB f.last,rgB f.due,rgB f.price]=L at a;have al:L.all id=(rgB f.first&&(rgB f.last&&(rgB f.due&&rgB f.price))):=by rw[<- e];simp
 by_cases I:f.first<=f.last
 ·rw[r_ I];simp[bA,eC,flD,Y,g2,es,a,al,I,iq,ig]
 ·rw[j_ I];simp[bA,eC,flD,Y,g2,I,iq]
theorem pG(n:Nat){W:List A3}(h:W.length≠7):aV [.lst (ks.map .str),.lst (ns.map .str),.lst W]=.ok .non:=by have e:=neI W.length 7;rw[j_ (by omega)]at e;simp[aV,cM,cA,e]
theorem pH(n:Nat){k a b c d:p_}(h1:WOk nm)(S:WOk a)(R:WOk b)(Q:WOk c)(hd:WOk d):
  aV [.lst (ks.map .str),.lst (ns.map .str),.lst [.str w,.str nm,.str k,.str a,.str b,.str c,.str d]]=.ok (if (q_ (ns.length<40)&&(q_ (k∈ks)&&(jK nm&& !decide (nm∈ns))))=d_ then(match num4 a b c d with
   |some (a,b,c,d)=>if flB ⟨kI ks k,a,b,c,d⟩=d_ then flD ⟨kI ks k,a,b,c,d⟩else .non
   |none=>.non)else .non):=by
 have e3:=uL 7 7 rfl;have m1:=qz k ks;have q:=inS nm ns;have e5:=AX n h1;have P:=lB n S;have n2:=lB n R;have O:=lB n Q;have N:=lB n hd;generalize u:([.str w,.str nm,.str k,.str a,.str b,.str c,.str d]:List A3)=W;have A:W.length=7:=by rw[<- u];rfl
 have B:gE W 1=.ok (.str nm):=by rw[<- u];rfl
 have g2:gE W 2=.ok (.str k):=by rw[<- u];rfl
 have v:∀x,cM [a_ (.lst (ks.map .str)),a_ (.lst (ns.map .str)),a_ (.lst W),c_,c_]=.ok (.rt x)->aV [.lst (ks.map .str),.lst (ns.map .str),.lst W]=.ok x:=λx h=>run_rt rfl h;have i:cA [a_ (.lst (ks.map .str)),a_ (.lst (ns.map .str)),a_ (.lst W),c_,c_]=.ok (if ns.length<40/\k∈ks then .nx [a_ (.lst (ks.map .str)),a_ (.lst (ns.map .str)),a_ (.lst W),c_,c_]else .rt .non):=by
  by_cases F:ns.length<40
  ·have e4:¬(40:Int)<=(ns.length:Int):=by omega
   by_cases s:k∈ks
   ·rw[r_ s]at m1;simp[cA,A,e3,e4,g2,m1,F,s]
   ·rw[j_ s]at m1;simp[cA,A,e3,e4,g2,m1,s]
  ·have e4:(40:Int)<=(ns.length:Int):=by omega
   simp[cA,A,e3,e4,F]
 have l:dD [a_ (.lst (ks.map .str)),a_ (.lst (ns.map .str)),a_ (.lst W),c_,c_]=.ok (if jK nm=d_/\nm∉ns then .nx [a_ (.lst (ks.map .str)),a_ (.lst (ns.map .str)),a_ (.lst W),c_,c_]else .rt .non):=by
  cases E:jK nm with
  |false=>rw[E]at e5;simp[dD,B,e5]|true=>
   rw[E]at e5;by_cases r:nm∈ns
   ·rw[r_ r]at q;simp[dD,B,e5,q,r]
   ·rw[j_ r]at q;simp[dD,B,e5,q,r]
 by_cases j:ns.length<40/\k∈ks
 rotate_left
 ·rw[k_ j]at i;rw[k_ (λz=>j (by simp at z;exact⟨z.1,z.2.1⟩))];exact v _ (by unfold cM;rw[mX,i,aj])
 rw[e_ j]at i;by_cases m:jK nm=d_/\nm∉ns
 rotate_left
 ·rw[k_ m]at l;rw[k_ (λz=>m (by simp at z;exact z.2.2))];exact v _ (by unfold cM;rw[mX,i,aj];dsimp only;rw[mX,l,aj])
 rw[e_ m]at l;rw[e_ (by simp[j.1,j.2,m.1,m.2])];have es:dQ (.lst W) (a_ 3) c_=.ok (.lst [.str a,.str b,.str c,.str d]):=by rw[<- u];simp[dQ,Bo,cX]
 have T:bw (.nm 0) gZ (fL (bz) (aa (ai 0) aD)) [c_] [.str a,.str b,.str c,.str d]=.ok [lY (d6 a),lY (d6 b),lY (d6 c),lY (d6 d)]:=by simp[bw,P,n2,O,N]
 have p:b7 [] 3 (cU (fIt (fSl dQ (ai 2) (jP (fC (.int 3))) oQ)) [c_] (.nm 0) gZ (fL (bz) (aa (ai 0) aD))) [a_ (.lst (ks.map .str)),a_ (.lst (ns.map .str)),a_ (.lst W),c_,c_]=.ok (.nx [a_ (.lst (ks.map .str)),a_ (.lst (ns.map .str)),a_ (.lst W),a_ (.lst [lY (d6 a),lY (d6 b),lY (d6 c),lY (d6 d)]),c_]):=by simp[es,T,ig]
 have D:=in_non (d6 a) (d6 b) (d6 c) (d6 d);have H:=(xj j.2).1;have g:iy [a_ (.lst (ks.map .str)),a_ (.lst (ns.map .str)),a_ (.lst W),a_ (.lst [lY (d6 a),lY (d6 b),lY (d6 c),lY (d6 d)]),c_]=.ok (if ((d6 a).isNone||((d6 b).isNone||((d6 c).isNone||(d6 d).isNone)))=d_ then .rt .non else .nx [a_ (.lst (ks.map .str)),a_ (.lst (ns.map .str)),a_ (.lst W),a_ (.lst [lY (d6 a),lY (d6 b),lY (d6 c),lY (d6 d)]),c_]):=by generalize ((d6 a).isNone||((d6 b).isNone||((d6 c).isNone||(d6 d).isNone)))=t at D;cases t<;>simp[iy,D]
 have f:((d6 a).isNone||((d6 b).isNone||((d6 c).isNone||(d6 d).isNone)))=d_->aV [.lst (ks.map .str),.lst (ns.map .str),.lst W]=.ok .non:=λh=>by rw[e_ h]at g;exact v _ (by unfold cM;rw[mX,i,aj];dsimp only;rw[mX,l,aj];dsimp only;rw[mX,p,aj];dsimp only;rw[mX,g,aj])
 unfold num4;cases o:d6 a with
 |none=>exact f (by rw[o];rfl)|some e=>
 cases y:d6 b with
 |none=>exact f (by rw[o,y];rfl)|some Y=>
 cases C:d6 c with
 |none=>exact f (by rw[o,y,C];rfl)|some I=>
 cases G:d6 d with
 |none=>exact f (by rw[o,y,C,G];rfl)|some d'=>
 rw[o,y,C,G]at p g;rw[k_ (show ¬((a_ e).isNone||((a_ Y).isNone||((a_ I).isNone||(a_ d').isNone)))=d_ from λz=>(nomatch (show b_=d_ from z)))]at g;dsimp only[lY]at p g;have L:=DX n ⟨kI ks k,e,Y,I,d'⟩;have ix:(gM (ai 0) (f2 ixD (ai 2) (fC (.int 2)))) [a_ (.lst (ks.map .str)),a_ (.lst (ns.map .str)),a_ (.lst W),a_ (.lst [.int e,.int Y,.int I,.int d']),c_]=.ok (.int (kI ks k)):=by simp[g2,H,i8,isL]
 have K:b7 [] 4 (fL iC (aa (gM (ai 0) (f2 ixD (ai 2) (fC (.int 2)))) (aa (f2 ixD (ai 3) (fC (.int 0))) (aa (f2 ixD (ai 3) (fC (.int 1))) (aa (f2 ixD (ai 3) (fC (.int 2))) (aa (f2 ixD (ai 3) (fC (.int 3))) aD)))))) [a_ (.lst (ks.map .str)),a_ (.lst (ns.map .str)),a_ (.lst W),a_ (.lst [.int e,.int Y,.int I,.int d']),c_]=.ok (.nx [a_ (.lst (ks.map .str)),a_ (.lst (ns.map .str)),a_ (.lst W),a_ (.lst [.int e,.int Y,.int I,.int d']),a_ (flD ⟨kI ks k,e,Y,I,d'⟩)]):=by show((((gM (ai 0) (f2 ixD (ai 2) (fC (.int 2)))) [a_ (.lst (ks.map .str)),a_ (.lst (ns.map .str)),a_ (.lst W),a_ (.lst [.int e,.int Y,.int I,.int d']),c_]).bind λx=>Ge [x,.int e,.int Y,.int I,.int d']).bind iC).bind _=_;rw[ix,aj,aj];unfold iC;rw[e_ (by show 5<=f_;rw[C_];decide)];rfl
 dsimp only;refine v _ ?_;unfold cM;rw[mX,i,aj];dsimp only;rw[mX,l,aj];dsimp only;rw[mX,p,aj];dsimp only;rw[mX,g,aj];dsimp only;rw[mX,K,aj];dsimp only;show((((bA [flD ⟨kI ks k,e,Y,I,d'⟩]).bind truD).bind λt=>if t=d_ then Ge (flD ⟨kI ks k,e,Y,I,d'⟩)else Ge A3.non).bind _)=_;rw[L];cases flB ⟨kI ks k,e,Y,I,d'⟩<;>rfl
end
structure WS where
 ks:List p_
 g:PKs
 b:PKs
 nf:List (p_×Fli)
 cs:List vC
variable{s s':WS}
def enc(ks:List p_)(g:PKs):List (List Int×A3):=g.map λp=>([((kI ks p.1.1:Nat):Int),((kI ks p.1.2:Nat):Int)],A3.int p.2)
def WS.d(s:WS):DSt:=⟨s.ks,enc s.ks s.g,enc s.ks s.b,s.nf,s.cs⟩
def WS.j(s:WS):Jst:=⟨s.ks.map .str,(s.nf.map (·.1)).map .str,(s.nf.map (·.2)).map flD,s.cs.map stD,s.g,s.b⟩
def Bt(ks:List p_)(g:PKs):Prop:=∀p∈g,p.1.1∈ks/\p.1.2∈ks/\0<=p.2/\p.2<=1000000
theorem Fc(ks:List p_)(g:PKs):(enc ks g).length=g.length:=u_ ..
theorem kI_app(h:y∈ks):kI (ks++[x]) y=kI ks y:=by have e:=(xj h).1;unfold kI B8 at *;rw[List.findIdx?_append,e];rfl
theorem kI_inj(Y:x∈ks)(I:y∈ks)(e:kI ks x=kI ks y):x=y:=by have h1:=(xj Y).2.2;have h2:=(xj I).2.2;rw[e,h2]at h1;exact(Gn h1).symm
theorem Fe{g:PKs}(h:Bt ks g)(x:p_):enc (ks++[x]) g=enc ks g:=
 H_ λp I=>by rw[kI_app (h p I).1,kI_app (h p I).2.1]
theorem Bt.app{g:PKs}(h:Bt ks g)(x:p_):Bt (ks++[x]) g:=λp I=>by obtain⟨a,b,c⟩:=h p I;exact⟨by simp[a],by simp[b],c⟩
theorem Fd{a b:p_}(Y:x∈ks)(I:y∈ks)(d:a∈ks)(c:b∈ks):([((kI ks a:Nat):Int),((kI ks b:Nat):Int)]=[((kI ks x:Nat):Int),((kI ks y:Nat):Int)])↔(a,b)=(x,y):=by
 constructor
 ·intro h;simp only[JR,and_true]at h;rw[kI_inj d Y (by omega),kI_inj c I (by omega)]
 ·intro h;cases h;rfl
theorem zJ{ks:List p_}{x y:p_}(b:x∈ks)(a:y∈ks):∀{g:PKs},Bt ks g->D8 (enc ks g) [((kI ks x:Nat):Int),((kI ks y:Nat):Int)]=(yn g (x,y)).map A3.int
 |[],_=>rfl|p::g,h=>by
  obtain⟨h1,h2,_⟩:=h p (by simp);have Y:=zJ b a (g:=g) λq d=>h q (by simp[d]);have c:=Fd b a h1 h2;unfold enc D8 yn at Y ⊢;by_cases e:p.1=(x,y)
  ·have I:=c.mpr e;simp only[F_,G1,I,e,decide_true,J1]
  ·have I:¬[((kI ks p.1.1:Nat):Int),((kI ks p.1.2:Nat):Int)]=[((kI ks x:Nat):Int),((kI ks y:Nat):Int)]:=λz=>e (c.mp z);simp only[F_,G1,I,e,MI];exact Y
theorem Fb(a:x∈ks)(Y:y∈ks){g:PKs}(h:Bt ks g)(v:Int):BV (enc ks g) [((kI ks x:Nat):Int),((kI ks y:Nat):Int)] (.int v)=enc ks (pX g (x,y) v):=by
 unfold BV pX;rw[zJ a Y h,I_];by_cases I:(yn g (x,y)).isSome=d_
 ·rw[e_ I,e_ I];unfold enc;rw[Gf,Gf];refine H_ λp c=>?_;obtain⟨h1,h2,_⟩:=h p c;have b:=Fd a Y h1 h2;simp only[L0];by_cases e:p.1=(x,y)
  ·rw[e_ (b.mpr e),e_ e]
  ·rw[k_ (λz=>e (b.mp z)),k_ e]
 ·rw[k_ I,k_ I];unfold enc;rw[Hj];rfl
theorem Bt.put{g:PKs}(h:Bt ks g)(f:x∈ks)(d:y∈ks){v:Int}(Y:0<=v)(h1:v<=1000000):Bt ks (pX g (x,y) v):=λp I=>by
 unfold pX at I;split at I
 ·obtain⟨q,i,rfl⟩:=GJ.mp I;obtain⟨a,b,c⟩:=h q i;split
  ·rename_i e;exact⟨a,b,Y,h1⟩
  ·exact⟨a,b,c⟩
 ·rcases GU.mp I with I|I
  ·exact h p I
  ·rw[G9.mp I];exact⟨f,d,Y,h1⟩
theorem AJ(g:PKs)(k:p_×p_)(v:Int):(pX g k v).length<=g.length+1/\pX g k v≠[]:=by
 unfold pX;split
 ·rename_i h;refine⟨by simp,λe=>?_⟩
  rw[Kr]at e;subst e;cases h
 ·simp
structure WI(s:WS):Prop where
 kd:s.ks.Nodup
 k6:s.ks.length<=6
 kn:∀k∈s.ks,Nm k
 gi:Bt s.ks s.g
 bi:Bt s.ks s.b
 nm:s.nf.length<=40
 nn:∀p∈s.nf,Nm p.1/\Fl1 s.ks.length p.2
 nd:(s.nf.map (·.1)).Nodup
 cm:s.cs.length<=20
 cl:∀p∈s.cs,St1 p
noncomputable def jB:Bool->Nat
 |true=>2|false=>1
def putB:Bool->WS->Int->p_->p_->WS
 |true,s,i,x,y=>{s with b:=pX s.b (x,y) i}
 |false,s,i,x,y=>{s with g:=pX s.g (x,y) i}
def gapW(s:WS)(f:Int->p_->p_->WS):List p_->Option WS
 |[x,y,v]=>if x∈s.ks/\y∈s.ks then(match d6 v with
  |some i=>if i<=1000000 then a_ (f i x y)else c_
  |none=>c_)else c_
 |_=>c_
def xh(s:WS):List p_->Option WS
 |[x]=>if (q_ (s.ks.length<6)&&jK x&& !decide (x∈s.ks))=d_ then a_ {s with ks:=s.ks++[x]}else c_
 |_=>c_
def iw(s:WS):List p_->Option WS
 |[x,y]=>match d6 x,d6 y with
  |some i,a_ j=>if (q_ (s.cs.length<20)&&stB (i,j))=d_ then a_ {s with cs:=s.cs++[(i,j)]}else c_
  |_,_=>c_
 |_=>c_
def ke(s:WS):List p_->Option WS
 |[nm,k,a,b,c,d]=>if (q_ ((s.nf.map (·.1)).length<40)&&(q_ (k∈s.ks)&&(jK nm&& !decide (nm∈s.nf.map (·.1)))))=d_ then(match num4 a b c d with
  |some (a,b,c,d)=>if flB ⟨kI s.ks k,a,b,c,d⟩=d_ then a_ {s with nf:=s.nf++[(nm,⟨kI s.ks k,a,b,c,d⟩)]}else c_
  |none=>c_)else c_
 |_=>c_
def nE(s:WS)(w:p_)(r:List p_):Option WS:=
 if w=wK then xh s r else
 if w=wG then gapW s (putB b_ s) r else
 if w=wB then gapW s (putB d_ s) r else
 if w=wC then iw s r else
 if w=wF then ke s r else c_
def o8(x:M (Bool×List A3))(o:Option WS):Prop:=match o with
 |some s'=>x=.ok (d_,s'.d.D)|none=>∃ds,x=.ok (b_,ds)
section
variable(CR CP CS CW CD:g_)
theorem kE{j:Nat}{ds:List A3}:∃es,(Ge A3.non:M A3).bind (sE j ds)=.ok (b_,es):=⟨ds,rfl⟩
theorem mW{j:Nat}{ds:List A3}:∃es,(Ge A3.non:M A3).bind (D6 j ds)=.ok (b_,es):=⟨ds,rfl⟩
theorem Dn(n:Nat)(s:WS)(I:WI s)(w:p_)(r:List p_)(a:∀x∈r,WOk x):o8 ((bx [.lst (s.ks.map .str),.lst ((w::r).map .str)]).bind (sE 0 s.d.D)) (xh s r):=by
 have Y:r.length≠1->∃ds,(bx [.lst (s.ks.map .str),.lst ((w::r).map .str)]).bind (sE 0 s.d.D)=.ok (b_,ds):=λh=>by rw[tZ n (by simp;omega)];exact kE
 unfold xh;split
 ·rename_i x;have e:=ua n (ks:=s.ks) (w:=w) (a x (by simp));show o8 ((bx [.lst (s.ks.map .str),.lst [.str w,.str x]]).bind _) _;rw[e];split
  ·have b:s.ks.length<16777216:=by have:=I.k6;omega
   rw[aj];simp[o8,sE,DSt.D,WS.d,gL,b,Fe I.gi,Fe I.bi]
  ·exact kE
 ·rename_i h;exact Y λz=>by
   match r,z with
   |[x],_=>exact h x rfl
theorem Ap(n:Nat)(s:WS)(I:WI s)(b:Bool)(g:s.g.length<10000000/\s.b.length<10000000)(w:p_)(r:List p_)(f:∀x∈r,WOk x):o8 ((bj [.lst (s.ks.map .str),.lst ((w::r).map .str)]).bind (D6 (jB b) s.d.D)) (gapW s (putB b s) r):=by
 have a:r.length≠3->∃ds,(bj [.lst (s.ks.map .str),.lst ((w::r).map .str)]).bind (D6 (jB b) s.d.D)=.ok (b_,ds):=λh=>by rw[vP n (by simp;omega)];exact mW
 unfold gapW;split
 ·rename_i x y v;have e:=vQ n (ks:=s.ks) (w:=w) (x:=x) (y:=y) (f v (by simp));show o8 ((bj [.lst (s.ks.map .str),.lst [.str w,.str x,.str y,.str v]]).bind _) _;rw[e];split
  ·rename_i Y;cases hv:d6 v with
   |none=>exact mW|some i=>
    dsimp only;split
    ·have d:(enc s.ks s.g).length<16777216:=by rw[Fc];omega
     have c:(enc s.ks s.b).length<16777216:=by rw[Fc];omega
     rw[aj];cases b with
     |true=>simp[o8,D6,jB,putB,DSt.D,WS.d,c,Fb Y.1 Y.2 I.bi]|false=>simp[o8,D6,jB,putB,DSt.D,WS.d,d,Fb Y.1 Y.2 I.gi]
    ·exact mW
  ·exact mW
 ·rename_i h;exact a λz=>by
   match r,z with
   |[x,y,v],_=>exact h x y v rfl
theorem yv(n:Nat)(s:WS)(I:WI s)(w:p_)(r:List p_)(a:∀x∈r,WOk x):o8 ((aU [.lst (s.cs.map stD),.lst ((w::r).map .str)]).bind (sE 5 s.d.D)) (iw s r):=by
 have Y:r.length≠2->∃ds,(aU [.lst (s.cs.map stD),.lst ((w::r).map .str)]).bind (sE 5 s.d.D)=.ok (b_,ds):=λh=>by rw[oK n (by simp;omega)];exact kE
 unfold iw;split
 ·rename_i x y;have e:=oM n (cs:=s.cs) (w:=w) (a x (by simp)) (a y (by simp)) I.cl I.cm;show o8 ((aU [.lst (s.cs.map stD),.lst [.str w,.str x,.str y]]).bind _) _;rw[e];cases ex:d6 x with
  |none=>exact kE|some i=>
  cases c:d6 y with
  |none=>exact kE|some j=>
  dsimp only;split
  ·have b:s.cs.length<16777216:=by have:=I.cm;omega
   rw[aj];simp[o8,sE,DSt.D,WS.d,gL,oH,stD,b]
  ·exact kE
 ·rename_i h;exact Y λz=>by
   match r,z with
   |[x,y],_=>exact h x y rfl
theorem yu(n:Nat)(s:WS)(I:WI s)(w:p_)(r:List p_)(f:∀x∈r,WOk x):o8 (m8 (aV) s.d.D ((w::r).map .str)) (ke s r):=by
 have Y:aV [.lst (s.ks.map .str),.lst ((s.nf.map (·.1)).map .str),.lst ((w::r).map .str)]=.ok .non->∃ds,m8 (aV) s.d.D ((w::r).map .str)=.ok (b_,ds):=λh=>by
  refine⟨s.d.D,?_⟩
  show(aV [.lst (s.ks.map .str),.lst ((s.nf.map (·.1)).map .str),.lst ((w::r).map .str)]).bind _=_;rw[h];rfl
 unfold ke;split
 ·rename_i nm k a b c d;have e:=pH n (ks:=s.ks) (ns:=s.nf.map (·.1)) (w:=w) (nm:=nm) (k:=k) (f nm (by simp)) (f a (by simp)) (f b (by simp)) (f c (by simp)) (f d (by simp));split
  ·rename_i i;rw[e_ i]at e;cases q:num4 a b c d with
   |none=>rw[q]at e;exact Y e|some p=>
    obtain⟨m,l,j,d'⟩:=p;rw[q]at e;dsimp only at e ⊢;split
    ·rename_i g;rw[e_ g]at e;have o:s.nf.length<16777216:=by have:=I.nm;omega
     show m8 (aV) s.d.D ([w,nm,k,a,b,c,d].map .str)=_;show(aV [.lst (s.ks.map .str),.lst ((s.nf.map (·.1)).map .str),.lst [.str w,.str nm,.str k,.str a,.str b,.str c,.str d]]).bind _=_;rw[e,aj];have a1:sE 4 s.d.D (flD ⟨kI s.ks k,m,l,j,d'⟩)=.ok (d_,[.lst (s.ks.map .str),.dic (enc s.ks s.g),.dic (enc s.ks s.b),.lst ((s.nf.map (·.1)).map .str),.lst ((s.nf.map (·.2)).map flD++[flD ⟨kI s.ks k,m,l,j,d'⟩]),.lst (s.cs.map stD)]):=by simp[sE,DSt.D,WS.d,gL,oH,flD,o]
     show(sE 4 s.d.D (flD ⟨kI s.ks k,m,l,j,d'⟩)).bind _=_;rw[a1,aj];simp only[LH];rw[show ixD (.lst ([w,nm,k,a,b,c,d].map A3.str)) (.int 1)=.ok (.str nm)from rfl,aj];simp[sE,DSt.D,WS.d,gL,o]
    ·rename_i g;rw[k_ g]at e;exact Y e
  ·rename_i i;rw[k_ i]at e;exact Y e
 ·rename_i h;refine Y (pG n λz=>?_);have z:r.length=6:=by simpa using z
  match r,z,h with
  |[nm,k,a,b,c,d],_,h=>exact h nm k a b c d rfl
theorem take_any(n:Nat)(s:WS)(I:WI s)(d:s.g.length<10000000/\s.b.length<10000000)(w:p_)(r:List p_)(hw:Ho w "#"=b_)(Y:∀x∈r,WOk x):o8 (bF s.d.D ((w::r).map .str)) (nE s w r):=by
 rw[row_way n s.d w r hw];unfold nE;by_cases h1:w=wK
 ·rw[e_ h1,e_ h1];exact Dn n s I w r Y
 rw[k_ h1,k_ h1];by_cases h2:w=wG
 ·rw[e_ h2,e_ h2];exact Ap n s I b_ d w r Y
 rw[k_ h2,k_ h2];by_cases c:w=wB
 ·rw[e_ c,e_ c];exact Ap n s I d_ d w r Y
 rw[k_ c,k_ c];by_cases b:w=wC
 ·rw[e_ b,e_ b];exact yv n s I w r Y
 rw[k_ b,k_ b];by_cases a:w=wF
 ·rw[e_ a,e_ a];exact yu n s I w r Y
 rw[k_ a,k_ a];exact⟨_,rfl⟩
end
theorem EF(h:r.length≠1):xh s r=c_:=by
 unfold xh;split
 ·exact Gb rfl h
 ·rfl
theorem Bb{f:Int->p_->p_->WS}(h:r.length≠3):gapW s f r=c_:=by
 unfold gapW;split
 ·exact Gb rfl h
 ·rfl
theorem Aa(h:r.length≠2):iw s r=c_:=by
 unfold iw;split
 ·exact Gb rfl h
 ·rfl
theorem zG(h:r.length≠6):ke s r=c_:=by
 unfold ke;split
 ·exact Gb rfl h
 ·rfl
theorem Fl1.up{k:Nat}{f:Fli}(h:Fl1 k f):Fl1 (k+1) f:=⟨h.k0,by have:=h.k1;omega,h.a,h.b,h.c,h.d,h.e⟩
theorem Bc(I:WI s)(b:Bool)(h:gapW s (putB b s) r=a_ s'):WI s'/\s'.g.length<=s.g.length+1/\s'.b.length<=s.b.length+1:=by
 unfold gapW at h;split at h
 ·split at h
  ·rename_i Y;split at h
   ·rename_i i hv;split at h
    ·rename_i hi;cases h;have a:=jr hv;cases b with
     |true=>exact⟨⟨I.kd,I.k6,I.kn,I.gi,I.bi.put Y.1 Y.2 a hi,I.nm,I.nn,I.nd,I.cm,I.cl⟩,GC _,(AJ _ _ _).1⟩|false=>exact⟨⟨I.kd,I.k6,I.kn,I.gi.put Y.1 Y.2 a hi,I.bi,I.nm,I.nn,I.nd,I.cm,I.cl⟩,(AJ _ _ _).1,GC _⟩
    ·cases h
   ·cases h
  ·cases h
 ·cases h
theorem vK(I:WI s)(h:nE s w r=a_ s'):WI s'/\s'.g.length<=s.g.length+1/\s'.b.length<=s.b.length+1:=by
 unfold nE at h;split at h
 ·unfold xh at h;split at h
  ·rename_i x;split at h
   ·rename_i e;cases h;simp only[l_,Gd,KY,decide_eq_false_iff_not]at e;obtain⟨⟨h1,h2⟩,m⟩:=e;refine⟨⟨?_,by simp;omega,λk f=>?_,I.gi.app x,I.bi.app x,I.nm,λp Y=>⟨(I.nn p Y).1,?_⟩,I.nd,I.cm,I.cl⟩,GC _,GC _⟩
    ·rw[Nj];exact⟨I.kd,by simp,λa l b g=>by rw[G9.mp g];exact λz=>m (z▸l)⟩
    ·rcases GU.mp f with f|f
     ·exact I.kn k f
     ·rw[G9.mp f];exact AY h2
    ·have:=(I.nn p Y).2.up;simpa using this
   ·cases h
  ·cases h
 split at h
 ·exact Bc I b_ h
 split at h
 ·exact Bc I d_ h
 split at h
 ·unfold iw at h;split at h
  ·split at h
   ·rename_i i j _ _;split at h
    ·rename_i e;cases h;simp only[l_,Gd]at e;refine⟨⟨I.kd,I.k6,I.kn,I.gi,I.bi,I.nm,I.nn,I.nd,by simp;omega,λp Y=>?_⟩,GC _,GC _⟩
     rcases GU.mp Y with Y|Y
     ·exact I.cl p Y
     ·rw[G9.mp Y];exact Av.mp e.2
    ·cases h
   ·cases h
  ·cases h
 split at h
 ·unfold ke at h;split at h
  ·rename_i nm k a b c d;split at h
   ·rename_i e;simp only[l_,Gd,KY,decide_eq_false_iff_not]at e;obtain⟨h1,h2,m,o⟩:=e;split at h
    ·split at h
     ·rename_i n;cases h;refine⟨⟨I.kd,I.k6,I.kn,I.gi,I.bi,by simp at h1 ⊢;omega,λp Y=>?_,?_,I.cm,I.cl⟩,GC _,GC _⟩
      ·rcases GU.mp Y with Y|Y
       ·exact I.nn p Y
       ·rw[G9.mp Y];exact⟨AY m,flB_ok n (by simp) (by have:=(xj h2).2.1;simp;omega)⟩
      ·rw[Hj,Nj];exact⟨I.nd,by simp,λa l b g=>by
        have g:b=nm:=by simpa using g
        rw[g];exact λz=>o (z▸l)⟩
     ·cases h
    ·cases h
   ·cases h
  ·cases h
 ·cases h
def uC(s:WS):Option WS->Bool×Jst
 |some s'=>(d_,s'.j)|none=>(b_,s.j)
theorem ji{m:Int}(Y:0<=m):m4 x m<0↔¬∃i,d6 x=a_ i/\i<=m:=by
 unfold m4;cases h:d6 x with
 |none=>simp|some k=>
  have:=jr h;dsimp only;by_cases I:m<k
  ·rw[e_ I];simp;omega
  ·rw[k_ I];simp;omega
theorem eP{m i:Int}(h:d6 x=a_ i)(hi:i<=m):m4 x m=i:=by unfold m4;rw[h];dsimp only;rw[k_ (by omega)]
section
variable(CR CP CS CW CD:g_)
theorem ix0_t(I:ai 1 ρ=.ok (.lst ((w::r).map .str))):(f2 ixD (ai 1) (fC (.int 0))) ρ=.ok (.str w):=by show((ai 1 ρ).bind λa=>ixD a (.int 0))=_;rw[I,aj];show gE ((w::r).map A3.str) 0=_;exact get0
theorem len_t(I:ai 1 ρ=.ok (.lst ((w::r).map .str))):(fL gY (aa (ai 1) aD)) ρ=.ok (.int ((r.length+1:Nat):Int)):=by show(((ai 1 ρ).bind λa=>.ok [a]):M (List A3)).bind gY=_;rw[I,aj,aj];show Ge (A3.int (((w::r).map A3.str).length:Nat))=_;rw[u_];rfl
theorem and_t(I:ai 1 ρ=.ok (.lst ((w::r).map .str)))(x:p_)(m:Nat)(k:Int)(Y:k=((m+1:Nat):Int)):(xw (fB (f2 eqM (f2 ixD (ai 1) (fC (.int 0))) (fC (.str x)))) (fB (f2 eqM (fL gY (aa (ai 1) aD)) (fC (.int k))))) ρ=.ok (q_ (w=x/\r.length=m)):=by
 show(((((f2 ixD (ai 1) (fC (.int 0))) ρ).bind λa=>eqM a (.str x)).bind asB).bind λb=>if b=d_ then((((fL gY (aa (ai 1) aD)) ρ).bind λa=>eqM a (.int k)).bind asB)else .ok b_)=_;rw[ix0_t I,aj,eqS,aj,len_t I,aj,eqI,aj];show(if q_ (w=x)=d_ then Ge (q_ (((r.length+1:Nat):Int)=k))else Ge b_)=_;by_cases h:w=x<;>by_cases h2:r.length=m
 ·rw[e_ (r_ h),r_ (by omega),r_ ⟨h,h2⟩]
 ·rw[e_ (r_ h),j_ (by omega),j_ (λz=>h2 z.2)]
 ·rw[k_ (by simpa using h),j_ (λz=>h z.1)]
 ·rw[k_ (by simpa using h),j_ (λz=>h z.1)]
theorem and_g(I:ai 1 ρ=.ok (.lst ((w::r).map .str))):(xw (fB (f2 inM (f2 ixD (ai 1) (fC (.int 0))) (fL bu (aa (fC (.str "gap")) (aa (fC (.str "beside")) aD))))) (fB (f2 eqM (fL gY (aa (ai 1) aD)) (fC (.int 4))))) ρ=.ok (q_ ((w=wG\/w=wB)/\r.length=3)):=by
 have c:(fL bu (aa (fC (.str "gap")) (aa (fC (.str "beside")) aD))) ρ=.ok (.lst ([wG,wB].map .str)):=by show bu [.str "gap",.str "beside"]=_;unfold bu;rw[e_ (by show 2<=f_;rw[C_];decide)];rfl
 show(((((f2 ixD (ai 1) (fC (.int 0))) ρ).bind λa=>((fL bu (aa (fC (.str "gap")) (aa (fC (.str "beside")) aD))) ρ).bind λb=>inM a b).bind asB).bind λb=>if b=d_ then((((fL gY (aa (ai 1) aD)) ρ).bind λa=>eqM a (.int 4)).bind asB)else .ok b_)=_;rw[ix0_t I,aj,c,aj,inS,aj,len_t I,aj,eqI,aj];show(if q_ (w∈[wG,wB])=d_ then Ge (q_ (((r.length+1:Nat):Int)=4))else Ge b_)=_;have Y:w∈[wG,wB]↔(w=wG\/w=wB):=by simp
 by_cases h:w=wG\/w=wB<;>by_cases h2:r.length=3
 ·rw[e_ (r_ (Y.mpr h)),r_ (by omega),r_ ⟨h,h2⟩]
 ·rw[e_ (r_ (Y.mpr h)),j_ (by omega),j_ (λz=>h2 z.2)]
 ·rw[k_ (λz=>h (Y.mp (IC z))),j_ (λz=>h z.1)]
 ·rw[k_ (λz=>h (Y.mp (IC z))),j_ (λz=>h z.1)]
theorem or_f(I:ai 1 ρ=.ok (.lst ((w::r).map .str))):(fOr (fB (f2 neM (f2 ixD (ai 1) (fC (.int 0))) (fC (.str "flight")))) (fB (f2 neM (fL gY (aa (ai 1) aD)) (fC (.int 7))))) ρ=.ok (!decide (w=wF/\r.length=6)):=by
 show(((((f2 ixD (ai 1) (fC (.int 0))) ρ).bind λa=>neM a (.str wF)).bind asB).bind λb=>if b=d_ then .ok d_ else((((fL gY (aa (ai 1) aD)) ρ).bind λa=>neM a (.int 7)).bind asB))=_;rw[ix0_t I,aj,neS,aj,len_t I,aj,neI,aj];show(if (!decide (w=wF))=d_ then Ge d_ else Ge (!decide (((r.length+1:Nat):Int)=7)))=_;by_cases h:w=wF<;>by_cases h2:r.length=6
 ·rw[r_ h,k_ (by decide),r_ (show((r.length+1:Nat):Int)=7 by omega),r_ ⟨h,h2⟩]
 ·rw[r_ h,k_ (by decide),j_ (show ¬((r.length+1:Nat):Int)=7 by omega),j_ (λz=>h2 z.2)]
 ·rw[j_ h,e_ (show(!false)=d_ from rfl),j_ (λz=>h z.1)];rfl
 ·rw[j_ h,e_ (show(!false)=d_ from rfl),j_ (λz=>h z.1)];rfl
end
theorem min4(a b c d:Int):minD [.lst [.int a,.int b,.int c,.int d]]=.ok (.int (mD (mD (mD a b) c) d)):=rfl
theorem min4_neg(a b c d:Int):mD (mD (mD a b) c) d<0↔(a<0\/b<0\/c<0\/d<0):=by unfold mD;split<;>split<;>split<;>omega
theorem wY{x:Bool×Jst}(h:n<16777216):okJ n x=.ok x:=by unfold okJ;rw[e_ (by rw[C_];exact h)]
section
variable(CR CP CS CW CD:g_)
theorem one_kind(n:Nat)(s:WS)(I:WI s)(g:WOk x):
  ((eE (eJ s.j ([w,x].map .str) [c_,c_,c_,c_])).bind λb=>if b=d_ then Ge (b_,s.j)else(kh (eW ([w,x].map .str) [c_,c_,c_,c_])).bind λd=>okJ s.j.dk.length (d_,{s.j with dk:=s.j.dk++[d]}))=.ok (uC s (xh s [x])):=by
 have e1:=x4 n g;have e2:=inS x s.ks;have c:gE [.str w,.str x] 1=.ok (.str x):=rfl;have h:s.ks.length<16777216:=by have:=I.k6;omega
 unfold xh;cases a:jK x with
 |false=>rw[a]at e1;simp[eE,eJ,WS.j,c,e1,uC,a]|true=>
  rw[a]at e1;by_cases Y:x∈s.ks
  ·rw[r_ Y]at e2;simp[eE,eJ,WS.j,c,e1,e2,uC,Y]
  ·rw[j_ Y]at e2;by_cases f:s.ks.length<6
   ·have e:¬(5:Int)<(s.ks.length:Int):=by omega
    simp[eE,kh,eJ,eW,WS.j,c,e1,e2,uC,Y,f,gtD,e,a,wY h]
   ·have e:(5:Int)<(s.ks.length:Int):=by omega
    simp[eE,eJ,WS.j,c,e1,e2,uC,Y,f,gtD,e]
theorem Ek(n:Nat)(s:WS)(b:Bool)(D:s.g.length<10000000/\s.b.length<10000000)(hw:w=(match b with|true=>wB|false=>wG))(hv:WOk v):
  ((iY (eW ([w,x,y,v].map .str) [c_,c_,c_,c_])).bind λd=>(bY (eJ s.j ([w,x,y,v].map .str) [a_ d,c_,c_,c_])).bind λb=>if b=d_ then Ge (b_,s.j)else
   (iX (eW ([w,x,y,v].map .str) [a_ d,c_,c_,c_])).bind λp=>(iW (eW ([w,x,y,v].map .str) [a_ d,c_,c_,c_])).bind λq=>(iV (eW ([w,x,y,v].map .str) [a_ d,c_,c_,c_])).bind λu=>putJ s.j d p q u)=.ok (uC s (gapW s (putB b s) [x,y,v])):=by
 have e1:=jv n hv 1000000;have m1:=qz x s.ks;have a:=qz y s.ks;have t:gE [.str w,.str x,.str y,.str v] 0=.ok (.str w):=rfl;have e:gE [.str w,.str x,.str y,.str v] 1=.ok (.str x):=rfl;have g2:gE [.str w,.str x,.str y,.str v] 2=.ok (.str y):=rfl;have r:gE [.str w,.str x,.str y,.str v] 3=.ok (.str v):=rfl;have a1:iY (eW ([w,x,y,v].map .str) [c_,c_,c_,c_])=.ok (.int (m4 v 1000000)):=by simp[iY,eW,r,e1]
 rw[a1,aj];unfold gapW;dsimp only;by_cases I:x∈s.ks/\y∈s.ks
 ·rw[r_ I.1]at m1;rw[r_ I.2]at a;rw[e_ I];have Y:=ji (x:=v) (m:=1000000) (by decide);by_cases f:m4 v 1000000<0
  ·have o:=Y.mp f;have t4:bY (eJ s.j ([w,x,y,v].map .str) [a_ (.int (m4 v 1000000)),c_,c_,c_])=.ok d_:=by
    simp[bY,eJ,WS.j,e,g2,m1,a,ltD,f]
   rw[t4,aj,e_ rfl];cases j:d6 v with
   |none=>rfl|some i=>dsimp only;rw[k_ λz=>o ⟨i,j,z⟩];rfl
  ·have t4:bY (eJ s.j ([w,x,y,v].map .str) [a_ (.int (m4 v 1000000)),c_,c_,c_])=.ok b_:=by
    simp[bY,eJ,WS.j,e,g2,m1,a,ltD,f]
   rw[t4,aj,k_ (by decide)];have k:∃i,d6 v=a_ i/\i<=1000000:=Gz λz=>f (Y.mpr z);obtain⟨i,hi,c⟩:=k;have A:=eP hi c;rw[hi];dsimp only;rw[e_ c,A];have C:iX (eW ([w,x,y,v].map .str) [a_ (.int i),c_,c_,c_])=.ok (.str w):=by simp[iX,eW,t]
   have B:iW (eW ([w,x,y,v].map .str) [a_ (.int i),c_,c_,c_])=.ok (.str x):=by simp[iW,eW,e]
   have a9:iV (eW ([w,x,y,v].map .str) [a_ (.int i),c_,c_,c_])=.ok (.str y):=by simp[iV,eW,g2]
   rw[C,aj,B,aj,a9,aj];cases b with
   |false=>show(if w=wG then okJ s.g.length (d_,{s.j with g:=pX s.g (x,y) i})else _)=_;rw[e_ hw,wY (by omega)];rfl
   |true=>show(if w=wG then _ else if w=wB then okJ s.b.length (d_,{s.j with b:=pX s.b (x,y) i})else _)=_;have hw:w=wB:=hw;rw[k_ (λz=>rF.2.2.1 (hw.symm.trans z)),e_ hw,wY (by omega)];rfl
 ·rw[k_ I];have t4:bY (eJ s.j ([w,x,y,v].map .str) [a_ (.int (m4 v 1000000)),c_,c_,c_])=.ok d_:=by
   by_cases h:x∈s.ks
   ·have l:y∉s.ks:=λz=>I ⟨h,z⟩;rw[r_ h]at m1;rw[j_ l]at a;simp[bY,eJ,WS.j,e,g2,m1,a]
   ·rw[j_ h]at m1;simp[bY,eJ,WS.j,e,m1]
  rw[t4,aj,e_ rfl];rfl
theorem BZ(n:Nat)(s:WS)(I:WI s)(u:WOk x)(t:WOk y):
  ((i0 (eW ([w,x,y].map .str) [c_,c_,c_,c_])).bind λY=>(hZ (eW ([w,x,y].map .str) [c_,a_ Y,c_,c_])).bind λp=>(cH (eJ s.j ([w,x,y].map .str) [c_,a_ Y,a_ p,c_])).bind λb=>if b=d_ then Ge (b_,s.j)else
   (hV (eW ([w,x,y].map .str) [c_,a_ Y,a_ p,c_])).bind λd=>okJ s.j.dc.length (d_,{s.j with dc:=s.j.dc++[d]}))=.ok (uC s (iw s [x,y])):=by
 have e1:=jv n u 1000000000;have e2:=jv n t 1000000000;have A:gE [.str w,.str x,.str y] 1=.ok (.str x):=rfl;have g2:gE [.str w,.str x,.str y] 2=.ok (.str y):=rfl;have a1:i0 (eW ([w,x,y].map .str) [c_,c_,c_,c_])=.ok (.int (m4 x 1000000000)):=by simp[i0,eW,A,e1]
 have E:∀Y,hZ (eW ([w,x,y].map .str) [c_,a_ Y,c_,c_])=.ok (.int (m4 y 1000000000)):=λY=>by simp[hZ,eW,g2,e2]
 rw[a1,aj,E,aj];have v:s.cs.length<16777216:=by have:=I.cm;omega
 have r:=ji (x:=x) (m:=1000000000) (by decide);have q:=ji (x:=y) (m:=1000000000) (by decide);have t6:cH (eJ s.j ([w,x,y].map .str) [c_,a_ (.int (m4 x 1000000000)),a_ (.int (m4 y 1000000000)),c_])=.ok (q_ (m4 x 1000000000<0\/m4 y 1000000000<=m4 x 1000000000\/19<s.cs.length)):=by
  by_cases h1:m4 x 1000000000<0
  ·simp[cH,eJ,WS.j,ltD,h1]
  ·by_cases h2:m4 y 1000000000<=m4 x 1000000000
   ·simp[cH,eJ,WS.j,ltD,leD,h1,h2]
   ·by_cases o:19<s.cs.length
    ·have h:(19:Int)<(s.cs.length:Int):=by omega
     simp[cH,eJ,WS.j,ltD,leD,gtD,h1,h2,o,h]
    ·have h:¬(19:Int)<(s.cs.length:Int):=by omega
     simp[cH,eJ,WS.j,ltD,leD,gtD,h1,h2,o,h]
 rw[t6,aj];by_cases c:m4 x 1000000000<0\/m4 y 1000000000<=m4 x 1000000000\/19<s.cs.length
 ·rw[r_ c,e_ rfl];have:iw s [x,y]=c_:=by
   unfold iw;dsimp only;cases ex:d6 x with
   |none=>rfl|some i=>
   cases B:d6 y with
   |none=>rfl|some j=>
   dsimp only;refine k_ λg=>?_;simp only[l_,Gd]at g;obtain⟨H,G,F,C⟩:=(⟨g.1,Av.mp g.2⟩:s.cs.length<20/\0<=i/\i<j/\j<=1000000000)
   rw[eP ex (by omega),eP B C]at c;omega
  rw[this];rfl
 ·rw[j_ c,k_ (by decide)];simp only[Mb]at c;obtain⟨b1,b2,b3⟩:=c;obtain⟨i,hi,f⟩:∃i,d6 x=a_ i/\i<=1000000000:=Gz λz=>b1 (r.mpr z);have e:=eP hi f;obtain⟨j,l,a⟩:∃j,d6 y=a_ j/\j<=1000000000:=Gz λz=>by
   have h1:=q.mpr z;omega
  have k:=eP l a;rw[e,k]at b2 ⊢;rw[e]at b1;have:iw s [x,y]=a_ {s with cs:=s.cs++[(i,j)]}:=by unfold iw;dsimp only;rw[hi,l];dsimp only;refine e_ ?_;rw[l_,Gd];exact⟨by omega,Av.mpr ⟨by omega,by omega,a⟩⟩
  rw[this];have D:hV (eW ([w,x,y].map .str) [c_,a_ (.int i),a_ (.int j),c_])=.ok (stD (i,j)):=by simp[hV,eW,stD]
  rw[D,aj,wY (by show(s.cs.map stD).length<_;rw[u_];exact v)];simp[uC,WS.j]
theorem fl_chain{f:M A3}{i g Y:A3->M Bool}{a:M (Bool×Jst)}{X:A3->M (Bool×Jst)}{d:A3}{e c I:Bool}(h:f=.ok d)(k:i d=.ok e)(j:g d=.ok c)(b:Y d=.ok I):
  (f.bind λd=>(i d).bind λz=>if z=d_ then a else(g d).bind λz=>if z=d_ then a else(Y d).bind λz=>if z=d_ then a else X d)=if (e||(c||I))=d_ then a else X d:=by
 rw[h,aj,k,aj,j,aj,b,aj];cases e<;>cases c<;>cases I<;>rfl
theorem BY(n:Nat)(s:WS)(I:WI s){k a b c d:p_}(h1:WOk nm)(ha:WOk a)(hb:WOk b)(hc:WOk c)(hd:WOk d):
  ((hI (eW ([w,nm,k,a,b,c,d].map .str) [c_,c_,c_,c_])).bind λdn=>
   (eQ (eJ s.j ([w,nm,k,a,b,c,d].map .str) [c_,c_,c_,a_ dn])).bind λz=>if z=d_ then Ge (b_,s.j)else
   (gR (eJ s.j ([w,nm,k,a,b,c,d].map .str) [c_,c_,c_,a_ dn])).bind λz=>if z=d_ then Ge (b_,s.j)else
   (dG (eJ s.j ([w,nm,k,a,b,c,d].map .str) [c_,c_,c_,a_ dn])).bind λz=>if z=d_ then Ge (b_,s.j)else
   (fH (eW ([w,nm,k,a,b,c,d].map .str) [c_,c_,c_,a_ dn])).bind λr=>(fE (eJ {s.j with dn:=s.j.dn++[r]} ([w,nm,k,a,b,c,d].map .str) [c_,c_,c_,a_ dn])).bind λf=>if (gL f&&q_ (s.j.dn.length<f_))=d_ then okJ s.j.df.length (d_,{s.j with dn:=s.j.dn++[r],df:=s.j.df++[f]})else stk)=.ok (uC s (ke s [nm,k,a,b,c,d])):=by
 have e5:=x4 n h1;have v1:=jv n ha 1000000000;have v2:=jv n hb 1000000000;have v3:=jv n hc 1000000000;have v4:=jv n hd 1000000000;have n1:=ji (x:=a) (m:=1000000000) (by decide);have n2:=ji (x:=b) (m:=1000000000) (by decide);have n3:=ji (x:=c) (m:=1000000000) (by decide);have n4:=ji (x:=d) (m:=1000000000) (by decide);have m1:=qz k s.ks;have m2:=inS nm (s.nf.map (·.1));generalize H:m4 a 1000000000=g at *;generalize G:m4 b 1000000000=e at *;generalize E:m4 c 1000000000=l at *;generalize D:m4 d 1000000000=j at *;have N:hI (eW ([w,nm,k,a,b,c,d].map .str) [c_,c_,c_,c_])=.ok (.lst [.int g,.int e,.int l,.int j]):=by
  have es:dQ (.lst [.str w,.str nm,.str k,.str a,.str b,.str c,.str d]) (a_ 3) c_=.ok (.lst [.str a,.str b,.str c,.str d]):=by simp[dQ,Bo,cX]
  have cm:bw (.nm 0) gZ (fL (bo) (aa (ai 0) (aa (f2 Ed (fC (.int 10)) (fC (.int 9))) aD))) [c_] [.str a,.str b,.str c,.str d]=.ok [.int g,.int e,.int l,.int j]:=by simp[bw,v1,v2,v3,v4]
  simp[hI,eW,es,cm,ig]
 generalize hW:([w,nm,k,a,b,c,d].map A3.str)=W at N ⊢;have g1:gE W 1=.ok (.str nm):=by rw[<- hW];rfl
 have g2:gE W 2=.ok (.str k):=by rw[<- hW];rfl
 have P:gE [.int g,.int e,.int l,.int j] 0=.ok (.int g):=rfl;have O:gE [.int g,.int e,.int l,.int j] 1=.ok (.int e):=rfl;have q2:gE [.int g,.int e,.int l,.int j] 2=.ok (.int l):=rfl;have q3:gE [.int g,.int e,.int l,.int j] 3=.ok (.int j):=rfl;have t8:eQ (eJ s.j W [c_,c_,c_,a_ (.lst [.int g,.int e,.int l,.int j])])=.ok (!jK nm||q_ (nm∈s.nf.map (·.1))):=by
  cases U:jK nm with
  |false=>rw[U]at e5;simp[eQ,eJ,g1,e5]|true=>rw[U]at e5;simp[eQ,eJ,WS.j,g1,e5,m2,-Gf]
 have mn:=min4 g e l j;have C:=min4_neg g e l j;have t9:gR (eJ s.j W [c_,c_,c_,a_ (.lst [.int g,.int e,.int l,.int j])])=.ok (!decide (k∈s.ks)||q_ (g<0\/e<0\/l<0\/j<0)):=by
  by_cases u:k∈s.ks
  ·rw[r_ u]at m1;rw[r_ u];have:q_ (mD (mD (mD g e) l) j<0)=q_ (g<0\/e<0\/l<0\/j<0):=by rw[decide_eq_decide];exact C
   show(((f2 ib (f2 ixD (ai 1) (fC (.int 2))) (ai 2)) _).bind asB).bind (λb=>if b=d_ then .ok d_ else(((fL minD (aa (ai 10) aD)) (eJ s.j W [c_,c_,c_,a_ (.lst [.int g,.int e,.int l,.int j])])).bind λx=>ltD x (.int 0)).bind asB)=_;have z1:(f2 ib (f2 ixD (ai 1) (fC (.int 2))) (ai 2)) (eJ s.j W [c_,c_,c_,a_ (.lst [.int g,.int e,.int l,.int j])])=.ok (.bl b_):=by simp[eJ,WS.j,g2,m1]
   rw[z1];show((minD [.lst [.int g,.int e,.int l,.int j]]).bind λx=>ltD x (.int 0)).bind asB=_;rw[mn,aj];show Ge (q_ (mD (mD (mD g e) l) j<0))=_;rw[this];rfl
  ·rw[j_ u]at m1;rw[j_ u];simp[gR,eJ,WS.j,g2,m1]
 have t10:dG (eJ s.j W [c_,c_,c_,a_ (.lst [.int g,.int e,.int l,.int j])])=.ok (q_ (e<g)||q_ (39<s.nf.length)):=by
  by_cases h:e<g
  ·simp[dG,eJ,P,O,gtD,h]
  ·by_cases h2:39<s.nf.length
   ·have h3:(39:Int)<(s.nf.length:Int):=by omega
    simp[dG,eJ,WS.j,P,O,gtD,h,h2,h3]
   ·have h3:¬(39:Int)<(s.nf.length:Int):=by omega
    simp[dG,eJ,WS.j,P,O,gtD,h,h2,h3]
 refine(fl_chain N t8 t9 t10).trans ?_;generalize Z:((fH (eW W [c_,c_,c_,a_ (.lst [.int g,.int e,.int l,.int j])])).bind λr=>(fE (eJ {s.j with dn:=s.j.dn++[r]} W [c_,c_,c_,a_ (.lst [.int g,.int e,.int l,.int j])])).bind λf=>if (gL f&&q_ (s.j.dn.length<f_))=d_ then okJ s.j.df.length (d_,{s.j with dn:=s.j.dn++[r],df:=s.j.df++[f]})else stk)=X;unfold ke;dsimp only;cases U:jK nm with
 |false=>simp[uC]|true=>
 by_cases hm:nm∈s.nf.map (·.1)
 ·rw[r_ hm];simp[uC]
 rw[j_ hm];by_cases u:k∈s.ks
 rotate_left
 ·rw[j_ u];simp[uC]
 rw[r_ u];by_cases h4:s.nf.length<40
 rotate_left
 ·have:q_ ((s.nf.map (·.1)).length<40)=b_:=j_ (by simpa using h4);rw[this,r_ (show 39<s.nf.length by omega)];by_cases Y:g<0\/e<0\/l<0\/j<0
  ·rw[r_ Y];simp[uC]
  ·rw[j_ Y];simp[uC]
 have h40:q_ ((s.nf.map (·.1)).length<40)=d_:=r_ (by simpa using h4);rw[h40,j_ (show ¬39<s.nf.length by omega)];by_cases Y:g<0\/e<0\/l<0\/j<0
 ·rw[r_ Y];have T:∀p,num4 a b c d=a_ p->flB ⟨kI s.ks k,p.1,p.2.1,p.2.2.1,p.2.2.2⟩=b_:=λp Q=>by
   unfold num4 at Q;split at Q
   ·rename_i q o t d' B A y v;cases Q;cases K:flB ⟨kI s.ks k,q,o,t,d'⟩with
    |false=>rfl|true=>
     have F:=flB_ok (k:=kI s.ks k+1) K (by simp) (by simp;omega);have f1:=F.a;have f2:=F.b;have f3:=F.c;have f4:=F.d;have f5:=F.e;dsimp only at f1 f2 f3 f4 f5;exfalso;rcases Y with h|h|h|h
     ·exact n1.mp h ⟨q,B,by omega⟩
     ·exact n2.mp h ⟨o,A,by omega⟩
     ·exact n3.mp h ⟨t,y,by omega⟩
     ·exact n4.mp h ⟨d',v,by omega⟩
   ·cases Q
  cases hq:num4 a b c d with
  |none=>simp[uC]|some p=>obtain⟨q,o,t,d'⟩:=p;have:=T _ hq;dsimp only at this;simp[uC,this]
 rw[j_ Y];simp only[Mb]at Y;obtain⟨i1,i2,i3,i4⟩:=Y;obtain⟨q,B,ya⟩:∃i,d6 a=a_ i/\i<=1000000000:=Gz λz=>i1 (n1.mpr z);obtain⟨o,A,yb⟩:∃i,d6 b=a_ i/\i<=1000000000:=Gz λz=>i2 (n2.mpr z);obtain⟨t,y,yc⟩:∃i,d6 c=a_ i/\i<=1000000000:=Gz λz=>i3 (n3.mpr z);obtain⟨d',v,yd⟩:∃i,d6 d=a_ i/\i<=1000000000:=Gz λz=>i4 (n4.mpr z);rw[eP B ya]at H;rw[eP A yb]at G;rw[eP y yc]at E;rw[eP v yd]at D;subst H G E D;have h44:num4 a b c d=a_ (q,o,t,d'):=by unfold num4;rw[B,A,y,v]
 rw[h44];dsimp only;have f1:=jr B;have f2:=jr A;have f3:=jr y;have f4:=jr v;by_cases L:o<q
 ·have K:flB ⟨kI s.ks k,q,o,t,d'⟩=b_:=by
   unfold flB;rw[j_ (show ¬q<=o by omega)];rfl
  rw[r_ L];simp[uC,K]
 ·have K:flB ⟨kI s.ks k,q,o,t,d'⟩=d_:=by
   unfold flB rgB;simp only[l_,Gd];omega
  rw[j_ L];have hl:s.nf.length<16777216:=by omega
  have x1:=(xj u).1;have a20:fH (eW W [c_,c_,c_,a_ (.lst [.int q,.int o,.int t,.int d'])])=.ok (.str nm):=by simp[fH,eW,g1]
  have a21:fE (eJ {s.j with dn:=s.j.dn++[.str nm]} W [c_,c_,c_,a_ (.lst [.int q,.int o,.int t,.int d'])])=.ok (flD ⟨kI s.ks k,q,o,t,d'⟩):=by simp[fE,eJ,WS.j,g2,P,O,q2,q3,x1,i8,isL,flD]
  rw[a20,aj,a21,aj]at Z;have R:s.j.dn.length<f_:=by rw[C_];show((s.nf.map (·.1)).map A3.str).length<_;simpa using hl
  have S:s.j.df.length<16777216:=by show((s.nf.map (·.2)).map flD).length<_;simpa using hl
  have ff:gL (flD ⟨kI s.ks k,q,o,t,d'⟩)=d_:=rfl;rw[e_ (by rw[ff,r_ R];rfl),wY S]at Z;rw[<- Z];simp[uC,K,WS.j]
end
theorem len0{r:List α}(h:r.length=0):r=[]:=Ia.mp h
theorem D7{r:List α}(h:r.length=n+1):∃x t,r=x::t/\t.length=n:=by
 cases r with
 |nil=>cases h|cons x t=>exact⟨x,t,rfl,by simpa using h⟩
section
variable(CR CP CS CW CD:g_)
theorem one_any(n:Nat)(s:WS)(I:WI s)(q:s.g.length<10000000/\s.b.length<10000000)(w:p_)(r:List p_)(Y:∀x∈r,WOk x):g6 s.j ((w::r).map .str)=.ok (uC s (nE s w r)):=by
 have e:∀ρ,ai 1 (eJ s.j ((w::r).map .str) ρ)=.ok (.lst ((w::r).map .str)):=λρ=>rfl;unfold g6 oneD;dsimp only;have K:oi (eJ s.j ((w::r).map .str) [c_,c_,c_,c_])=.ok (q_ (w=wK/\r.length=1)):=and_t (e _) wK 1 2 rfl;have H:oh (eJ s.j ((w::r).map .str) [c_,c_,c_,c_])=.ok (q_ ((w=wG\/w=wB)/\r.length=3)):=and_g (e _);have G:mh (eJ s.j ((w::r).map .str) [c_,c_,c_,c_])=.ok (q_ (w=wC/\r.length=2)):=and_t (e _) wC 2 3 rfl;have F:m9 (eJ s.j ((w::r).map .str) [c_,c_,c_,c_])=.ok (!decide (w=wF/\r.length=6)):=or_f (e _);rw[K,aj];by_cases h1:w=wK/\r.length=1
 ·rw[r_ h1,e_ rfl];obtain⟨x,r',rfl,f⟩:=D7 h1.2;cases len0 f;have:=one_kind n s I (w:=w) (Y x (by simp));unfold nE;rw[e_ h1.1];exact this
 rw[j_ h1,k_ (by decide),H,aj];by_cases g:(w=wG\/w=wB)/\r.length=3
 ·rw[r_ g,e_ rfl];obtain⟨x,p,rfl,f⟩:=D7 g.2;obtain⟨y,r2,rfl,i⟩:=D7 f;obtain⟨v,A,rfl,o⟩:=D7 i;cases len0 o;have E:w≠wK:=λz=>g.1.elim (λu=>rF.1 (u.symm.trans z)) λu=>rF.2.1 (u.symm.trans z);unfold nE;rw[k_ E];by_cases m:w=wG
  ·rw[e_ m];exact Ek n s b_ q (x:=x) (y:=y) m (Y v (by simp))
  ·have t:w=wB:=g.1.elim (λu=>Gb u m) id;rw[k_ m,e_ t];exact Ek n s d_ q (x:=x) (y:=y) t (Y v (by simp))
 rw[j_ g,k_ (by decide),G,aj];by_cases l:w=wC/\r.length=2
 ·rw[r_ l,e_ rfl];obtain⟨x,p,rfl,f⟩:=D7 l.2;obtain⟨y,r2,rfl,i⟩:=D7 f;cases len0 i;have z:=l.1;unfold nE;rw[k_ (λu=>rF.2.2.2.1 (z.symm.trans u)),k_ (λu=>rF.2.2.2.2.1 (z.symm.trans u)),k_ (λu=>rF.2.2.2.2.2.1 (z.symm.trans u)),e_ z];exact BZ n s I (Y x (by simp)) (Y y (by simp))
 rw[j_ l,k_ (by decide),F,aj];by_cases j:w=wF/\r.length=6
 ·rw[r_ j,k_ (by decide)];obtain⟨nm,p,rfl,f⟩:=D7 j.2;obtain⟨k,r2,rfl,i⟩:=D7 f;obtain⟨a,A,rfl,o⟩:=D7 i;obtain⟨b,O,rfl,D⟩:=D7 o;obtain⟨c,N,rfl,C⟩:=D7 D;obtain⟨d,L,rfl,B⟩:=D7 C;cases len0 B;have z:=j.1;unfold nE;rw[k_ (λu=>rF.2.2.2.2.2.2.1 (z.symm.trans u)),k_ (λu=>rF.2.2.2.2.2.2.2.1 (z.symm.trans u)),k_ (λu=>rF.2.2.2.2.2.2.2.2.1 (z.symm.trans u)),k_ (λu=>rF.2.2.2.2.2.2.2.2.2 (z.symm.trans u)),e_ z];exact BY n s I (Y nm (by simp)) (Y a (by simp)) (Y b (by simp)) (Y c (by simp)) (Y d (by simp))
 rw[j_ j,e_ (show(!false)=d_ from rfl)];have:nE s w r=c_:=by
  unfold nE;split
  ·rename_i h;exact EF λz=>h1 ⟨h,z⟩
  split
  ·rename_i h;exact Bb λz=>g ⟨.inl h,z⟩
  split
  ·rename_i h;exact Bb λz=>g ⟨.inr h,z⟩
  split
  ·rename_i h;exact Aa λz=>l ⟨h,z⟩
  split
  ·rename_i h;exact zG λz=>j ⟨h,z⟩
  ·rfl
 rw[this];rfl
end
def rowW(s:WS)(x:p_):Option WS:=match jD x with
 |[]=>a_ s|w::r=>if Ho w "#"=d_ then a_ s else nE s w r
def yk:Nat->List p_->WS->Sum Nat WS
 |_,[],s=>.inr s|k,x::xs,s=>match rowW s x with
  |some s'=>yk (k+1) xs s'|none=>.inl k
theorem AG(I:WI s)(h:rowW s x=a_ s'):WI s'/\s'.g.length<=s.g.length+1/\s'.b.length<=s.b.length+1:=by
 unfold rowW at h;split at h
 ·cases h;exact⟨I,GC _,GC _⟩
 ·split at h
  ·cases h;exact⟨I,GC _,GC _⟩
  ·exact vK I h
theorem yz{r:List Nat}(e:w.cps.toList=c::r):Ho w "#"=q_ (c=35):=by
 have h1:(o_ "#")=⟨#[35]⟩:=by decide +kernel
 rw[h1];obtain⟨⟨l⟩⟩:=w;cases(show l=c::r from e);unfold Ho;simp[Builtin.Str.subAt,Str.length];rfl
section
variable(CR CP CS CW CD:g_)
theorem Dp(n:Nat)(s:WS)(hw:Ho w "#"=d_):bF s.d.D ((w::r).map .str)=.ok (d_,s.d.D):=by
 have t:(fOr (fB (f2 eqM (ai 1) (fL bu aD))) (kM (fSM nI (f2 ixD (ai 1) (fC (.int 0))) (fC (.str "#"))))) [c_,a_ (.lst ((w::r).map .str))]=.ok d_:=by
  have I:gE ((w::r).map A3.str) 0=.ok (.str w):=get0;have e:eqM (.lst ((w::r).map A3.str)) (.lst [])=.ok (.bl b_):=by have h1:C6 (.lst ((w::r).map A3.str)) 40=d_:=jR (w::r) 39;show(if (C6 (.lst ((w::r).map A3.str)) 40&&C6 (.lst []) 40)=d_ then _ else _)=_;rw[e_ (by rw[h1];rfl)];rfl
  simp[e,I,hw,-F_]
 unfold bF nF;show((fOr _ _ _).bind _)=_;rw[t];rfl
theorem row_prog(n:Nat)(s:WS)(I:WI s)(d:s.g.length<10000000/\s.b.length<10000000)(c:x.length<=1000000):o8 (bF s.d.D ((jD x).map .str)) (rowW s x):=by
 have Y:=vH c;unfold rowW;cases hw:jD x with
 |nil=>exact row_none n s.d|cons w r=>
  rw[hw]at Y;dsimp only;cases a:Ho w "#" with
  |true=>rw[e_ rfl];exact Dp n s a|false=>rw[k_ (by decide)];exact take_any n s I d w r a λy b=>Y y (by simp[b])
theorem wo(n:Nat):∀(xs:List p_) (k:Nat) (s:WS),WI s->(∀x∈xs,x.length<=1000000)->s.g.length+xs.length<10000000->s.b.length+xs.length<10000000 ->
  nJ CW "row" (bF) (g7) k (xs.map .str) s.d.D=(match yk k xs s with
   |.inl m=>.error (.exc CW [("row",.int (m:Nat))])|.inr s'=>.ok s'.d.D)
 |[],k,s,_,_,_,_=>rfl|x::xs,k,s,I,a,h1,h2=>by
  simp only[Gi]at h1 h2;have hw:=Dh n (a x (by simp));have Y:=row_prog n s I ⟨by omega,by omega⟩ (a x (by simp));show((noX (g7 [.str x])).bind _)=_;rw[hw];show((noX (bF s.d.D ((jD x).map .str))).bind _)=_;unfold yk;cases b:rowW s x with
  |none=>rw[b]at Y;obtain⟨ds,e⟩:=Y;rw[e];rfl
  |some s'=>rw[b]at Y;have e:bF s.d.D ((jD x).map .str)=.ok (d_,s'.d.D):=Y;rw[e];obtain⟨d,f,g2⟩:=AG I b;exact wo n xs (k+1) s' d (λy c=>a y (by simp[c])) (by omega) (by omega)
theorem AE(n:Nat)(Y:List p_)(b:∀x∈Y,x.length<=1000000)(C:Y.length<=1000001):∀(m k:Nat) (s:WS),WI s->k+m=Y.length->s.g.length+m<10000000->s.b.length+m<10000000 ->
  oY (g6) (cy) (cx) (bh) (cv) (Y.map .str) m k s.j=.ok (match yk (k+1) (Y.drop k) s with
   |.inl q=>.inl (.int (q:Nat))|.inr s'=>.inr s'.j)
 |0,k,s,_,B,_,_=>by rw[L_ (by omega)];rfl|m+1,k,s,I,B,h1,h2=>by
  have d:k<Y.length:=by omega
  rw[IT d];have f:Y[k].length<=1000000:=b _ (IQ d);have hw:=Cm n f;have g:=vH f;have D:gE (Y.map A3.str) (k:Int)=.ok (.str Y[k]):=by have:=kC (ds:=Y.map A3.str) (k:=k) (by simpa using d);rw[this];simp
  have fw:cy (eK (Y.map .str) k c_)=.ok (.lst ((jD Y[k]).map .str)):=by simp[cy,eK,D,hw]
  have a:∀s',WI s'->s'.g.length<=s.g.length+1->s'.b.length<=s.b.length+1->_:=λs' l p g2=>AE n Y b C m (k+1) s' l (by omega) (by omega) (by omega)
  unfold oY yk;rw[fw,aj];dsimp only;unfold rowW;cases i:jD Y[k]with
  |nil=>
   have t3:bh (eK (Y.map .str) k (a_ (.lst [])))=.ok b_:=by have e:neM (.lst []) (.lst [])=.ok (.bl b_):=rfl;simp[bh,eK,e]
   show((bh (eK (Y.map .str) k (a_ (.lst [])))).bind _)=_;rw[t3,aj,k_ (by decide)];exact a s I (GC _) (GC _)
  |cons w r=>
   rw[i]at g;have t3:bh (eK (Y.map .str) k (a_ (.lst ((w::r).map .str))))=.ok d_:=by
    have e:neM (.lst ((w::r).map A3.str)) (.lst [])=.ok (.bl d_):=by have h1:C6 (.lst ((w::r).map A3.str)) 40=d_:=jR (w::r) 39;show(if (C6 (.lst ((w::r).map A3.str)) 40&&C6 (.lst []) 40)=d_ then _ else _)=_;rw[e_ (by rw[h1];rfl)];rfl
    simp[bh,eK,e,-F_]
   rw[t3,aj,e_ rfl];obtain⟨u,F⟩:=g w (by simp);cases j:w.cps.toList with
   |nil=>exact Gb j u|cons c q=>
   have z:=ix0' j (show w.length<=16777216 by omega);have t:(o_ "#")=⟨#[35]⟩:=by decide +kernel
   have E:gE ((w::r).map A3.str) 0=.ok (.str w):=get0;have e1:neM (.str ⟨#[c]⟩) (.str "#")=.ok (.bl (!decide (c=35))):=by
    rw[t,neS]
    congr 3
    rw[decide_eq_decide];constructor
    ·intro h;have:=HI Str.cps h;simpa using this
    ·intro h;rw[h]
   have t4:cv (eK (Y.map .str) k (a_ (.lst ((w::r).map .str))))=.ok (!decide (c=35)):=by simp[cv,eK,E,z,e1,-F_]
   rw[t4,aj];dsimp only;rw[yz j];by_cases o:c=35
   ·rw[r_ o,k_ (by decide),e_ rfl];exact a s I (GC _) (GC _)
   ·rw[j_ o,e_ (show(!false)=d_ from rfl),k_ (by decide),one_any n s I ⟨by omega,by omega⟩ w r λy v=>g y (by simp[v]),aj];cases A:nE s w r with
    |some s'=>obtain⟨l,p,g2⟩:=vK I A;exact(e_ rfl).trans (a s' l p g2)
    |none=>
     have fr:cx (eK (Y.map .str) k (a_ (.lst ((w::r).map .str))))=.ok (.int ((k+1:Nat):Int)):=by simp[cx,eK]
     refine(k_ (show ¬(b_=d_) by decide)).trans ?_;rw[fr,aj]
end
noncomputable def w0:WS:=⟨[],[],[],[],[]⟩
theorem Di:WI w0:=⟨.nil,by decide,by simp[w0],λ_ h=>(nomatch h),λ_ h=>(nomatch h),by decide,by simp[w0],.nil,by decide,by simp[w0]⟩
def tbW(ks:List p_)(g:PKs):List (List Int):=ks.map λx=>ks.map λy=>(yn g (x,y)).getD 0
def WS.sh(s:WS):Sht:=⟨s.ks,tbW s.ks s.g,if s.b.isEmpty=d_ then c_ else a_ (tbW s.ks s.b),s.nf,s.cs⟩
theorem getP_in{g:PKs}(h:Bt ks g)(k:p_×p_):0<=(yn g k).getD 0/\(yn g k).getD 0<=1000000:=by
 unfold yn;cases e:g.find? λp=>q_ (p.1=k)with
 |none=>simp|some p=>exact(h p (List.mem_of_find?_eq_some e)).2.2
theorem Ao{g:PKs}(h:Bt ks g):eA ks.length (tbW ks g):=by
 refine⟨by unfold tbW;simp,λr I=>?_⟩
 obtain⟨x,_,rfl⟩:=GJ.mp I;refine⟨by simp,λv hv=>?_⟩
 obtain⟨y,_,rfl⟩:=GJ.mp hv;exact getP_in h _
theorem tbW_tb(b:ks.Nodup){g:PKs}(h:Bt ks g):Tb ks.length (enc ks g) (tR (tbW ks g)):=λa c Y I=>by
 have f:kI ks ks[a]=a:=by unfold kI;rw[idx_at b Y];rfl
 have d:kI ks ks[c]=c:=by unfold kI;rw[idx_at b I];rfl
 have e:=zJ (IQ Y) (IQ I) h;rw[f,d]at e;rw[e];have:tR (tbW ks g) a c=(yn g (ks[a],ks[c])).getD 0:=by show wq ((tbW ks g).getD a []) c=_;unfold wq tbW;simp[List.getD_eq_getElem?_getD,Y,I]
 rw[this];cases yn g (ks[a],ks[c])<;>rfl
theorem WS.sg(I:WI s)(Y:s.ks≠[]):s.sh.SG where
 k1:=List.length_pos_iff.mpr Y
 k6:=I.k6
 kn:=I.kn
 kd:=I.kd
 rows:=Ao I.gi
 o:=λr2 h=>by
  have h:(if s.b.isEmpty=d_ then c_ else a_ (tbW s.ks s.b))=a_ r2:=h;split at h
  ·cases h
  ·cases h;exact Ao I.bi
 nm:=I.nm
 nn:=I.nn
 nd:=I.nd
 cm:=I.cm
 cl:=I.cl
theorem WS.desc(I:WI s):Desc s.d s.sh where
 ks:=rfl
 nf:=rfl
 cs:=rfl
 g:=tbW_tb I.kd I.gi
 b0:=λh=>by
  have h:(if s.b.isEmpty=d_ then c_ else a_ (tbW s.ks s.b))=c_:=h;split at h
  ·rename_i Y;have:s.b=[]:=by simpa using Y
   show enc s.ks s.b=[]
   rw[this];rfl
  ·cases h
 b1:=λr2 h=>by
  have h:(if s.b.isEmpty=d_ then c_ else a_ (tbW s.ks s.b))=a_ r2:=h;split at h
  ·cases h
  ·rename_i Y;cases h;refine⟨λe=>Y ?_,tbW_tb I.kd I.bi⟩
   have e:enc s.ks s.b=[]:=e;unfold enc at e;rw[Kr]at e;rw[e];rfl
theorem pe:∀(xs:List p_) (k:Nat) (s:WS),WI s->∀s',yk k xs s=.inr s'->WI s'
 |[],_,s,I,s',h=>by cases h;exact I|x::xs,k,s,I,s',h=>by
  unfold yk at h;cases Y:rowW s x with
  |none=>rw[Y]at h;cases h|some a=>rw[Y]at h;exact pe xs (k+1) a (AG I Y).1 s' h
theorem Dq(ks:List p_)(g:PKs):tabJ g ks=aY (tbW ks g):=by
 unfold tabJ aY tbW;rw[Gf]
 congr 1
 refine H_ λx _=>?_;show rowJ g ks x=pT _;unfold rowJ pT;rw[Gf];rfl
section
variable(CR CP CS CW CD:g_)
def dueW(x:p_):A3:=match yk 1 (cO x) w0 with
 |.inl q=>.int (q:Nat)|.inr s=>if s.ks=[]then .int 0 else s.sh.D
theorem Cq(n:Nat)(l:x.length<=1000000):gX [.str x]=.ok (dueW x):=by
 obtain⟨h1,h2,m⟩:=AF x;have f:(o_ "\n").length=1:=by decide +kernel
 have c:x.length+2<=16777216:=by omega
 have f0:fK (eT x)=.ok (.lst ((cO x).map .str)):=by simp[fK,eT,f,c,cO]
 have Y:=AE n (cO x) (λy g=>by have:=h2 y g;omega) (by omega) (cO x).length 0 w0 Di (by omega) (by show 0+_<_;omega) (by show 0+_<_;omega);rw[Kj]at Y;have b:tf (g6) (fK) (cy) (cx) (ir) (bh) (cv) (eS) x=.ok (dueW x):=by
  unfold tf;rw[f0,aj];dsimp only;rw[e_ (by rw[C_,u_];omega),u_];have Y:oY (g6) (cy) (cx) (bh) (cv) ((cO x).map .str) (cO x).length 0 s0J=_:=Y;rw[Y,aj];unfold dueW;cases h:yk 1 (cO x) w0 with
  |inl q=>rfl|inr s=>
   dsimp only;have I:=pe _ _ _ Di s h;have e4:eS (eM s.j c_)=.ok (q_ (s.ks=[])):=by
    have e:eqM (.lst (s.ks.map A3.str)) (.lst [])=.ok (.bl (q_ (s.ks=[]))):=by have h1:C6 (.lst (s.ks.map A3.str)) 40=d_:=jR s.ks 39;show(if (C6 (.lst (s.ks.map A3.str)) 40&&C6 (.lst []) 40)=d_ then _ else _)=_;rw[e_ (by rw[h1];rfl)];cases s.ks<;>rfl
    simp[eS,eM,WS.j,e]
   rw[e4,aj];by_cases a:s.ks=[]
   ·rw[r_ a,e_ rfl,e_ a]
   ·rw[j_ a,k_ (by decide),k_ a];rw[show gA s.j.dk=.ok s.ks from i8 s.ks,aj,e_ (by rw[C_];have:=I.k6;omega)];have k:zu s.j s.ks=[aY (tbW s.ks s.g),s.sh.bD]:=by
     unfold zu;rw[Dq,Dq];show [aY (tbW s.ks s.g),if s.b.isEmpty=d_ then A3.non else aY (tbW s.ks s.b)]=_;unfold Sht.bD WS.sh;cases s.b.isEmpty<;>rfl
    rw[k];have j:gE [aY (tbW s.ks s.g),s.sh.bD] 0=.ok (aY (tbW s.ks s.g)):=rfl;have i:gE [aY (tbW s.ks s.g),s.sh.bD] 1=.ok s.sh.bD:=rfl;simp[ir,eM,WS.j,j,i,Sht.D,Sht.kD,Sht.nD,Sht.fD,Sht.cD,-Gf];exact⟨rfl,rfl,rfl,rfl,rfl⟩
 show(((tf _ _ _ _ _ _ _ _ x).bind λd=>Ge (A9.rt d)).bind _)=_;rw[b];rfl
theorem read_any(a:CR≠CP)(n:Nat)(v:x.length<=1000000):du CR CP CS CW CD n [.str x]=(match yk 1 (cO x) w0 with
  |.inl q=>.error (.exc CW [("row",.int (q:Nat))])|.inr s=>if s.ks=[]then .error (.exc CW [("row",.int 0)])else .ok (s.sh.obj CR CP CS)):=by
 obtain⟨h1,h2,w⟩:=AF x;have m:(o_ "\n").length=1:=by decide +kernel
 have l:x.length+2<=16777216:=by omega
 have p:(fSM oj (ai 0) (fC (.str "\n"))) [a_ (.str x),c_,c_,c_]=.ok (.lst ((cO x).map .str)):=by simp[m,l,cO]
 have g:=wo CW n (cO x) 1 w0 Di (λy o=>by have:=h2 y o;omega) (by show 0+_<_;omega) (by show 0+_<_;omega);have c:iR CR CP CS CW CD n [a_ (.str x),c_,c_,c_]=(match yk 1 (cO x) w0 with
  |.inl q=>.error (.exc CW [("row",.int (q:Nat))])|.inr s=>if s.ks=[]then .error (.exc CW [("row",.int 0)])else .ok (.rt (s.sh.obj CR CP CS))):=by
  unfold iR pS;refine(e_ (show(q_ (1<4)&&q_ (2<4)&&q_ (3<4))=d_ from rfl)).trans ?_;show(noX ((fSM oj (ai 0) (fC (.str "\n"))) [a_ (.str x),c_,c_,c_])).bind _=_;rw[p];show(nJ CW "row" _ _ 1 ((cO x).map .str) ds0).bind _=_;have g:nJ CW "row" (bF) (g7) 1 ((cO x).map .str) ds0=_:=g;rw[g];cases j:yk 1 (cO x) w0 with
  |inl q=>rfl|inr s=>
   have I:=pe _ _ _ Di s j;dsimp only;rw[aj];obtain⟨a1,A,z,h,f,d⟩:=dr_at (CD:=CD) s.d;have a1:bM [CD] "kinds" (drD CD s.d.D)=.ok (.lst (s.ks.map .str)):=a1;have e:eqM (.lst (s.ks.map A3.str)) (.lst [])=.ok (.bl (q_ (s.ks=[]))):=by have h1:C6 (.lst (s.ks.map A3.str)) 40=d_:=jR s.ks 39;show(if (C6 (.lst (s.ks.map A3.str)) 40&&C6 (.lst []) 40)=d_ then _ else _)=_;rw[e_ (by rw[h1];rfl)];cases s.ks<;>rfl
   by_cases Y:s.ks=[]
   ·rw[r_ Y]at e;rw[e_ Y];have b:cj CR CP CS CW CD n [a_ (.str x),a_ (drD CD s.d.D),c_,c_]=.error (.exc CW [("row",.int 0)]):=by
     simp[cj,a1,e]
    rw[mX];show((cj CR CP CS CW CD n [a_ (.str x),a_ (drD CD s.d.D),c_,c_]).bind _)=_;rw[b];rfl
   ·rw[j_ Y]at e;rw[k_ Y];have b:cj CR CP CS CW CD n [a_ (.str x),a_ (drD CD s.d.D),c_,c_]=.ok (.nx [a_ (.str x),a_ (drD CD s.d.D),c_,c_]):=by
     simp[cj,a1,e]
    have i:=WS.sg I Y;have t:=CI (CR:=CR) (CP:=CP) (CS:=CS) (CW:=CW) (CD:=CD) n i (WS.desc I);have r:=text_ok CR CP CS CW CD a n i.good;have u:newS CS (dS CR CP CS CW CD n) [.lst (s.ks.map .str),s.sh.ru CR CP,.lst ((s.nf.map (·.1)).map .str),.lst ((s.nf.map (·.2)).map flD),.lst (s.cs.map stD)]=.ok (s.sh.obj CR CP CS):=by show(dS CR CP CS CW CD n [s.sh.kD,s.sh.ru CR CP,s.sh.nD,s.sh.fD,s.sh.cD]).bind _=_;rw[r];rfl
    have h:bM [CD] "names" (drD CD s.d.D)=.ok (.lst ((s.nf.map (·.1)).map .str)):=h;have f:bM [CD] "flights" (drD CD s.d.D)=.ok (.lst ((s.nf.map (·.2)).map flD)):=f;have d:bM [CD] "closed" (drD CD s.d.D)=.ok (.lst (s.cs.map stD)):=d;rw[mX];show((cj CR CP CS CW CD n [a_ (.str x),a_ (drD CD s.d.D),c_,c_]).bind _)=_;rw[b,aj];have k:(cC (fL (newS CS (dS CR CP CS CW CD n)) (aa (f1 (bM [CD] "kinds") (ai 1)) (aa (fL (cw CR CP CS CW CD n) (aa (ai 1) aD)) (aa (f1 (bM [CD] "names") (ai 1)) (aa (f1 (bM [CD] "flights") (ai 1)) (aa (f1 (bM [CD] "closed") (ai 1)) aD))))))) [a_ (.str x),a_ (drD CD s.d.D),c_,c_]=.ok (.rt (s.sh.obj CR CP CS)):=by simp[a1,h,f,d,t,u,-Gf]
    show noX (cC _ [a_ (.str x),a_ (drD CD s.d.D),c_,c_])=_;rw[k];rfl
 unfold du;rw[e_run];rw[e_ (show [A3.str x].length=1 from rfl)];show((iR CR CP CS CW CD n [a_ (.str x),c_,c_,c_]).bind _)=_;rw[c];cases j:yk 1 (cO x) w0 with
 |inl q=>rfl|inr s=>
  dsimp only;by_cases Y:s.ks=[]
  ·rw[e_ Y,e_ Y];rfl
  ·rw[k_ Y,k_ Y];rfl
end
section
variable(CR CP CS CW CD:g_)
theorem told_any(b:CR≠CP)(n:Nat)(g:x.length<=1000000):eB CR CP CS CW CD n [.str x]=.ok (match yk 1 (cO x) w0 with
  |.inl q=>.lst [.non,.int (q:Nat),.bl d_,.bl d_,.bl b_]|.inr s=>if s.ks=[]then .lst [.non,.int 0,.bl d_,.bl d_,.bl b_]else .lst [s.sh.obj CR CP CS]):=by
 have I:=read_any CR CP CS CW CD b n g;have Y:∀q:Int,du CR CP CS CW CD n [.str x]=.error (.exc CW [("row",.int q)])->eB CR CP CS CW CD n [.str x]=.ok (.lst [.non,.int q,.bl d_,.bl d_,.bl b_]):=λq h=>by
  have c:fU CR CP CS CW CD n [a_ (.str x),a_ (.lst []),c_]=.ok (.nx [a_ (.str x),a_ (.lst [.non,.int q,.bl d_,.bl d_,.bl b_]),c_]):=by
   unfold fU;rw[tI (f:=("row",.int q)) (fs:=[]) (by show(((du CR CP CS CW CD n [.str x]).bind λa=>Ge [a]).bind bu).bind _=_;rw[h];rfl)]
   rw[e_xToldN];rfl
  simp[eB,lL,c]
 cases d:yk 1 (cO x) w0 with
 |inl q=>rw[d]at I;exact Y _ I|inr s=>
  rw[d]at I;dsimp only at I ⊢;by_cases e:s.ks=[]
  ·rw[e_ e]at I ⊢;exact Y _ I
  ·rw[k_ e]at I ⊢;have c:fU CR CP CS CW CD n [a_ (.str x),a_ (.lst []),c_]=.ok (.nx [a_ (.str x),a_ (.lst [s.sh.obj CR CP CS]),c_]):=by
    unfold fU;exact xA (by show(((du CR CP CS CW CD n [.str x]).bind λa=>Ge [a]).bind bu).bind _=_;rw[I,aj,aj];unfold bu;rw[e_ (by show 1<=f_;rw[C_];decide)];rfl)
   simp[eB,lL,c]
theorem wt(b:CR≠CP)(n:Nat)(h:x.length<=1000000):bZ CR CP CS CW CD n [.str x]=.ok (.bl d_):=by
 have Y:=Cq n h;have a:=told_any CR CP CS CW CD b n h;unfold dueW at Y;have c:∀q:Int,gX [.str x]=.ok (.int q)->eB CR CP CS CW CD n [.str x]=.ok (.lst [.non,.int q,.bl d_,.bl d_,.bl b_])->bZ CR CP CS CW CD n [.str x]=.ok (.bl d_):=λq h1 h2=>by
  have e:eqM (.lst [.non,.int q,.bl d_,.bl d_,.bl b_]) (.lst [.non,.int q,.bl d_,.bl d_,.bl b_])=.ok (.bl d_):=yB rfl;have k:gE [.non,.int q,.bl d_,.bl d_,.bl b_] 1=.ok (.int q):=rfl;have w1:dv [.int q]=.ok (.bl d_):=by simp[dv,k8,iq]
  have g:eh [a_ (.str x),a_ (.int q),a_ (.lst [.non,.int q,.bl d_,.bl d_,.bl b_])]=.ok (.rt (.bl d_)):=by simp[eh,e,k,w1,iq]
  simp[bZ,kb,h1,h2,g]
 cases d:yk 1 (cO x) w0 with
 |inl q=>rw[d]at Y a;exact c _ Y a|inr s=>
  rw[d]at Y a;dsimp only at Y a;by_cases f:s.ks=[]
  ·rw[e_ f]at Y a;exact c _ Y a
  ·rw[k_ f]at Y a;have I:=pe _ _ _ Di s d;have i:=WS.sg I f;have m:=is_ok CR CP CS CW CD b n i.good;have j:iP s.sh.D=.ok (.bl b_):=rfl;have e1:eqM (.int 1) (.int 1)=.ok (.bl d_):=yB rfl;have l:gE [s.sh.obj CR CP CS] 0=.ok (s.sh.obj CR CP CS):=rfl;have g:eh [a_ (.str x),a_ s.sh.D,a_ (.lst [s.sh.obj CR CP CS])]=.ok (.nx [a_ (.str x),a_ s.sh.D,a_ (.lst [s.sh.obj CR CP CS])]):=by
    simp[eh,j]
   simp[bZ,kb,Y,a,g,e1,l,m,iq]
end
theorem ixS_at{i:Int}(a:0<=i)(h:z.cps.toList[i.toNat]?=a_ c)(I:z.length<=100):ym (.str z) (.int i)=.ok (.str ⟨#[c]⟩):=by
 have Y:z.length<=f_:=Gw I (by decide);have d:=(tF.mp h).1;have b:atI z.cps.toList i=a_ c:=by unfold atI ixN;rw[e_ (show 0<=i from a),e_ (by omega)];exact h
 show(if z.length<=f_ then(match atI z.cps.toList i with
  |some c=>Ge (A3.str ⟨#[c]⟩)|none=>stk)else stk)=_
 rw[e_ Y,b]
theorem B5(I:p_):∀xs:List p_,(Hv I xs).length<=(xs.map (·.length)).sum+xs.length*I.length
 |[]=>GS _|[a]=>by rw[join_one];simp|a::b::r=>by have Y:=B5 I (b::r);rw[B4,vA,vA];simp only[F_,NX,Gi,Nat.add_mul]at Y ⊢;omega
noncomputable abbrev Pr:=A3->Prop
variable{P Q R:Pr}{Ps:List Pr}
def S'(b:Nat):Pr:=λd=>∃z:p_,d=.str z/\z.length<=b
def X'(a:Nat):Pr:=λd=>∃z:p_,d=.str z/\z.length=a
def I'(a b:Int):Pr:=λd=>∃x,d=.int x/\a<=x/\x<=b
def L'(a b:Nat)(P:Pr):Pr:=λd=>∃xs,d=.lst xs/\a<=xs.length/\xs.length<=b/\∀x∈xs,P x
def A2:List Pr->List A3->Prop
 |[],[]=>True|P::Ps,d::ds=>P d/\A2 Ps ds|_,_=>False
def T'(Ps:List Pr):Pr:=λd=>∃xs,d=.tup xs/\A2 Ps xs
abbrev Gm:=List (Option Pr)
variable{Γ Γ1 Γ2 Γ':Gm}{Γb:Nat->Gm}
def E'(Γ:Gm)(ρ:ah):Prop:=ρ.length=Γ.length/\∀(i:Nat) (P:Pr),Γ[i]?=a_ (a_ P)->∃d,ρ[i]?=a_ (a_ d)/\P d
noncomputable def erG:List Nat->Gm->Gm
 |[],Γ=>Γ|i::is,Γ=>erG is (Γ.set i c_)
def Te(Γ:Gm)(f:ah->M A3)(P:Pr):Prop:=∀ρ,E' Γ ρ->∃d,f ρ=.ok d/\P d
def Tl(Γ:Gm)(f:ah->M (List A3))(a b:Nat)(P:Pr):Prop:=∀ρ,E' Γ ρ->∃ds,f ρ=.ok ds/\a<=ds.length/\ds.length<=b/\∀x∈ds,P x
def Ta(Γ:Gm)(f:ah->M (List A3))(Ps:List Pr):Prop:=∀ρ,E' Γ ρ->∃ds,f ρ=.ok ds/\A2 Ps ds
def Tq(Γ:Gm)(f:ah->M Bool):Prop:=∀ρ,E' Γ ρ->∃b,f ρ=.ok b
def J(Γ:Gm)(s:ah->M A9)(Γ':Gm)(R:Pr):Prop:=∀ρ,E' Γ ρ->(∃ρ',s ρ=.ok (.nx ρ')/\E' Γ' ρ')\/∃d,s ρ=.ok (.rt d)/\R d
def Tr(Γ:Gm)(s:ah->M A9)(R:Pr):Prop:=∀ρ,E' Γ ρ->∃d,s ρ=.ok (.rt d)/\R d
theorem E'.set{Γ:Gm}{ρ:ah}(h:E' Γ ρ){d:A3}{P:Pr}(p:P d)(i:Nat):E' (Γ.set i (a_ P)) (ρ.set i (a_ d)):=by
 refine⟨by rw[B_,B_,h.1],λj Q e=>?_⟩
 by_cases c:i=j
 ·subst c;by_cases I:i<Γ.length
  ·rw[s_ I]at e;rw[s_ (h.1▸I)];cases e;exact⟨d,rfl,p⟩
  ·rw[HP (by rw[B_];omega)]at e;cases e
 ·rw[m_ c]at e ⊢;exact h.2 j Q e
theorem E'.hid(h:E' Γ ρ)(i:Nat)(o:Option A3):E' (Γ.set i c_) (ρ.set i o):=by
 refine⟨by rw[B_,B_,h.1],λj Q e=>?_⟩
 by_cases c:i=j
 ·subst c;by_cases I:i<Γ.length
  ·rw[s_ I]at e;cases e
  ·rw[HP (by rw[B_];omega)]at e;cases e
 ·rw[m_ c]at e ⊢;exact h.2 j Q e
theorem E'.er{Γ:Gm}{ρ:ah}(h:E' Γ ρ):∀O,E' (erG O Γ) (erase O ρ)
 |[]=>h|i::O=>(h.hid i c_).er O
theorem tw(h:Te Γ f P)(q:∀d,P d->Q d):Te Γ f Q:=λρ r=>let ⟨d,e,p⟩:=h ρ r;⟨d,e,q d p⟩
theorem tv(h:Γ[i]?=a_ (a_ P)):Te Γ (ai i) P:=λρ r=>by obtain⟨d,e,p⟩:=r.2 i P h;exact⟨d,by unfold ai;rw[e],p⟩
theorem tcX:Te Γ (fC (.str z)) (X' z.length):=λ_ _=>⟨_,rfl,z,rfl,rfl⟩
theorem tcS:Te Γ (fC (.str z)) (S' z.length):=λ_ _=>⟨_,rfl,z,rfl,sy _⟩
theorem tcI{i:Int}:Te Γ (fC (.int i)) (I' i i):=λ_ _=>⟨_,rfl,i,rfl,Kn _,Kn _⟩
theorem t2(h:Te Γ f P)(k:Te Γ g Q)(q:∀d e,P d->Q e->∃r,o d e=.ok r/\R r):Te Γ (f2 o f g) R:=λρ r=>by obtain⟨d,e,p⟩:=h ρ r;obtain⟨d',Y,I⟩:=k ρ r;obtain⟨x,a,b⟩:=q d d' p I;exact⟨x,by unfold f2;rw[e,aj,Y,aj,a],b⟩
theorem taS(h:Te Γ f (S' a))(k:Te Γ g (S' b))(l:a+b<=16777216):Te Γ (f2 bX f g) (S' (a+b)):=t2 h k λ_ _ ⟨x,e,p⟩ ⟨y,I,Y⟩=>by
 subst e;subst I;refine⟨.str (x++y),?_,_,rfl,by rw[vA];omega⟩
 show(if x.length+y.length<=f_ then _ else _)=_;rw[e_ (by rw[C_];omega)]
theorem taX(h:Te Γ f (X' a))(k:Te Γ g (X' b))(l:a+b<=16777216):Te Γ (f2 bX f g) (X' (a+b)):=t2 h k λ_ _ ⟨x,e,p⟩ ⟨y,I,Y⟩=>by
 subst e;subst I;refine⟨.str (x++y),?_,_,rfl,by rw[vA];omega⟩
 show(if x.length+y.length<=f_ then _ else _)=_;rw[e_ (by rw[C_];omega)]
theorem taI{a b c d:Int}(h:Te Γ f (I' a b))(k:Te Γ g (I' c d)):Te Γ (f2 bX f g) (I' (a+c) (b+d)):=t2 h k λ_ _ ⟨x,e,p⟩ ⟨y,I,Y⟩=>by subst e;subst I;exact⟨_,rfl,_,rfl,by omega,by omega⟩
theorem taL{d:Nat}(h:Te Γ f (L' a b P))(k:Te Γ g (L' c d P))(l:b+d<=16777216):Te Γ (f2 bX f g) (L' (a+c) (b+d) P):=t2 h k λ_ _ ⟨x,e,p,p1,p2⟩ ⟨y,i,q,j,I⟩=>by
 subst e;subst i;refine⟨.lst (x++y),?_,_,rfl,by simp;omega,by simp;omega,λz Y=>(GU.mp Y).elim (p2 z) (I z)⟩
 show(if x.length+y.length<=f_ then _ else _)=_;rw[e_ (by rw[C_];omega)]
theorem tmu{a b c d:Int}(h:Te Γ f (I' a b))(k:Te Γ g (I' c d))(j:0<=a)(i:0<=c)(l:b<2^64\/d<2^64):Te Γ (f2 zm f g) (I' 0 (b*d)):=t2 h k λ_ _ ⟨x,e,p⟩ ⟨y,Y,I⟩=>by
 subst e;subst Y;refine⟨.int (x*y),?_,_,rfl,Int.mul_nonneg (by omega) (by omega),LG p.2 I.2 (by omega) (by omega)⟩
 show(if (eU x||eU y)=d_ then _ else _)=_;refine e_ ?_;unfold eU;simp only[Jt,l_,Gd];omega
theorem tmo{a b c d:Int}(h:Te Γ f (I' a b))(k:Te Γ g (I' c d))(i:0<c):Te Γ (f2 jt f g) (I' 0 (d-1)):=t2 h k λ_ _ ⟨x,e,p⟩ ⟨y,I,Y⟩=>by subst e;subst I;have a1:=Kb x (b:=y) (by omega);have j:=JL x (b:=y) (by omega);exact⟨_,e_mod (by omega),_,rfl,a1,by omega⟩
theorem tdi{a b k:Int}(h:Te Γ f (I' a b))(I:0<k/\k<2^64):Te Γ (f2 gF f (fC (.int k))) (I' (a/k) (b/k)):=t2 h tcI λ_ _ ⟨x,e,p⟩ ⟨y,Y,c⟩=>by
 subst e;subst Y;have:y=k:=by omega
 subst this;refine⟨.int (x/y),?_,_,rfl,NF I.1 p.1,NF I.1 p.2⟩
 show(if (q_ (0<y)&&q_ (y<18446744073709551616))=d_ then _ else _)=_;exact e_ (by simp only[l_,Gd];omega)
theorem tln(h:Te Γ f (L' a b P)):Te Γ (fL gY (aa f aD)) (I' a b):=λρ r=>by obtain⟨d,e,xs,I,p,q,_⟩:=h ρ r;subst I;exact⟨.int xs.length,by unfold fL aa;rw[e];rfl,_,rfl,by omega,by omega⟩
theorem tix{c d:Int}(h:Te Γ f (L' a b P))(k:Te Γ g (I' c d))(j:0<=c)(hd:d<a):Te Γ (f2 ixD f g) P:=t2 h k λ_ _ ⟨xs,e,p,_,q⟩ ⟨y,Y,i⟩=>by
 subst e;subst Y;have I:y.toNat<xs.length:=by omega
 refine⟨xs[y.toNat],?_,q _ (IQ I)⟩
 show gE xs y=_;have:=kC (ds:=xs) (k:=y.toNat) I
 rwa [show((y.toNat:Nat):Int)=y by omega]at this
theorem A2.at:∀{Ps:List Pr} {ds:List A3},A2 Ps ds->∀{i:Nat} {P:Pr},Ps[i]?=a_ P->∃d,ds[i]?=a_ d/\P d
 |[],[],_,_,_,h=>nomatch h
 |_::_,d::_,h,0,_,e=>by cases e;exact⟨d,rfl,h.1⟩|_::_,_::_,h,i+1,_,e=>A2.at (Ps:=_) h.2 (i:=i) e
theorem A2.len:∀{Ps:List Pr} {ds:List A3},A2 Ps ds->ds.length=Ps.length
 |[],[],_=>rfl|_::_,_::_,h=>HI (·+1) (A2.len h.2)
theorem tiT{i:Int}(h:Te Γ f (T' Ps))(hi:0<=i/\Ps[i.toNat]?=a_ P):Te Γ (f2 ixD f (fC (.int i))) P:=t2 h tcI λ_ _ ⟨xs,e,p⟩ ⟨y,Y,c⟩=>by
 subst e;subst Y;obtain rfl:y=i:=by omega
 obtain⟨d,a,b⟩:=p.at hi.2;obtain⟨I,a⟩:=tF.mp a;refine⟨d,?_,b⟩
 show gE xs y=_;have:=kC (ds:=xs) (k:=y.toNat) I;rw[show((y.toNat:Nat):Int)=y by omega]at this;rw[this,a]
theorem tiS{c d:Int}(h:Te Γ f (X' a))(k:Te Γ g (I' c d))(i:0<=c)(hd:d<a)(j:a<=100):Te Γ (f2 ym f g) (S' 1):=t2 h k λ_ _ ⟨z,e,p⟩ ⟨y,Y,b⟩=>by
 subst e;subst Y;have I:y.toNat<z.cps.toList.length:=by have:z.cps.toList.length=a:=p;omega
 exact⟨_,ixS_at (by omega) (Gr I) (by omega),_,rfl,sy 1⟩
theorem tst{a b:Int}(h:Te Γ f (I' a b))(g:0<=a)(c:b<10^10):Te Γ (fL DC (aa f aD)) (S' 11):=λρ r=>by
 obtain⟨d,e,x,Y,p,q⟩:=h ρ r;subst Y;have I:x.natAbs<10^10:=by omega
 refine⟨.str (j8 x),?_,_,rfl,str_len I⟩
 unfold fL aa;rw[e];show DC [.int x]=_;rw[e_strD,e_ (nH I)]
theorem strsL{b c:Nat}:∀{xs:List A3},(∀x∈xs,S' c x)->xs.length<=b->∃rs:List p_,xs=rs.map .str/\(∀r∈rs,r.length<=c)/\rs.length<=b
 |[],_,_=>⟨[],rfl,λ_ h=>(nomatch h),GS _⟩
 |x::xs,h,l=>by
  obtain⟨z,rfl,Y⟩:=h x (by simp);obtain⟨rs,e,k,_⟩:=strsL (b:=xs.length) (xs:=xs) (λy a=>h y (by simp[a])) (sy _);refine⟨z::rs,by rw[e];rfl,λr I=>?_,by rw[<- u_ (f:=A3.str)]at *;subst e;simpa using l⟩
  rcases t_.mp I with rfl|I
  ·exact Y
  ·exact k r I
theorem sum_le{c:Nat}:∀{rs:List p_},(∀r∈rs,r.length<=c)->(rs.map (·.length)).sum<=rs.length*c
 |[],_=>GS _|r::rs,h=>by have:=sum_le (rs:=rs) λx I=>h x (by simp[I]);have:=h r (by simp);simp only[F_,NX,Gi,Nat.add_mul];omega
theorem tjo{k:Nat}{I:p_}(h:Te Γ f (L' a b (S' c)))(Y:I.length=k)(l:b*(c+k)<=16777216):Te Γ (fSM mH (fC (.str I)) f) (S' (b*(c+k))):=λρ r=>by
 obtain⟨d,e,xs,i,p,q,w⟩:=h ρ r;subst i;obtain⟨rs,rfl,w,v⟩:=strsL w q;have m:=sum_le w;have j:rs.length*c+rs.length*k<=b*(c+k):=by rw[<- Nat.mul_add];exact MU _ v
 have g:=B5 I rs;rw[Y]at g;refine⟨.str (Hv I rs),?_,_,rfl,by omega⟩
 unfold fSM fC;show(f ρ).bind (mH (.str I))=_;rw[e];show(gA (rs.map .str)).bind _=_;rw[i8];show(if _ then _ else _)=_;rw[e_ (by rw[C_,Y];omega)]
theorem an:Ta Γ aD []:=λ_ _=>⟨[],rfl,K6⟩
theorem ac{g:ah->M (List A3)}(h:Te Γ f P)(k:Ta Γ g Ps):Ta Γ (aa f g) (P::Ps):=λρ r=>by obtain⟨d,e,p⟩:=h ρ r;obtain⟨ds,Y,I⟩:=k ρ r;exact⟨d::ds,by unfold aa;rw[e,aj,Y];rfl,p,I⟩
def Tm(Γ:Gm)(f:ah->M (List A3))(n:Nat)(P:Pr):Prop:=∀ρ,E' Γ ρ->∃ds,f ρ=.ok ds/\ds.length=n/\∀x∈ds,P x
theorem mn:Tm Γ aD 0 P:=λ_ _=>⟨[],rfl,rfl,λ_ h=>(nomatch h)⟩
theorem mc{g:ah->M (List A3)}(h:Te Γ f P)(k:Tm Γ g n P):Tm Γ (aa f g) (n+1) P:=λρ r=>by
 obtain⟨d,e,p⟩:=h ρ r;obtain⟨ds,a,l,Y⟩:=k ρ r;refine⟨d::ds,by unfold aa;rw[e,aj,a];rfl,HI (·+1) l,λx I=>?_⟩
 rcases t_.mp I with rfl|I
 ·exact p
 ·exact Y x I
theorem mS{g:ah->M (List A3)}(h:Te Γ f (S' a))(l:a<=b)(k:Tm Γ g n (S' b)):Tm Γ (aa f g) (n+1) (S' b):=mc (tw h λ_ ⟨z,e,p⟩=>⟨z,e,Gw p l⟩) k
theorem tli{g:ah->M (List A3)}(k:Tm Γ g n P)(l:n<=16777216):Te Γ (fL bu g) (L' n n P):=λρ r=>by
 obtain⟨ds,Y,h,I⟩:=k ρ r;refine⟨.lst ds,?_,ds,rfl,by omega,by omega,I⟩
 unfold fL;rw[Y];exact e_ (by rw[C_];omega)
theorem tup{Γ:Gm}{g:ah->M (List A3)}{Ps:List Pr}(k:Ta Γ g Ps)(l:Ps.length.ble 99=d_):Te Γ (fL iC g) (T' Ps):=λρ r=>by
 obtain⟨ds,I,h⟩:=k ρ r;refine⟨.tup ds,?_,ds,rfl,h⟩
 unfold fL;rw[I];exact e_ (by have:=MA l;rw[C_,h.len];omega)
def Fn(m:List A3->M A3)(Ps:List Pr)(R:Pr):Prop:=∀ds,A2 Ps ds->∃d,m ds=.ok d/\R d
theorem tca{g:ah->M (List A3)}{m:List A3->M A3}(h:Fn m Ps R)(k:Ta Γ g Ps):Te Γ (fL m g) R:=λρ r=>by obtain⟨ds,e,p⟩:=k ρ r;obtain⟨d,a,b⟩:=h ds p;exact⟨d,by unfold fL;rw[e,aj,a],b⟩
theorem A2.env:∀{Ps:List Pr} {ds:List A3} (k:Nat),A2 Ps ds->E' (Ps.map a_++GV k c_) (ds.map a_++GV k c_):=λ{Ps ds} k h=>by
 refine⟨by simp[h.len],λi P e=>?_⟩
 by_cases c:i<Ps.length
 ·rw[Hb (by simpa using c),GB]at e;rw[Hb (by simpa[h.len] using c),GB];cases q:Ps[i]? with
  |none=>rw[q]at e;cases e|some Q=>rw[q]at e;cases e;obtain⟨d,a,b⟩:=h.at q;exact⟨d,by rw[a];rfl,b⟩
 ·rw[HM (by simpa using c),IZ]at e;split at e<;>cases e
theorem fn{g:ah->M A9}{N:Nat}(h:Tr (Ps.map a_++GV (N-n) c_) g R)(e:n=Ps.length):Fn (bQ N n g) Ps R:=λds a=>by
 have l:ds.length=n:=by rw[a.len,e]
 obtain⟨d,q,r⟩:=h _ (a.env (N-n));refine⟨d,?_,r⟩
 unfold bQ;rw[e_ l,l,q];rfl
theorem it(h:Te Γ f (L' a b P)):Tl Γ (fIt f) a b P:=λρ r=>by obtain⟨d,e,xs,I,p,q,w⟩:=h ρ r;subst I;exact⟨xs,by unfold fIt;rw[e];rfl,p,q,w⟩
theorem ra(h:Te Γ f (I' a b))(l:b<2^62):Tl Γ (qR rN (aa f aD)) a b (I' 0 (b-1)):=λρ r=>by
 obtain⟨d,e,x,c,p,q⟩:=h ρ r;subst c;refine⟨gQ 0 x.toNat,?_,by unfold gQ;simp;omega,by unfold gQ;simp;omega,λy I=>?_⟩
 ·unfold qR aa;rw[e];show(if jj x=d_ then _ else _)=_;refine e_ ?_;unfold jj;simp only[l_,Gd];omega
 ·obtain⟨k,Y,rfl⟩:=GJ.mp I;have:=List.mem_range.mp Y;exact⟨_,rfl,by omega,by omega⟩
theorem zi{d:Nat}(h:Te Γ f (L' a b P))(k:Te Γ g (L' c d Q)):Tl Γ (zI f g) 0 b (T' [P,Q]):=λρ r=>by
 obtain⟨_,e,xs,rfl,p,q,w⟩:=h ρ r;obtain⟨_,o,ys,rfl,t,s,j⟩:=k ρ r;have z:∀(xs ys:List A3),(∀x∈xs,P x)->(∀y∈ys,Q y)->(nA xs ys).length<=xs.length/\∀x∈nA xs ys,T' [P,Q] x:=by
  intro xs
  induction xs with
  |nil=>exact λys _ _=>⟨sy _,λ_ h=>(nomatch h)⟩
  |cons x xs n=>
   intro ys i Y;cases ys with
   |nil=>exact⟨GS _,λ_ h=>(nomatch h)⟩
   |cons y ys=>
    obtain⟨l,m⟩:=n ys (λu I=>i u (by simp[I])) (λu I=>Y u (by simp[I]));refine⟨Nat.succ_le_succ l,λu I=>?_⟩
    rcases t_.mp I with rfl|I
    ·exact⟨[x,y],rfl,i x (by simp),Y y (by simp),K6⟩
    ·exact m u I
 obtain⟨l,m⟩:=z xs ys w j;exact⟨nA xs ys,by unfold zI;rw[e,aj,o];rfl,GS _,by omega,m⟩
def inG(ix:List (Option Nat))(Γ:Gm):Gm:=ix.map λo=>o.bind λj=>(Γ[j]?).join
theorem E'.inG{Γ:Gm}{ρ:ah}(h:E' Γ ρ)(ix:List (Option Nat)):E' (Tactic.inG ix Γ) (jL ix ρ):=by
 unfold Tactic.inG jL;refine⟨by simp,λi P e=>?_⟩
 rw[GB]at e ⊢;cases q:ix[i]? with
 |none=>rw[q]at e;cases e|some o=>
  rw[q]at e;cases o with
  |none=>cases e|some j=>
   have e:(Γ[j]?).join=a_ P:=Gn e;cases w:Γ[j]? with
   |none=>rw[w]at e;cases e|some o=>rw[w]at e;have e:o=a_ P:=e;subst e;obtain⟨d,a,b⟩:=h.2 j P w;exact⟨d,by show a_ (ρ[j]?).join=_;rw[a];rfl,b⟩
theorem tcm{fi:ah->M (List A3)}{fe:ah->M A3}{ix:List (Option Nat)}{k:Nat}(h:Tl Γ fi a b P)(g:Te ((inG ix Γ).set k (a_ P)) fe Q)(l:b<=16777216):Te Γ (cU fi ix (.nm k) gZ fe) (L' a b Q):=λρ r=>by
 obtain⟨ds,e,p,q,w⟩:=h ρ r;have f:=r.inG ix;have z:∀ds:List A3,(∀x∈ds,P x)->∃es,bw (.nm k) gZ fe (jL ix ρ) ds=.ok es/\es.length=ds.length/\∀x∈es,Q x:=by
  intro ds
  induction ds with
  |nil=>exact λ_=>⟨[],rfl,rfl,λ_ h=>(nomatch h)⟩
  |cons d ds i=>
   intro Y;obtain⟨es,a,b,c⟩:=i λu I=>Y u (by simp[I]);obtain⟨y,e1,e2⟩:=g _ (f.set (Y d (by simp)) k);refine⟨y::es,?_,HI (·+1) b,λu I=>?_⟩
   ·show(fe _).bind _=_;rw[e1];show(bw (.nm k) gZ fe (jL ix ρ) ds).bind _=_;rw[a];rfl
   ·rcases t_.mp I with rfl|I
    ·exact e2
    ·exact c u I
 obtain⟨es,a,b,c⟩:=z ds w;refine⟨.lst es,?_,es,rfl,by omega,by omega,c⟩
 unfold cU;rw[e];show(if _ then _ else _)=_;rw[e_ (by rw[C_];omega),a];rfl
theorem sr2{a b:Int}(h:Te Γ g (L' 2 2 (I' a b))):Te Γ (fL srt2 (aa g aD)) (L' 2 2 (I' a b)):=λρ r=>by
 obtain⟨_,e,xs,rfl,p,q,w⟩:=h ρ r;obtain⟨x,y,rfl⟩:∃x y,xs=[x,y]:=by
  match xs,p,q with
  |[x,y],_,_=>exact⟨x,y,rfl⟩
 obtain⟨i,rfl,hi⟩:=w x (by simp);obtain⟨j,rfl,I⟩:=w y (by simp);refine⟨.lst (if j<i then [.int j,.int i]else [.int i,.int j]),by unfold fL aa;rw[e];rfl,_,rfl,by split<;>simp,by split<;>simp,?_⟩
 split<;>simp<;>exact⟨⟨_,rfl,by omega,by omega⟩,⟨_,rfl,by omega,by omega⟩⟩
theorem tsl{lo hi:ah->M (Option Int)}(h:Te Γ f (L' a b P))(Y:∀ρ,E' Γ ρ->∃o,lo ρ=.ok o)(hh:∀ρ,E' Γ ρ->∃o,hi ρ=.ok o):Te Γ (fSl dQ f lo hi) (L' 0 b P):=λρ r=>by
 obtain⟨_,e,xs,rfl,p,q,w⟩:=h ρ r;obtain⟨x,e1⟩:=Y ρ r;obtain⟨y,e2⟩:=hh ρ r;refine⟨.lst (Bo xs x y),by unfold fSl;rw[e,aj,e1,aj,e2];rfl,_,rfl,GS _,?_,λu I=>w u ?_⟩
 ·unfold Bo;rw[Hx,JY];omega
 ·unfold Bo at I;exact MC (MB I)
theorem pn:∀ρ,E' Γ ρ->∃o,oQ ρ=.ok o:=λ_ _=>⟨_,rfl⟩
theorem ps{a b:Int}(h:Te Γ f (I' a b)):∀ρ,E' Γ ρ->∃o,jP f ρ=.ok o:=λρ r=>by obtain⟨_,e,x,rfl,_⟩:=h ρ r;exact⟨a_ x,by unfold jP;rw[e];rfl⟩
theorem se(h:Te (erG O Γ) f P):J Γ (b7 O i f) (Γ.set i (a_ P)) R:=λρ r=>by obtain⟨d,e,p⟩:=h _ (r.er O);exact .inl ⟨ρ.set i (a_ d),by unfold b7;rw[e];rfl,r.set p i⟩
theorem B0{xs:List A3}(e:ρ[i]?=a_ (a_ (.lst xs))):j4 ρ i=.ok xs:=by unfold j4;rw[e]
theorem ap(g:Γ[i]?=a_ (a_ (L' a b P)))(h:Te (erG O Γ) f P)(l:b<16777216):J Γ (i9 O i f) (Γ.set i (a_ (L' (a+1) (b+1) P))) R:=λρ r=>by
 obtain⟨_,e,xs,rfl,p,q,w⟩:=r.2 i _ g;obtain⟨d,e2,p2⟩:=h _ (r.er O);refine .inl ⟨ρ.set i (a_ (.lst (xs++[d]))),?_,r.set ⟨_,rfl,by simp;omega,by simp;omega,λu I=>?_⟩ i⟩
 ·unfold i9;rw[B0 e,aj,e2,aj,e_ (by rw[C_];omega)];rfl
 ·rcases GU.mp I with I|I
  ·exact w u I
  ·rw[G9.mp I];exact p2
theorem nx:J Γ cE Γ R:=λρ r=>.inl ⟨ρ,rfl,r⟩
theorem rT(h:Te Γ f P)(q:∀d,P d->R d):Tr Γ (cC f) R:=λρ r=>by obtain⟨d,e,p⟩:=h ρ r;exact⟨d,by unfold cC;rw[e];rfl,q d p⟩
theorem sQ{a b:ah->M A9}(h:J Γ a Γ1 R)(k:J Γ1 b Γ2 R):J Γ (br a b) Γ2 R:=λρ r=>by
 unfold br;rcases h ρ r with⟨ρ',e,r'⟩|⟨d,e,q⟩
 ·rw[e];exact k ρ' r'
 ·rw[e];exact .inr ⟨d,rfl,q⟩
theorem sT{a b:ah->M A9}(h:J Γ a Γ1 R)(k:Tr Γ1 b R):Tr Γ (br a b) R:=λρ r=>by
 unfold br;rcases h ρ r with⟨ρ',e,r'⟩|⟨d,e,q⟩
 ·rw[e];exact k ρ' r'
 ·rw[e];exact⟨d,rfl,q⟩
theorem fi{c:ah->M Bool}{a b:ah->M A9}(I:Tq Γ c)(h:J Γ a Γ' R)(k:J Γ b Γ' R):J Γ (sIf c a b) Γ' R:=λρ r=>by
 obtain⟨x,e⟩:=I ρ r;unfold sIf;rw[e];show(∃ρ',(if x=d_ then a ρ else b ρ)=_/\_)\/∃d,(if x=d_ then a ρ else b ρ)=_/\_;split
 ·exact h ρ r
 ·exact k ρ r
def Su(Γ Γ':Gm):Prop:=∀ρ,E' Γ ρ->E' Γ' ρ
theorem wk{s:ah->M A9}(h:J Γ s Γ1 R)(k:Su Γ1 Γ2):J Γ s Γ2 R:=λρ r=>(h ρ r).imp (λ⟨ρ',e,q⟩=>⟨ρ',e,k ρ' q⟩) id
theorem u0:Su [] []:=λ_ h=>h
theorem E'.tl{o:Option Pr}{x:Option A3}(h:E' (o::Γ) (x::ρ)):E' Γ ρ:=⟨G8 h.1,λi P e=>h.2 (i+1) P e⟩
theorem u1{o:Option Pr}(h:Su Γ Γ'):Su (o::Γ) (c_::Γ'):=λρ r=>by
 cases ρ with
 |nil=>cases r.1|cons x ρ=>
  have k:=h ρ r.tl;refine⟨HI (·+1) k.1,λi P e=>?_⟩
  cases i with
  |zero=>cases e|succ i=>exact k.2 i P e
theorem u2(q:∀d,P d->Q d)(h:Su Γ Γ'):Su (a_ P::Γ) (a_ Q::Γ'):=λρ r=>by
 cases ρ with
 |nil=>cases r.1|cons x ρ=>
  have k:=h ρ r.tl;refine⟨HI (·+1) k.1,λi I e=>?_⟩
  cases i with
  |zero=>cases e;obtain⟨d,a,b⟩:=r.2 0 P rfl;exact⟨d,a,q d b⟩
  |succ i=>exact k.2 i I e
def Bn(p:Pat)(P:Pr)(Γ Γ':Gm):Prop:=∀ρ d,E' Γ ρ->P d->∃ρ',jC p d ρ=.ok ρ'/\E' Γ' ρ'
theorem bn:Bn (.nm i) P Γ (Γ.set i (a_ P)):=λ_ _ r p=>⟨_,rfl,r.set p i⟩
noncomputable def stG:List Nat->List Pr->Gm->Gm
 |i::is,P::Ps,Γ=>stG is Ps (Γ.set i (a_ P))|_,_,Γ=>Γ
theorem stE:∀{is:List Nat} {Ps:List Pr} {ds:List A3} {Γ:Gm} {ρ:ah},E' Γ ρ->A2 Ps ds->E' (stG is Ps Γ) (j9 is ds ρ)
 |[],_,_,_,_,r,_=>by unfold stG j9;exact r|_::_,[],[],_,_,r,_=>r|i::is,_::_,_::_,_,_,r,a=>stE (is:=is) (r.set a.1 i) a.2
theorem bt{is:List Nat}(h: ~~~(Ps.length=is.length)):Bn (.tp is) (T' Ps) Γ (stG is Ps Γ):=λρ _ r ⟨xs,e,a⟩=>by subst e;exact⟨_,e_ (by rw[a.len,h]),stE r a⟩
theorem un(h:Te (erG O Γ) f P)(b:Bn p P Γ Γ'):J Γ (rM O p f) Γ' R:=λρ r=>by obtain⟨d,e,q⟩:=h _ (r.er O);obtain⟨ρ',I,r'⟩:=b ρ d r q;exact .inl ⟨ρ',by unfold rM;rw[e,aj,I];rfl,r'⟩
theorem fr{I:Nat->Gm}{Γb:Nat->Gm}{p:Pat}{b:Nat}{P R:Pr}{s:ah->M A9}(c:∀k,Bn p P (I k) (Γb k))(g:∀k,k<b->J (Γb k) s (I (k+1)) R):∀(ds:List A3),(∀x∈ds,P x)->∀k ρ,k+ds.length<=b->E' (I k) ρ->(∃ρ',nU p s ds ρ=.ok (.nx ρ')/\E' (I (k+ds.length)) ρ')\/∃d,nU p s ds ρ=.ok (.rt d)/\R d
 |[],_,k,ρ,_,r=>.inl ⟨ρ,rfl,r⟩|d::ds,h,k,ρ,l,r=>by
  simp only[Gi]at l;obtain⟨a,e1,e⟩:=c k ρ d r (h d (by simp));rw[nU,e1,aj];rcases g k (by omega) a e with⟨Y,e2,r2⟩|⟨x,e2,q⟩
  ·rw[e2,aj];rw[Gi,show k+(ds.length+1)=k+1+ds.length by omega];exact fr c g ds (λx f=>h x (by simp[f])) (k+1) Y (by omega) r2
  ·rw[e2,aj];exact .inr ⟨x,rfl,q⟩
theorem fo(I:Nat->Gm){fi:ah->M (List A3)}{s:ah->M A9}(h:Tl (erG O Γ) fi a b P)(f:Su Γ (I 0))(d:∀k,Bn p P (I k) (Γb k))(g:∀k,k<b->J (Γb k) s (I (k+1)) R)(w:∀m,a<=m->m<=b->Su (I m) Γ'):J Γ (oO O fi p s) Γ' R:=λρ r=>by
 obtain⟨ds,e,c,Y,q⟩:=h _ (r.er O);unfold oO;rw[e];rcases fr d g ds q 0 ρ (by omega) (f ρ r)with⟨ρ',e,r'⟩|k
 ·rw[OH]at r';exact .inl ⟨ρ',e,w _ c Y ρ' r'⟩
 ·exact .inr k
theorem fT(I:Nat->Gm){fi:ah->M (List A3)}{s t:ah->M A9}(h:Tl (erG O Γ) fi a b P)(i:Su Γ (I 0))(f:∀k,Bn p P (I k) (Γb k))(g:∀k,k<b->J (Γb k) s (I (k+1)) R)(w:∀m,a<=m->m<=b->Tr (I m) t R):Tr Γ (br (oO O fi p s) t) R:=λρ r=>by
 obtain⟨ds,e,c,Y,q⟩:=h _ (r.er O);unfold br oO;rw[e];rcases fr f g ds q 0 ρ (by omega) (i ρ r)with⟨ρ',e,r'⟩|⟨d,e,k⟩
 ·rw[OH]at r';rw[aj,e];exact w _ c Y ρ' r'
 ·rw[aj,e];exact⟨d,rfl,k⟩
def O'(P:Pr):Pr:=λd=>d=.non\/P d
theorem fO{a b:ah->M A9}(h:Γ[i]?=a_ (a_ (O' P)))(k:J (Γ.set i (a_ P)) a Γ' R)(l:J Γ b Γ' R):J Γ (sIf (fB (f2 uJ (ai i) (fC .non))) a b) Γ' R:=λρ r=>by
 obtain⟨d,e,q⟩:=r.2 i _ h;have g:ai i ρ=.ok d:=by unfold ai;rw[e]
 have f:∃x,fB (f2 uJ (ai i) (fC .non)) ρ=.ok x/\(x=d_->P d):=by
  unfold fB f2;rw[g];show ∃x,(uJ d .non).bind asB=.ok x/\_;cases d with
  |non=>exact⟨b_,rfl,λh=>(nomatch h)⟩
  |_=>exact⟨d_,rfl,λ_=>q.elim (λh=>(nomatch h)) id⟩
 obtain⟨x,m,Y⟩:=f;unfold sIf;rw[m];show(∃ρ',(if x=d_ then a ρ else b ρ)=_/\_)\/∃d,(if x=d_ then a ρ else b ρ)=_/\_;split
 ·rename_i c;refine k ρ ⟨by rw[B_,r.1],λj Q w=>?_⟩;by_cases I:i=j
  ·subst I;rw[s_ (by have:=(tF.mp h).1;exact this)]at w;cases w;exact⟨d,e,Y c⟩
  ·rw[m_ I]at w;exact r.2 j Q w
 ·exact l ρ r
theorem qg{a b c d:Int}(h:Te Γ f (I' a b))(k:Te Γ g (I' c d))(q:∀x y:Int,∃b,o (.int x) (.int y)=.ok (.bl b):=by exact λ_ _=>⟨_,rfl⟩):Tq Γ (fB (f2 o f g)):=λρ r=>by obtain⟨_,e,x,rfl,_⟩:=h ρ r;obtain⟨_,I,y,rfl,_⟩:=k ρ r;obtain⟨z,q⟩:=q x y;exact⟨z,by unfold fB f2;rw[e,aj,I,aj,q];rfl⟩
theorem it5(h:Te Γ f (T' [Q,P,P,P,P])):Tl Γ (fIt (fSl dQ f (jP (fC (.int 1))) oQ)) 4 4 P:=λρ r=>by
 obtain⟨_,e,xs,rfl,w⟩:=h ρ r;obtain⟨x,xs,rfl⟩:∃x y,xs=x::y:=by
  cases xs with
  |nil=>cases w|cons x y=>exact⟨x,y,rfl⟩
 have l:=w.len;refine⟨xs,?_,by simp at l;omega,by simp at l;omega,λu Y=>?_⟩
 ·unfold fIt fSl;rw[e];show(dQ (.tup (x::xs)) (a_ 1) c_).bind ig=_;simp at l;simp[dQ,Bo,cX,l,ig];exact J9 (by omega)
 ·obtain⟨i,hi,rfl⟩:=Ks Y;have k:=w.2.len;have I:i<4:=by rw[k]at hi;exact hi
  obtain⟨d,a,b⟩:=w.2.at (i:=i) (P:=P) (by match i,I with|0,_=>rfl|1,_=>rfl|2,_=>rfl|3,_=>rfl)
  rw[Gr hi]at a;cases a;exact b
theorem aI{g:ah->M (List A3)}{a b c d:Int}(h:Te Γ f (I' a b))(l:c<=a)(u:b<=d)(k:Ta Γ g Ps):Ta Γ (aa f g) (I' c d::Ps):=ac (tw h λ_ ⟨x,e,p⟩=>⟨x,e,by omega,by omega⟩) k
theorem mI{g:ah->M (List A3)}{a b c d:Int}(h:Te Γ f (I' a b))(l:c<=a)(u:b<=d)(k:Tm Γ g n (I' c d)):Tm Γ (aa f g) (n+1) (I' c d):=mc (tw h λ_ ⟨x,e,p⟩=>⟨x,e,by omega,by omega⟩) k
theorem apS{d:Nat}(g:Γ[i]?=a_ (a_ (L' a b (S' d))))(h:Te (erG O Γ) f (S' c))(u:c<=d)(l:b<16777216):J Γ (i9 O i f) (Γ.set i (a_ (L' (a+1) (b+1) (S' d)))) R:=ap g (tw h λ_ ⟨z,e,p⟩=>⟨z,e,Gw p u⟩) l
theorem wS(h:a<=b):∀d,S' a d->S' b d:=λ_ ⟨z,e,p⟩=>⟨z,e,Gw p h⟩
theorem wI{a b c d:Int}(h:c<=a)(k:b<=d):∀x,I' a b x->I' c d x:=λ_ ⟨z,e,p⟩=>⟨z,e,by omega,by omega⟩
theorem wL{d:Nat}(h:c<=a)(k:b<=d):∀x,L' a b P x->L' c d P x:=λ_ ⟨z,e,p,q,r⟩=>⟨z,e,by omega,by omega,r⟩
theorem wO:∀x,P x->O' P x:=λ_=>.inr
theorem r0(h:Te Γ f (L' a b P))(l:b<2^62):Tl Γ (qR rN (aa (fL gY (aa f aD)) aD)) a b (I' 0 (b-1)):=ra (tln h) l
theorem r1{c d:Int}(h:Te Γ f (I' c d))(u:a<=c)(v:d<=b)(l:b<2^62):Tl Γ (qR rN (aa f aD)) a b (I' 0 (b-1)):=ra (tw h λ_ ⟨x,e,p⟩=>⟨x,e,by omega,by omega⟩) l
theorem m0:Tm Γ aD 0 (S' 0):=mn
theorem mM{g:ah->M (List A3)}(h:Te Γ f (S' a))(k:Tm Γ g n (S' b)):Tm Γ (aa f g) (n+1) (S' (max a b)):=mS h (Nat.le_max_left _ _) λρ r=>let ⟨ds,e,l,p⟩:=k ρ r;⟨ds,e,l,λx I=>wS (Nat.le_max_right _ _) x (p x I)⟩
theorem nl(h:m<=6):7+((m:Int)-1)*m+((m:Int)-1)<=999999:=by have:=LG (show(m:Int)-1<=6 by omega) (show(m:Int)<=6 by omega) (by omega) (by omega);omega
theorem ty{p:Prop}(h:p:=by
 repeat' (first
  |exact tcI
  |exact tcS
  |exact tcX
  |(refine tv ?_;rfl)
  |apply taS
  |apply taX
  |apply taI
  |apply taL
  |apply tmu
  |apply tmo
  |apply tdi
  |exact tpw rfl
  |apply tln
  |(apply tiT;(refine tv ?_;rfl);exact⟨by decide,rfl⟩)
  |apply tix
  |apply tiS
  |apply tst
  |apply tjo (k:=1)
  |apply sr2
  |apply tli
  |apply tup
  |exact an
  |apply aI
  |apply ac
  |exact m0
  |exact mn
  |apply mM
  |apply mS
  |apply mI
  |apply mc
  |refine' tca (by assumption) ?_
  |apply r0
  |apply r1
  |apply it5
  |apply it
  |apply zi
  |apply tcm
  |exact u0
  |refine u1 ?_
  |(refine u2 (by with_reducible exact λ_ h=>h) ?_)
  |refine u2 (wL ?_ ?_) ?_
  |refine u2 (wI ?_ ?_) ?_
  |refine u2 (wS ?_) ?_
  |refine u2 wO ?_
  |refine u2 (λ_ h=>h) ?_|omega|exact nl (by assumption)|rfl|decide +kernel)):p:=h
section
variable(CR CP CS CW CD:g_)
def Sc:Pr:=λd=>∃ns:List Int,d=.lst (ns.map .int)/\ns.length<=63
abbrev Big:=I' 0 2305843009213693950
theorem fnum(n:Nat):Fn (ba) [Sc,I' 0 999999] Big:=λds a=>by
 match ds,a with
 |[_,_],⟨⟨ns,rfl,l⟩,⟨k,rfl,I,h1⟩,_⟩=>obtain⟨x,e,b⟩:=Ep n ns l k I (by omega);exact⟨_,e,x,rfl,b.1,by omega⟩
theorem fcell(n:Nat):Fn (bC) [Sc,I' 0 1000] (I' 0 1000000000000000000000000):=λds a=>by
 match ds,a with
 |[_,_],⟨⟨ns,rfl,l⟩,⟨j,rfl,I,h1⟩,_⟩=>
  obtain⟨k,rfl⟩:∃k:Nat,j=k:=⟨j.toNat,by omega⟩
  by_cases h:k<ns.length
  ·have e:=kC (ds:=ns.map A3.int) (k:=k) (by simpa using h);have a1:=Kb ns[k] (b:=1000000000000000000000000) (by decide);have Y:=JL ns[k] (b:=1000000000000000000000000) (by decide);exact⟨.int (ns[k]%1000000000000000000000000),by simp[bC,j6,gO,h,e],_,rfl,a1,by omega⟩
  ·exact⟨.int 0,by simp[bC,j6,gO,h],_,rfl,by decide,by decide⟩
theorem fname(n:Nat):Fn (lD) [Big,I' 0 25] (S' 8):=by
 refine fn (N:=5) (n:=2) ?_ rfl;refine sT (se tcX) ?_;refine sT (se (P:=S' _) ty) ?_;refine fT (λk=>[a_ Big,c_,a_ (X' 26),a_ (S' (2+k)),c_]) (a:=0) (b:=5) ty ty (λ_=>bn) ?_ ?_
 ·intro k I;exact wk (sQ (se (P:=I' _ _) ty) (sQ (se (P:=I' _ _) ty) (se (P:=S' _) ty))) ty
 ·exact λm _ _=>rT (tv rfl) (wS (by omega))
theorem fflnm(n:Nat):Fn (eZ) [Big,I' 0 39] (S' 9):=by
 refine fn (N:=4) (n:=2) ?_ rfl;refine sT (se (P:=S' _) ty) ?_;refine fT (λk=>[a_ Big,c_,a_ (S' (2+k)),c_]) (a:=0) (b:=6) ty ty (λ_=>bn) ?_ ?_
 ·intro k I;exact wk (sQ (se (P:=I' _ _) ty) (sQ (se (P:=I' _ _) ty) (se (P:=S' _) ty))) ty
 ·exact λm _ _=>rT (tv rfl) (wS (by omega))
theorem fgap(n:Nat):Fn (kA) [Big] (I' 0 1000000):=fn (N:=1) (n:=1) (rT (P:=I' 0 1000000) ty (λ_ h=>h)) rfl
theorem ftime(n:Nat):Fn (dz) [Big] (I' 0 1000000000):=fn (N:=1) (n:=1) (rT (P:=I' 0 1000000000) ty (λ_ h=>h)) rfl
end
section
variable(CR CP CS CW CD:g_)
abbrev Ti:=I' 0 1000000000
abbrev Gt(m:Nat):=L' m m (L' m m (I' 0 1000000))
abbrev Fg(m:Nat):=T' [I' 0 (m-1),Ti,Ti,Ti,Ti]
abbrev Da(m f c:Nat):=T' [L' m m (S' 8),Gt m,O' (Gt m),L' f f (S' 9),L' f f (Fg m),L' c c (T' [Ti,Ti])]
def DaE:Pr:=λd=>∃m f c,1<=m/\m<=6/\f<=40/\c<=3/\Da m f c d
theorem fdata(n:Nat):Fn (ju) [Sc] DaE:=by
 have l:=fnum n;have q:=fcell n;have r:=fname n;have p:=fflnm n;have o:=fgap n;have j:=ftime n;refine fn (N:=12) (n:=1) ?_ rfl;refine sT (se (P:=L' 0 0 (S' 8)) ty) ?_;refine fT (λk=>[a_ Sc,a_ (L' k k (S' 8)),c_,c_,c_,c_,c_,c_,c_,c_,c_,c_]) (a:=1) (b:=6) ty ty (λ_=>bn) ?_ ?_
 ·exact λk I=>wk (ap rfl ty (by omega)) ty
 intro m m1 e;refine sT (se (P:=L' 0 0 (L' m m (I' 0 1000000))) ty) ?_;refine sT (se (P:=L' 0 0 (L' m m (I' 0 1000000))) ty) ?_;refine fT (λk=>[a_ Sc,a_ (L' m m (S' 8)),c_,a_ (L' k k (L' m m (I' 0 1000000))),a_ (L' k k (L' m m (I' 0 1000000))),c_,c_,c_,c_,c_,c_,c_]) (a:=m) (b:=m) ty ty (λ_=>bn) ?_ ?_
 ·exact λk I=>wk (sQ (se (P:=L' m m Big) ty) (sQ (ap rfl ty (by omega)) (ap rfl ty (by omega)))) ty
 intro g h1 h2;obtain rfl:m=g:=by omega
 refine sT (Γ1:=[a_ Sc,a_ (L' m m (S' 8)),c_,a_ (Gt m),a_ (O' (Gt m)),c_,c_,c_,c_,c_,c_,c_]) (fi (qg ty ty) (wk (se (P:=O' (Gt m)) λ_ _=>⟨_,rfl,.inl rfl⟩) ty) (wk nx ty)) ?_;refine sT (se (P:=L' 0 0 (S' 9)) ty) ?_;refine sT (se (P:=L' 0 0 (Fg m)) ty) ?_;refine sT (se (P:=I' _ _) ty) ?_;refine sT (Γ1:=[a_ Sc,a_ (L' m m (S' 8)),c_,a_ (Gt m),a_ (O' (Gt m)),c_,a_ (L' 0 0 (S' 9)),a_ (L' 0 0 (Fg m)),a_ (I' 0 40),c_,c_,c_]) (fi (qg ty ty) (wk (se (P:=I' _ _) ty) ty) (wk nx ty)) ?_;refine fT (λk=>[a_ Sc,a_ (L' m m (S' 8)),c_,a_ (Gt m),a_ (O' (Gt m)),c_,a_ (L' k k (S' 9)),a_ (L' k k (Fg m)),c_,c_,c_,c_]) (a:=0) (b:=40) ty ty (λ_=>bn) ?_ ?_
 ·exact λk I=>wk (sQ (se (P:=Big) ty) (sQ (se (P:=L' 2 2 Ti) ty) (sQ (ap rfl ty (by omega)) (ap rfl ty (by omega))))) ty
 intro f _ Y;refine sT (se (P:=L' 0 0 (T' [Ti,Ti])) ty) ?_;refine fT (λk=>[a_ Sc,a_ (L' m m (S' 8)),c_,a_ (Gt m),a_ (O' (Gt m)),c_,a_ (L' f f (S' 9)),a_ (L' f f (Fg m)),c_,c_,c_,a_ (L' k k (T' [Ti,Ti]))]) (a:=0) (b:=3) ty ty (λ_=>bn) ?_ ?_
 ·exact λk I=>wk (sQ (se (P:=L' 2 2 Ti) ty) (ap rfl ty (by omega))) ty
 intro c _ i;exact rT (P:=Da m f c) ty λd h=>⟨m,f,c,m1,e,Y,i,h⟩
end
section
variable(CR CP CS CW CD:g_)
abbrev Rw:=S' 6000
theorem fshown(n:Nat){f:Nat}(m1:1<=m)(Y:m<=6)(g:f<=40)(h:c<=3):Fn (iN) [Da m f c] (L' 1 140 Rw):=by
 refine fn (N:=15) (n:=1) ?_ rfl;refine sT (un (tv rfl) bt) ?_;refine sT (se (P:=L' m m Rw) (tcm (Q:=Rw) ty (tw (P:=S' _) ty (wS (by decide +kernel))) (by omega))) ?_;refine fT (λk=>[c_,a_ (L' m m (S' 8)),a_ (Gt m),a_ (O' (Gt m)),a_ (L' f f (S' 9)),a_ (L' f f (Fg m)),a_ (L' c c (T' [Ti,Ti])),a_ (L' m (m+12*k) Rw),c_,c_,c_,c_,c_,c_,c_]) (a:=m) (b:=m) ty ty (λ_=>bn) ?_ ?_
 ·intro k I;refine fo (λj=>[c_,a_ (L' m m (S' 8)),a_ (Gt m),a_ (O' (Gt m)),a_ (L' f f (S' 9)),a_ (L' f f (Fg m)),a_ (L' c c (T' [Ti,Ti])),a_ (L' m (m+12*k+2*j) Rw),a_ (I' 0 (m-1)),c_,c_,c_,c_,c_,c_]) (a:=m) (b:=m) ty ty (λ_=>bn) ?_ ?_
  ·intro j e;refine sQ (Γ1:=[c_,a_ (L' m m (S' 8)),a_ (Gt m),a_ (O' (Gt m)),a_ (L' f f (S' 9)),a_ (L' f f (Fg m)),a_ (L' c c (T' [Ti,Ti])),a_ (L' m (m+12*k+2*j+1) Rw),a_ (I' 0 (m-1)),a_ (I' 0 (m-1)),c_,c_,c_,c_,c_]) (fi (qg ty ty) (wk (apS rfl ty (by decide +kernel) (by omega)) ty) (wk nx ty)) ?_;exact fO rfl (wk (apS rfl ty (by decide +kernel) (by omega)) ty) (wk nx ty)
  ·exact λj h1 h2=>ty
 intro d h1 h2;refine fT (λk=>[c_,a_ (L' m m (S' 8)),c_,c_,a_ (L' f f (S' 9)),a_ (L' f f (Fg m)),c_,a_ (L' m (84+k) Rw),c_,c_,c_,c_,c_,c_,c_]) (a:=c) (b:=c) ty ty (λ_=>bt) ?_ ?_
 ·exact λk I=>wk (apS rfl ty (by decide +kernel) (by omega)) ty
 intro p _ l;refine fT (λk=>[c_,a_ (L' m m (S' 8)),c_,c_,c_,c_,c_,a_ (L' m (90+k) Rw),c_,c_,c_,c_,c_,c_,c_]) (a:=0) (b:=f) ty ty (λ_=>bt) ?_ ?_
 ·exact λk I=>wk (sQ (se (P:=L' 4 4 (S' 11)) ty) (apS rfl ty (by decide +kernel) (by omega))) ty
 intro o _ i;exact rT (tv rfl) (wL (by omega) (by omega))
end
theorem aS{g:ah->M (List A3)}(h:Te Γ f (S' a))(l:a<=b)(k:Ta Γ g Ps):Ta Γ (aa f g) (S' b::Ps):=ac (tw h (wS l)) k
theorem tmB:Te Γ (f2 Et (fC (.str "9")) (fC (.int 5000))) (S' 5000):=λ_ _=>⟨.str (Ml "9" 5000),by show Et (.str "9") (.int 5000)=_;rw[e_mulSB,e_ ⟨by decide +kernel,by decide,by decide⟩],_,rfl,by decide +kernel⟩
theorem opn{s:ah->M A9}(h:Γ[i]?=a_ (a_ (L' a b P)))(k:∀m,a<=m->m<=b->Tr (Γ.set i (a_ (L' m m P))) s R):Tr Γ s R:=λρ r=>by
 obtain⟨d,e,xs,Y,p,q,w⟩:=r.2 i _ h;refine k xs.length p q ρ ⟨by rw[B_,r.1],λj Q z=>?_⟩;by_cases I:i=j
 ·subst I;rw[s_ (tF.mp h).1]at z;cases z;exact⟨d,e,xs,Y,sy _,sy _,w⟩
 ·rw[m_ I]at z;exact r.2 j Q z
theorem sA{o:Bool}(h:Te Γ f P)(k:∀d,P d->lM o d=d_):J Γ (uq o i f) (Γ.set i (a_ P)) R:=λρ r=>by obtain⟨d,e,p⟩:=h ρ r;exact .inl ⟨ρ.set i (a_ d),by unfold uq;rw[e];exact e_ (k d p),r.set p i⟩
theorem flI{o:Bool}{a b:Int}:∀d,I' a b d->lM o d=d_:=λ_ ⟨_,e,_⟩=>by subst e;cases o<;>rfl
theorem flL:∀d,L' a b (S' c) d->lM d_ d=d_:=λ_ ⟨xs,e,_,_,w⟩=>by
 subst e;have z:∀xs:List A3,(∀x∈xs,S' c x)->oH xs=d_:=by
  intro xs
  induction xs with
  |nil=>exact λ_=>rfl|cons x xs I=>intro h;obtain⟨s,rfl,_⟩:=h x (by simp);exact I λy Y=>h y (by simp[Y])
 exact z xs w
theorem tls(h:Te Γ f (L' a b P)):Te Γ (fL zv (aa f aD)) (L' a b P):=λρ r=>by obtain⟨_,e,xs,rfl,w⟩:=h ρ r;exact⟨.lst xs,by unfold fL aa;rw[e];rfl,xs,rfl,w⟩
theorem sN{a b:Int}(h:Γ[i]?=a_ (a_ (L' m m P)))(k:Te (erG O Γ) f (I' a b))(l:Te (erG O Γ) g P)(o:0<=a)(n:b<=m)(j:m<16777216):J Γ (sIns O i f g) (Γ.set i (a_ (L' (m+1) (m+1) P))) R:=λρ r=>by
 obtain⟨_,e,xs,rfl,p,q,w⟩:=r.2 i _ h;obtain⟨_,e1,x,rfl,c,Y⟩:=k _ (r.er O);obtain⟨d,e2,p2⟩:=l _ (r.er O);refine .inl ⟨ρ.set i (a_ (.lst (xs.take x.toNat++d::xs.drop x.toNat))),?_,r.set ⟨_,rfl,by simp;omega,by simp;omega,λu I=>?_⟩ i⟩
 ·unfold sIns;rw[B0 e,aj,e1,aj];show(Ge x:M Int).bind _=_;rw[aj,e2,aj,e_insD (by omega) (by omega) (by rw[C_];omega)]
 ·rcases GU.mp I with I|I
  ·exact w u (MB I)
  ·rcases t_.mp I with rfl|I
   ·exact p2
   ·exact w u (MC I)
theorem fF{c:ah->M Bool}{a b:ah->M A9}(I:∀ρ,E' Γ ρ->c ρ=.ok b_)(k:J Γ b Γ' R):J Γ (sIf c a b) Γ' R:=λρ r=>by unfold sIf;rw[I ρ r];exact k ρ r
theorem qn(h:Te Γ f (L' a b (S' c))):∀ρ,E' Γ ρ->∃x,fB (f2 neM f (fL bu aD)) ρ=.ok x/\(b=0->x=b_):=λρ r=>by
 obtain⟨_,e,xs,rfl,p,q,w⟩:=h ρ r;obtain⟨rs,rfl,_,l⟩:=strsL w q;refine⟨!eqD (.lst (rs.map .str)) (.lst []),?_,λI=>?_⟩
 ·unfold fB f2;rw[e];show(neM (.lst (rs.map .str)) (.lst [])).bind asB=_;unfold neM;rw[e_ (by show(l5 (rs.map A3.str) 39&&d_)=d_;rw[jR];rfl)];rfl
 ·cases rs with
  |nil=>rfl|cons _ _=>simp at l;omega
theorem qN(h:Te Γ f (L' a b (S' c))):Tq Γ (fB (f2 neM f (fL bu aD))):=λρ r=>let ⟨x,e,_⟩:=qn h ρ r;⟨x,e⟩
theorem q0(h:Te Γ f (L' a 0 (S' c))):∀ρ,E' Γ ρ->fB (f2 neM f (fL bu aD)) ρ=.ok b_:=λρ r=>let ⟨_,e,k⟩:=qn h ρ r;k rfl▸e
def Tt:Pr:=λd=>d=.bl d_
section
variable(CR CP CS CW CD:g_)
theorem fright(I:CR≠CP)(n:Nat):Fn (bZ CR CP CS CW CD n) [S' 1000000] Tt:=λds a=>by
 match ds,a with
 |[_],⟨⟨z,rfl,l⟩,_⟩=>exact⟨_,wt CR CP CS CW CD I n l,rfl⟩
end
section
variable(CR CP CS CW CD:g_)
theorem fodd(n:Nat){f:Nat}(m1:1<=m)(I:m<=6)(d:f<=40)(e:c<=3):Fn (kz) [Da m f c,Big] Rw:=by
 refine fn (N:=6) (n:=2) ?_ rfl;refine sT (se (P:=S' 8) ty) ?_;refine sT (se (P:=S' 9) (tw tcS (wS (by decide +kernel)))) ?_;refine sT (Γ1:=[a_ (Da m f c),a_ Big,a_ (S' 8),a_ (S' 9),c_,c_]) ?_ ?_
 ·by_cases f0:f=0
  ·subst f0;exact fF (q0 (tiT (tv rfl) ⟨by decide,rfl⟩)) nx
  ·exact fi (qN (tiT (tv rfl) ⟨by decide,rfl⟩)) (wk (se (P:=S' 9) ty) ty) nx
 refine sT (se (P:=L' 9 9 Rw) ty) ?_;refine sT (se (P:=L' _ _ Rw) ty) ?_;refine sT (Γ1:=[a_ (Da m f c),a_ Big,a_ (S' 8),a_ (S' 9),a_ (L' 36 36 Rw),c_]) (fo (λk=>[a_ (Da m f c),a_ Big,a_ (S' 8),a_ (S' 9),a_ (L' (12+2*k) (12+2*k) Rw),c_]) (a:=12) (b:=12) (P:=S' 5000) (it (tli (mS tcS (by decide +kernel) (mS tcS (by decide +kernel) (mS tcS (by decide +kernel) (mS tcS (by decide +kernel) (mS tcS (by decide +kernel) (mS tcS (by decide +kernel) (mS tcS (by decide +kernel) (mS tcS (by decide +kernel) (mS tcS (by decide +kernel) (mS tcS (by decide +kernel) (mS tcS (by decide +kernel) (mS tmB (by decide) mn)))))))))))) (by decide))) ty (λ_=>bn) ?_ ?_) ?_
 ·exact λk Y=>wk (sQ (apS rfl ty (by decide +kernel) (by omega)) (apS rfl ty (by decide +kernel) (by omega))) ty
 ·exact λk _ _=>ty
 refine sT (se (P:=L' _ _ Rw) ty) ?_;refine sT (se (P:=L' _ _ Rw) ty) ?_;refine sT (se (P:=L' _ _ Rw) ty) ?_;refine sT (se (P:=L' _ _ Rw) ty) ?_;exact rT (P:=Rw) ty λ_ h=>h
end
theorem ntr(h:Te Γ f Tt):∀ρ,E' Γ ρ->qS (kM f) ρ=.ok b_:=λρ r=>by obtain⟨_,e,rfl⟩:=h ρ r;unfold qS kM;rw[e];rfl
theorem qe{a:Int}(h:Te Γ f (I' a a))(k:Te Γ g (I' a a)):∀ρ,E' Γ ρ->fB (f2 neM f g) ρ=.ok b_:=λρ r=>by
 obtain⟨_,e,x,rfl,p⟩:=h ρ r;obtain⟨_,I,y,rfl,Y⟩:=k ρ r;obtain rfl:x=y:=by omega
 unfold fB f2;rw[e,aj,I,aj];show(Ge (.bl (!(x==x))):M A3).bind asB=_;rw[JT];rfl
theorem tan(h:Te Γ f Tt)(k:Te Γ g Tt):Te Γ (iq f g) Tt:=λρ r=>by obtain⟨_,e,rfl⟩:=h ρ r;obtain⟨_,I,rfl⟩:=k ρ r;exact⟨_,by unfold iq;rw[e];exact I,rfl⟩
section
variable(CR CP CS CW CD:g_)
theorem fshE(n:Nat):Fn (iN) [DaE] (L' 1 140 Rw):=λds a=>by
 match ds,a with
 |[d],⟨⟨m,f,c,h1,h2,Y,I,h⟩,_⟩=>exact fshown n h1 h2 Y I [d] ⟨h,K6⟩
theorem fodE(n:Nat):Fn (kz) [DaE,Big] Rw:=λds a=>by
 match ds,a with
 |[d,e],⟨⟨m,f,c,h1,h2,Y,I,h⟩,k,_⟩=>exact fodd n h1 h2 Y I [d,e] ⟨h,k,K6⟩
theorem law_true(Y:CR≠CP):∀ns:List Int,ns.length<=63->∃n,m_law CR CP CS CW CD n [.lst (ns.map .int)]=.ok (.bl d_):=by
 intro ns I;suffices h:Fn (m_law CR CP CS CW CD 64) [Sc] Tt by obtain⟨_,e,rfl⟩:=h [.lst (ns.map .int)] ⟨⟨ns,rfl,I⟩,K6⟩;exact⟨64,e⟩
 have p:=fdata 64;have j:=fshE 64;have l:=fodE 64;have o:=fnum 64;have q:=fcell 64;have c:=fright CR CP CS CW CD Y 64;refine fn (N:=6) (n:=1) ?_ rfl;refine sT (se (P:=L' 1 140 Rw) ty) ?_;refine opn (i:=1) rfl λm f d=>?_;refine sT (sA (P:=L' m m Rw) (tls (tv rfl)) flL) ?_;refine fT (λk=>[a_ Sc,a_ (L' (m+k) (m+k) Rw),a_ (L' m m Rw),c_,c_,c_]) (a:=1) (b:=2) ty ty (λ_=>bn) ?_ ?_
 ·intro k g;exact wk (sQ (se (P:=Big) ty) (sQ (sA (P:=I' _ _) ty flI) (sN rfl (tv rfl) ty (by decide) (by omega) (by omega)))) ty
 intro k k1 k2;refine sT (fF (ntr (tca c (aS (tjo (k:=1) (tv rfl) (by decide +kernel) (by omega)) (by omega) an))) nx) ?_;refine sT (fF (qe (tln (tv rfl)) (tln (tv rfl))) nx) ?_;exact rT (P:=Tt) (tan (tca c (aS (tjo (k:=1) (tv rfl) (by decide +kernel) (by omega)) (by omega) an)) (tca c (aS (tjo (k:=1) (tsl (tv rfl) (ps tcI) pn) (by decide +kernel) (by omega)) (by omega) an))) λ_ h=>h
end
theorem fin_mk{P:GO}{w:Hg}{K:Pn}{h:GQ}{fa CR:g_}(_:K.In h)(_:h.Ns GA mg)(I:mg "law"=a_ (.ref fa))(Z:Zs K mg CR CP CS CW CD AStripError ANoRow ANoRules ANoTime ANoPlace ANotFree ATooMany ANoPlan):
  ∃fd:HL,(∀(s:y_) (v:i_),KU s fd ⟨[v],[]⟩ [("_law_script",v)])/\∀base:GQ,K.In base->base.Ns GA mg->i6 P w K mg base CX0 11 fa fd ["_law_script"] (spLaw K):=by
 obtain⟨f,fd,D,a⟩:=Z.d_law;have e:=I.symm.trans D.mg;cases e;refine⟨fd,a,λbase _ _=>law_ok (ro:=b_) (mlaw:=m_law CR CP CS CW CD) (λn=>?_) (law_true CR CP CS CW CD Z.ne)⟩
 obtain⟨b,fd',Y⟩:=ok_law (n:=n) (P:=P) (w:=w) (base:=base) Z;have e:=D.mg.symm.trans Y.d.mg;cases e;rw[D.fn.uniq Y.d.fn];exact Y.o
theorem walk{l:KI}{q:GO}{I:List p_}{j:(Ld)->GQ->Prop}{b:Hg->GQ->Prop}{d:DefRec}{K:Params->Pn}(c:l.most=a_ 63)(Y:d.params.defaults=[])(g:∀(w:Hg) (h:GQ),b w h->(K w.params).In h)(F:∀(w:Hg) (mg:Ld) (fa:g_) (h:GQ),(K w.params).In h->h.Ns GA mg->mg d.name=a_ (.ref fa) ->
   ∃fd:HL,(∀(s:y_) (u:i_),KU s fd ⟨[u],[]⟩ [("_law_script",u)])/\∀base:GQ,(K w.params).In base->base.Ns GA mg->i6 l.prog w (K w.params) mg base CX0 11 fa fd ["_law_script"] (spLaw (K w.params))):
  MQ q I j b l.row.toRowW d [] (λf vs=>Jn f vs):=
 Lake.walk_of (n:=63) (k:=11) (x:="_law_script") (CX:=λ_=>CX0) (sp:=λw=>spLaw (K w.params)) c (by decide) Y ⟨rfl,by decide,by decide⟩ g F (λ_ _ a ns e _ i=>⟨a,ns,rfl,i,e,λ_=>rfl⟩) λ_ _ _ _ _ z=>z
end Tactic
end
open PySem PySem.W PyProof.Rows
structure PySem.W.Fast:Prop where (tw2009304444495853076
tw15383456351326124140
tw7015228786850352172
tw4307729683815221019
tw13220382170129036915
tw12461728481378328820
tw933899002657471586
tw14746747398167770083
tw4811492358976834273
tw18315313862986542146
tw15682062215252242244
tw12980958004103780736
tw5790800512907124345
tw8394394211252980682
tw846339282436351567
tw6017452880288461503
tw16565944382139873583
tw15994960560299728346
tw9249683617553889266
tw2940337389163373375
tw2129854664744395153
tw10412308018539170968
tw4814465735250362440
tw9672347152737711574
tw12299308310687456269
tw10282464570312165415
tw10493070819412893608
tw5723560831770798922
tw9567995843586724132
tw10129102956781089044
tw3398317076078387625
tw16451364970193881097
tw10673324032714982072
tw14028167249646420707
tw9651402314574376572
tw10514775615048221973
tw355528008166186357
tw12743289323780232063
tw17371046180079479547
tw4211736188775583997
tw14757558476676110323
tw8709962987041326580
tw2145023942937635477
tw1364476654221612609
tw9799728873474508630
tw15542530173077198866
tw14125223201730663489
tw3989695144611563952
tw6157314636664468147
tw13085739310883765078
tw12001917322775180974
tw3129783306246153612
tw8484472377180515674
tw17587310693650695086
tw16346675767215600802
tw17229358048495951255
tw5762179146206652121
tw5840407845321492424
tw8711500324899379269
tw8309650970028192013
tw16570219626628282616
tw8417986860825255904
tw11006987923898824641
tw5072572618578039137
tw1408091672782697784
tw7544373998535227877
tw4826303839837222562
tw14486544853729330847
tw4267875424565245436
tw8220109859570276869
tw10699269042010444500
tw6210306843684514559
tw14161818087597464249
tw17456333786513493760
tw4891880269100323063
tw13095233912404669008
tw16756527373174794145
tw120240667274618961
tw14274294642852591451
tw12257180399750480594
tw2076688717801846148
tw16165770791629286990
tw11355307633907660382
tw13572552880934892716
tw12394858687997997915
tw16299173926734297220
tw4657695410656920698
tw4535424046718144652
tw15154273623484781754
tw9949029759312546149
tw15988353172125822360
tw15985547181599199846
tw2473431463862823174
tw8062814299761462471
tw12254586317410883680
tw7266246575824457194
tw15943303187955382058
tw1179421109417559052
tw802009819770543824
tw689877106444158905
tw7487502755966471833
tw10296702022127234116
tw9533775864578164353
tw10154912191246163905
tw16491485533054597506
tw17779485324235138831
tw5931394306876796527
tw6511489954933869658
tw2375940220444173179
tw13508291920176038236
tw3630976940379609664
tw17226090812705276453
tw17449710821439469694
tw2308239214106210299
tw5236970508044823644
tw2407947484454527503
tw6461352351614402364
tw13151715590797468672
tw7060798291875774276
tw18240184336143691659
tw16003714714430873403
tw13682168466237889543
tw7718011416004006230
tw16563068450972032240
tw11501332417526488530
tw10203648379219081212
tw3683170107934630737
tw5845436243087623056
tw4281956883384433260
tw6442960921003109126
tw4707912452127711060
tw10268607712268542678
tw12753367158414131933
tw8877124715336968101
tw10950477510061346996
tw3106837022023502694
tw9328774291630109117
tw13646341069969729260
tw9678297889793838107
tw10809212301595946815
tw7698931285469551138
tw7541194523002825883
tw3485599307334914151
tw11195259701863769723
tw12256299656905279024
tw4957483920291588336
tw15377717862464611047
tw1289662431948724327
tw7045334105565937010
tw15153835249638244394
tw17941980969644540605
tw18163751534396574996
tw11376393270247776807
tw2608252912202459300
tw1945218224557326762
tw15495535398367187007
tw13272692133602614725
tw36590973984345924
tw18392861642032316830
tw11575246509100177919
tw1224226179166514588
tw12614117276311381816
tw5127861366601883314
tw10861833756536958083
tw3884657809075897867
tw17466601721655065898
tw7703940381430947024
tw7051221827364430225
tw4127330897706413556
tw12419899371939222684
tw8135785646192897259
tw4505344187113164348
tw4028134539129245640
tw16552315988020046420
tw5140077058594764975
tw18076096835943237729
tw3240886420518802335
tw475663798379242878
tw17563963803878420921
tw2569648291663462757
tw1183430064671801964
tw15032140044923513423
tw17128071388632433907
tw855687748653228796
tw15010873337145951287
tw10293337987471454990
tw15957749826116987196
tw12467548183216982842
tw130719617151913824
tw2516649903665447696
tw1127302923292706028
tw8020425483975772009
tw4186276773338706302
tw81237653787397889
tw4000629500382728467
tw18208241823781613019
tw16568538932269893723
tw4553520645540095268
tw15276257421892893826
tw1308242939289971951
tw1804697438484847102
tw9160031216042239759
tw15851674744542713401
tw6971470588008940434
tw11861897825587517078
tw16509550473825941065
tw17007983399279958558
tw14248308245308834237
tw16241405136510868508
tw14058642175084848540
tw10669453051155872454
tw15207355000854478633
tw5690800607569129823
tw2778176121485102093
tw1392484457528285010
tw3777127018363778728
tw6519073072950563785
tw901282369278471183
tw13646259934683742534
tw11618413214278598265
tw17490580073473853693
tw5260512887176300666
tw11362005034159729182
tw9486802989651873489
tw17350911675378976516
tw5553883905270819424
tw10099533200799329033
tw3171955957616426986
tw17299565837033163059
tw11436805018354938424
tw16683205498731765817
tw15803131476719941662
tw2575145614904464210
tw3133468472337737833
tw14038337268993752855
tw11762234047524579493
tw12265648319769982145
tw10863500527788397871
tw16075760122943760581
tw18284748263520297758
tw13711707111470693903
tw14980326850489430571
tw8605044070324530239
tw4659190519607054020
tw6317798335058174144
tw8390118249650387202
tw14871077061251969494
tw6879401337267001972
tw15361480881543284409
tw16796963691530845303
tw6986377453571394267
tw5925669393044784342
tw33763348155710970
tw13456308637550262087
tw4417237950822223355
tw14857851799960747881
tw14030712619048158974
tw4113863403798226071
tw13732010019597141252
tw17749406010505290292
tw7983845863121970727
tw13620777485884575385
tw16881447469702504228
tw2838028645331066024
tw12637085284590006103
tw3045179379535893364
tw4951063017074360299
tw2469149207280839182
tw14239732186527359675
tw11235020095410410941
tw13419417217501560820
tw2432034489601501244
tw423317608412466587
tw9979048935299024954
tw17545512593786642338
tw7940908777621567888
tw7515696268555451805
tw9480907457018743166
tw1895965790193758689
tw18298550226902187812
tw15399129190989241406
tw6581434329644700728
tw2291882909251426297
tw10036389535691995106
tw1637900148547473697
tw6252751085023151479
tw9489300807028484592
tw14645622716740021777
tw8435499880277820314
tw2758261046100961547
tw14225994149013532011
tw13719987830265083078
tw7688092866158535752
tw4410639504092913182
tw16042541861874756200
tw13003349274296769337
tw13736652745264845561
tw4639919803021692068
tw5779856041433482942
tw6235159367602092939
tw4249683578731402844
tw7932601793428512251
tw7114105175856767509
tw13972669136767465376
tw1004645759478994019
tw13764056842975436220
tw13735029699109099648
tw8163631251928327997
tw4075832219126203557
tw9577863026664488593
tw10971101579156890224
tw7033148824154527596
tw10048233303402008167
tw8055119357918081828
tw2744042198118351823
tw15116339329153688902
tw12022970388329165263
tw17637457062102339257
tw6209694883202557847
tw4475507790071066686
tw17229497191284006185
tw7204414491161847294
tw1276456235903426864
tw14983812885546436497
tw4630501236160532355
tw9024146640997699027
tw17672832655297879993
tw11851484729322930853
tw12208716104959104083
tw15629643957217260804
tw9786440402232424135
tw13337523985750081982
tw10676350377262466529
tw6712090531209926454
tw12688239946196693720
tw6155307537689072249
tw6981216396487575193
tw4551722483767593243
tw8150163479102173849
tw16297097707581691307
tw13611051643988866433
tw6897574796022783994
tw8804289590832303653
tw17622570802095094757
tw7456382123614518363
tw12285359500450723250
tw765718329400316271
tw11460191856468002016
tw12432132860150639780
tw15448918921352153519
tw15394436518579505217
tw17464754296899588362
tw15398648211792008897
tw7103807510696292180
tw8844308703522157896
tw17422702190267465627
tw16602654136703909082
tw2215499654198056454
tw15305106530649893610
tw3804616114818661081
tw17229521526517492198
tw2824182880159816431
tw11901356561701217272
tw4863145190290187530
tw10956465978513342553
tw17767489360017696359
tw9963389969716429237
tw8178163653740130096:True)
set_option maxRecDepth 100000 in
set_option maxHeartbeats 0 in
theorem PySem.Challenge.cw_wakeorder_k73_bad_rows_holds : PySem.Challenge.rw_wakeorder_k73_bad_rows.Holds := by
 w_on;o_law;k_head;(case hw=>w_witness2)
 k_fill
 refine Tactic.walk (l:=PySem.Challenge.rw_wakeorder_k73_bad_rows) rfl rfl (fun w h Y=>PySem.W.kIn_of Y) ?F
 case F=>
  intro w mg fa h KX G hmg;refine' Tactic.fin_mk KX G hmg ?z
  case z=>
   constructor
   all_goals first|exact Lake.dF KX G|exact PySem.W.mg_none_of KX G (by k_is)|exact ⟨_,mg_of KX G (by k_is)⟩|exact mg_of KX G (by k_is)|exact Lake.mF|exact Lake.kF KX G|exact Lake.tF KX G|exact Lake.iF|exact Lake.xF KX G|exact Lake.xM KX G Lake.mF|exact Lake.lF KX G|exact Lake.rS Lake.mF|k_is|kernel_rfl|decide +kernel|(constructor<;>first|k_is|kernel_rfl|rfl|decide +kernel)|(simp only [List.mem_cons,List.not_mem_nil,or_false,forall_eq_or_imp,forall_eq];repeat' constructor)<;>first|k_is|kernel_rfl
