import PyProof.Rows.All
import PyProof.StrLawsNeg
import PyProof.StrLawsReplace
import PyProof.StrCalls6
import KE.KUnpack
import PyProof.DictUpdate
import PyProof.Rows.IntMath
import PyProof.FitsBits
import PyProof.StrBlockI
import PyProof.StrBlock2
import PyProof.Draws
import PyProof.EnumMake
import PyProof.Rows.StrNews
import KE.KIntText
import PyProof.PureStr
import PyProof.MeetsStr2
import PyProof.Rows.StrItems
import PyProof.StrLawsChain
import PyProof.StrLawsTight
import PyProof.StrLawsIn
import PyProof.StrWalks
import PyProof.FactsAll.str_7
import PyProof.FactsAll.list_1
import PyProof.FitsReplace
import PyProof.FactsAll.str_5
import PyProof.FString
import PyProof.StrLawsJoin
import PyProof.MeetsStr
import KE.KDictSum
import PyProof.Rows.RuleC_int
import PyProof.FactsAll.tuple_1
import KE.KEqDict
import PyProof.Rows.TupTab
import PyProof.AttrMissSeq
import KE.KDictOf
import KE.KPairComp
import PyProof.DictWalks
import PyProof.DictValues
import PyProof.DictItems
import PyProof.Rows.SetFrom
import KE.KRevIter
import PyProof.InstStoreFacts
import PyProof.ExcInit
import PyProof.IsiBase
import PyProof.ExcAttrAll.ValueError
import OpenK.KDescr
import KE.KIsAll
import PyProof.Rows.CatchOwn
import PyProof.RulesTry
import PyProof.RulesAs
import PyProof.RulesDel
import OpenK.KOwn
import PyProof.ExcBaseAll.ValueError
import PyProof.StationsW
import Wide.All
import OpenK.AllK
import Wide.FinOn
import Lean
import PyProof.EqAt
import PyProof.EqKinds
import PyProof.NeKinds
import PyProof.TupleCall
import PySem.Challenge.RW_wakeorder_k80_a_desk_told
open Option renaming some->a_,none->c_,isSome_iff_exists->IF,getD_none->Li,map_some->Ln,any_eq_true->MI,isSome_map->MZ
open Bool renaming false->b_,true->d_,and_eq_true->l_,false_ne_true->HV,not_eq_true'->IG,eq_iff_iff->Js,or_eq_true->JQ,and_false->J9,true_and->L_,and_true->Ma,or_true->Mr
open PySem.Str renaming ofString->e_,join->Gz,empty->Ip,length->K9
open PySem renaming Addr->f_,starEach->h_,Str->i_,sizeLine->j_,Value->m_,wpAny_bind->n_,Shared->u_,boot_len->B_,wpAny->D_,wpAny_pure->F_,model->GD,eval->GI,compareOp->GL,World->GW,mainGlobals->GY,backTo->He,Stmt->Hm,Heap->Hq,sizeLine_eq->Hr,keywordEach->Hs,attributeBase->HA,wpAny_mono->HC,Expr->HG,wpAny_truthy_bool->HJ,mem_of_lookup->HM,Program->HP,assignEach->HU,cellsFrom->HX,backToKw->Ic,Keyword->Ie,binaryOp->Ih,FuncData->Iq,wpAny_Call_Name_kw->ID,swapsWith->II,wpAny_loadPart_at->IJ,codeAny_mono->IK,cLine->IL,bootBuiltins->IM,behindInMarks->IP,Around->IY,wpAny_passesOwn->Jc,intText?->Jd,NameKind->Jf,foldedSetIterable->Jk,sysModules->Jn,strValues->Jp,wpAny_standAt->Jy,wpAny_execs_nil->JA,wpAny_field->JC,ExcBaseFacts->JL,call->JR,Within->JS,Paired->JT,codeAny->Kb,typeIs_str->Kg,call_meets->Kh,wpAny_pyIter_list->Ks,wpAny_newObj_type->Kt,excClassObj->Ku,wpAny_holding->KA,wpAny_call->KJ,wpAny_Name->KL,wpAny_Call_method_late->KN,letOwnedTupleGo->KR,Obj->K1,wpAny_setField->K3,sliceBounds->K4,codeAny_call_builtin->K5,bindArgs->K6,assign->K7,setFlight->Lc,lastMarks->Le,getMethod->Lf,BindsTo->Lh,rawInt->Lv,concat_meets->LA,callerA->LB,callWith->LC,Scope->LH,Model->LI,plainObj_wpAny_Assign_Attribute->LN,Env->LP,wpAny_execs_cons->LS,noFill_tuple_add->LU,IsPart->LX,pushCells_keeps->Mc,standAt->Mi,holding->Mj,newFunctionEnv->Mt,wpAny_comprehension_free->MN,swapsWithSole->MO,swappedStores->MP,seq_tuple_add->MQ,assignInOrder->MR,noteFrame->M6,bindL->M7,bindC->M8,PassesOwn->Nb,spliced->Nf,isTrue->Ng,intKind->Nh,getItem->Ni,OwnTail->Np,wpAny_isTrue_Compare1->Ny,wpAny_loadName_local->NG,wpAny_BinOp->NH,evalEach->NI,bindName->NJ,wpAny_loadName_free->NT,wpAny_loadName_cell->NU,wpAny_isSubtype_exc->NV,tupleKind_room_in1->N0,reduceHash->N1,builtinsNs->N2,PlainAttrs->N5,wpAny_pyIter_enum->Oc,wpAny_dictEntries->Od,wpAny_assign_Name->Oe,unaryOp->Of,slot_list_getitem->Og,setAttr->Oh,leaving->Oi,Sem->Oq,wpAny_pyIter_zip->Oz,wpAny_lookBehind->OA,wpAny_call_entry->OB,seqIndex?->OC,pastItsLine_dict->OD,Pos->OE,DictEntry->OJ
open Decidable renaming decide->o_,byContradiction->Ls
open List renaming getElem?_set_ne->p_,mem_cons->q_,map_map->s_,length_map->w_,getElem?_set_self->x_,lookup_cons->y_,getElem?_eq_some_iff->A_,replicate->C_,mem_cons_of_mem->Gv,length_append->Gx,length_cons->Gy,length_set->GB,map_append->GF,map_cons->GJ,mem_singleton->GK,mem_append->GO,not_mem_nil->GQ,mem_of_getElem?->GX,mem_map->GZ,getElem?_eq_getElem->G_,mem_cons_self->Hg,getElem_mem->Hj,all_eq_true->Hk,append_assoc->Hl,exists_cons_of_length_eq_add_one->Ht,mem_append_right->Hv,size_toArray->Hy,drop_eq_getElem_cons->Hz,range->HF,mem_filter->HL,map_congr_left->HN,getElem?_map->HQ,length_replicate->HS,lookup->H_,append_nil->Ia,getElem?_append_left->IC,mem_filterMap->IX,nodup_append->Jb,getElem?_append_right->Ji,exists_cons_of_ne_nil->Jj,find?_cons->Jr,length_eq_zero_iff->Ju,getElem?_replicate->Jv,getElem?_cons_succ->Jw,findIdx?_eq_some_iff_getElem->Jx,eraseIdx_eq_take_drop_succ->JF,getElem?_eq_none->JI,length_take->JJ,nodup_cons->JO,nil_append->JP,map_eq_nil_iff->JV,map_nil->JW,all_map->JX,drop_zero->J8,map->Km,filter_cons->Kn,ext_getElem->Ko,take_of_length_le->Ky,drop_eq_nil_of_le->Kz,eraseIdx_sublist->KD,mem_append_left->KI,length_pos_iff->KS,filterMap_cons->KU,drop_length->Lp,cons_append->Lq,any_eq_true->Lr,of_mem_zip->Lz,getD_eq_getElem?_getD->LR,getElem?_set_self'->Mh,range_succ_eq_map->Mp,length_singleton->MA,getElem?_toArray->MB,map_id->MJ,length_eraseIdx->MK,length->ML,getElem_toArray->MM,getElem_of_mem->M0,getElem?_range->M1,filter_eq_self->M3,contains_cons->Nc,mem_range'_1->Nu,length_range->Nv,getElem?_inj->Nw,length_drop->NB,getElem_inj->NC,append_cons->ND,nodup_nil->NY,map_take->N9,map_drop->N_,all_cons->Oa,range'->OU
open PySem.Heap renaming get?_push_of_some->r_,lt_size->t_,get?_push_size->GC,get?_update_other->Hd,size_push->Ii,get?_update_self->JG,SameBut->Kv
open Nat renaming le_refl->z_,lt_of_lt_of_le->GA,ne_of_lt->GS,le_trans->Ha,le_succ->Hw,lt_irrefl->HE,zero_le->Ib,lt_succ_self->Iu,toDigits->JZ,ne_of_gt->J0,le_of_lt->J1,lt_trans->KC,not_lt->L1,lt_of_le_of_lt->Nt,lt_succ_of_lt->NA,succ_ne_zero->NP,min_eq_right->NQ,not_lt_zero->NW,min_eq_left->NX,add_assoc->Oy,mul_zero->OR,le_of_eq->OS,add_comm->OT
open PySem.W renaming findIn->GG,emptyDict->HB,kitOne->HD,mroIn->HY,typeIn->Iy,instObj->Iz,cellsFrom_some->IQ,kia_one->I_,keepIn->Ja,excIn->JD,methodCall_KW->Kp,plainGet_of->KG,isNs_of_in->KO,methodObj->KW,kitx_list->KY,OpenLaw->K8,specialIn->Lg,fnOf->Lk,callWith_K->Lw,plainGet->LF,hasDictIn->LV,codeIn->LW,looks_clsIn->Md,clsIn->Ml,callWith_K0->Mm,tail_of_in->Mu,kitx_tuple->Mv,kitx_none->MC,kitx_dict->MD,kitx_bool->ME,kitx_str->MT,kitx_int->MU,handedIn->MV,WalkO->MW,readsIn->M9,plainOver->M_,findCls->Na,nsIn->Nj,makesIn->Nk,any_some->Nl,InstAt->Nn,looks_mroIn->NL,looks_findIn->NM,Frag->N3,takesIn->Oj,set_plain->Ol
open PySem.F renaming plainAttrs_list->GN,slot_list_append->Hf,type_list_append->Ho,excBase_ValueError->Hu,slot_str_join->HZ,type_str_join->Io,args_tuple_add_2->J_,entry_tuple_add->Kc,slot_tuple_add->Kk,slot_str_split->Kl,slot_list_pop->KQ,slot_str_startswith->Lm,slot_list_index->LO,type_str_split->LY,plainAttrs_str->LZ,type_list_pop->L7,slot_dict_get->L8,slot_dict_eq->Mg,slot_list_extend->My,slot_list_clear->MH
open PySem.Value renaming ref->GP,str->Ij,none->Je,type->JY,int->Kj,bool->LG,float->Mw,isInt->Om,bytes->Oo
open Option.some renaming inj->GR,injEq->L9
open PySem.Builtin.Str renaming occurrences->GU,strSliceIndices->JH,partsBetween->Ll,strKind->LQ,strSub->L0
open PyProof.Rows renaming boot_str->GV,boot_list->IH,envOfC->IS,slot_tuple_getitem->IT,callWith_type1->JE,pendingOf->JU,AllBare->Kx,boot_int->Lx,assignInOrder_cons->Ly,boot_all->LL,IntsAre->Mn,SortSt->Mz,subscriptTail_builtinR->Nq,SortKind->NO,chain_link->N8,assignInOrder_nil->Ow,IsTup->Ox
open Except renaming ok->Hb,error->IU,bind->Ob
open False renaming elim->Hi
open PySem.Txt renaming startswith->Hx,split->IE,replace->IW,slice->JK
open Ne renaming symm->HI
open Nat.succ renaming inj->HR
open Pure renaming pure->Ig
open Except.ok renaming inj->Ik
open PySem.NameKind renaming cell->Il
open Array renaming length_toList->Im,toList_append->Jl,getElem?_eq_some_iff->J5,toList->Lb,find?_toList->M4,append_assoc->M5
open PySem.Calls renaming spliced_cons->Ir,callWith_builtin->IV,evalArgs_plain->Jg,Constant_str->Jq,spliced_nil->Jz,Name_function_global->LJ
open True renaming intro->Iv
open LawfulBEq renaming eq_of_beq->IA
open PySem.Builtin.Slice renaming slicePlaces->IZ,sliceAdjust->JM,sliceApplied->KZ,slicePartIndex->OO,sliceFields->OP
open PySem.Builtin.Tuple renaming tupleHashOf->Jh,tupleItemsOf->OM,tupleExact->ON
open Int renaming emod_nonneg->Jt,emod_lt_of_pos->Ka,eq_ofNat_of_zero_le->Kr,cast_ofNat_Int->Nx,natCast_zero->NR,natCast_add->NZ,le_trans->OW
open List.cons renaming inj->JB,injEq->Ke
open PySem.Builtin.List renaming listTooLong->JN
open PySem.NumText renaming digitsVal->J6
open PySem.AutoSeq1 renaming wpAny_loadPart'->J7
open ForInStep renaming yield->Kf
open PySem.SeqAt renaming EqAt->Kq,ne_of_list_tuple->Me,RcNeAt->Mf,RcAt->MY
open PySem.EntryCells renaming newEntry->Kw
open PySem.Obj renaming isFreed_of_fields->KH,mapFields->K0,data_mapFields->K_
open PySem.Paired renaming length->KP
open PySem.Code renaming quiet_builtin->K2
open PySem.Builtin.Dict renaming dictSlotArgs->La
open Classical renaming byContradiction->Lu
open Sum renaming inl->LM,inr->Ms
open PySem.StrLaws renaming glued_eq_join->L6,partsFrom->MF,found_one->MG,At->N4
open PySem.Heap.Ns1 renaming of_empty->Mx
open PySem.Within renaming cons->MS
open PySem.W.Looks renaming here->MX
open PyProof.Rows.IsTup renaming new->Nr
open PySem.Builtin.ObjectAttr renaming storeInOwnDict->Nz
open PySem.Challenge renaming pw_wakeorder_k80_a_desk_told->N6
open PySem.Meets renaming of_wp->Ot
open PySem.Heap.IsSliceOf renaming new->Ou
open PySem.CmpOp renaming NotIn->Ov
open PySem.EqMixed renaming ne_str_int->OF,ne_str_bool->OG,ne_int_str->OH,ne_bool_str->OI
open PySem.Builtin.Range renaming rangeSize->OQ
open List.Pairwise renaming nil->OV
abbrev g_:=@if_pos
abbrev k_:=@if_neg
abbrev v_:=@decide_eq_false
abbrev E_:=@decide_eq_true
abbrev Gw:=@absurd
abbrev GH:=@decide_eq_true_eq
abbrev HW:=@of_decide_eq_true
abbrev Iw:=@or_false
abbrev IB:=@decide_eq_false_iff_not
abbrev Jm:=@beq_iff_eq
abbrev Jo:=@congrArg
abbrev L3:=@DecidableEq
abbrev Mb:=@beq_eq_false_iff_ne
abbrev Nd:=@beq_self_eq_true
abbrev NS:=@if_true
set_option Elab.async false
set_option linter.all false
set_option maxRecDepth 100000
set_option maxHeartbeats 4000000
open PySem.W (lookIn plainGet hasDictIn isFn plainOver takerIn makesIn keepIn specialIn takesIn kitOne kia_one callWith_K fnOf codeIn nsIn mg_of)
abbrev Pn:=N3
abbrev Vp:=List (f_×K1)
abbrev Mq:=m_->u_->Prop
abbrev Ld:=i_->Option m_
set_option compiler.extract_closed false
noncomputable section
theorem Jq0(_:True:=by rfl):True:=trivial
local macro_rules|`(~~~$t)=>`(autoParam $t Jq0._auto_1)
theorem Jq1(_:True:=by decide):True:=trivial
local macro_rules|`($t⁻¹)=>`(autoParam $t Jq1._auto_1)
theorem Jq2_(_:True:=by k_is):True:=trivial
def Jq2:Lean.Syntax:=Jq2_._auto_1
theorem Jq3_(_:True:=by first|exact .inl rfl|exact .inr rfl|assumption):True:=trivial
def Jq3:Lean.Syntax:=Jq3_._auto_1
theorem Jq4_(_:True:=by first|exact Or.inl rfl|exact Or.inr (Or.inl rfl)|exact Or.inr (Or.inr rfl)):True:=trivial
def Jq4:Lean.Syntax:=Jq4_._auto_1
theorem Jq5_(_:True:=by intro _;rfl):True:=trivial
def Jq5:Lean.Syntax:=Jq5_._auto_1
theorem Jq6_(_:True:=by first|exact Or.inl rfl|exact Or.inr rfl):True:=trivial
def Jq6:Lean.Syntax:=Jq6_._auto_1
theorem Jq7_(_:True:=by first|k_is|kernel_rfl):True:=trivial
def Jq7:Lean.Syntax:=Jq7_._auto_1
theorem Jq8_(_:True:=by with_unfolding_all rfl):True:=trivial
def Jq8:Lean.Syntax:=Jq8_._auto_1
theorem Jq9_(_:True:=by exact⟨rfl,rfl,rfl,by decide +kernel,rfl,by decide +kernel,by decide +kernel⟩):True:=trivial
def Jq9:Lean.Syntax:=Jq9_._auto_1
theorem Jq10_(_:True:=by first|exact Bh _|with_unfolding_all rfl):True:=trivial
def Jq10:Lean.Syntax:=Jq10_._auto_1
theorem Jq11_(_:True:=by exact PassesOwn.never):True:=trivial
def Jq11:Lean.Syntax:=Jq11_._auto_1
theorem Jq12_(_:True:=by intro _ _ _ _ _ _ us hl;repeat' (first|(simp at hl;done)|rfl|(cases us<;>try rename_i us))):True:=trivial
def Jq12:Lean.Syntax:=Jq12_._auto_1
theorem Jq13_(_:True:=by intros;rfl):True:=trivial
def Jq13:Lean.Syntax:=Jq13_._auto_1
theorem dkK{p:Prop}(h:p:=by decide +kernel):p:=h
theorem am{p:Prop}(h:p:=by lia):p:=h
theorem a8{p:Prop}(h:p:=by simp):p:=h
theorem a'{p:Prop}(h:p:=by decide):p:=h
theorem bt{p:Prop}(h:p:=by simp_all):p:=h
abbrev PySem.Shared.z(s:PySem.Shared):=s.heap.objs.size
set_option bootstrap.genMatcherCode false
set_option genSizeOf false
set_option genInjectivity false
namespace Lake
open PySem PySem.Spec PyProof.Rows
abbrev ce:=List m_
abbrev cc:=List Nat
abbrev ca:=List Int
abbrev bv:=List i_
variable{κ:Type}{a b dx C:f_}{P prog:HP}{h h':Hq}{e c tg:HG}{B':Vp}{s s':u_}{g':Array GenState}{ch fp:List f_}{N ps:List i_}{i j k n:Nat}{A:IY}{E:Mq}{u:m_}{Q:Unit->u_->Prop}{pos pos' p:OE}{op op':CmpOp}{K:Pn}{es:List HG}{g:Int->Int->Int}{body:List Hm}{f:m_->m_->Oq m_}{us:List m_}{mA mg:Ld}{name qual:i_}{pl:Oq Bool}{kw:List (i_×m_)}{outer:List LP}{fd:Iq}{scope:LH}
noncomputable abbrev Key:=Sum Int i_
noncomputable def keyIs:Key->m_->Bool
 |.inl k,v=>Om k v|.inr x,v=>Value.isStrOf x v
noncomputable def keyH(w:GW):Key->Int
 |.inl k=>hashInt k|.inr x=>hashStr w x
theorem dC:∀{k:Key} {v:m_},keyIs k v=d_->(∃i t,k=LM i/\v=Kj i t)\/(∃x t,k=Ms x/\v=Ij x t)
 |.inl i,v,h=>by obtain⟨t,e⟩:=Value.isInt_shape (k:=i) (v:=v) h;exact .inl ⟨i,t,rfl,e⟩
 |.inr x,v,h=>by obtain⟨t,e⟩:=Value.isStrOf_shape (x:=x) (v:=v) h;exact .inr ⟨x,t,rfl,e⟩
theorem key_ll(a b:Int):o_ ((LM a:Key)=LM b)=(a==b):=am
def key_rr(a b:i_):o_ ((Ms a:Key)=Ms b)=o_ (a=b):=by simp
def key_lr(a:Int)(b:i_):o_ ((LM a:Key)=Ms b)=b_:=by rfl
def key_rl(a:i_)(b:Int):o_ ((Ms a:Key)=LM b)=b_:=by rfl
def A9(prog:HP)(w:GW):PySem.KeyKind prog w Key where
 is:=keyIs
 hash:=keyH w
 inj:=λv a b Y I=>by
  rcases dC Y with⟨i,t,rfl,rfl⟩|⟨x,t,rfl,rfl⟩
  .rcases dC I with⟨j,u,rfl,e⟩|⟨y,u,rfl,e⟩
   .simp_all
   simp_all
  .rcases dC I with⟨j,u,rfl,e⟩|⟨y,u,rfl,e⟩
   .simp_all
   simp_all
 byValue:=λk v h=>by rcases dC h with⟨i,t,rfl,rfl⟩|⟨x,t,rfl,rfl⟩<;>rfl
 pyHash:=λhv h=>by
  rcases dC hv with⟨i,t,rfl,rfl⟩|⟨x,t,rfl,rfl⟩
  .exact wpAny_pyHash_int h
  .exact wpAny_pyHash_str h
 eqBool:=λJ hv h=>by
  rcases dC J with⟨i,t,rfl,rfl⟩|⟨x,t,rfl,rfl⟩
  .rcases dC hv with⟨j,u,rfl,rfl⟩|⟨y,u,rfl,rfl⟩
   .rw[key_ll]at h;exact wpAny_eqBool_int h
   .rw[key_lr]at h;exact SeqAt.EqAt.int_str i t y u _ _ _ _ h
  .rcases dC hv with⟨j,u,rfl,rfl⟩|⟨y,u,rfl,rfl⟩
   .rw[key_rl]at h;exact SeqAt.EqAt.str_int x t j u _ _ _ _ h
   .rw[key_rr]at h;exact wpAny_eqBool_str h
 «strs»:=λk x t v h=>by
  rcases dC h with⟨i,u,rfl,e⟩|⟨y,u,rfl,e⟩
  .simp_all
  .injection e with e1 _
   subst e1;cases v<;>rfl
set_option genInjectivity true in
set_option bootstrap.genMatcherCode true in
inductive V where
 |non|bl (b:Bool)|int (i:Int)|str (x:i_)|byt (b:Array UInt8)|flt (b:UInt64)|ref (a:f_)|ty (n:String)
 deriving DecidableEq
abbrev b':=List V
variable{v y:V}
def Gq:V->m_->Prop
 |.non,u=>u=Je|.bl b,u=>u=LG b|.int i,u=>∃t,u=Kj i t
 |.str x,u=>∃t,u=Ij x t
 |.byt b,u=>∃t,u=Oo b t
 |.flt b,u=>∃t,u=Mw b t
 |.ref a,u=>u=GP a|.ty n,u=>u=JY n
abbrev Gr:b'->ce->Prop:=JT Gq
theorem Gr.length{xs:b'}{us:ce}(r:Gr xs us):xs.length=us.length:=KP r
theorem Gr.get:∀{xs:b'} {us:ce} {i:Nat} {x:V},Gr xs us->xs[i]?=a_ x->∃u,us[i]?=a_ u/\Gq x u
 |_,_,_,_,.nil,e=>by simp at e|_,_,0,_,.cons r _,e=>by simp at e;subst e;exact⟨_,rfl,r⟩|_,_,i+1,x,.cons _ t,e=>by obtain⟨u,h1,h2⟩:=Gr.get (i:=i) (x:=x) t (by simpa using e);exact⟨u,by simpa using h1,h2⟩
theorem Gr.append:∀{xs ys:b'} {us ws:ce},Gr xs us->Gr ys ws->Gr (xs++ys) (us++ws)
 |_,_,_,_,.nil,s=>s|_,_,_,_,.cons r t,s=>.cons r (Gr.append t s)
theorem Gr.take:∀{xs:b'} {us:ce} (n:Nat),Gr xs us->Gr (xs.take n) (us.take n)
 |_,_,0,_=>.nil|_,_,_+1,.nil=>.nil|_,_,n+1,.cons r t=>.cons r (Gr.take n t)
theorem Gr.drop:∀{xs:b'} {us:ce} (n:Nat),Gr xs us->Gr (xs.drop n) (us.drop n)
 |_,_,0,r=>r|_,_,_+1,.nil=>.nil|_,_,n+1,.cons _ t=>Gr.drop n t
def xf:Option V->Option m_->Prop
 |some v,a_ u=>Gq v u|none,c_=>True|_,_=>False
def KV:List (κ×V)->List (κ×m_)->Prop:=JT λ(p:κ×V) (q:κ×m_)=>p.1=q.1/\Gq p.2 q.2
noncomputable def kV:Key->V
 |.inl i=>.int i|.inr x=>.str x
set_option genInjectivity true in
inductive HO where
  |lst (xs:List V)
  |tup (xs:List V)
  |dK (D':List (Key×V))|dT (D':List (List Key×V))
  |set (S:Int->Bool) (n:Nat)
  |ins (C dx:f_) (fs:List (i_×V))
  |own (x:f_)
  |xd (fs:List (i_×V))
  |met (f x:f_)
  |rng (lo hi:Int)
  |frz (o:K1) (u:HO)
  |tbl (ps:Array m_)
  |ext (φ:Hq->Prop)
variable{o:HO}
noncomputable abbrev Hp:=f_->Option HO
variable{H H':Hp}
noncomputable def upd(H:Hp)(a:f_)(o:HO):Hp:=λb=>if b=a then a_ o else H b
def aj:upd H a o a=a_ o:=by simp[upd,g_]
theorem ao(h:b≠a):upd H a o b=H b:=by simp_all[upd,k_]
theorem aV(h:H a=a_ o)(h':H b=c_):a≠b:=am
section
variable(P:HP)(w:GW)
def iA(H:Hp)(h:Hq)(a:f_):HO->Prop
 |.lst xs=>xs.length<=j_/\∃(G':ce) (n:Nat),Gr xs G'/\h.get? a=a_ {cls:=.type "list",data:=.seq G'.toArray n}
 |.tup xs=>xs.length<=j_/\∃G':ce,Gr xs G'/\Ox h a G'.toArray
 |.dK I=>I.length<=j_/\(a==Jn)=b_/\∃vs,KV I vs/\h.DictOf (A9 P w) a vs
 |.dT I=>I.length<=j_/\(a==Jn)=b_/\∃xs:List (List Key×f_×m_),
   JT (λ(p:List Key×V) (q:List Key×f_×m_)=>p.1=q.1/\H q.2.1=a_ (.tup (p.1.map kV))/\Gq p.2 q.2.2) I xs /\
   ∃o es ep,h.get? a=a_ o/\o.ExactDict/\o.data=.dict es ep/\es.toList=xs.map (entryOfKey (tupleKind (A9 P w)))/\(xs.map (·.1)).Nodup
 |.set S n=>h.SetOf (Nh P w) a S n|.ins C dx fs=>H dx=a_ (.own a)/\fs.length<=1000/\dx≠a/\h.get? a=a_ (Iz C dx) /\
   ∃mA,h.Ns1 dx mA/\(∀f,xf (fs.lookup f) (mA f))/\JS mA (fs.map (·.1))
 |.own _=>∃o,h.get? a=a_ o
 |.xd fs=>∃mA,h.Ns1 a mA/\∀f,xf (fs.lookup f) (mA f)
 |.rng lo hi=>∃t u v,h.get? a=a_ {cls:=.type "range",data:=.fields #[.int lo t,.int hi u,.int 1 v]}
 |.frz o u=>h.get? a=a_ o/\iA H h a u|.tbl ps=>h.get? a=a_ {cls:=.none,data:=.fields ps}|.met f x=>h.get? a=a_ (KW (.ref f) (.ref x))|.ext J=>J h/\(∃o,h.get? a=a_ o)/\∀h1 h2:Hq,J h1->(∀o,h1.get? a=a_ o->h2.get? a=a_ o)->J h2
def HOk(H:Hp)(h:Hq):Prop:=∀a o,H a=a_ o->iA P w H h a o
end
section
variable{w:GW}
theorem iA.lt(x:iA P w H h a o):a<h.objs.size:=by
 cases o with
 |lst xs=>obtain⟨_,_,_,_,e⟩:=x;exact t_ e
 |tup xs=>obtain⟨_,_,_,p⟩:=x;exact p.lt
 |dK I=>obtain⟨_,_,_,_,o,_,_,e,_⟩:=x;exact t_ e
 |dT I=>obtain⟨_,_,_,_,o,_,_,e,_⟩:=x;exact t_ e
 |set S n=>obtain⟨o,_,_,_,e,_⟩:=x;exact t_ e
 |ins C dx fs=>obtain⟨_,_,_,e,_⟩:=x;exact t_ e
 |own y=>obtain⟨_,e⟩:=x;exact t_ e
 |xd fs=>obtain⟨_,⟨_,_,_,e,_⟩,_⟩:=x;exact t_ e
 |rng lo hi=>obtain⟨_,_,_,e⟩:=x;exact t_ e
 |frz Y u=>obtain⟨e,_⟩:=x;exact t_ e
 |tbl ps=>exact t_ (show h.get? a=a_ _ from x)|met f y=>exact t_ (show h.get? a=a_ _ from x)|ext J=>obtain⟨_,⟨_,e⟩,_⟩:=x;exact t_ e
theorem Paired.mapP{α β:Type}{F G:α->β->Prop}:∀{J:List α} {I:List β},JT F J I->(∀a b,F a b->G a b)->JT G J I
 |_,_,.nil,_=>.nil|_,_,.cons r t,f=>.cons (f _ _ r) (Paired.mapP t f)
def iA.zy(x:iA P w H h a o)(k:∀b u,(b=a\/H b=a_ (.own a))->h.get? b=a_ u->h'.get? b=a_ u)(j:∀b,H b=a_ (.own a)->H' b=a_ (.own a))(i:∀b xs,H b=a_ (.tup xs)->H' b=a_ (.tup xs)):iA P w H' h' a o:=by
 induction o with
 |lst xs=>obtain⟨z,G',n,r,e⟩:=x;exact⟨z,G',n,r,k _ _ (.inl rfl) e⟩
 |tup xs=>obtain⟨z,G',r,I,e,c⟩:=x;exact⟨z,G',r,I,k _ _ (.inl rfl) e,c⟩
 |dK J=>obtain⟨z,y,vs,r,I,es,ep,e,c⟩:=x;exact⟨z,y,vs,r,I,es,ep,k _ _ (.inl rfl) e,c⟩
 |dT J=>obtain⟨z,y,xs,r,I,es,ep,e,c⟩:=x;exact⟨z,y,xs,Paired.mapP r λp q z=>⟨z.1,i _ _ z.2.1,z.2.2⟩,I,es,ep,k _ _ (.inl rfl) e,c⟩
 |set S n=>obtain⟨I,es,ep,t,e,c⟩:=x;exact⟨I,es,ep,t,k _ _ (.inl rfl) e,c⟩
 |ins C dx fs=>obtain⟨d,z,Y,e,mA,⟨od,es,ep,e2,c⟩,r⟩:=x;exact⟨j _ d,z,Y,k _ _ (.inl rfl) e,mA,⟨od,es,ep,k _ _ (.inr d) e2,c⟩,r⟩
 |own y=>obtain⟨I,e⟩:=x;exact⟨I,k _ _ (.inl rfl) e⟩
 |xd fs=>obtain⟨mA,⟨od,es,ep,e,c⟩,r⟩:=x;exact⟨mA,⟨od,es,ep,k _ _ (.inl rfl) e,c⟩,r⟩
 |rng lo hi=>obtain⟨t,u,v,e⟩:=x;exact⟨t,u,v,k _ _ (.inl rfl) e⟩
 |frz I u g=>obtain⟨e,q⟩:=x;exact⟨k _ _ (.inl rfl) e,g q⟩
 |tbl ps=>have e:h.get? a=a_ {cls:=.none,data:=.fields ps}:=x;show h'.get? a=a_ {cls:=.none,data:=.fields ps};exact k a _ (.inl rfl) e|met f y=>have e:h.get? a=a_ (KW (.ref f) (.ref y)):=x;show h'.get? a=a_ (KW (.ref f) (.ref y));exact k a _ (.inl rfl) e|ext l=>obtain⟨p,⟨o,e⟩,st⟩:=x;exact⟨st _ _ p λo q=>k _ _ (.inl rfl) q,⟨o,k _ _ (.inl rfl) e⟩,st⟩
theorem HOk.lt(x:HOk P w H h)(e:H a=a_ o):a<h.objs.size:=(x a o e).lt
def HOk.fresh(x:HOk P w H h)(e:h.objs.size<=a):H a=c_:=by
 cases q:H a with
 |none=>rfl|some u=>exact Gw (GA (x.lt q) e) (HE _)
def HOk.kept(x:HOk P w H h)(k:∀b u,h.get? b=a_ u->h'.get? b=a_ u):HOk P w H h':=λa o e=>(x a o e).zy (λb u _ q=>k b u q) (λ_ q=>q) λ_ _ q=>q
theorem HOk.laid(x:HOk P w H h)(k:∀b u,h.get? b=a_ u->h'.get? b=a_ u)(Y:h.objs.size<=a)(J:iA P w (upd H a o) h' a o):HOk P w (upd H a o) h':=λb u e=>by
 have I:=x.fresh Y;by_cases d:b=a
 .simp_all[aj]
 .rw[ao d]at e;exact(x b u e).zy (λc v _ q=>k c v q) (λc q=>by rw[ao (aV q I)];exact q) λc xs q=>by rw[ao (aV q I)];exact q
end
def Rd(H:Hp)(a:f_)(u:HO):Prop:=H a=a_ u\/∃o,H a=a_ (.frz o u)
def Rd.ok{w:GW}{u:HO}(r:Rd H a u)(x:HOk P w H h):iA P w H h a u:=by
 rcases r with r|⟨o,r⟩
 .exact x a u r
 .obtain⟨_,q⟩:=x a _ r;exact q
def Mut:Option HO->Prop
 |some (.lst _)=>True|some (.dK _)=>True|some (.dT _)=>True|some (.set _ _)=>True|some (.ins _ _ _)=>True|some (.ext _)=>True|_=>False
section
variable{w:GW}{x e:f_}{o':HO}
theorem HOk.write(i:HOk P w H h)(a:Mut (H x))(l:e=x\/H e=a_ (.own x))(k:∀b u,b≠e->h.get? b=a_ u->h'.get? b=a_ u)(d:∃u,h'.get? e=a_ u)(j:iA P w (upd H x o') h' x o'):HOk P w (upd H x o') h':=λb u q=>by
 have Y:∀c y,H c=a_ (.own y)->c≠x:=λc y r z=>by subst z;rw[r]at a;exact a
 have J:∀c xs,H c=a_ (.tup xs)->c≠x:=λc xs r z=>by subst z;rw[r]at a;exact a
 by_cases g:b=x
 .simp_all[aj]
 .rw[ao g]at q;by_cases I:b=e
  .have f:H b=a_ (.own x):=by
    rcases l with z|z
    .exact Gw (I.trans z) g
    .rw[I];exact z
   rw[q]at f;cases f;obtain⟨v,hv⟩:=d;exact⟨v,by rw[I];exact hv⟩
  .refine(i b u q).zy (λc v m r=>k c v ?_ r) (λc r=>by rw[ao (Y c b r)];exact r) λc xs r=>by rw[ao (J c xs r)];exact r
   grind
end
structure Un(fs ex:List f_)(H H':Hp)(h h':Hq):Prop where
 keep:∀b o,h.get? b=a_ o->H b=c_->b∉fs->b∉ex->h'.get? b=a_ o
 slot:∀b o,h.get? b=a_ o->H b=c_->b∈fs->b∉ex->∃sl,h'.get? b=a_ {o with slots:=sl}
 free:∀b o,h.get? b=a_ o->H b=c_->b∉ex->H' b=c_
 there:∀b o,h.get? b=a_ o->b∉ex->∃o',h'.get? b=a_ o'
 tups:∀b xs,H b=a_ (.tup xs)->H' b=a_ (.tup xs)
 frzs:∀b o u,H b=a_ (.frz o u)->H' b=a_ (.frz o u)
 tbls:∀b ps,H b=a_ (.tbl ps)->∃more,H' b=a_ (.tbl (ps++more))
section
variable{fs ex:List f_}{H1 H2:Hp}{h1 h2:Hq}{x e:f_}
def Un.any(u:Un fs ex H H1 h h1){I:K1}(q:h.get? b=a_ I)(n:H b=c_)(J:b∉ex):∃a,h1.get? b=a_ {I with slots:=a}:=by
 by_cases Y:b∈fs
 .exact u.slot b I q n Y J
 .exact⟨I.slots,u.keep b I q n Y J⟩
theorem Un.trans(a:Un fs ex H H1 h h1)(b:Un fs ex H1 H2 h1 h2):Un fs ex H H2 h h2 where
 keep:=λc I q n Y J=>b.keep c I (a.keep c I q n Y J) (a.free c I q n J) Y J
 slot:=λc I q n Y J=>by obtain⟨e,e1⟩:=a.slot c I q n Y J;obtain⟨d,e2⟩:=b.slot c _ e1 (a.free c I q n J) Y J;exact⟨d,e2⟩
 free:=λc I q n J=>by obtain⟨o',e1⟩:=a.there c I q J;exact b.free c o' e1 (a.free c I q n J) J
 there:=λc I q J=>by obtain⟨o',e1⟩:=a.there c I q J;exact b.there c o' e1 J
 tups:=λc xs q=>b.tups c xs (a.tups c xs q)
 frzs:=λc I xs q=>b.frzs c I xs (a.frzs c I xs q)
 tbls:=λc ps q=>by obtain⟨g,e1⟩:=a.tbls c ps q;obtain⟨f,e2⟩:=b.tbls c _ e1;grind
theorem Un.kept(k:∀b u,h.get? b=a_ u->h'.get? b=a_ u):Un fs ex H H h h':=
 ⟨λb I q _ _ _=>k b I q,λb I q _ _ _=>⟨I.slots,k b I q⟩,λ_ _ _ n _=>n,λb I q _=>⟨I,k b I q⟩,λ_ _ q=>q,λ_ _ _ q=>q,λ_ ps q=>⟨#[],bt⟩⟩
def Un.refl:Un fs ex H H h h:=Un.kept λ_ _ q=>q
def Un.laid(k:∀b u,h.get? b=a_ u->h'.get? b=a_ u)(J:h.objs.size<=a)(I:H a=c_):Un fs ex H (upd H a o) h h' where
 keep:=λb u q _ _ _=>k b u q
 slot:=λb u q _ _ _=>⟨u.slots,k b u q⟩
 free:=λb u q n _=>by rw[ao (GS (GA (t_ q) J))];exact n
 there:=λb u q _=>⟨u,k b u q⟩
 tups:=λb xs q=>by rw[ao (aV q I)];exact q
 frzs:=λb u xs q=>by rw[ao (aV q I)];exact q
 tbls:=λb ps q=>⟨#[],by rw[ao (aV q I),q];simp⟩
theorem Un.write(a:Mut (H x))(f:e=x\/H e=a_ (.own x))(k:∀b u,b≠e->h.get? b=a_ u->h'.get? b=a_ u)(Y:∃u,h'.get? e=a_ u):Un fs ex H (upd H x o) h h':=by
 have d:∀b,H b=c_->b≠x:=λb n z=>by subst z;rw[n]at a;exact a
 have c:∀b,H b=c_->b≠e:=λb n z=>by simp_all
 have J:∀b u,H b=a_ u->¬Mut (a_ u)->b≠x:=λb u q nm z=>by simp_all
 refine⟨λb u q n _ _=>k b u (c b n) q,λb u q n _ _=>⟨u.slots,k b u (c b n) q⟩,λb u q n _=>by rw[ao (d b n)];exact n,λb u q _=>?_,
  λb xs q=>by rw[ao (J b _ q λz=>z)];exact q,λb u xs q=>by rw[ao (J b _ q λz=>z)];exact q,λb ps q=>⟨#[],by rw[ao (J b _ q λz=>z),q];simp⟩⟩
 by_cases I:b=e
 .subst I;exact Y
 .exact⟨u,k b u I q⟩
end
noncomputable def trk(h:Hq)(H:Hp):List f_:=(HF h.objs.size).filter λa=>(H a).isSome
def hidT(h:Hq)(H:Hp):Hq:=PySem.W.hideAll h (trk h H)
def FE(h:Hq)(H:Hp):(hidT h H).objs.size=h.objs.size:=PySem.W.hideAll_size _ _
theorem hidT_get{o:K1}(e:h.get? b=a_ o)(n:H b=c_):(hidT h H).get? b=a_ o:=
 PySem.W.hideAll_get _ e λI=>by have q:(H b).isSome=d_:=(HL.mp I).2;simp_all
theorem of_hidT{o:K1}(e:(hidT h H).get? b=a_ o):h.get? b=a_ o/\H b=c_:=by
 have I:h.get? b=a_ o:=PySem.W.of_hideAll (trk h H) e;refine⟨I,?_⟩
 cases q:H b with
 |none=>rfl|some x=>have J:b∈trk h H:=HL.mpr ⟨List.mem_range.mpr (t_ I),by simp[q]⟩;have z:(hidT h H).get? b=c_:=PySem.W.hideAll_none (trk h H) J;simp_all
noncomputable def allNews(g h:Hq)(L:f_):Vp:=(HF h.objs.size).filterMap λa=>if a=L\/(g.get? a).isSome=d_ then c_ else(h.get? a).map λo=>(a,o)
def rest(g h:Hq)(L d:f_):Vp:=(allNews g h L).filter λp=>o_ (p.1≠d)
structure Mod(K:Pn)(mg:Ld)(base:Hq):Prop where
 kin:K.In base
 glob:base.Ns GY mg
 blt:∃mb,base.Ns N2 mb/\∀x:i_,x≠"__name__"->mb x=IM x
 nolimit:base.NoLimit
structure Cx where
 prog:HP
 w:GW
 K:Pn
 mg:Ld
 base:Hq
 A:IY
 N:bv
 s₀:u_
 H₀:Hp
 env:LP
 outer:List LP
 stack:List LP
 ex:List f_
 fn:i_->Bool
 calm:Bool
 pn:Vp
 xe:Mq
variable{X:Cx}
noncomputable def frs(l:List LP):List f_:=l.filterMap (·.frame)
abbrev Cx.fs(X:Cx):List f_:=frs X.outer
def Vis(sc:LH)(x:i_):Prop:=sc.names.lookup x=a_ .local\/sc.names.lookup x=a_ .cell\/sc.names.lookup x=a_ .free
def Loc(sc:LH)(x:i_):Prop:=sc.names.lookup x=a_ .local\/sc.names.lookup x=a_ .cell
def Look(env:LP)(h:Hq)(m:Ld)(x:i_)(u:m_):Prop:=
 (env.kindOf x=a_ .local/\m x=a_ u)\/((env.kindOf x=a_ .cell\/env.kindOf x=a_ .free)/\∃c,env.cells.lookup x=a_ c/\h.IsCell c (a_ u))
structure Cx.Ok(X:Cx):Prop where
 mod:Mod X.K X.mg X.base
 kind:X.env.scope.kind=.function
 glob:X.env.globals=GY
 blt:X.env.builtins=N2
 above:X.s₀.heap.objs.size<=X.env.locals
 inj:∀x y c,X.env.cells.lookup x=a_ c->X.env.cells.lookup y=a_ c->x=y
 has:∀x,(X.env.kindOf x=a_ .cell\/X.env.kindOf x=a_ .free)->∃c,X.env.cells.lookup x=a_ c
 cab:∀x c,X.fn x=d_->X.env.cells.lookup x=a_ c->X.s₀.heap.objs.size<=c
 hd:X.calm=d_->X.A.handled=c_
 frames:X.A.frames=a_ X.stack
 stk:X.stack=X.outer\/(X.stack=X.env::X.outer/\X.env.frame=a_ X.env.locals)
 exf:∀b∈X.ex,b≠X.env.locals/\∀x c,X.env.cells.lookup x=a_ c->c≠b
 bs:∀b o,X.base.get? b=a_ o->X.s₀.heap.get? b=a_ o/\X.H₀ b=c_
 bsz:X.base.objs.size<=X.s₀.heap.objs.size
 noex:∀b o,X.base.get? b=a_ o->b∉X.ex
 exfs:∀b∈X.ex,b∉X.fs
 yA:X.s₀.heap.FunFrames X.base X.outer
 frf:∀b∈X.fs,X.H₀ b=c_
structure Cv(X:Cx)(B':Vp)(σ:List (Option V))(H:Hp)(s:u_):Prop where
 ok:X.Ok
 os:s.os=X.s₀.os
 bare:Kx s.gens
 base:Un X.fs X.ex X.H₀ H X.s₀.heap s.heap
 loc:∃m,s.heap.Ns X.env.locals m/\∀(i:Nat) (x:i_) (v:V),X.N[i]?=a_ x->σ[i]?=a_ (a_ v)->Vis X.env.scope x->∃u,Gq v u/\Look X.env s.heap m x u
 cell:∀x c,X.env.cells.lookup x=a_ c->∃v,s.heap.IsCell c v
 free:H X.env.locals=c_
 freeC:∀x c,X.env.cells.lookup x=a_ c->H c=c_
 pin:∀p∈X.pn++B',s.heap.get? p.1=a_ p.2/\H p.1=c_/\p.1≠X.env.locals/\p.1∉X.fs/\∀v,p.2.data≠.cell v
 hok:HOk X.prog X.w H s.heap
 len:σ.length=X.N.length
section
variable{σ:List (Option V)}
theorem Cx.Ok.nofr(I:X.Ok){o:K1}(e:X.base.get? b=a_ o):b∉X.fs:=λJ=>by have:=(I.yA.mem J).1;simp_all
theorem Cv.bs(I:Cv X B' σ H s):∀b o,X.base.get? b=a_ o->s.heap.get? b=a_ o/\H b=c_:=λb o e=>⟨I.base.keep b o (I.ok.bs b o e).1 (I.ok.bs b o e).2 (I.ok.nofr e) (I.ok.noex b o e),I.base.free b o (I.ok.bs b o e).1 (I.ok.bs b o e).2 (I.ok.noex b o e)⟩
def Cv.bk(I:Cv X B' σ H s):∀b o,X.base.get? b=a_ o->s.heap.get? b=a_ o:=λb o e=>(I.bs b o e).1
theorem Cv.mod(I:Cv X B' σ H s):Mod X.K X.mg X.base:=I.ok.mod
def Cv.kIn(I:Cv X B' σ H s):X.K.In s.heap:=I.ok.mod.kin.keeps I.bk
theorem Cv.lt(I:Cv X B' σ H s):X.env.locals<s.heap.objs.size:=let ⟨_,J,_⟩:=I.loc;J.lt
def Cv.sz(I:Cv X B' σ H s):X.s₀.heap.objs.size<=s.heap.objs.size:=Ha I.ok.above (J1 I.lt)
def Cv.nofs(I:Cv X B' σ H s)(h:s.heap.objs.size<=a):a∉X.fs:=λY=>by obtain⟨_,o,J,_⟩:=I.ok.yA.mem Y;exact Gw (GA (t_ J) (Ha I.sz h)) (HE _)
theorem Cv.cne(I:Cv X B' σ H s):∀x c,X.env.cells.lookup x=a_ c->c≠X.env.locals:=λx c e z=>by obtain⟨v,o,a,hd⟩:=I.cell x c e;obtain⟨m,⟨o',es,ep,J,Y,_⟩,_⟩:=I.loc;simp_all
theorem Cv.yA(I:Cv X B' σ H s):s.heap.FunFrames X.base X.outer:=by
 have c:∀(l:List LP),(∀b∈frs l,b∈X.fs)->X.s₀.heap.FunFrames X.base l->s.heap.FunFrames X.base l:=by
  intro l
  induction l with
  |nil=>intro _ _;trivial|cons env r f=>intro d j;obtain⟨k,⟨L,o,J,i,h,hd⟩,g⟩:=j;have a:L∈X.fs:=d L (by unfold frs;rw[KU,J];exact Hg);obtain⟨m,e⟩:=I.base.slot L o h (I.ok.frf L a) a λz=>I.ok.exfs L z a;exact⟨k,⟨L,_,J,i,e,hd⟩,f (λb Y=>d b (by unfold frs;rw[KU,J];exact Gv _ Y)) g⟩
 exact c X.outer (λ_ Y=>Y) I.ok.yA
theorem Cv.stack(I:Cv X B' σ H s):s.heap.FunFrames X.base X.stack:=by
 rcases I.ok.stk with e|⟨e,Y⟩
 .rw[e];exact I.yA
 .rw[e];obtain⟨m,J,_⟩:=I.loc;refine .cons (by rw[I.ok.kind];decide) Y J ?_ I.yA;exact Heap.get?_none_of_le (Ha I.ok.bsz I.ok.above)
def Cv.uN(I:Cv X B' σ H s):∀b∈frs X.stack,b∈X.env.locals::X.fs:=λb J=>by
 rcases I.ok.stk with e|⟨e,Y⟩
 .rw[e]at J;exact Gv _ J
 .rw[e]at J;unfold frs at J;rw[KU,Y]at J;exact J
def Cv.Eh(I:Cv X B' σ H s):∀b∈frs X.stack,H b=c_:=λb J=>by
 rcases q_.mp (I.uN b J)with e|J
 .rw[e];exact I.free
 .obtain⟨_,o,Y,_⟩:=I.ok.yA.mem J;exact I.base.free b o Y (I.ok.frf b J) λz=>I.ok.exfs b z J
def Cv.step{t':Nat}{d':Drawn}(I:Cv X B' σ H s)(g:∀b∈ch,(b∈X.ex\/X.s₀.heap.objs.size<=b)/\b≠X.env.locals/\(∀x c,X.env.cells.lookup x=a_ c->c≠b)/\∀p∈X.pn++B',p.1≠b)(f:∀b o,b≠X.env.locals->b∉X.fs->b∉ch->s.heap.get? b=a_ o->H b=c_->h'.get? b=a_ o)(t:∀b o,b≠X.env.locals->b∈X.fs->b∉ch->s.heap.get? b=a_ o->H b=c_->∃K,h'.get? b=a_ {o with slots:=K})(Y:∀b o,b∉ch->s.heap.get? b=a_ o->H b=c_->H' b=c_)(w:∀b o,b∉ch->s.heap.get? b=a_ o->∃o',h'.get? b=a_ o')(B:∀b xs,H b=a_ (.tup xs)->H' b=a_ (.tup xs))(F:∀b o u,H b=a_ (.frz o u)->H' b=a_ (.frz o u))(C:∀b ps,H b=a_ (.tbl ps)->∃E,H' b=a_ (.tbl (ps++E)))(ns:∀m,s.heap.Ns X.env.locals m->h'.Ns X.env.locals m)(L:HOk X.prog X.w H' h')(U:Kx g'):
  Cv X B' σ H' {s with heap:=h',gens:=g',drawn:=d',toks:=t'}:=by
 have D:∀b o,X.s₀.heap.get? b=a_ o->b≠X.env.locals:=λb o e=>GS (GA (t_ e) I.ok.above);have j:∀b o,X.s₀.heap.get? b=a_ o->b∉X.ex->b∉ch:=λb o e J y=>by
  rcases(g b y).1 with z|z
  .exact J z
  .exact Gw (GA (t_ e) z) (HE _)
 have h:∀x c,X.env.cells.lookup x=a_ c->∀v,s.heap.IsCell c v->h'.IsCell c v:=λx c e v ⟨o,A,hd⟩=>by
  have a:c∉ch:=λz=>(g c z).2.2.1 x c e rfl;by_cases P:c∈X.fs
  .obtain⟨K,q⟩:=t c o (I.cne x c e) P a A (I.freeC x c e);exact⟨_,q,hd⟩
  .exact⟨o,f c o (I.cne x c e) P a A (I.freeC x c e),hd⟩
 refine⟨I.ok,I.os,U,⟨λb o e n y J=>?_,λb o e n y J=>?_,λb o e n J=>?_,λb o e J=>?_,λb xs e=>B b xs (I.base.tups b xs e),λb o xs e=>F b o xs (I.base.frzs b o xs e),λb ps e=>?_⟩,?_,λx c e=>?_,?_,λx c e=>?_,λp O=>?_,L,I.len⟩
 .exact f b o (D b o e) y (j b o e J) (I.base.keep b o e n y J) (I.base.free b o e n J)
 .obtain⟨K,e1⟩:=I.base.slot b o e n y J;obtain⟨G,e2⟩:=t b _ (D b o e) y (j b o e J) e1 (I.base.free b o e n J);exact⟨G,e2⟩
 .obtain⟨o',e1⟩:=I.base.there b o e J;exact Y b o' (j b o e J) e1 (I.base.free b o e n J)
 .obtain⟨o',e1⟩:=I.base.there b o e J;exact w b o' (j b o e J) e1
 .obtain⟨R,e1⟩:=I.base.tbls b ps e;obtain⟨Q,e2⟩:=C b _ e1;exact⟨R++Q,by rw[e2,M5]⟩
 .obtain⟨m,S,T⟩:=I.loc;refine⟨m,ns m S,λi x v e1 e2 e3=>?_⟩
  obtain⟨u,r,l⟩:=T i x v e1 e2 e3;refine⟨u,r,?_⟩
  rcases l with l|⟨k,c,e,z⟩
  .exact .inl l
  .exact .inr ⟨k,c,e,h x c e _ z⟩
 .obtain⟨v,z⟩:=I.cell x c e;exact⟨v,h x c e v z⟩
 .obtain⟨m,⟨o,_,_,A,_⟩,_⟩:=I.loc;exact Y _ o (λz=>(g _ z).2.1 rfl) A I.free
 .obtain⟨v,o,A,hd⟩:=I.cell x c e;exact Y c o (λz=>(g c z).2.2.1 x c e rfl) A (I.freeC x c e)
 .obtain⟨e,n,N,nf,d⟩:=I.pin p O;have a:p.1∉ch:=λz=>(g p.1 z).2.2.2 p O rfl;exact⟨f p.1 p.2 N nf a e n,Y p.1 p.2 a e n,N,nf,d⟩
def Cv.un{t':Nat}(I:Cv X B' σ H s)(u:Un X.fs [] H H' s.heap h')(Y:HOk X.prog X.w H' h'):Cv X B' σ H' {s with heap:=h',toks:=t'}:=by
 obtain⟨m,⟨o,es,ep,d,r⟩,_⟩:=id I.loc;obtain⟨h,g⟩:=u.any d I.free a8;exact I.step (g':=s.gens) (d':=s.drawn) (ch:=[]) (λ_ z=>nomatch z) (λb o _ a _ e n=>u.keep b o e n a a8) (λb o _ a _ e n=>u.slot b o e n a a8) (λb o _ e n=>u.free b o e n a8) (λb o _ e=>u.there b o e a8) u.tups u.frzs u.tbls (λi f=>by obtain⟨o',c,ep',J,r'⟩:=f;rw[d]at J;cases J;exact⟨_,c,ep',g,r'⟩) Y I.bare
def Cv.call{t':Nat}{d':Drawn}(I:Cv X B' σ H s)(u:Un (frs X.stack) ch H H' s.heap h')(d:HOk X.prog X.w H' h')(j:Kx g')(a:∀b∈ch,(b∈X.ex\/X.s₀.heap.objs.size<=b)/\b≠X.env.locals/\(∀x c,X.env.cells.lookup x=a_ c->c≠b)/\∀p∈X.pn++B',p.1≠b):
  Cv X B' σ H' {s with heap:=h',gens:=g',drawn:=d',toks:=t'}:=by
 obtain⟨m,⟨o,es,ep,h,r⟩,_⟩:=id I.loc;obtain⟨l,f⟩:=u.any h I.free λz=>(a _ z).2.1 rfl;exact I.step (ch:=ch) a (λb o f k J e n=>u.keep b o e n (λz=>(q_.mp (I.uN b z)).elim f k) J) (λb o _ _ J e n=>u.any e n J) (λb o J e n=>u.free b o e n J) (λb o J e=>u.there b o e J) u.tups u.frzs u.tbls (λq i=>by obtain⟨o',g,ep',Y,r'⟩:=i;rw[h]at Y;cases Y;exact⟨_,g,ep',f,r'⟩) d j
theorem Cv.turned{t':Nat}{it:f_}(I:Cv X B' σ H s)(k:∀b o,b≠it->s.heap.get? b=a_ o->h'.get? b=a_ o)(i:H it=c_)(a:it≠X.env.locals)(h1:it∈X.ex\/X.s₀.heap.objs.size<=it)(h2:∀x c,X.env.cells.lookup x=a_ c->c≠it)(h:∀p∈X.pn++B',p.1≠it):Cv X B' σ H {s with heap:=h',toks:=t'}:=by
 have Y:∀b u,H b=a_ u->b≠it:=λb u e z=>by simp_all
 refine I.step (g':=s.gens) (d':=s.drawn) (ch:=[it]) (λb g=>?_) (λb o _ _ J e _=>k b o (λz=>J (by simp[z])) e) (λb o _ _ J e _=>⟨o.slots,k b o (λz=>J (by simp[z])) e⟩) (λ_ _ _ _ n=>n)
  (λb o J e=>⟨o,k b o (λz=>J (by simp[z])) e⟩) (λ_ _ e=>e) (λ_ _ _ e=>e) (λb ps e=>⟨#[],bt⟩) (λm f=>?_) (λb u e=>?_) I.bare
 .have e:b=it:=by simpa using g
  subst e;exact⟨h1,a,h2,h⟩
 .obtain⟨o,es,ep,d,r⟩:=f;exact⟨o,es,ep,k _ o (HI a) d,r⟩
 .refine(I.hok b u e).zy (λc v J q=>k c v ?_ q) (λ_ q=>q) λ_ _ q=>q;rcases J with z|z
  .rw[z];exact Y b u e
  .exact Y c _ z
def Cv.tok(I:Cv X B' σ H s)(t:Nat):Cv X B' σ H {s with toks:=t}:=I.un (h':=s.heap) (t':=t) Un.refl I.hok
theorem Cv.kept{t':Nat}(I:Cv X B' σ H s)(k:∀b u,s.heap.get? b=a_ u->h'.get? b=a_ u):Cv X B' σ H {s with heap:=h',toks:=t'}:=I.un (Un.kept k) (I.hok.kept k)
theorem Cv.laid{a:f_}{o:HO}{t':Nat}(I:Cv X B' σ H s)(k:∀b u,s.heap.get? b=a_ u->h'.get? b=a_ u)(Y:s.heap.objs.size<=a)(J:iA X.prog X.w (upd H a o) h' a o):
  Cv X B' σ (upd H a o) {s with heap:=h',toks:=t'}:=I.un (Un.laid k Y (I.hok.fresh Y)) (I.hok.laid k Y J)
theorem Cv.write{x e:f_}{o:HO}{t':Nat}(I:Cv X B' σ H s)(a:Mut (H x))(c:e=x\/H e=a_ (.own x))(k:∀b u,b≠e->s.heap.get? b=a_ u->h'.get? b=a_ u)(J:∃u,h'.get? e=a_ u)(Y:iA X.prog X.w (upd H x o) h' x o):Cv X B' σ (upd H x o) {s with heap:=h',toks:=t'}:=I.un (Un.write a c k J) (I.hok.write a c k J Y)
def Cv.weak{σ':List (Option V)}(I:Cv X B' σ H s)(a:σ'.length=σ.length)(w:∀(i:Nat) v,σ'[i]?=a_ (a_ v)->σ[i]?=a_ (a_ v)):Cv X B' σ' H s:=
 ⟨I.ok,I.os,I.bare,I.base,let ⟨m,Y,J⟩:=I.loc;⟨m,Y,λi x v e1 e2 e3=>J i x v e1 (w i v e2) e3⟩,I.cell,I.free,I.freeC,I.pin,I.hok,a.trans I.len⟩
def Cv.vU{pins':Vp}(I:Cv X B' σ H s)(h:∀p∈pins',s.heap.get? p.1=a_ p.2/\H p.1=c_/\p.1≠X.env.locals/\p.1∉X.fs/\∀v,p.2.data≠.cell v):Cv X pins' σ H s:=
 ⟨I.ok,I.os,I.bare,I.base,I.loc,I.cell,I.free,I.freeC,λp J=>(GO.mp J).elim (λz=>I.pin p (KI _ z)) (h p),I.hok,I.len⟩
def Bi(I:N.Nodup){x:i_}(a:N[i]?=a_ x)(b:N[j]?=a_ x):i=j:=by obtain⟨h1,e1⟩:=A_.mp a;obtain⟨h2,e2⟩:=A_.mp b;exact(NC I).mp (e1.trans e2.symm)
theorem xB{M:LI}{x:i_}(I:Cv X B' σ H s)(hN:X.N.Nodup)(hi:X.N[i]?=a_ x)(f:Loc X.env.scope x)(r:Gq v u)(h:∀s',Cv X B' (σ.set i (a_ v)) H s'->(∃a,Kv a s.heap s'.heap/\(a=X.env.locals\/X.env.cells.lookup x=a_ a))->Q () s')(hf:autoParam (X.fn x=d_\/X.env.scope.names.lookup x=a_ .local) Jq3):D_ M A (storeName X.env x u) Q E s:=by
 obtain⟨m,Z,hl⟩:=id I.loc;have K:(X.env.scope.kind==.class||(X.env.scope.kind==.module&&X.env.locals != X.env.globals))=b_:=by rw[I.ok.kind];rfl
 have l:i<σ.length:=by rw[I.len];exact(A_.mp hi).1
 have C:=I.cne;have Y:∀{a:f_} {h':Hq},(∃o,s.heap.get? a=a_ o/\H a=c_)->Kv a s.heap h'->HOk X.prog X.w H h':=λ{a h'} ha J b ob e=>by obtain⟨_,_,hfree⟩:=ha;refine(I.hok b ob e).zy (λc w' g q=>(J.2 c ?_).trans q) (λ_ q=>q) λ_ _ q=>q;lia
 rcases f with D|D
 .refine wpAny_storeName_local D Z (λh' W J=>?_) K;obtain⟨oL,_,_,U,_⟩:=id Z;refine h _ ⟨I.ok,I.os,I.bare,⟨λb o e n B f=>?_,λb o e n B f=>?_,I.base.free,λb o e f=>?_,I.base.tups,I.base.frzs,I.base.tbls⟩,⟨_,W,λj y v' e1 e2 e3=>?_⟩,λy c e=>?_,I.free,I.freeC,λp T=>?_,Y ⟨oL,U,I.free⟩ J,by simpa using I.len⟩ ⟨_,J,.inl rfl⟩
  .exact(J.2 b (GS (GA (t_ e) I.ok.above))).trans (I.base.keep b o e n B f)
  .obtain⟨S,e1⟩:=I.base.slot b o e n B f;exact⟨S,(J.2 b (GS (GA (t_ e) I.ok.above))).trans e1⟩
  .obtain⟨o',e1⟩:=I.base.there b o e f;exact⟨o',(J.2 b (GS (GA (t_ e) I.ok.above))).trans e1⟩
  .by_cases t:j=i
   .subst t;rw[hi]at e1;cases e1;rw[x_ l]at e2;cases e2;exact⟨u,r,.inl ⟨D,a8⟩⟩
   .rw[p_ (HI t)]at e2;obtain⟨R,r',q⟩:=hl j y v' e1 e2 e3;refine⟨R,r',?_⟩
    rcases q with⟨k,e⟩|⟨k,c,e,z⟩
    .refine .inl ⟨k,?_⟩;have:y≠x:=λe=>t (Bi hN e1 (e▸hi));simp_all
    .exact .inr ⟨k,c,e,z.sameBut J (C y c e)⟩
  .obtain⟨w',z⟩:=I.cell y c e;exact⟨w',z.sameBut J (C y c e)⟩
  .obtain⟨e,n,O,nf,d⟩:=I.pin p T;exact⟨(J.2 p.1 O).trans e,n,O,nf,d⟩
 .have w:X.fn x=d_:=by
   rcases hf with z|z
   .exact z
   .simp_all
  obtain⟨c,g⟩:=I.ok.has x (.inl D);obtain⟨w',z⟩:=I.cell x c g;refine wpAny_storeName_cell I.ok.kind D g z (λh' N J=>?_);obtain⟨oc,G,F⟩:=id z;refine h {s with heap:=h'} ⟨I.ok,I.os,I.bare,⟨λb o e n B f=>?_,λb o e n B f=>?_,I.base.free,λb o e f=>?_,I.base.tups,I.base.frzs,I.base.tbls⟩,⟨m,Z.sameBut J (HI (C x c g)),λj y v' e1 e2 e3=>?_⟩,λy P e=>?_,I.free,I.freeC,λp T=>?_,Y ⟨oc,G,I.freeC x c g⟩ J,by simpa using I.len⟩ ⟨c,J,.inr g⟩
  .exact(J.2 b (GS (GA (t_ e) (I.ok.cab x c w g)))).trans (I.base.keep b o e n B f)
  .obtain⟨S,e1⟩:=I.base.slot b o e n B f;exact⟨S,(J.2 b (GS (GA (t_ e) (I.ok.cab x c w g)))).trans e1⟩
  .obtain⟨o',e1⟩:=I.base.there b o e f;exact⟨o',(J.2 b (GS (GA (t_ e) (I.ok.cab x c w g)))).trans e1⟩
  .by_cases t:j=i
   .subst t;rw[hi]at e1;cases e1;rw[x_ l]at e2;cases e2;exact⟨u,r,.inr ⟨.inl D,c,g,N⟩⟩
   .rw[p_ (HI t)]at e2;obtain⟨R,r',q⟩:=hl j y v' e1 e2 e3;refine⟨R,r',?_⟩
    rcases q with q|⟨k,P,e,z'⟩
    .exact .inl q
    .refine .inr ⟨k,P,e,z'.sameBut J ?_⟩;rintro rfl;exact t (Bi hN e1 (I.ok.inj _ _ _ e g▸hi))
  .by_cases L:P=c
   .subst L;exact⟨_,N⟩
   .obtain⟨w2,z2⟩:=I.cell y P e;exact⟨w2,z2.sameBut J L⟩
  .obtain⟨e,n,O,nf,d⟩:=I.pin p T;refine⟨(J.2 p.1 ?_).trans e,n,O,nf,d⟩
   intro q;rw[q,G]at e;have q':oc=p.2:=GR e;exact d w' (by rw[<- q'];exact F)
def qZ{M:LI}{x:i_}(I:Cv X B' σ H s)(a:X.N.Nodup)(hi:X.N[i]?=a_ x)(J:Loc X.env.scope x)(r:Gq v u)(h:∀s',Cv X B' (σ.set i (a_ v)) H s'->Q () s')(Y:autoParam (X.fn x=d_\/X.env.scope.names.lookup x=a_ .local) Jq3):D_ M A (storeName X.env x u) Q E s:=
 xB I a hi J r (λs' b _=>h s' b) Y
def Cv.call'(I:Cv X B' σ H s)(a:s'.os=s.os)(u:Un (frs X.stack) ch H H' s.heap s'.heap)(J:HOk X.prog X.w H' s'.heap)(d:Kx s'.gens)(Y:∀b∈ch,(b∈X.ex\/X.s₀.heap.objs.size<=b)/\b≠X.env.locals/\(∀x c,X.env.cells.lookup x=a_ c->c≠b)/\∀p∈X.pn++B',p.1≠b):Cv X B' σ H' s':=by obtain⟨h',g',d',t',o'⟩:=s';have e:o'=s.os:=a;subst e;exact I.call (g':=g') (t':=t') (d':=d') u J d Y
end
abbrev XK:=m_->Option f_->Hp->Prop
noncomputable abbrev St:=List (Option V)
variable{σ:St}
abbrev VK:=V->Hp->Prop
abbrev TE:=St->Hp->VK->Prop
variable{ta tb te:TE}
abbrev TT:=St->Hp->(Bool->Hp->Prop)->Prop
variable{tc:TT}
abbrev TA:=St->Hp->(b'->Hp->Prop)->Prop
variable{t:TA}
structure Ends where
 nx:St->Hp->Prop
 rt:VK
 bk:St->Hp->Prop:=λ_ _=>False
 ct:St->Hp->Prop:=λ_ _=>False
abbrev TS:=Ends->St->Hp->Prop
def EP(X:Cx)(B':Vp)(σ:St)(Q:VK)(u:m_)(s':u_):Prop:=∃v H',Cv X B' σ H' s'/\Gq v u/\Q v H'
def TP(X:Cx)(B':Vp)(σ:St)(Q:Bool->Hp->Prop)(b:Bool)(s':u_):Prop:=∃H',Cv X B' σ H' s'/\Q b H'
def AP(X:Cx)(B':Vp)(σ:St)(Q:b'->Hp->Prop)(us:ce)(s':u_):Prop:=∃vs H',Cv X B' σ H' s'/\Gr vs us/\Q vs H'
def SP(X:Cx)(B':Vp)(D:Ends)(f:Flow)(s':u_):Prop:=
 match f with
 |.next=>∃σ' H',Cv X B' σ' H' s'/\D.nx σ' H'
 |.brk=>∃σ' H',Cv X B' σ' H' s'/\D.bk σ' H'
 |.cont=>∃σ' H',Cv X B' σ' H' s'/\D.ct σ' H'
 |.ret u=>∃v σ' H',Cv X B' σ' H' s'/\Gq v u/\D.rt v H'
def PE(X:Cx)(e:HG)(t:TE):Prop:=
 ∀(B':Vp) (s:u_) (σ:St) (H:Hp) (Q:VK),Cv X B' σ H s->t σ H Q->D_ (GD X.prog X.w) X.A (GI e X.env) (EP X B' σ Q) X.xe s
def PT(X:Cx)(e:HG)(t:TT):Prop:=
 ∀(B':Vp) (s:u_) (σ:St) (H:Hp) (Q:Bool->Hp->Prop),Cv X B' σ H s->t σ H Q->D_ (GD X.prog X.w) X.A (Ng e X.env (GI e X.env)) (TP X B' σ Q) X.xe s
def PW(X:Cx)(e:HG)(t:TT):Prop:=
 ∀(I:Oq m_) (B':Vp) (s:u_) (σ:St) (H:Hp) (Q:Bool->Hp->Prop),Cv X B' σ H s->t σ H Q->D_ (GD X.prog X.w) X.A (Ng e X.env I) (TP X B' σ Q) X.xe s
def PW.pt{t:TT}(h:PW X e t):PT X e t:=h _
def PA(X:Cx)(es:List HG)(t:TA):Prop:=
 ∀(pos:OE) (B':Vp) (s:u_) (σ:St) (H:Hp) (Q:b'->Hp->Prop),Cv X B' σ H s->t σ H Q->D_ (GD X.prog X.w) X.A (Nf (He pos (h_ es X.env))) (AP X B' σ Q) X.xe s
def PS(X:Cx)(st:Hm)(t:TS):Prop:=
 ∀(B':Vp) (s:u_) (σ:St) (H:Hp) (D:Ends),Cv X B' σ H s->t D σ H->D_ (GD X.prog X.w) X.A (exec st X.env) (SP X B' D) X.xe s
def PSs(X:Cx)(st:List Hm)(t:TS):Prop:=
 ∀(B':Vp) (s:u_) (σ:St) (H:Hp) (D:Ends),Cv X B' σ H s->t D σ H->D_ (GD X.prog X.w) X.A (execs st X.env) (SP X B' D) X.xe s
def H9{α:Type}{t:Oq α}{Q I:α->u_->Prop}{M:LI}(h:D_ M A t Q E s)(J:∀a s,Q a s->I a s):D_ M A t I E s:=HC h J λ_ _ x=>x
section
noncomputable def bB(i:Nat):TE:=λσ H Q=>∃v,σ[i]?=a_ (a_ v)/\Q v H
noncomputable def tC(v:V):TE:=λ_ H Q=>Q v H
def pe_var{x:i_}(k:X.N[i]?=a_ x)(hv:Vis X.env.scope x)(hd:((x==("__debug__":i_))=b_)⁻¹)(b:((x==("__classdict__":i_))=b_)⁻¹):PE X (.Name x pos) (bB i):=by
 intro B' s σ H Q I h;obtain⟨v,e,h⟩:=h;obtain⟨m,f,j⟩:=I.loc;obtain⟨u,r,l⟩:=j i x v k e hv;have a:EP X B' σ Q u s:=⟨v,H,I,r,h⟩
 rcases l with⟨Y,g⟩|⟨Y,c,d,J⟩
 .exact KL (NG I.ok.kind Y f g a) hd
 .rcases Y with Y|Y
  .exact KL (NU I.ok.kind Y d J a) hd
  .exact KL (NT I.ok.kind Y d J a b) hd
def lI{i j pos}:PE X (.Constant (.int i) j pos) (tC (.int i)):=λ_ _ _ H _ I h=>wpAny_Constant_int ⟨.int i,H,I.tok _,⟨_,rfl⟩,h⟩
def sH{b j pos}:PE X (.Constant (.bool b) j pos) (tC (.bl b)):=λ_ _ _ H _ I h=>Constant_bool ⟨.bl b,H,I,rfl,h⟩
def pe_non{j pos}:PE X (.Constant .none j pos) (tC .non):=λ_ _ _ H _ I h=>Constant_none ⟨.non,H,I,rfl,h⟩
def EV{x j pos}:PE X (.Constant (.str x) j pos) (tC (.str x)):=λ_ _ _ H _ I h=>Jq ⟨.str x,H,I.tok _,⟨_,rfl⟩,h⟩
def Gl(X:Cx)(x:i_):Prop:=X.env.kindOf x=a_ .globalImplicit
def lS{x:i_}{Q:Mq}(I:Cv X B' σ H s)(Y:Gl X x)(J:X.mg x=a_ u)(h:Q u s)(hd:((x==("__debug__":i_))=b_)⁻¹):D_ (GD X.prog X.w) X.A (GI (.Name x pos) X.env) Q E s:=
 LJ I.ok.kind Y (Calls.loadGlobal_global (by rw[I.ok.glob];exact I.mod.glob.keeps I.bk) J h) hd
def uX{x:i_}{Q:Mq}(I:Cv X B' σ H s)(a:Gl X x)(Y:X.mg x=c_)(hv:IM x=a_ u)(h:Q u s)(J:(x≠"__name__")⁻¹)(hd:((x==("__debug__":i_))=b_)⁻¹):D_ (GD X.prog X.w) X.A (GI (.Name x pos) X.env) Q E s:=by obtain⟨b,h1,h2⟩:=I.mod.blt;exact LJ I.ok.kind a (Calls.loadGlobal_builtin (by rw[I.ok.glob];exact I.mod.glob.keeps I.bk) Y (by rw[I.ok.blt];exact h1.keeps I.bk) ((h2 x J).trans hv) h) hd
def zX{x:i_}(Y:Gl X x)(J:X.mg x=a_ u)(r:Gq v u)(hd:((x==("__debug__":i_))=b_)⁻¹):PE X (.Name x pos) (tC v):=
 λ_ _ _ H _ I h=>lS I Y J ⟨v,H,I,r,h⟩ hd
def pe_bltn{x:i_}(a:Gl X x)(Y:X.mg x=c_)(hv:IM x=a_ u)(r:Gq v u)(J:(x≠"__name__")⁻¹)(hd:((x==("__debug__":i_))=b_)⁻¹):PE X (.Name x pos) (tC v):=
 λ_ _ _ H _ I h=>uX I a Y hv ⟨v,H,I,r,h⟩ J hd
variable{a b:HG}
def PC(X:Cx)(op:CmpOp)(a b:HG)(t:TE):Prop:=
 ∀(B':Vp) (s:u_) (σ:St) (H:Hp) (Q:VK),Cv X B' σ H s->t σ H Q ->
  D_ (GD X.prog X.w) X.A (GI a X.env) (λv J=>D_ (GD X.prog X.w) X.A (GI b X.env) (λu I=>D_ (GD X.prog X.w) X.A (GL op v u) (EP X B' σ Q) X.xe I) X.xe J) X.xe s
def nobehind(b:HG)(h:op≠.In)(h2:op≠.NotIn):IP op b=b_:=by
 have e1:(op==CmpOp.In)=b_:=by cases op<;>first|rfl|exact Gw rfl h
 have e2:(op==Ov)=b_:=by cases op<;>first|rfl|exact Gw rfl h2
 cases b<;>simp[IP,e1,e2]
noncomputable def tIsN(ta:TE):TE:=λσ H Q=>ta σ H λx H1=>Q (.bl (o_ (x=.non))) H1
def Gq.none_iff{x:V}{v:m_}(r:Gq x v):(v==Je)=o_ (x=.non):=by
 cases x with
 |non=>cases r;rfl|bl _=>cases r;rfl|int _=>obtain⟨t,rfl⟩:=r;rfl
 |str _=>obtain⟨t,rfl⟩:=r;rfl
 |byt _=>obtain⟨t,rfl⟩:=r;rfl
 |flt _=>obtain⟨t,rfl⟩:=r;rfl
 |ref _=>cases r;rfl|ty _=>cases r;rfl
def pc_isN{j pos'}(c:PE X a ta):PC X .Is a (.Constant .none j pos') (tIsN ta):=by intro B' s σ H Q I h;refine H9 (c B' s σ H _ I h) λv e b=>?_;obtain⟨x,H1,d,J,Y⟩:=b;exact Constant_none (is_none_gen ⟨.bl _,H1,d,by rw[J.none_iff];rfl,Y⟩)
noncomputable def tB(t:TE):TT:=λσ H Q=>t σ H λx H1=>∃c,x=.bl c/\Q c H1
def pt_cmp{t:TE}(h:PC X op a b t)(h1:IP op b=b_:=by first|exact nobehind _ a' a'|rfl):PT X (.Compare a [op] [b] pos) (tB t):=by intro B' s σ H Q I hw;refine Ny (H9 (h B' s σ H _ I hw) λv j h1=>H9 h1 λu i h2=>H9 h2 λc g e=>?_) h1;obtain⟨x,H1,f,J,Y⟩:=e;obtain⟨d,rfl,q⟩:=Y;cases J;exact HJ ⟨H1,f,q⟩
variable{tA tB':TT}{rest:List HG}
noncomputable def tAnd(t u:TT):TT:=λσ H Q=>t σ H λc H1=>if c=d_ then u σ H1 Q else Q b_ H1
noncomputable def tOr(t u:TT):TT:=λσ H Q=>t σ H λc H1=>if c=d_ then Q d_ H1 else u σ H1 Q
noncomputable def tNot(t:TT):TT:=λσ H Q=>t σ H λc H1=>Q (!c) H1
def pw_and1(J:PT X a tA):PW X (.BoolOp .And [a] pos) tA:=by
 intro Y B' s σ H Q I h;refine isTrue_and (H9 (J B' s σ H Q I h) λc b e=>?_);cases c with
 |true=>exact isTrue_and_nil e|false=>exact e
def pw_or1(J:PT X a tA):PW X (.BoolOp .Or [a] pos) tA:=by
 intro Y B' s σ H Q I h;refine isTrue_or (H9 (J B' s σ H Q I h) λc b e=>?_);cases c with
 |false=>exact isTrue_or_nil e|true=>exact e
def pw_and(i:PT X a tA)(g:PW X (.BoolOp .And (b::rest) pos) tB'):PW X (.BoolOp .And (a::b::rest) pos) (tAnd tA tB'):=by
 intro d B' s σ H Q I h;refine isTrue_and (H9 (i B' s σ H _ I h) λc e f=>?_);obtain⟨H1,Y,J⟩:=f;cases c with
 |true=>exact g d B' e σ H1 Q Y J|false=>exact⟨H1,Y,J⟩
def pw_or(i:PT X a tA)(g:PW X (.BoolOp .Or (b::rest) pos) tB'):PW X (.BoolOp .Or (a::b::rest) pos) (tOr tA tB'):=by
 intro d B' s σ H Q I h;refine isTrue_or (H9 (i B' s σ H _ I h) λc e f=>?_);obtain⟨H1,Y,J⟩:=f;cases c with
 |true=>exact⟨H1,Y,J⟩|false=>exact g d B' e σ H1 Q Y J
def ya(J:PT X a tA):PT X (.UnaryOp .Not a pos) (tNot tA):=by intro B' s σ H Q I h;exact isTrue_not (J B' s σ H (λc H1=>Q (!c) H1) I h)
noncomputable def tAndV(ta tb:TE):TE:=λσ H Q=>ta σ H λx H1=>∃c,x=.bl c/\if c=d_ then tb σ H1 Q else Q (.bl b_) H1
noncomputable def tOrV(ta tb:TE):TE:=λσ H Q=>ta σ H λx H1=>∃c,x=.bl c/\if c=d_ then Q (.bl d_) H1 else tb σ H1 Q
def pe_one{op}{t:TE}(h:PE X a t):PE X (.BoolOp op [a] pos) t:=λB' s σ H Q I hw=>BoolOp_one (h B' s σ H Q I hw)
def pe_and(i:PE X a ta)(g:PE X (.BoolOp .And (b::rest) pos) tb):PE X (.BoolOp .And (a::b::rest) pos) (tAndV ta tb):=by
 intro B' s σ H Q I h;refine BoolOp_and (H9 (i B' s σ H _ I h) λv d f=>?_);obtain⟨x,H1,Y,e,J⟩:=f;obtain⟨c,rfl,J⟩:=J;cases e;refine HJ ?_;cases c with
 |true=>exact g B' d σ H1 Q Y J|false=>exact⟨.bl b_,H1,Y,rfl,J⟩
def pe_or(i:PE X a ta)(g:PE X (.BoolOp .Or (b::rest) pos) tb):PE X (.BoolOp .Or (a::b::rest) pos) (tOrV ta tb):=by
 intro B' s σ H Q I h;refine BoolOp_or (H9 (i B' s σ H _ I h) λv d f=>?_);obtain⟨x,H1,Y,e,J⟩:=f;obtain⟨c,rfl,J⟩:=J;cases e;refine HJ ?_;cases c with
 |false=>exact g B' d σ H1 Q Y J|true=>exact⟨.bl d_,H1,Y,rfl,J⟩
noncomputable def tIf(t:TT)(ta tb:TE):TE:=λσ H Q=>t σ H λc H1=>if c=d_ then ta σ H1 Q else tb σ H1 Q
def pe_ifExp(g:PT X c tA)(j:PE X a ta)(i:PE X b tb):PE X (.IfExp c a b pos) (tIf tA ta tb):=by
 intro B' s σ H Q I h;refine wpAny_IfExp (H9 (g B' s σ H _ I h) λd J f=>?_);obtain⟨H1,e,Y⟩:=f;cases d with
 |true=>exact j B' J σ H1 Q e Y|false=>exact i B' J σ H1 Q e Y
end
def SqL(K:Pn)(H:Hp)(a:f_)(xs:b'):Prop:=
 Rd H a (.lst xs) \/
  ∃(o:K1) (G':Array m_) (n:Nat),K.lookup a=a_ o/\o.cls=.type "list"/\o.dict=c_/\o.data=.seq G' n/\G'.size<=j_/\Gr xs G'.toList
def SqT(K:Pn)(H:Hp)(a:f_)(xs:b'):Prop:=
 Rd H a (.tup xs) \/
  ∃(o:K1) (G':Array m_) (n:Nat),K.lookup a=a_ o/\o.cls=.type "tuple"/\o.data=.seq G' n/\G'.size<=j_/\Gr xs G'.toList
def absV:m_->Option V
 |.none=>a_ .non|.bool b=>a_ (.bl b)|.int i _=>a_ (.int i)|.str x _=>a_ (.str x)|.bytes b _=>a_ (.byt b)|.float b _=>a_ (.flt b)|.ref a=>a_ (.ref a)|.type n=>a_ (.ty n)|_=>c_
def Gq.abs{x:V}(r:Gq x u):absV u=a_ x:=by
 cases x with
 |non=>cases r;rfl|bl _=>cases r;rfl|int _=>obtain⟨t,rfl⟩:=r;rfl
 |str _=>obtain⟨t,rfl⟩:=r;rfl
 |byt _=>obtain⟨t,rfl⟩:=r;rfl
 |flt _=>obtain⟨t,rfl⟩:=r;rfl
 |ref _=>cases r;rfl|ty _=>cases r;rfl
def Gq.inj{x y:V}{u:m_}(r:Gq x u)(q:Gq y u):x=y:=GR (r.abs.symm.trans q.abs)
theorem Gr.inj:∀{xs ys:b'} {us:ce},Gr xs us->Gr ys us->xs=ys
 |_,_,_,.nil,.nil=>rfl|_,_,_,.cons r t,.cons r' t'=>by rw[r.inj r',Gr.inj t t']
section
variable{xs ys:List V}
def SqL.of(h:H a=a_ (.lst xs)):SqL K H a xs:=.inl (.inl h)
def SqT.of(h:H a=a_ (.tup xs)):SqT K H a xs:=.inl (.inl h)
theorem Cv.list(I:Cv X B' σ H s)(h:SqL X.K H a xs):∃G':ce,Gr xs G'/\PlainL s.heap a G'.toArray/\xs.length<=j_:=by
 rcases h with h|⟨o,G',n,Y,b,hd,J,c,r⟩
 .obtain⟨z,G',n,r,e⟩:=h.ok I.hok;exact⟨G',r,⟨_,n,e,rfl,rfl,rfl⟩,z⟩
 .refine⟨G'.toList,r,⟨o,n,I.kIn a o Y,b,hd,by simpa using J⟩,?_⟩
  have e:=r.length;simp_all
theorem Cv.tuple(I:Cv X B' σ H s)(h:SqT X.K H a xs):∃G':ce,Gr xs G'/\Ox s.heap a G'.toArray/\xs.length<=j_:=by
 rcases h with h|⟨o,G',n,Y,b,J,c,r⟩
 .obtain⟨z,G',r,p⟩:=h.ok I.hok;exact⟨G',r,p,z⟩
 .refine⟨G'.toList,r,⟨o,I.kIn a o Y,b,n,by simpa using J⟩,?_⟩
  have e:=r.length;simp only[Im]at e;lia
def Cv.rA(I:Cv X B' σ H s)(h:SqL X.K H a xs)(h':SqL X.K H a ys):xs=ys:=by
 obtain⟨G',r,⟨o,n,e,_,_,d⟩,_⟩:=I.list h;obtain⟨its',r',⟨o',Y,J,_,_,d'⟩,_⟩:=I.list h';rw[e]at J;cases J;rw[d]at d';injection d' with d1 _
 have:G'=its':=by simpa using Jo Lb d1
 subst this;exact r.inj r'
def Cv.E9(I:Cv X B' σ H s)(h:SqT X.K H a xs)(h':SqT X.K H a ys):xs=ys:=by
 obtain⟨G',r,⟨o,e,_,n,d⟩,_⟩:=I.tuple h;obtain⟨its',r',⟨o',J,_,Y,d'⟩,_⟩:=I.tuple h';rw[e]at J;cases J;rw[d]at d';injection d' with d1 _
 have:G'=its':=by simpa using Jo Lb d1
 subst this;exact r.inj r'
end
noncomputable abbrev Cx.AM(X:Cx)(E:Mq):Cx:={X with xe:=E}
abbrev Cx.nox(X:Cx):Cx:=X.AM λ_ _=>False
theorem Cx.Ok.AM{X:Cx}(I:X.Ok)(E:Mq):(X.AM E).Ok:=
 ⟨I.mod,I.kind,I.glob,I.blt,I.above,I.inj,I.has,I.cab,I.hd,I.frames,I.stk,I.exf,I.bs,I.bsz,I.noex,I.exfs,I.yA,I.frf⟩
def Cx.Ok.lq(I:(X.AM E).Ok):X.Ok:=
 ⟨I.mod,I.kind,I.glob,I.blt,I.above,I.inj,I.has,I.cab,I.hd,I.frames,I.stk,I.exf,I.bs,I.bsz,I.noex,I.exfs,I.yA,I.frf⟩
theorem Cv.AM(I:Cv X B' σ H s)(E:Mq):Cv (X.AM E) B' σ H s:=⟨I.ok.AM E,I.os,I.bare,I.base,I.loc,I.cell,I.free,I.freeC,I.pin,I.hok,I.len⟩
theorem Cv.lq(I:Cv (X.AM E) B' σ H s):Cv X B' σ H s:=⟨I.ok.lq,I.os,I.bare,I.base,I.loc,I.cell,I.free,I.freeC,I.pin,I.hok,I.len⟩
theorem SP.lq{D:Ends}{f:Flow}{s':u_}(h:SP (X.AM E) B' D f s'):SP X B' D f s':=by
 cases f with
 |next=>obtain⟨σ',H',I,q⟩:=h;exact⟨σ',H',I.lq,q⟩
 |brk=>obtain⟨σ',H',I,q⟩:=h;exact⟨σ',H',I.lq,q⟩
 |cont=>obtain⟨σ',H',I,q⟩:=h;exact⟨σ',H',I.lq,q⟩
 |ret u=>obtain⟨v,σ',H',I,r,q⟩:=h;exact⟨v,σ',H',I.lq,r,q⟩
theorem PSs.nox{st:List Hm}{t:TS}(h:PSs X.nox st t):PSs X st t:=λB' s σ H D I hw=>HC (h B' s σ H D (I.AM _) hw) (λ_ _ q=>q.lq) λ_ _ z=>Hi z
section
variable{st:Hm}{rest:List Hm}{t u:TS}
def kr:TS:=λD σ H=>D.nx σ H
def j5(t u:TS):TS:=λD σ H=>t {D with nx:=u D} σ H
def gu:PSs X [] kr:=λ_ _ σ H _ I h=>JA ⟨σ,H,I,h⟩
def aD(h1:PS X st t)(h2:PSs X rest u):PSs X (st::rest) (j5 t u):=by
 intro B' s σ H D I h;refine LS (H9 (h1 B' s σ H {D with nx:=u D} I h) λf J q=>?_);cases f with
 |next=>obtain⟨σ',H',Y,q⟩:=q;exact h2 B' J σ' H' D Y q
 |ret v=>exact q|brk=>exact q|cont=>exact q
def aJ(h1:PS X st t):PSs X [st] t:=by
 intro B' s σ H D I h;refine LS (H9 (h1 B' s σ H D I h) λf J q=>?_);cases f with
 |next=>exact JA q|ret v=>exact q|brk=>exact q|cont=>exact q
def Cv.quiet(I:Cv X B' σ H s):interactive X.env=b_:=by simp[interactive,I.ok.kind]
def uh(te:TE):TS:=λD σ H=>te σ H λ_ H1=>D.nx σ H1
def i5(b:PE X e te)(Y: ~~~(II e c_ pos.line X.env=Ig b_)):PS X (.Expr e pos) (uh te):=by intro B' s σ H D I h;refine wpAny_Expr_any (H9 (b B' s σ H _ I h) λv d a=>?_) I.quiet Y;obtain⟨x,H1,c,f,J⟩:=a;exact⟨σ,H1,c,J⟩
def oX(te:TE):TS:=λD σ H=>te σ H D.rt
def g7(b:PE X e te):PS X (.Return (a_ e) pos) (oX te):=by intro B' s σ H D I h;refine wpAny_Return_some (H9 (b B' s σ H _ I h) λv d a=>?_);obtain⟨x,H1,c,J,Y⟩:=a;exact⟨x,σ,H1,c,J,Y⟩
def uc(c:TT)(t u:TS):TS:=λD σ H=>c σ H λb H1=>if b=d_ then t D σ H1 else u D σ H1
def lg{a b:List Hm}(g:PT X c tc)(j:PSs X a t)(i:PSs X b u):PS X (.If c a b pos) (uc tc t u):=by
 intro B' s σ H D I h;refine wpAny_If (H9 (g B' s σ H _ I h) λd J f=>?_);obtain⟨H1,e,Y⟩:=f;cases d with
 |true=>exact j B' J σ H1 D e Y|false=>exact i B' J σ H1 D e Y
noncomputable def tNever:TS:=λ_ _ _=>False
def ER{sts:List Hm}:PSs X sts tNever:=λ_ _ _ _ _ _ h=>h.elim
end
abbrev TG:=V->St->Hp->(St->Hp->Prop)->Prop
abbrev TGs:=b'->St->Hp->(St->Hp->Prop)->Prop
def PG(X:Cx)(I:HG)(t:TG):Prop:=
 ∀(B':Vp) (s:u_) (σ:St) (H:Hp) (v:V) (u:m_) (Q:St->Hp->Prop),Cv X B' σ H s->Gq v u->t v σ H Q ->
  D_ (GD X.prog X.w) X.A (K7 I X.env u) (λ_ s'=>∃σ' H',Cv X B' σ' H' s'/\Q σ' H') X.xe s
def PGs(X:Cx)(ts:List HG)(t:TGs):Prop:=
 ∀(B':Vp) (s:u_) (σ:St) (H:Hp) (vs:b') (us:ce) (Q:St->Hp->Prop),Cv X B' σ H s->Gr vs us->t vs σ H Q ->
  D_ (GD X.prog X.w) X.A (MR ((HU ts X.env).map (·.2)) us) (λ_ s'=>∃σ' H',Cv X B' σ' H' s'/\Q σ' H') X.xe s
noncomputable def hG(i:Nat):TG:=λv σ H Q=>Q (σ.set i (a_ v)) H
def jv{x:i_}(a:X.N.Nodup)(hi:X.N[i]?=a_ x)(J:Loc X.env.scope x)(Y:autoParam (X.fn x=d_\/X.env.scope.names.lookup x=a_ .local) Jq3):PG X (.Name x pos) (hG i):=by intro B' s σ H v u Q I r h;exact Oe (qZ I a hi J r (λs' b=>⟨_,H,b,h⟩) Y)
def gNil:TGs:=λvs σ H Q=>vs=[]/\Q σ H
def yz(t:TG)(u:TGs):TGs:=λvs σ H Q=>∃v r,vs=v::r/\t v σ H λσ' H'=>u r σ' H' Q
def sC:PGs X [] gNil:=by intro B' s σ H vs us Q I r h;obtain⟨e,h⟩:=h;subst e;cases r;exact Ow ⟨σ,H,I,h⟩
def iC{t:TG}{u:TGs}(h1:PG X e t)(h2:PGs X es u)(c: ~~~((HU (e::es) X.env).map (·.2)=K7 e X.env::(HU es X.env).map (·.2))):PGs X (e::es) (yz t u):=by
 intro B' s σ H vs us Q I r h;obtain⟨v,g,e1,h⟩:=h;subst e1;cases r with
 |cons r a=>rw[c];refine Ly (H9 (h1 B' s σ H _ _ _ I r h) λ_ Y d=>?_);obtain⟨J,H1,f,b⟩:=d;exact h2 B' Y J H1 _ _ Q f a b
def gTup(K:Pn)(n:Nat)(t:TGs):TG:=λv σ H Q=>∃a xs,v=.ref a/\SqT K H a xs/\xs.length=n/\t xs σ H Q
theorem ye{t:TGs}(j:X.calm=d_)(h:PGs X es t)(g: ~~~((HU es X.env).length=n))(J: ~~~((HU es X.env).findIdx? (·.1)=c_)):PG X (.Tuple es k pos) (gTup X.K n t):=by intro B' s σ H v u Q I r hw;obtain⟨a,xs,e1,f,i,hw⟩:=hw;subst e1;cases r;obtain⟨G',Y,d,m⟩:=I.tuple f;refine assign_Tuple_tuple (I.ok.hd j) d (by simp[g,<- i,Y.length]) J λh' c=>?_;have l:Cv X B' σ H {s with heap:=h'}:=I.kept (t':=s.toks) λb o e=>c b o (GS (t_ e)) e;exact h B' _ σ H xs _ Q l bt hw
def uM(te:TE)(g:TG):TS:=λD σ H=>te σ H λx H1=>g x σ H1 D.nx
def Bb{g:TG}(f:PE X e te)(d:PG X tg g)(b: ~~~(MO [tg] e pos.line X.env=Ig b_))(hw: ~~~(MP [tg] e X.env=Ig c_))(h1: ~~~((HU [tg] X.env).map (·.2)=[K7 tg X.env])):PS X (.Assign [tg] e pos) (uM te g):=by intro B' s σ H D I h;refine wpAny_Assign_stores (H9 (f B' s σ H _ I h) λv J c=>?_) b hw;obtain⟨x,H1,i,Y,a⟩:=c;rw[h1];exact H9 (d B' J σ H1 x v _ i Y a) λ_ j q=>q
def g6{x:i_}(g:X.N.Nodup)(hi:X.N[i]?=a_ x)(a:Loc X.env.scope x)(f:PE X e te)(b: ~~~(II e (a_ (.Name x pos')) pos.line X.env=Ig b_))(d:autoParam (X.fn x=d_\/X.env.scope.names.lookup x=a_ .local) Jq3):
  PS X (.Assign [.Name x pos'] e pos) (uM te (hG i)):=by
 intro B' s σ H D I h;refine wpAny_Assign_Name (H9 (f B' s σ H _ I h) λv m c=>?_) b;obtain⟨y,H1,k,J,Y⟩:=c;exact qZ k g hi a J (λl j=>⟨_,H1,j,Y⟩) d
def tPar(i j:Nat)(ta:TA):TS:=λD σ H=>ta σ H λvs H1=>∃v w,vs=[v,w]/\D.nx ((σ.set i (a_ v)).set j (a_ w)) H1
def ps_par{x y:i_}{a b:HG}{ta:TA}{k py pt:OE}{l k2 J}(L:X.calm=d_)(u:X.N.Nodup)(hi:X.N[i]?=a_ x)(K:X.N[j]?=a_ y)(n:i≠j)(t:X.env.scope.names.lookup x=a_ .local)(r:X.env.scope.names.lookup y=a_ .local)(N:PA X [a,b] ta)(hw:MP [.Tuple [.Name x k,.Name y py] l pt] (.Tuple [a,b] k2 J) X.env=Ig (a_ [x,y]))(F: ~~~(MO [.Tuple [.Name x k,.Name y py] l pt] (.Tuple [a,b] k2 J) pos.line X.env=Ig b_)):
  PS X (.Assign [.Tuple [.Name x k,.Name y py] l pt] (.Tuple [a,b] k2 J) pos) (tPar i j ta):=by
 intro B' s σ H D I h;rw[exec_Assign_arm];refine n_ (Jy ?_);rw[F];refine n_ (F_ ?_);rw[k_ a'];refine n_ (Tuple_ (H9 (N _ B' s σ H _ I h) λus d G=>?_));obtain⟨vs,H1,R,B,g⟩:=G;obtain⟨v,w,e1,g⟩:=g;subst e1;obtain⟨c,Y,rfl,A,f⟩:∃c Y,us=[c,Y]/\Gq v c/\Gq w Y:=by
  cases B with
  |cons p q=>
   cases q with
   |cons E C=>cases C;exact⟨_,_,rfl,p,E⟩
 refine Kt ?_ (by show 2<=j_;decide);have Q:Cv X B' σ H1 {d with heap:=d.heap.push {cls:=.type "tuple",data:=.seq [c,Y].toArray}}:=R.kept (t':=d.toks) λb o e=>r_ _ e;rw[hw];refine n_ (F_ ?_);show D_ (GD X.prog X.w) X.A (do rule "assign.swapped-stores";let items <- unpackItems (.ref d.z) 2 c_;MR [λv=>NJ X.env y v,λv=>NJ X.env x v] items.reverse;Ig Flow.next) _ _ _;refine n_ (wpAny_rule (n_ (unpackItems_tuple (items:=#[c,Y]) (I.ok.hd L) (Nr d.heap _) λh' m=>?_)));have P:=Q.kept (h':=h') (t':=d.toks) λb o e=>m b o (GS (t_ e)) e;show D_ _ _ (MR [λv=>NJ X.env y v,λv=>NJ X.env x v] [Y,c] >>=λ_=>Ig Flow.next) _ _ _;refine n_ (Ly (wpAny_bindName (qZ P u K (.inl r) f (λT O=>?_) (.inr r))));refine Ly (wpAny_bindName (qZ O u hi (.inl t) A (λS z=>Ow (F_ ?_)) (.inr t)));rw[List.set_comm _ _ (HI n)]at z;exact⟨_,H1,z,g⟩
def tWhile(c:TT)(tb:TS):TS:=λD σ H=>∃W:Nat->St->Hp->Prop,(∃m,W m σ H)/\∀m σ H,W m σ H ->
 c σ H λb H1=>if b=d_ then ∃N:St->Hp->Prop,(∀σ' H',N σ' H'->∃I,I<m/\W I σ' H')/\tb {D with nx:=N,ct:=N,bk:=D.nx} σ H1 else D.nx σ H1
def ps_while{tb:TS}(i:Nb (GD X.prog X.w) X.A X.env X.xe)(y:PT X c tc)(z:PSs X body tb):PS X (.While c body [] pos) (tWhile tc tb):=by
 intro B' s σ H D I h;obtain⟨W,⟨x,t⟩,a⟩:=h;refine wpAny_While (codeAny_whileLoop (λn s'=>∃σ' H',Cv X B' σ' H' s'/\W n σ' H') ?_ x ⟨σ,H,I,t⟩);rintro n w ⟨Y,H1,A,r⟩;refine Jc i (H9 (y B' w Y H1 _ A (a n Y H1 r)) λb u i=>?_);obtain⟨H2,q,g⟩:=i;cases b with
 |true=>
  obtain⟨N,p,g⟩:=g;rw[g_ rfl];refine Jc i (H9 (z B' u Y H2 _ q g) λf B e=>?_);cases f with
  |next=>obtain⟨J,d,o,k⟩:=e;obtain⟨l,m,j⟩:=p J d k;exact⟨l,m,J,d,o,j⟩
  |cont=>obtain⟨J,d,o,k⟩:=e;obtain⟨l,m,j⟩:=p J d k;exact⟨l,m,J,d,o,j⟩
  |brk=>exact e|ret v=>exact e
 |false=>rw[k_ HV];exact JA ⟨Y,H2,q,g⟩
structure It where
 go:Nat->Hp->Prop
 yld:Nat->Hp->V->Hp->Prop
 stop:Nat->Hp->Prop
def DN(X:Cx)(B':Vp)(H:Hp)(b:f_):Prop:=
 H b=c_/\b≠X.env.locals/\b∉X.fs/\(b∈X.ex\/X.s₀.heap.objs.size<=b)/\(∀x c,X.env.cells.lookup x=a_ c->c≠b)/\∀p∈X.pn++B',p.1≠b
theorem Cv.fpOk(I:Cv X B' σ H s)(J:s.heap.objs.size<=b)(a:H' b=c_):DN X B' H' b:=by
 refine⟨a,J0 (GA I.lt J),I.nofs J,.inr (Ha I.sz J),λx c e z=>?_,λp Y z=>?_⟩
 .obtain⟨v,q⟩:=I.cell x c e;exact Gw (GA q.lt bt) (HE _)
 .exact Gw (GA (t_ (I.pin p Y).1) bt) (HE _)
structure Turn(P:HP)(w:GW)(K:Pn)(tg:HG)(J:It)(fp:List f_)(it:f_)(tn:Nat->Hq->Prop):Prop where
 mem:it∈fp
 obj:∀i h,tn i h->∀b∈fp,∃o,h.get? b=a_ o/\∀v,o.data≠.cell v
 keep:∀i h h',tn i h->(∀b∈fp,∀o,h.get? b=a_ o->h'.get? b=a_ o)->tn i h'
 item:∀(X:Cx),X.prog=P->X.w=w->X.K=K->X.calm=d_->∀(i:Nat) (B':Vp) (s:u_) (σ:St) (H:Hp) (E:Mq),Cv X B' σ H s->(∀b∈fp,DN X B' H b)->tn i s.heap->J.go i H ->
  D_ (GD P w) X.A (pyNext (.ref it)) (λr s1=>∃u,r=a_ u /\
   D_ (GD P w) X.A (KR tg (.ref it) u) (λ_ s2=>∃x H',Cv X B' σ H' s2/\Gq x u/\J.yld i H x H'/\tn (i+1) s2.heap/\∀b∈fp,H' b=c_) E s1) E s
 done:∀(X:Cx),X.prog=P->X.w=w->X.K=K->X.calm=d_->∀(i:Nat) (B':Vp) (s:u_) (σ:St) (H:Hp) (E:Mq),Cv X B' σ H s->(∀b∈fp,DN X B' H b)->tn i s.heap->J.stop i H ->
  D_ (GD P w) X.A (pyNext (.ref it)) (λr s1=>r=c_/\Cv X B' σ H s1) E s
 self:∀(A:IY) (i:Nat) (s:u_) (Q:Mq) (E:Mq),tn i s.heap->Q (.ref it) s->D_ (GD P w) A (pyIter (.ref it)) Q E s
abbrev TI:=St->Hp->(It->Hp->Prop)->Prop
def PIE(X:Cx)(B':Vp)(σ:St)(tg:HG)(R:It->Hp->Prop)(I:m_)(a:u_):Prop:=
 ∃(it:f_) (fp:List f_) (Y:Nat->Hq->Prop) (J:It) (H':Hp),I=.ref it/\Cv X B' σ H' a/\Turn X.prog X.w X.K tg J fp it Y/\Y 0 a.heap/\(∀b∈fp,DN X B' H' b)/\R J H'
def PI(X:Cx)(tg iter:HG)(wi:TI):Prop:=
 ∀(B':Vp) (s:u_) (σ:St) (H:Hp) (R:It->Hp->Prop),Cv X B' σ H s->wi σ H R ->
  D_ (GD X.prog X.w) X.A (GI iter X.env) (λv I=>D_ (GD X.prog X.w) X.A (pyIter v) (PIE X B' σ tg R) X.xe I) X.xe s
def go_of{M : LI}{A : IY}{E : m_ -> u_ -> Prop}{s : u_}{tg : HG}{it : f_}{u : m_}{o : K1}{n : String}{vs : Array m_}{Q : Unit -> u_ -> Prop}(J : s.heap.get? it = a_ o)(a : o.cls = .type n)(hd : o.data = .fields vs)(Y : ["enumerate", "zip", "dict_itemiterator", "dict_reverseitemiterator", "odict_iterator", "itertools.zip_longest", "itertools.pairwise"].contains n = b_)(I : Q () s): D_ M A (KR tg (.ref it) u) Q E s := by
  unfold KR;cases tg <;> first
    | exact F_ I
    | (cases u <;> first
        | exact F_ I
        | (refine n_ (wpAny_load J ?_)
           rw[a,hd];show D_ M A (if (["enumerate", "zip", "dict_itemiterator", "dict_reverseitemiterator", "odict_iterator", "itertools.zip_longest", "itertools.pairwise"].contains n && vs[0]?== a_ (Lv _)) = d_ then _ else _) Q E s;rw[k_ (by intro h; rw[Y,Bool.false_and]at h; cases h)];exact F_ I))
def Itl(K:Pn)(a:f_):It:=
 ⟨λi H=>∃xs x,SqL K H a xs/\xs[i]?=a_ x,λi H x H'=>H'=H/\∀xs,SqL K H a xs->xs[i]?=a_ x,λi H=>∃xs,SqL K H a xs/\xs.length<=i⟩
def Itt(K:Pn)(a:f_):It:=
 ⟨λi H=>∃xs x,SqT K H a xs/\xs[i]?=a_ x,λi H x H'=>H'=H/\∀xs,SqT K H a xs->xs[i]?=a_ x,λi H=>∃xs,SqT K H a xs/\xs.length<=i⟩
noncomputable def Itr(lo:Int)(n:Nat):It:=⟨λi _=>i<n,λi H x H'=>H'=H/\x=.int (lo+i),λi _=>n<=i⟩
theorem E8{w:GW}(a it:f_):Turn P w K tg (Itl K a) [it] it (λi h=>h.IsListIter it a i) where
 mem:=by simp
 obj:=λi h st b J=>by
  have e:b=it:=by simpa using J
  subst e;obtain⟨o,e,c,d⟩:=st;exact⟨o,e,λv z=>by rw[d]at z;cases z⟩
 keep:=λi h h' st k=>st.at λo e=>k it a8 o e
 item:=by intro X n hw q t i B' s σ H E I g st m;subst n hw q;obtain⟨xs,x,f,l⟩:=m;obtain⟨G',j,p,B⟩:=I.list f;obtain⟨u,D,A⟩:=j.get l;obtain⟨r,f1,F,f3,f4,f5⟩:=g it a8;refine wpAny_pyNext_list_item st p.isList (x:=u) (by simpa using D) λh' Y y=>?_;have L:Cv X B' σ H {s with heap:=h'}:=I.turned (t':=s.toks) (λb o J e=>(y.2 b J).trans e) r f1 f3 f4 f5;obtain⟨o,e,c,d⟩:=id Y;exact⟨u,rfl,go_of (s:={s with heap:=h'}) e c d a' ⟨x,H,L,A,⟨rfl,λys C=>by rw[I.rA C f];exact l⟩,Y,λb J=>(g b J).1⟩⟩
 done:=by intro X n hw q t i B' s σ H E I g st m;subst n hw q;obtain⟨xs,f,l⟩:=m;obtain⟨G',j,p,B⟩:=I.list f;obtain⟨r,f1,F,f3,f4,f5⟩:=g it a8;have N:=j.length;exact wpAny_pyNext_list_end (I.ok.hd t) st p.isList (by simp;lia) λh' G=>⟨rfl,I.turned (t':=s.toks) (λb o J e=>G b o J e) r f1 f3 f4 f5⟩
 self:=λ_ _ _ _ _ st h=>wpAny_pyIter_listiter st h
theorem BW{w:GW}(a it:f_):Turn P w K tg (Itt K a) [it] it (λi h=>h.IsTupleIter it a i) where
 mem:=by simp
 obj:=λi h st b J=>by
  have e:b=it:=by simpa using J
  subst e;obtain⟨o,e,c,d⟩:=st;exact⟨o,e,λv z=>by rw[d]at z;cases z⟩
 keep:=λi h h' st k=>st.at λo e=>k it a8 o e
 item:=by intro X n hw q t i B' s σ H E I g st m;subst n hw q;obtain⟨xs,x,f,l⟩:=m;obtain⟨G',j,p,B⟩:=I.tuple f;obtain⟨u,D,A⟩:=j.get l;obtain⟨r,f1,F,f3,f4,f5⟩:=g it a8;refine wpAny_pyNext_tuple_item st (show s.heap.IsTuple a G'.toArray from p) (x:=u) (by simpa using D) λh' Y y=>?_;have L:Cv X B' σ H {s with heap:=h'}:=I.turned (t':=s.toks) (λb o J e=>(y.2 b J).trans e) r f1 f3 f4 f5;obtain⟨o,e,c,d⟩:=id Y;exact⟨u,rfl,go_of (s:={s with heap:=h'}) e c d a' ⟨x,H,L,A,⟨rfl,λys C=>by rw[I.E9 C f];exact l⟩,Y,λb J=>(g b J).1⟩⟩
 done:=by intro X n hw q t i B' s σ H E I g st m;subst n hw q;obtain⟨xs,f,l⟩:=m;obtain⟨G',j,p,B⟩:=I.tuple f;obtain⟨r,f1,F,f3,f4,f5⟩:=g it a8;have N:=j.length;exact wpAny_pyNext_tuple_end (I.ok.hd t) st (show s.heap.IsTuple a G'.toArray from p) (by simp;lia) λh' G=>⟨rfl,I.turned (t':=s.toks) (λb o J e=>G b o J e) r f1 f3 f4 f5⟩
 self:=λ_ _ _ _ _ st h=>wpAny_pyIter_tupleiter st h
theorem BX{w:GW}(it:f_)(lo:Int)(n:Nat):Turn P w K tg (Itr lo n) [it] it (λi h=>IsRangeIter h it (lo+(i:Nat)*1) ((n:Int)-(i:Nat)) 1) where
 mem:=by simp
 obj:=λi h st b J=>by simp_all
 keep:=λi h h' st k=>k it a8 _ st
 item:=by
  intro X f hw g d i B' s σ H E I a st c;subst f hw g;obtain⟨j,f1,p,f3,f4,f5⟩:=a it a8;have W:=Walks.range (prog:=X.prog) (w:=X.w) (I.ok.hd d) it lo 1 n;refine W.item i s _ _ c st λv h' l hv Y m=>?_;obtain⟨t,rfl⟩:=hv;have r:Cv X B' σ H {s with heap:=h',toks:=l}:=I.turned (λb o J e=>m b o (by simpa using J) e) j f1 f3 f4 f5;refine⟨_,rfl,go_of (s:={s with heap:=h',toks:=l}) (n:="range_iterator") Y rfl rfl a' ⟨.int (lo+i),H,r,⟨t,?_⟩,⟨rfl,rfl⟩,Y,λb J=>(a b J).1⟩⟩
  simp
 done:=by intro X f hw g d i B' s σ H E I a st c;subst f hw g;obtain⟨j,f1,p,f3,f4,f5⟩:=a it a8;exact wpAny_pyNext_range_end (I.ok.hd d) st (by have:n<=i:=c;lia) λh' q=>⟨rfl,I.turned (t':=s.toks) (λb o J e=>q b o J e) j f1 f3 f4 f5⟩
 self:=λ_ _ _ _ _ st h=>wpAny_pyIter_rangeiter st h
theorem range_it{R:It->Hp->Prop}{lo hi:Int}{t u v:Tok}{J:Nat}(I:Cv X B' σ H s)(h1: -(2^62)<=lo)(h2:lo<2^62)(d: -(2^62)<=hi)(c:hi<2^62)(q:R (Itr lo (hi-lo).toNat) H):D_ (GD X.prog X.w) X.A (pyIter (.ref s.heap.objs.size)) (PIE X B' σ tg R) E {s with heap:=s.heap.push {cls:=.type "range",data:=.fields #[.int lo t,.int hi u,.int 1 v]},toks:=J}:=by
 refine wpAny_pyIter_range (IsRange.new ..) (small_one h1 h2 d c) ?_;have Y:Cv X B' σ H {s with heap:=s.heap.push {cls:=.type "range",data:=.fields #[.int lo t,.int hi u,.int 1 v]},toks:=J}:=I.kept λb o e=>r_ _ e;refine⟨(s.heap.push {cls:=.type "range",data:=.fields #[.int lo t,.int hi u,.int 1 v]}).objs.size,[(s.heap.push {cls:=.type "range",data:=.fields #[.int lo t,.int hi u,.int 1 v]}).objs.size],_,_,H,rfl,
  Y.kept (t':=J) λb o e=>r_ _ e,BX _ lo (hi-lo).toNat,?_,λb a=>?_,q⟩
 .have e1:lo+((0:Nat):Int)*1=lo:=by simp
  have e2:(((hi-lo).toNat:Nat):Int)-((0:Nat):Int)=OQ lo hi 1:=by rw[rangeSize_one];split<;>lia
  show IsRangeIter _ _ (lo+((0:Nat):Int)*1) ((((hi-lo).toNat:Nat):Int)-((0:Nat):Int)) 1;rw[e1,e2];exact GC _ rfl
 .have e:b=(s.heap.push {cls:=.type "range",data:=.fields #[.int lo t,.int hi u,.int 1 v]}).objs.size:=by simpa using a
  subst e;exact Y.fpOk (z_ _) (Y.hok.fresh (z_ _))
def iRng1(ta:TA):TI:=λσ H R=>ta σ H λvs H1=>∃j:Int,vs=[.int j]/\ -(2^62)<=j/\j<2^62/\R (Itr 0 j.toNat) H1
theorem EU{a:HG}{ta:TA}(i:Gl X "range")(g:X.mg "range"=c_)(k:PA X [a] ta)(d: ~~~(h_ [a] X.env=[(b_,GI a X.env)])):PI X tg (.Call (.Name "range" p) [a] [] pos) (iRng1 ta):=by
 intro B' s σ H R I h;refine Call_ (uX I i g boot_range (JE (H9 (k pos B' s σ H _ I h) λus m f=>?_) d rfl));obtain⟨vs,H1,l,b,J⟩:=f;obtain⟨j,e,J,c,q⟩:=J;subst e;cases b with
 |cons r Y=>cases Y;obtain⟨t,rfl⟩:=r;exact call_range_1 (range_it l am am J c bt)
def tFor(wi:TI)(g:TG)(tb:TS):TS:=λD σ H=>wi σ H λJ H1=>∃W:Nat->Nat->St->Hp->Prop,(∃m,W 0 m σ H1)/\∀i m σ H,W i m σ H ->
 (J.stop i H/\D.nx σ H)\/(J.go i H/\∃N:St->Hp->Prop,(∀σ' H',N σ' H'->∃Y,Y<m/\W (i+1) Y σ' H')/\∀x H',J.yld i H x H'->g x σ H' λI H2=>tb {D with nx:=N,ct:=N,bk:=D.nx} I H2)
noncomputable def yc(fp:List f_)(h:Hq):Vp:=fp.filterMap λb=>(h.get? b).map λo=>(b,o)
def mv{o:K1}(I:b∈fp)(e:h.get? b=a_ o):(b,o)∈yc fp h:=IX.mpr ⟨b,I,by rw[e];rfl⟩
theorem EZ{p:f_×K1}(I:p∈yc fp h):p.1∈fp/\h.get? p.1=a_ p.2:=by
 obtain⟨b,J,e⟩:=IX.mp I;cases q:h.get? b with
 |none=>simp_all|some o=>rw[q]at e;have Y:(b,o)=p:=GR e;subst Y;exact⟨J,q⟩
def Cv.pinned(I:Cv X B' σ H s)(f:∀b∈fp,DN X B' H b)(c:∀b∈fp,∃o,s.heap.get? b=a_ o/\∀v,o.data≠.cell v):Cv X (B'++yc fp s.heap) σ H s:=
 I.vU λp a=>(GO.mp a).elim (λz=>I.pin p (Hv _ z)) λz=>by obtain⟨J,e⟩:=EZ z;obtain⟨h,f1,g,_⟩:=f p.1 J;obtain⟨o,Y,d⟩:=c p.1 J;rw[e]at Y;cases Y;exact⟨e,h,f1,g,d⟩
def Cv.vz{pl:Vp}(I:Cv X (B'++pl) σ H s):Cv X B' σ H s:=I.vU λp J=>I.pin p (Hv _ (KI _ J))
def ES{iter:HG}{wi:TI}{g:TG}{tb:TS}(a:Nb (GD X.prog X.w) X.A X.env X.xe)(S:X.calm=d_)(hi:PI X tg iter wi)(hg:PG X tg g)(k:PSs X body tb)(hs:autoParam (∀x,Jk iter X.env x=Ig x) Jq5):PS X (.For tg iter body [] pos) (tFor wi g tb):=by
 intro B' s σ H D I h;refine wpAny_For (H9 (hi B' s σ H _ I h) λv s1 h1=>H9 h1 λitv s2 h2=>?_) hs;obtain⟨it,fp,P,J,H2,e,I2,T,st2,U,W,⟨m0,w0⟩,y⟩:=h2;subst e;have j:∀{H':Hp},(∀b∈fp,H' b=c_)->∀b∈fp,DN X B' H' b:=λhn b k=>⟨hn b k,(U b k).2⟩
 refine codeAny_forLoop_any (λn s'=>∃i σ' H',Cv X B' σ' H' s'/\P i s'.heap/\(∀b∈fp,H' b=c_)/\W i n σ' H') ?_ m0 ⟨0,σ,H2,I2,st2,λb k=>(U b k).1,w0⟩;rintro n R ⟨i,c,E,Z,st3,C,w3⟩;rcases y i n c E w3 with⟨z,qn⟩|⟨go,N,hN,A⟩
 .refine Jc a (H9 (T.done X rfl rfl rfl S i B' R c E X.xe Z (j C) st3 z) λr s4 a=>?_);obtain⟨K,I4⟩:=a;subst K;exact JA ⟨c,E,I4,qn⟩
 .refine Jc a (H9 (T.item X rfl rfl rfl S i B' R c E X.xe Z (j C) st3 go) λr s4 a=>?_);obtain⟨u,K,h4⟩:=a;subst K;refine Jc a (H9 h4 λ_ Q a=>?_);obtain⟨x,H5,I5,r5,y5,w,L⟩:=a;have O:=I5.pinned (j L) (T.obj _ _ w);refine Jc a (H9 (hg _ Q c H5 x u _ O r5 (A x H5 y5)) λ_ s6 a=>?_);obtain⟨F,H6,I6,q6⟩:=a;refine Jc a (H9 (k _ s6 F H6 _ I6 q6) λf G t=>?_);have l:∀{Y:St} {q:Hp},Cv X (B'++yc fp Q.heap) Y q G->N Y q->∃m,m<n/\∃i σ' H',Cv X B' σ' H' G/\P i G.heap/\(∀b∈fp,H' b=c_)/\W i m σ' H':=λ{Y q} p B=>by
   obtain⟨m',hm,w7⟩:=hN Y q B;refine⟨m',hm,i+1,Y,q,p.vz,T.keep _ _ _ w λb k o e=>(p.pin (b,o) (Hv _ (Hv _ (mv k e)))).1,λb k=>?_,w7⟩
   obtain⟨o,e,d⟩:=T.obj _ _ w b k;exact(p.pin (b,o) (Hv _ (Hv _ (mv k e)))).2.1
  cases f with
  |next=>obtain⟨Y,q,p,B⟩:=t;exact l p B
  |cont=>obtain⟨Y,q,p,B⟩:=t;exact l p B
  |brk=>obtain⟨Y,q,p,t⟩:=t;exact⟨Y,q,p.vz,t⟩
  |ret v=>obtain⟨x7,Y,q,p,r7,t⟩:=t;exact⟨x7,Y,q,p.vz,r7,t⟩
abbrev R2:=V->V->Hp->VK->Prop
variable{r r':R2}
def OpR(X:Cx)(f:m_->m_->Oq m_)(r:R2):Prop:=
 ∀(B':Vp) (s:u_) (σ:St) (H:Hp) (x y:V) (v u:m_) (Q:VK),Cv X B' σ H s->Gq x v->Gq y u->r x y H Q ->
  D_ (GD X.prog X.w) X.A (f v u) (EP X B' σ Q) X.xe s
def UnR(X:Cx)(f:m_->Oq m_)(r:V->Hp->VK->Prop):Prop:=
 ∀(B':Vp) (s:u_) (σ:St) (H:Hp) (x:V) (v:m_) (Q:VK),Cv X B' σ H s->Gq x v->r x H Q ->
  D_ (GD X.prog X.w) X.A (f v) (EP X B' σ Q) X.xe s
def j0(X:Cx)(f:m_)(r:b'->Hp->VK->Prop):Prop:=
 ∀(B':Vp) (s:u_) (σ:St) (H:Hp) (xs:b') (us:ce) (Q:VK),Cv X B' σ H s->Gr xs us->r xs H Q ->
  D_ (GD X.prog X.w) X.A (JR f us) (EP X B' σ Q) X.xe s
def TruR(X:Cx)(r:V->Hp->(Bool->Hp->Prop)->Prop):Prop:=
 ∀(B':Vp) (s:u_) (σ:St) (H:Hp) (x:V) (v:m_) (Q:Bool->Hp->Prop),Cv X B' σ H s->Gq x v->r x H Q ->
  D_ (GD X.prog X.w) X.A (truthy v) (TP X B' σ Q) X.xe s
noncomputable def tOp(r:R2)(ta tb:TE):TE:=λσ H Q=>ta σ H λx H1=>tb σ H1 λy H2=>r x y H2 Q
noncomputable def tUn(r:V->Hp->VK->Prop)(ta:TE):TE:=λσ H Q=>ta σ H λx H1=>r x H1 Q
noncomputable def rI(C:Int->Int->Prop)(g:Int->Int->V):R2:=λx y H Q=>∃i j,x=.int i/\y=.int j/\C i j/\Q (g i j) H
noncomputable def rI0(g:Int->Int->V):R2:=λx y H Q=>∃i j,x=.int i/\y=.int j/\Q (g i j) H
def rU(g:Int->V):V->Hp->VK->Prop:=λx H Q=>∃i,x=.int i/\Q (g i) H
section
variable{a b:HG}
def binT(m:PE X a ta)(l:PE X b tb){R:V->V->Hp->Prop}(I:Cv X B' σ H s)(h:ta σ H λx H1=>tb σ H1 λy H2=>R x y H2){Q:Mq}(k:∀v u c x y H2,Cv X B' σ H2 c->Gq x v->Gq y u->R x y H2->D_ (GD X.prog X.w) X.A (f v u) Q X.xe c):
  D_ (GD X.prog X.w) X.A (GI a X.env) (λv Y=>D_ (GD X.prog X.w) X.A (GI b X.env) (λu J=>D_ (GD X.prog X.w) X.A (f v u) Q X.xe J) X.xe Y) X.xe s:=by
 refine H9 (m B' s σ H _ I h) λv e d=>?_;obtain⟨x,H1,o,g,j⟩:=d;refine H9 (l B' e σ H1 _ o j) λu c d=>?_;obtain⟨y,H2,n,r2,i⟩:=d;exact k v u c x y H2 n g r2 i
def pe_op{op:Operator}(d:OpR X (Ih op) r)(f:PE X a ta)(e:PE X b tb):PE X (.BinOp a op b pos) (tOp r ta tb):=by intro B' s σ H Q I h;exact NH (binT f e I h λv u J x y H2 g c Y q=>d B' J σ H2 x y v u Q g c Y q)
def pe_un{op:UnaryOp}{r:V->Hp->VK->Prop}(d:UnR X (Of op) r)(e:PE X a ta):PE X (.UnaryOp op a pos) (tUn r ta):=by intro B' s σ H Q I h;refine UnaryOp_ (H9 (e B' s σ H _ I h) λv J c=>?_);obtain⟨x,H1,f,Y,b⟩:=c;exact d B' J σ H1 x v Q f Y b
def opI{C:Int->Int->Prop}(J:∀(i j:Int) (t u:Tok) (s:u_) (Q:Mq) (E:Mq),C i j->Q (.int (g i j) s.toks) {s with toks:=s.toks+1}->D_ (GD X.prog X.w) X.A (f (.int i t) (.int j u)) Q E s):
  OpR X f (rI C λi j=>.int (g i j)):=by
 intro B' s σ H x y v u Q I a Y h;obtain⟨i,j,rfl,rfl,b,q⟩:=h;obtain⟨t,rfl⟩:=a;obtain⟨t',rfl⟩:=Y;exact J i j t t' s _ _ b ⟨.int (g i j),H,I.tok _,⟨_,rfl⟩,q⟩
def opI0(J:∀(i j:Int) (t u:Tok) (s:u_) (Q:Mq) (E:Mq),Q (.int (g i j) s.toks) {s with toks:=s.toks+1}->D_ (GD X.prog X.w) X.A (f (.int i t) (.int j u)) Q E s):
  OpR X f (rI0 λi j=>.int (g i j)):=by
 intro B' s σ H x y v u Q I a Y h;obtain⟨i,j,rfl,rfl,q⟩:=h;obtain⟨t,rfl⟩:=a;obtain⟨t',rfl⟩:=Y;exact J i j t t' s _ _ ⟨.int (g i j),H,I.tok _,⟨_,rfl⟩,q⟩
def opB0{g:Int->Int->Bool}(J:∀(i j:Int) (t u:Tok) (s:u_) (Q:Mq) (E:Mq),Q (.bool (g i j)) s->D_ (GD X.prog X.w) X.A (f (.int i t) (.int j u)) Q E s):
  OpR X f (rI0 λi j=>.bl (g i j)):=by
 intro B' s σ H x y v u Q I a Y h;obtain⟨i,j,rfl,rfl,q⟩:=h;obtain⟨t,rfl⟩:=a;obtain⟨t',rfl⟩:=Y;exact J i j t t' s _ _ ⟨.bl (g i j),H,I,rfl,q⟩
def CPow(i j:Int):Prop:=0<=j/\j<=1000000/\i.natAbs<2^64
def CMul(i j:Int):Prop:=(-(2^64)<i/\i<2^64)\/(-(2^64)<j/\j<2^64)
def CMul.ok{i j:Int}(h:CMul i j):IntMulOk i j:=by
 rcases h with⟨h1,h2⟩|⟨h1,h2⟩
 .exact .of_left (intBits_le_64 h1 h2)
 .exact .of_right (intBits_le_64 h1 h2)
def op_add:OpR X (Ih .Add) (rI0 λi j=>.int (i+j)):=opI0 λ_ _ _ _ _ _ _ q=>add_int q
def op_sub:OpR X (Ih .Sub) (rI0 λi j=>.int (i-j)):=opI0 λ_ _ _ _ _ _ _ q=>sub_int q
def op_mul:OpR X (Ih .Mult) (rI CMul λi j=>.int (i*j)):=opI λ_ _ _ _ _ _ _ I q=>mul_int q I.ok
theorem op_mod:OpR X (Ih .Mod) (rI (λ_ j=>0<j) λi j=>.int (i%j)):=opI λi j _ _ _ _ _ I q=>by have h1:(0:Int)<j:=I;exact mod_int' am (by rw[Int.fmod_eq_emod_of_nonneg i am];exact q)
def op_pow:OpR X (Ih .Pow) (rI CPow λi j=>.int (i^j.toNat)):=opI λ_ _ _ _ _ _ _ I q=>pow_int_small I.1 I.2.1 I.2.2 q
def unI{f:m_->Oq m_}{g:Int->Int}(J:∀(i:Int) (t:Tok) (s:u_) (Q:Mq) (E:Mq),Q (.int (g i) s.toks) {s with toks:=s.toks+1}->D_ (GD X.prog X.w) X.A (f (.int i t)) Q E s):
  UnR X f (rU λi=>.int (g i)):=by
 intro B' s σ H x v Q I Y h;obtain⟨i,rfl,q⟩:=h;obtain⟨t,rfl⟩:=Y;exact J i t s _ _ ⟨.int (g i),H,I.tok _,⟨_,rfl⟩,q⟩
def un_neg:UnR X (Of .USub) (rU λi=>.int (-i)):=unI λ_ _ _ _ _ q=>neg_int q
end
noncomputable def scal:V->V->Bool
 |.non,.non=>d_|.non,.int _=>d_|.int _,.non=>d_|.non,.bl _=>d_|.bl _,.non=>d_|.non,.str _=>d_|.str _,.non=>d_|.int _,.int _=>d_|.bl _,.bl _=>d_|.str _,.str _=>d_|.byt _,.byt _=>d_|.int _,.str _=>d_|.str _,.int _=>d_|.bl _,.str _=>d_|.str _,.bl _=>d_|_,_=>b_
def rNe:R2:=λx y H Q=>scal x y=d_/\Q (.bl (!decide (x=y))) H
def dec_int{i j:Int}:o_ (V.int i=V.int j)=(i==j):=by rw[Js];simp
def dec_bl{i j:Bool}:o_ (V.bl i=V.bl j)=(i==j):=by rw[Js];simp
def dec_str{i j:i_}:o_ (V.str i=V.str j)=(i==j):=by rw[Js];simp
def dec_byt{i j:Array UInt8}:o_ (V.byt i=V.byt j)=(i.toList==j.toList):=by rw[Js];simp
section
variable{a b:HG}{tc:TE}
def gO{Q:VK}{k k':Bool}(I:Cv X B' σ H s)(q:Q (.bl k) H)(e:k=k'):EP X B' σ Q (.bool k') s:=by subst e;exact⟨.bl k,H,I,rfl,q⟩
def op_ne:OpR X (GL .NotEq) rNe:=by
 intro B' s σ H x y v u Q I a J h;obtain⟨Y,q⟩:=h;cases x with
 |non=>
  cases a;cases y with
  |non=>cases J;exact PySem.EqNone.ne_none_none (gO I q a8)|bl j=>cases J;exact PySem.EqNone.ne_none_bool (gO I q a8)|int j=>obtain⟨t',rfl⟩:=J;exact PySem.EqNone.ne_none_int (gO I q a8)
  |str j=>obtain⟨t',rfl⟩:=J;exact PySem.EqNone.ne_none_str (gO I q a8)
  |_=>exact Gw (show b_=d_ from Y) HV
 |bl i=>
  cases a;cases y with
  |non=>cases J;exact PySem.EqNone.ne_bool_none (gO I q a8)|bl j=>cases J;exact ne_bool (gO I q (Jo not dec_bl))|str j=>obtain⟨t',rfl⟩:=J;exact OI (gO I q a8)
  |_=>exact Gw (show b_=d_ from Y) HV
 |int i=>
  obtain⟨t,rfl⟩:=a;cases y with
  |non=>cases J;exact PySem.EqNone.ne_int_none (gO I q a8)|int j=>obtain⟨t',rfl⟩:=J;exact ne_int (gO I q (Jo not dec_int))
  |str j=>obtain⟨t',rfl⟩:=J;exact OH (gO I q a8)
  |_=>exact Gw (show b_=d_ from Y) HV
 |str i=>
  obtain⟨t,rfl⟩:=a;cases y with
  |non=>cases J;exact PySem.EqNone.ne_str_none (gO I q a8)|bl j=>cases J;exact OG (gO I q a8)|int j=>obtain⟨t',rfl⟩:=J;exact OF (gO I q a8)
  |str j=>obtain⟨t',rfl⟩:=J;exact ne_str (gO I q (Jo not dec_str))
  |_=>exact Gw (show b_=d_ from Y) HV
 |byt i=>
  obtain⟨t,rfl⟩:=a;cases y with
  |byt j=>obtain⟨t',rfl⟩:=J;exact PySem.W.ne_bytes (gO I q (Jo not dec_byt))
  |_=>exact Gw (show b_=d_ from Y) HV
 |_=>cases y<;>exact Gw (show b_=d_ from Y) HV
def op_lt:OpR X (GL .Lt) (rI0 λi j=>.bl (o_ (i<j))):=opB0 λ_ _ _ _ _ _ _ q=>lt_int q
def op_le:OpR X (GL .LtE) (rI0 λi j=>.bl (o_ (i<=j))):=opB0 λ_ _ _ _ _ _ _ q=>le_int q
def op_gt:OpR X (GL .Gt) (rI0 λi j=>.bl (o_ (j<i))):=opB0 λ_ _ _ _ _ _ _ q=>gt_int q
def op_ge:OpR X (GL .GtE) (rI0 λi j=>.bl (o_ (j<=i))):=opB0 λ_ _ _ _ _ _ _ q=>ge_int q
def EX:OpR X (GL .In) (λx y H Q=>∃i j,x=.str i/\y=.str j/\Q (.bl (!(GU j i 0 j.length 1).isEmpty)) H):=by intro B' s σ H x y v u Q I Y J h;obtain⟨i,j,rfl,rfl,q⟩:=h;obtain⟨t,rfl⟩:=Y;obtain⟨t',rfl⟩:=J;exact in_str (gO I q rfl)
def op_isN:OpR X (GL .Is) (λx y H Q=>y=.non/\Q (.bl (o_ (x=.non))) H):=by
 intro B' s σ H x y v u Q I J Y h;obtain⟨rfl,q⟩:=h;cases Y;refine is_none_gen (gO I q ?_);cases x<;>first
  |(cases J;rfl)
  |(obtain⟨t,rfl⟩:=J;rfl)
def op_notN:OpR X (GL .IsNot) (λx y H Q=>y=.non/\Q (.bl (!decide (x=.non))) H):=by
 intro B' s σ H x y v u Q I J Y h;obtain⟨rfl,q⟩:=h;cases Y;refine isnot_none_gen (gO I q ?_);cases x<;>first
  |(cases J;rfl)
  |(obtain⟨t,rfl⟩:=J;rfl)
def yg:OpR X (GL .NotIn) (λx y H Q=>∃i j,x=.str i/\y=.str j/\Q (.bl (!(!(GU j i 0 j.length 1).isEmpty))) H):=by intro B' s σ H x y v u Q I Y J h;obtain⟨i,j,rfl,rfl,q⟩:=h;obtain⟨t,rfl⟩:=Y;obtain⟨t',rfl⟩:=J;exact notIn_str (gO I q rfl)
def OpR.or(h:OpR X f r)(h':OpR X f r'):OpR X f (λx y H Q=>r x y H Q\/r' x y H Q):=by
 intro B' s σ H x y v u Q I Y J q;rcases q with q|q
 .exact h B' s σ H x y v u Q I Y J q
 .exact h' B' s σ H x y v u Q I Y J q
def Bh(b:HG)(h:(op≠.In)⁻¹)(h2:(op≠.NotIn)⁻¹):IP op b=b_:=by
 have e1:(op==CmpOp.In)=b_:=by cases op<;>first|rfl|exact Gw rfl h
 have e2:(op==Ov)=b_:=by cases op<;>first|rfl|exact Gw rfl h2
 cases b<;>simp[IP,e1,e2]
def pe_cmpR(d:OpR X (GL op) r)(g:PE X a ta)(f:PE X b tb)(e:IP op b=b_):PE X (.Compare a [op] [b] pos) (tOp r ta tb):=by intro B' s σ H Q I h;exact wpAny_Compare1 (binT g f I h λv u J x y H2 i c Y q=>d B' J σ H2 x y v u Q i c Y q) e
noncomputable def BZ(t:TE):TT:=λσ H Q=>t σ H λx H'=>∃k,x=.bl k/\Q k H'
def zV(l:OpR X (GL op) r)(o:PE X a ta)(n:PE X b tb)(m:IP op b=b_):PT X (.Compare a [op] [b] pos) (BZ (tOp r ta tb)):=by
 intro B' s σ H Q I h;refine Ny (H9 (o B' s σ H _ I h) λv Y ⟨x,H1,t,f,j⟩=>H9 (n B' Y σ H1 _ t j) λu J ⟨y,H2,q,r2,i⟩=>H9 (l B' J σ H2 x y v u _ q f r2 i) λc A ⟨z,w,p,d,k,e,g⟩=>?_) m
 subst e;cases d;exact HJ ⟨w,p,g⟩
noncomputable def Ef(r r':R2)(ta tb tc:TE):TE:=λσ H Q=>ta σ H λx H1=>tb σ H1 λy H2=>r x y H2 λz I=>∃k,z=.bl k /\
 (if k=d_ then tc σ I λw' J=>r' y w' J Q else Q (.bl b_) I)
def pe_chain(B:OpR X (GL op) r)(J:OpR X (GL op') r')(F:PE X a ta)(E:PE X b tb)(D:PE X c tc)(C:autoParam (Le [op,op'] [b,c]=b_) Jq8):PE X (.Compare a [op,op'] [b,c] pos) (Ef r r' ta tb tc):=by
 intro B' s σ H Q I h;refine Compare_chain (H9 (F B' s σ H _ I h) λv n ⟨x,H1,L,q,A⟩=>N8 (H9 (E B' n σ H1 _ L A) λu m ⟨y,H2,K,r2,w⟩=>H9 (B B' m σ H2 x y v u _ K q r2 w) λd l ⟨z,g,f,p,k,e,Y⟩=>?_)) C
 subst e;cases p;refine HJ ?_;cases k with
 |false=>exact ite_ff ⟨.bl b_,g,f,rfl,Y⟩|true=>exact ite_tt (chain_last (H9 (D B' l σ g _ f Y) λw' j ⟨i,N,G,o,t⟩=>J B' j σ N y i u w' Q G r2 o t))
def pt_chain(F:OpR X (GL op) r)(Y:OpR X (GL op') r')(N:PE X a ta)(L:PE X b tb)(K:PE X c tc)(G:autoParam (Le [op,op'] [b,c]=b_) Jq8):PT X (.Compare a [op,op'] [b,c] pos) (BZ (Ef r r' ta tb tc)):=by
 intro B' s σ H Q I h;refine isTrue_chain (H9 (N B' s σ H _ I h) λv o ⟨x,H1,T,w,D⟩=>test_link (H9 (L B' o σ H1 _ T D) λu n ⟨y,H2,S,r2,C⟩=>H9 (F B' n σ H2 x y v u _ S w r2 C) λd m ⟨z,i,g,t,k,e,f⟩=>?_)) G
 subst e;cases t;refine HJ ?_;cases k with
 |false=>obtain⟨k',O,E⟩:=f;cases O;exact ite_ff ⟨i,g,E⟩
 |true=>refine ite_tt (test_last (H9 (K B' m σ i _ g f) λw' l J=>?_));obtain⟨j,W,R,q,B⟩:=J;refine H9 (Y B' l σ W y j u w' _ R r2 q B) λd' s5 J=>?_;obtain⟨Z,U,P,p,k2,e2,A⟩:=J;subst e2;cases p;exact HJ ⟨U,P,A⟩
def TruV(K:Pn)(x:V)(H:Hp)(k:Bool):Prop:=
 match x with
 |.non=>k=b_|.bl b=>k=b|.int i=>k=(i != 0)|.str y=>y.length<=j_/\k=((y.length:Int) != 0)|.byt y=>y.size<=j_/\k=((y.size:Int) != 0)|.ref p=>(∃xs,SqL K H p xs/\k= !xs.isEmpty)\/(∃xs,SqT K H p xs/\k= !xs.isEmpty)\/∃I,H p=a_ (.dK I)/\k= !I.isEmpty
 |_=>False
def D3{I:List (κ×V)}{vs:List (κ×m_)}(r:KV I vs):(!vs.isEmpty)= !I.isEmpty:=by cases r<;>rfl
def uZ{xs:b'}{G':ce}(r:Gr xs G'):(!G'.toArray.isEmpty)= !xs.isEmpty:=by cases r<;>simp
def uW:(j_:Nat)<2^63:=by simp[Hr]
theorem tru_ok:TruR X (λx H Q=>∃k,TruV X.K x H k/\Q k H):=by
 intro B' s σ H x v Q I c h;obtain⟨k,e,q⟩:=h;have n:=uW;have l:j_=16777216:=Hr;cases x with
 |non=>cases c;have J:k=b_:=e;subst J;exact truthy_none ⟨H,I,q⟩|bl b=>cases c;have J:k=b:=e;subst J;exact HJ ⟨H,I,q⟩|int i=>obtain⟨t,rfl⟩:=c;have J:k=(i != 0):=e;subst J;exact PySem.P.truthy_int ⟨H,I,q⟩
 |str y=>obtain⟨t,rfl⟩:=c;obtain⟨g,J⟩:y.length<=j_/\k=((y.length:Int) != 0):=e;subst J;exact PySem.P.truthy_str am ⟨H,I.tok _,q⟩
 |byt y=>obtain⟨t,rfl⟩:=c;obtain⟨g,J⟩:y.size<=j_/\k=((y.size:Int) != 0):=e;subst J;exact PySem.W.truthy_bytes am ⟨H,I.tok _,q⟩
 |ref p=>
  cases c;have J:(∃xs,SqL X.K H p xs/\k= !xs.isEmpty)\/(∃xs,SqT X.K H p xs/\k= !xs.isEmpty)\/∃Y,H p=a_ (.dK Y)/\k= !Y.isEmpty:=e;rcases J with⟨xs,d,J⟩|⟨xs,d,J⟩|⟨Y,d,J⟩
  .subst J;obtain⟨G',r,pl,f⟩:=I.list d;have a:=r.length;exact wpAny_truthy_list pl.isList (by simp only[Hy];lia) ⟨H,I.tok _,by rw[uZ r];exact q⟩
  .subst J;obtain⟨G',r,pl,f⟩:=I.tuple d;have a:=r.length;exact truthy_tuple pl (by simp only[Hy];lia) ⟨H,I.tok _,by rw[uZ r];exact q⟩
  .subst J;obtain⟨f,j,vs,r,m⟩:Y.length<=j_/\(p==Jn)=b_/\∃vs,KV Y vs/\s.heap.DictOf (A9 X.prog X.w) p vs:=I.hok p _ d;have a:Y.length=vs.length:=KP r;exact wpAny_truthy_dict j m am ⟨H,I.tok _,by rw[D3 r];exact q⟩
 |_=>exact(show False from e).elim
def rm(f:PE X a ta)(e:∀J,Ng a X.env J=(do let v <- J;Mi a.pos;Mj [v] (truthy v))):
  PT X a (λσ H Q=>ta σ H λx H'=>∃k,TruV X.K x H' k/\Q k H'):=by
 intro B' s σ H Q I h;refine isTrue_plain (H9 (f B' s σ H _ I h) λv Y d=>?_) (e _);obtain⟨x,H1,g,b,c⟩:=d;exact tru_ok B' Y σ H1 x v Q g b c
def CI:OpR X (Ih .Add) (λx y H Q=>∃i j,x=.str i/\y=.str j/\i.length+j.length<=j_/\Q (.str (i++j)) H):=by intro B' s σ H x y v u Q I Y J h;obtain⟨i,j,rfl,rfl,a,q⟩:=h;obtain⟨t,rfl⟩:=Y;obtain⟨t',rfl⟩:=J;exact add_str (λt' b=>⟨.str (i++j),H,I.tok _,⟨_,rfl⟩,q⟩) a
def vals1{x:V}(r:Gr [x] us):∃u,us=[u]/\Gq x u:=by
 cases r with
 |cons I r2=>cases r2;exact⟨_,rfl,I⟩
def vals2{x:V}(r:Gr [x,y] us):∃u w',us=[u,w']/\Gq x u/\Gq y w':=by
 cases r with
 |cons Y r2=>
  cases r2 with
  |cons J I=>cases I;exact⟨_,_,rfl,Y,J⟩
def Ge(Y:X.calm=d_):j0 X (.builtin "min") (λxs H Q=>∃i j,xs=[.int i,.int j]/\Q (.int (if j<i then j else i)) H):=by
 intro B' s σ H xs us Q I r h;obtain⟨i,j,rfl,q⟩:=h;obtain⟨u,w',rfl,⟨t,rfl⟩,⟨t',rfl⟩⟩:=vals2 r;refine min_two_ints (I.ok.hd Y) λh' a k=>⟨_,H,I.kept k,?_,q⟩
 by_cases J:j<i
 .rw[g_ J,g_ J];exact⟨_,rfl⟩
 .rw[k_ J,k_ J];exact⟨_,rfl⟩
def Gg:j0 X (.type "int") (λxs H Q=>(∃i,xs=[.int i]/\Q (.int i) H)\/∃k,xs=[.bl k]/\Q (.int (if k then 1 else 0)) H):=by
 intro B' s σ H xs us Q I r h;rcases h with⟨i,rfl,q⟩|⟨k,rfl,q⟩
 .obtain⟨u,rfl,t,rfl⟩:=vals1 r;exact call_int_int ⟨.int i,H,I,⟨_,rfl⟩,q⟩
 .obtain⟨u,rfl,J⟩:=vals1 r;cases J;exact call_int_bool ⟨.int (if k then 1 else 0),H,I.tok _,⟨_,rfl⟩,q⟩
def yR:j0 X (.type "str") (λxs H Q=>∃i,xs=[.int i]/\i.natAbs.log2<1920/\Q (.str (toString i)) H):=by intro B' s σ H xs us Q I r h;obtain⟨i,rfl,J,q⟩:=h;obtain⟨u,rfl,t,rfl⟩:=vals1 r;exact PySem.P.str_of_int J ⟨.str _,H,I.tok _,⟨_,rfl⟩,q⟩
end
structure ObjM(h:Hq)(x dx C:f_)(mA:Ld):Prop where
 obj:h.get? x=a_ (Iz C dx)
 ns:h.Ns1 dx mA
 ne:dx≠x
theorem Fn(n:h.Ns1 dx mA):∃od,h.get? dx=a_ od/\∀name,lookIn name od=a_ (mA name):=by
 obtain⟨o,es,ep,Y,hd,c,_,b⟩:=n;refine⟨o,Y,λname=>?_⟩
 have e:=b name;unfold nsFind findBy at e;rw[<- M4]at e;unfold lookIn;rw[hd];dsimp only;split
 .simp_all
 .rename_i q;rw[q]at e;have a:es.toList.any (·.refKey)=b_:=by
   rw[List.any_eq_false];intro y J;obtain⟨z,t,I⟩:=c y (Array.mem_toList_iff.mp J);simp[DictEntry.refKey,I]
  grind
def ObjM.look{x:f_}(I:ObjM h x dx C mA):∃od,Nn h x (Iz C dx) C (a_ od)/\∀name,lookIn name od=a_ (mA name):=
 let ⟨od,J,Y⟩:=Fn I.ns
 ⟨od,⟨I.obj,rfl,rfl,J⟩,Y⟩
section
variable{w:GW}{x f:f_}{v:m_}
def get_map{Y:Bool}{Q:Mq}(X:K.In s.heap)(I:ObjM s.heap x dx C mA)(c:LF K C name=d_)(hh:LV K C=d_)(d:GG K (.ref C) name=a_ c_)(hv:mA name=a_ v)(a:MV v=d_)(h:Q v {s with toks:=s.toks+1}):
  D_ (GD prog w) A (getAttr (.ref x) name Y) Q E s:=by
 obtain⟨od,J,b⟩:=I.look;exact PySem.W.get_value X J (KG c).1 (PySem.W.findObj_own hh d rfl (by rw[b,hv])) a h
def get_meth{Q:m_×ce->u_->Prop}(X:K.In s.heap)(I:ObjM s.heap x dx C mA)(Y:LF K C name=d_)(c:GG K (.ref C) name=a_ (a_ (.ref f)))(a:isFn K (.ref f)=d_)(hv:mA name=c_)(h:Q (.ref f,[.ref x]) s):
  D_ (GD prog w) A (Lf (.ref x) name pl) Q E s:=by
 obtain⟨od,J,b⟩:=I.look;exact PySem.W.method_fn X J (KG Y).1 (KG Y).2 c (Jm.mp a) (by show(lookIn name od).map (·.isSome)=a_ b_;rw[b,hv];rfl) h
theorem set_map{ns:bv}(X:K.In s.heap)(I:ObjM s.heap x dx C mA)(k:GG K (.ref C) "__setattr__"=a_ (a_ (.builtin "object.__setattr__")))(l:M_ K C=d_)(j:takerIn K C name=a_ c_)(hh:LV K C=d_)(hw:JS mA ns)(hsz:ns.length<=j_)(h:∀h',ObjM h' x dx C (λy=>if y=name then a_ v else mA y)->Kv dx s.heap h'->Q () {s with heap:=h',toks:=s.toks+2}):
  D_ (GD prog w) A (Oh (.ref x) name v) Q E s:=by
 obtain⟨od,J,q⟩:=I.look;refine Ol X J k (PySem.W.osa_open (s:={s with toks:=s.toks+1}) (r:=c_) X J l j λb=>?_);obtain⟨cd,m,f⟩:=Nl hh;have i:s.heap.get? x=a_ ⟨.ref C,a_ dx,.plain,#[]⟩:=I.obj;refine n_ (F_ (n_ (n_ (wpAny_loadPart i (n_ (MX (s:={s with toks:=s.toks+1}) (Md X m) ?_))))));rw[f];refine F_ (a:=a_ dx) (n_ (F_ (n_ ?_)));refine wpAny_nsSet1 (s:={s with toks:=s.toks+1}) I.ns λh' c Y=>?_;obtain⟨p,n,o,d,e,g⟩:=c.count (MS name v hw);refine n_ (OA d (by rw[e];exact OD (Ha g bt)) ?_);exact F_ (h _ ⟨(Y.2 _ (HI I.ne)).trans I.obj,c,I.ne⟩ Y)
def make_map{R:Result->u_->Prop}{vs:ce}(X:K.In s.heap)(J:Nk K C=d_)(hi:GG K (.ref C) "__init__"=a_ (a_ (.ref f)))(Y:Iy K (.ref f)=a_ (.type "function"))(h:Kb (GD prog w) (A.under (.builtin "type.__call__" ⟨.ref C::vs,kw⟩)) (.call (.ref f) ⟨.ref (s.heap.objs.size+1)::vs,kw⟩) (PySem.W.InitBack (s.heap.objs.size+1) R)
   {s with heap:=(s.heap.push HB).push (Iz C s.heap.objs.size)}):
  Kb (GD prog w) A (.call (.ref C) ⟨vs,kw⟩) R s:=by
 obtain⟨hh,g,d,t,os⟩:=s;exact PySem.W.make_core (PySem.W.makes_of X J) (NM X hi) (λI=>PySem.W.bind_fn X I Y) (.inl rfl) h
end
noncomputable def su(f:i_)(v:V):List (i_×V)->List (i_×V)
 |[]=>[(f,v)]|(g,x)::r=>if g=f then(g,v)::r else(g,x)::su f v r
theorem sU(f g:i_)(v:V):∀fs:List (i_×V),(su f v fs).lookup g=if g=f then a_ v else fs.lookup g
 |[]=>by show H_ g [(f,v)]=_;grind|(k,x)::r=>by have I:=sU f g v r;rw[show su f v ((k,x)::r)=(if k=f then(k,v)::r else(k,x)::su f v r)from rfl];grind
theorem sY(f:i_)(v:V):∀fs:List (i_×V),f∈(su f v fs).map (·.1)/\∀g,g∈fs.map (·.1)->g∈(su f v fs).map (·.1)
 |[]=>⟨by simp[su],λg h=>by simp at h⟩|(k,x)::r=>by obtain⟨J,I⟩:=sY f v r;rw[show su f v ((k,x)::r)=(if k=f then(k,v)::r else(k,x)::su f v r)from rfl];grind
theorem sV(f:i_)(v:V):∀fs:List (i_×V),(su f v fs).length<=fs.length+1
 |[]=>by simp[su]|(k,x)::r=>by
  have J:=sV f v r;rw[show su f v ((k,x)::r)=(if k=f then(k,v)::r else(k,x)::su f v r)from rfl];by_cases I:k=f
  .rw[g_ I,Gy,Gy];lia
  .rw[k_ I,Gy,Gy];lia
def xf.some_of{o:Option m_}(r:xf (a_ v) o):∃u,o=a_ u/\Gq v u:=by
 cases o with
 |none=>exact(show False from r).elim|some u=>exact⟨u,rfl,r⟩
def xf.none_of{o:Option m_}(r:xf c_ o):o=c_:=by
 cases o with
 |none=>rfl|some u=>exact(show False from r).elim
def FF(r:Gq v u):MV u=d_:=by
 cases v with
 |non=>cases(show u=Je from r);rfl|bl b=>cases(show u=LG b from r);rfl|int i=>obtain⟨t,e⟩:=(show ∃t,u=Kj i t from r);cases e;rfl
 |str x=>obtain⟨t,e⟩:=(show ∃t,u=Ij x t from r);cases e;rfl
 |byt b=>obtain⟨t,e⟩:=(show ∃t,u=Oo b t from r);cases e;rfl
 |flt b=>obtain⟨t,e⟩:=(show ∃t,u=Mw b t from r);cases e;rfl
 |ref a=>cases(show u=GP a from r);rfl|ty n=>cases(show u=JY n from r);rfl
section
variable{w:GW}{fs:List (i_×V)}
def wy(I:HOk P w H h)(e:H a=a_ (.ins C dx fs)):∃mA,ObjM h a dx C mA/\(∀f,xf (fs.lookup f) (mA f))/\JS mA (fs.map (·.1))/\fs.length<=1000/\H dx=a_ (.own a):=by
 obtain⟨d,z,Y,J,mA,n,r,q⟩:=(show iA P w H h a (.ins C dx fs)from I a _ e)
 exact⟨mA,⟨J,n,Y⟩,r,q,z,d⟩
end
structure Cls(K:Pn)(C:f_):Prop where
 pg:LF K C Ip=d_
 hd:LV K C=d_
 po:M_ K C=d_
 sa:GG K (.ref C) "__setattr__"=a_ (a_ (.builtin "object.__setattr__"))
def Cls.get(c:Cls K C)(f:i_):LF K C f=d_:=c.pg
def bp(K:Pn)(C:f_)(f:i_):Prop:=GG K (.ref C) f=a_ c_
def bp.taker{f:i_}(n:bp K C f):takerIn K C f=a_ c_:=by unfold takerIn;rw[show GG K (.ref C) f=a_ c_ from n];rfl
structure Meth(K:Pn)(C:f_)(m:i_)(f:f_):Prop where
 at_:GG K (.ref C) m=a_ (a_ (.ref f))
 fn:isFn K (.ref f)=d_
 kp:Ja K (.ref f)=d_
section
variable{fs:List (i_×V)}{f:i_}
def D4{b:Bool}{Q:Mq}(I:Cv X B' σ H s)(e:H a=a_ (.ins C dx fs))(c:Cls X.K C)(n:bp X.K C f)(l:fs.lookup f=a_ v)(h:∀u s',Cv X B' σ H s'->Gq v u->Q u s'):D_ (GD X.prog X.w) A (getAttr (.ref a) f b) Q E s:=by obtain⟨mA,O,r,_,_,_⟩:=wy I.hok e;obtain⟨u,Y,J⟩:=xf.some_of (v:=v) (o:=mA f) (by rw[<- l];exact r f);exact get_map I.kIn O (c.get f) c.hd n Y (FF J) (h u _ (I.tok _) J)
def v8{m:i_}{g:f_}{Q:m_×ce->u_->Prop}(I:Cv X B' σ H s)(e:H a=a_ (.ins C dx fs))(c:Cls X.K C)(k:Meth X.K C m g)(l:fs.lookup m=c_)(h:Q (.ref g,[.ref a]) s):D_ (GD X.prog X.w) A (Lf (.ref a) m pl) Q E s:=by obtain⟨mA,O,r,_,_,_⟩:=wy I.hok e;have J:mA m=c_:=xf.none_of (by rw[<- l];exact r m);exact get_meth I.kIn O (c.get m) k.at_ k.fn J h
theorem Cc(I:Cv X B' σ H s)(e:H a=a_ (.ins C dx fs))(c:Cls X.K C)(n:bp X.K C f)(m:fs.length<1000)(d:Gq y u)(h:∀s',Cv X B' σ (upd H a (.ins C dx (su f y fs))) s'->Q () s'):D_ (GD X.prog X.w) A (Oh (.ref a) f u) Q E s:=by
 obtain⟨mA,O,r,wi,_,J⟩:=wy I.hok e;have i:(fs.map (·.1)).length<=j_:=by rw[w_,Hr];lia
 refine set_map I.kIn O c.sa c.po n.taker c.hd wi i λh' O' Y=>h _ ?_;have hd:∃o,h'.get? dx=a_ o:=let ⟨o,_,_,l,_⟩:=O'.ns;⟨o,l⟩;refine I.write (x:=a) (e:=dx) (by rw[e];exact Iv) (.inr J) (λb q k z=>(Y.2 b k).trans z) hd ?_;refine⟨by rw[ao O.ne];exact J,?_,O.ne,O'.obj,_,O'.ns,λg=>?_,λg j=>?_⟩
 .have:=sV f y fs;lia
 .show xf ((su f y fs).lookup g) (if g=f then a_ u else mA g);rw[sU];by_cases q:g=f
  .rw[g_ q,g_ q];exact d
  simp_all
 .by_cases q:g=f
  .rw[q];exact(sY f y fs).1
  .refine(sY f y fs).2 g (wi g λz=>j ?_);simp_all
def Cv.made(I:Cv X B' σ H s):Cv X B' σ (upd (upd H s.heap.objs.size (.own (s.heap.objs.size+1))) (s.heap.objs.size+1) (.ins C s.heap.objs.size []))
  {s with heap:=(s.heap.push HB).push (Iz C s.heap.objs.size)}:=by
 have e1:(s.heap.push HB).get? s.z=a_ HB:=GC s.heap rfl;have e2:((s.heap.push HB).push (Iz C s.z)).get? (s.z+1)=a_ (Iz C s.z):=by
  have:=GC (s.heap.push HB) (o:=Iz C s.z) rfl
  rwa [Ii]at this
 have e3:(s.heap.push HB).Ns s.z (λ_=>c_):=⟨HB,#[],_,e1,rfl,(λe c=>Gw c a8),λ_=>rfl⟩
 have d:=I.laid (a:=s.z) (o:=.own (s.z+1)) (h':=s.heap.push HB) (t':=s.toks) (λb u q=>r_ _ q) (z_ _) ⟨_,e1⟩;refine d.laid (a:=s.z+1) (o:=.ins C s.z []) (t':=s.toks) (λb u q=>r_ _ q) (OS (Ii _ _)) ?_;have J:s.z≠s.z+1:=GS (Iu _);refine⟨by rw[ao J,aj],Ib _,J,e2,λ_=>c_,(Mx e3).at λo q=>r_ _ q,λ_=>Iv,λy Y=>Gw rfl Y⟩
def attr_of{w:GW}{env:LP}{f:i_}{Q:Mq}(J:HA e f env (GI e env)=GI e env)(h:D_ (GD prog w) A (GI e env) (λo I=>D_ (GD prog w) A (getAttr o f d_) Q E I) E s):D_ (GD prog w) A (GI (.Attribute e f pos) env) Q E s:=
 Attribute_any_ h (by rw[arm_eval_Attribute,J])
end
def ug(K:Pn)(ta:TE)(f:i_):TE:=λσ H Q=>ta σ H λx H1=>∃a C dx fs v,x=.ref a/\H1 a=a_ (.ins C dx fs)/\Cls K C/\bp K C f/\fs.lookup f=a_ v/\Q v H1
def xk(K:Pn)(ta tv:TE)(f:i_):TS:=λD σ H=>tv σ H λy H1=>ta σ H1 λx H2=>∃a C dx fs,x=.ref a/\H2 a=a_ (.ins C dx fs)/\Cls K C/\bp K C f/\fs.length<1000 /\
 D.nx σ (upd H2 a (.ins C dx (su f y fs)))
section
variable{o value:HG}{f:i_}{tv:TE}
def iL(d:PE X e ta)(g:HA e f X.env (GI e X.env)=GI e X.env):PE X (.Attribute e f pos) (ug X.K ta f):=by intro B' s σ H Q I h;refine attr_of g (H9 (d B' s σ H _ I h) λu p b=>?_);obtain⟨x,H1,k,J,a,C,dx,fs,v,ex,i,c,n,l,q⟩:=b;subst ex;obtain rfl:u=GP a:=J;exact D4 k i c n l λm o j Y=>⟨v,H1,j,Y,q⟩
def hV(j:PE X o ta)(hv:PE X value tv)(i:II value (a_ (.Attribute o f pos')) pos.line X.env=Ig b_):PS X (.Assign [.Attribute o f pos'] value pos) (xk X.K ta tv f):=by intro B' s σ H D I h;refine LN (H9 (hv B' s σ H _ I h) λu Y J=>?_) i;obtain⟨y,H1,r,b,q⟩:=J;refine H9 (j B' Y σ H1 _ r q) λg v J=>?_;obtain⟨x,H2,p,d,a,C,dx,fs,ex,k,c,n,l,e⟩:=J;subst ex;obtain rfl:g=GP a:=d;exact Cc p k c n l b λt m=>⟨σ,_,m,e⟩
end
section
variable{Q:Mq}{c:m_}{b:Bool}
inductive Dz(K:Pn)(H:Hp):V->m_->Prop where
 |non:Dz K H .non (.type "NoneType")
 |bl (x:Bool):Dz K H (.bl x) (.type "bool")
 |int (i:Int):Dz K H (.int i) (.type "int")
 |str (x:i_):Dz K H (.str x) (.type "str")
 |flt (x:UInt64):Dz K H (.flt x) (.type "float")
 |lst {a:f_} {xs:List V} (e:H a=a_ (.lst xs)):Dz K H (.ref a) (.type "list")
 |frz {a:f_} {o:K1} {xs:List V} (e:H a=a_ (.frz o (.lst xs))):Dz K H (.ref a) (.type "list")
 |tup {a:f_} {xs:List V} (e:H a=a_ (.tup xs)):Dz K H (.ref a) (.type "tuple")
 |dK {a:f_} {D':List (Key×V)} (e:H a=a_ (.dK D')):Dz K H (.ref a) (.type "dict")
 |dT {a:f_} {D':List (List Key×V)} (e:H a=a_ (.dT D')):Dz K H (.ref a) (.type "dict")
 |ins {a C dx:f_} {fs:List (i_×V)} (e:H a=a_ (.ins C dx fs)) (cl:Cls K C) (ha:GG K (.ref C) "__class__"=a_ (a_ (.builtin "object.__class__")))
   (hn:Lg K (.builtin "object.__class__") "__get__"=a_ (a_ (.builtin "getset_descriptor.__get__"))) (htk:Oj K (.builtin "object.__class__")=a_ d_)
   (hm:HY K C (.type "object")=a_ d_):Dz K H (.ref a) (.ref C)
def Fz{x:V}{t:m_}(I:Cv X B' σ H s)(Y:Gq x u)(ty:Dz X.K H x t)(e:HD X.K t c=a_ b)(h:∀k,Q (.bool b) {s with toks:=k}):
  D_ (GD X.prog X.w) A (JR (.builtin "isinstance") [u,c]) Q E s:=by
 cases ty with
 |non=>cases(show u=Je from Y);exact I_ MC I.kIn Iv e (λz=>nomatch z) h
 |bl y=>cases(show u=LG y from Y);exact I_ ME I.kIn Iv e (λz=>nomatch z) h
 |int i=>obtain⟨t,q⟩:=(show ∃t,u=Kj i t from Y);cases q;exact I_ MU I.kIn Iv e (λz=>nomatch z) h
 |str y=>obtain⟨t,q⟩:=(show ∃t,u=Ij y t from Y);cases q;exact I_ MT I.kIn Iv e (λz=>nomatch z) h
 |flt y=>obtain⟨t,q⟩:=(show ∃t,u=Mw y t from Y);cases q;exact I_ PySem.W.kitx_float I.kIn Iv e (λz=>nomatch z) h
 |@lst a xs d=>
  cases(show u=GP a from Y);obtain⟨_,_,n,_,h1⟩:=(show iA X.prog X.w H s.heap a (.lst xs)from I.hok a _ d)
  exact I_ KY I.kIn ⟨_,h1,rfl⟩ e (λz=>nomatch z) h
 |@frz a l xs d=>
  cases(show u=GP a from Y);obtain⟨_,_,_,n,_,h1⟩:=(show iA X.prog X.w H s.heap a (.frz l (.lst xs))from I.hok a _ d)
  exact I_ KY I.kIn ⟨_,h1,rfl⟩ e (λz=>nomatch z) h
 |@tup a xs d=>
  cases(show u=GP a from Y);obtain⟨_,_,_,p⟩:=(show iA X.prog X.w H s.heap a (.tup xs)from I.hok a _ d)
  obtain⟨o,h1,h2,_⟩:=p;exact I_ Mv I.kIn ⟨o,h1,h2⟩ e (λz=>nomatch z) h
 |@dK a f d=>
  cases(show u=GP a from Y);obtain⟨_,_,vs,_,p⟩:=(show iA X.prog X.w H s.heap a (.dK f)from I.hok a _ d)
  obtain⟨o,es,ep,h1,h2,_⟩:=p;exact I_ MD I.kIn ⟨o,h1,h2.1⟩ e (λz=>nomatch z) h
 |@dT a f d=>
  cases(show u=GP a from Y);obtain⟨_,_,xs,_,o,es,ep,h1,h2,_⟩:=(show iA X.prog X.w H s.heap a (.dT f)from I.hok a _ d)
  exact I_ MD I.kIn ⟨o,h1,h2.1⟩ e (λz=>nomatch z) h
 |@ins a C dx fs d j v m g r=>cases(show u=GP a from Y);obtain⟨mA,O,_⟩:=wy I.hok d;obtain⟨od,J,_⟩:=O.look;exact I_ (PySem.W.kitx_own (j.get _) j.hd v m g r) I.kIn J e (λz=>nomatch z) h
end
structure jr(k:Nat)(A:IY):Prop where
 hd:A.handled=c_
 dp:A.depth+3*k+5<recursionLimit
 un:A.units+16*k+200<IL
theorem jr.mono(r:jr k A)(h:j<=k):jr j A:=⟨r.hd,by have:=r.dp;lia,by have:=r.un;lia⟩
theorem jr.deeper{k:Nat}{A:IY}(r:jr (k+1) A)(env:LP):jr k (A.deeper env):=
 ⟨r.hd,by have:=r.dp;show A.depth+1+3*k+5<_;lia,by have:=r.un;show A.units+3+16*k+200<_;lia⟩
def CQ:(A.under (.builtin "type.__call__" ⟨.ref C::us,kw⟩)).depth=A.depth+1:=by rfl
def CO:(A.under (.builtin "type.__call__" ⟨.ref C::us,kw⟩)).units=A.units+1:=by rfl
theorem jr.make(r:jr (k+1) A)(C:f_)(us:ce)(kw:List (i_×m_)):jr k (A.under (.builtin "type.__call__" ⟨.ref C::us,kw⟩)):=
 ⟨r.hd,by have:=r.dp;rw[CQ];lia,by have:=r.un;rw[CO];lia⟩
theorem jr.depth{k:Nat}{A:IY}(r:jr k A):A.depth<recursionLimit:=by have:=r.dp;lia
theorem jr.units{k:Nat}{A:IY}(r:jr k A):A.units+64<IL:=by have:=r.un;lia
noncomputable def fw:TA:=λ_ H Q=>Q [] H
def aP(ta:TE)(I:TA):TA:=λσ H Q=>ta σ H λx H1=>I σ H1 λxs H2=>Q (x::xs) H2
def aQ:PA X [] fw:=λ_ _ _ _ H Q I h=>Jz ⟨[],H,I,.nil,h⟩
def au(g:PE X e te)(f:PA X es t)(d: ~~~(h_ (e::es) X.env=(b_,GI e X.env)::h_ es X.env)):PA X (e::es) (aP te t):=by intro pos B' s σ H Q I h;rw[d];show D_ _ _ (Nf ((b_,GI e X.env)::He pos (h_ es X.env))) _ _ s;refine Ir (H9 (g B' s σ H _ I h) λu Y J=>?_);obtain⟨x,H1,j,a,c⟩:=J;refine H9 (f pos B' Y σ H1 _ j c) λus k J=>?_;obtain⟨xs,H2,i,r2,b⟩:=J;exact⟨x::xs,H2,i,.cons a r2,b⟩
def tTup(t:TA):TE:=λσ H Q=>t σ H λxs H1=>xs.length<=j_/\∀p,H1 p=c_->Q (.ref p) (upd H1 p (.tup xs))
def tLst(t:TA):TE:=λσ H Q=>t σ H λxs H1=>xs.length<=j_/\∀p,H1 p=c_->Q (.ref p) (upd H1 p (.lst xs))
def pe_tup{a}(h:PA X es t):PE X (.Tuple es a pos) (tTup t):=by
 intro B' s σ H Q I c;refine wpAny_Tuple_spliced (H9 (h pos B' s σ H _ I c) λus J d=>?_);obtain⟨xs,H1,Y,r,z,q⟩:=d;refine⟨by rw[<- r.length];exact z,?_⟩
 have f:H1 J.z=c_:=Y.hok.fresh (z_ _);refine⟨.ref J.z,upd H1 J.z (.tup xs),Y.laid (t':=J.toks) (λb u e=>r_ _ e) (z_ _) ?_,rfl,q _ f⟩
 exact⟨z,us,r,⟨_,GC _ rfl,rfl,_,rfl⟩⟩
def sE(h:PA X es t):PE X (.List es pos) (tLst t):=by
 intro B' s σ H Q I a;refine wpAny_List_spliced (H9 (h pos B' s σ H _ I a) λus J c=>?_);obtain⟨xs,H1,Y,r,z,q⟩:=c;refine⟨by rw[<- r.length];exact z,?_⟩
 have d:H1 J.z=c_:=Y.hok.fresh (z_ _);refine⟨.ref J.z,upd H1 J.z (.lst xs),Y.laid (t':=J.toks) (λb u e=>r_ _ e) (z_ _) ?_,rfl,q _ d⟩
 exact⟨z,us,0,r,GC _ rfl⟩
abbrev Sp:=b'->Hp->VK->XK->Prop
variable{sp:Sp}
abbrev CXT:=List LP->Hp->u_->XK->Mq
variable{CX:CXT}
structure Env0(P:HP)(w:GW)(K:Pn)(mg:Ld)(base:Hq)(A:IY)(outer:List LP)(s:u_)(H:Hp):Prop where
 frames:A.frames=a_ outer
 mod:Mod K mg base
 bs:∀b o,base.get? b=a_ o->s.heap.get? b=a_ o/\H b=c_
 bsz:base.objs.size<=s.heap.objs.size
 yA:s.heap.FunFrames base outer
 frf:∀b∈frs outer,H b=c_
 hok:HOk P w H s.heap
 bare:Kx s.gens
def CE(outer:List LP)(P:HP)(w:GW)(H:Hp)(s:u_)(Q:VK)(u:m_)(s':u_):Prop:=
 ∃v H',s'.os=s.os/\Kx s'.gens/\Un (frs outer) [] H H' s.heap s'.heap/\HOk P w H' s'.heap/\Gq v u/\Q v H'
def CR(CX:CXT)(outer:List LP)(P:HP)(w:GW)(H:Hp)(s:u_)(Q:VK)(E:XK)(r:Result)(s':u_):Prop:=
 match r with
 |.ok (.ret u)=>CE outer P w H s Q u s'|.ok _=>False|.error e=>CX outer H s E e s'
structure iZ(P:HP)(w:GW)(K:Pn)(mg:Ld)(base:Hq)(CX:CXT)(k:Nat)(f:f_)(fd:Iq)(ps:bv)(sp:Sp):Prop where
 len:∀vs H Q E,sp vs H Q E->vs.length=ps.length
 run:∀(A:IY) (outer:List LP) (s:u_) (H:Hp) (args:Args) (us:ce) (vs:b') (Q:VK) (E:XK),jr k A->Env0 P w K mg base A outer s H->Lh s fd args (ps.zip us)->Gr vs us->sp vs H Q E ->
  Kb (GD P w) A (.call (.ref f) args) (CR CX outer P w H s Q E) s
def Env0.make{w:GW}{base:Hq}(e:Env0 P w K mg base A outer s H)(C:f_)(us:ce)(kw:List (i_×m_)):
  Env0 P w K mg base (A.under (.builtin "type.__call__" ⟨.ref C::us,kw⟩)) outer s H:=⟨by first|exact e.frames|(simpa[Around.under,Code.envs,Code.isFrame,pushEnvs] using e.frames),e.mod,e.bs,e.bsz,e.yA,e.frf,e.hok,e.bare⟩
def Cv.env0(I:Cv X B' σ H s):Env0 X.prog X.w X.K X.mg X.base X.A X.stack s H:=
 ⟨I.ok.frames,I.ok.mod,I.bs,Ha I.ok.bsz I.sz,I.stack,I.Eh,I.hok,I.bare⟩
def Cv.after{Q:VK}(I:Cv X B' σ H s)(h:CE X.stack X.prog X.w H s Q u s'):EP X B' σ Q u s':=by obtain⟨v,H',os,J,c,a,r,q⟩:=h;obtain⟨hh,g,d,t,Y⟩:=s';obtain rfl:Y=s.os:=os;exact⟨v,H',I.call (h':=hh) (g':=g) (d':=d) (t':=t) (ch:=[]) c a J (λb z=>Gw z a8),r,q⟩
def gG(sp:Sp)(dvs:b')(E:XK)(t:TA):TE:=λσ H Q=>t σ H λvs H1=>sp (vs++dvs) H1 Q E
def vC(C:f_)(m:i_)(sp:Sp)(dvs:b')(E:XK)(ta:TE)(t:TA):TE:=λσ H Q=>ta σ H λx H1=>∃a dx fs,x=.ref a/\H1 a=a_ (.ins C dx fs)/\fs.lookup m=c_ /\
 t σ H1 λvs H2=>sp (x::(vs++dvs)) H2 Q E
def C7(C:f_)(sp:Sp)(dvs:b')(E:XK)(t:TA):TE:=λσ H Q=>t σ H λvs H1=>∀x dx,H1 x=c_->H1 dx=c_->dx≠x ->
 sp (.ref x::(vs++dvs)) (upd (upd H1 dx (.own x)) x (.ins C dx [])) (λv H2=>v=.non/\Q (.ref x) H2) E
def Binds(K:Pn)(fd:Iq)(ps:bv)(ds:ce):Prop:=
 ∀(s:u_) (us:ce),K.In s.heap->(us++ds).length=ps.length->Lh s fd ⟨us,[]⟩ (ps.zip (us++ds))
def Binds.all(h:∀us:ce,us.length=ps.length->K6 fd ⟨us,[]⟩=Ig (ps.zip us)):Binds K fd ps []:=λs us _ I=>by rw[Ia]at I ⊢;exact .of_eq (h us I)
def Passes(CX:CXT)(X:Cx)(E:XK):Prop:=∀(B':Vp) (σ:St) (H:Hp) (s:u_) (e:m_) (s':u_),Cv X B' σ H s->CX X.stack H s E e s'->X.xe e s'
section
variable{f:f_}{dvs:List V}{ds:List m_}{E:XK}{x m:i_}{apos:OE}{o:HG}
theorem Ew{Q:VK}{vs:b'}(F:iZ X.prog X.w X.K X.mg X.base CX k f fd ps sp)(a:jr k X.A)(c:Binds X.K fd ps ds)(hd:Gr dvs ds)(Y:Passes CX X E)(I:Cv X B' σ H s)(r:Gr vs us)(h:sp (vs++dvs) H Q E):D_ (GD X.prog X.w) X.A (JR (.ref f) us) (EP X B' σ Q) X.xe s:=by
 have r2:Gr (vs++dvs) (us++ds):=r.append hd;have b:(us++ds).length=ps.length:=by rw[<- r2.length];exact F.len _ _ _ _ h
 refine KJ (IK (F.run X.A X.stack s H ⟨us,[]⟩ (us++ds) (vs++dvs) Q E a I.env0 (c s us I.kIn b) r2 h) λr s' J=>?_);cases r with
 |error e=>exact Y B' σ H s e s' I J|ok fl=>
  cases fl with
  |ret u=>exact I.after J|next=>exact Hi J|brk=>exact Hi J|cont=>exact Hi J
def kx(F:iZ X.prog X.w X.K X.mg X.base CX k f fd ps sp)(c:jr k X.A)(j:Gl X x)(g:X.mg x=a_ (.ref f))(i:Ja X.K (.ref f)=d_)(m:Binds X.K fd ps ds)(hd:Gr dvs ds)(b:Passes CX X E)(n:PA X (e::es) t)(Y:((x==("__debug__":i_))=b_)⁻¹)(l: ~~~(h_ (e::es) X.env=(b_,GI e X.env)::h_ es X.env))(J: ~~~((He pos (h_ es X.env)).any (·.1)=b_)):
  PE X (.Call (.Name x p) (e::es) [] pos) (gG sp dvs E t):=by
 intro B' s σ H Q I h;refine ID (lS I j g ?_ Y);refine Lw (h₀:=X.base) I.ok.mod.kin i (H9 (n pos B' s σ H _ I h) λus o d=>?_) l J;obtain⟨vs,H1,a,r,q⟩:=d;refine⟨a.kIn,?_⟩
 exact Ew F c m hd b a r q
def vV(n:PE X o ta)(c:Cls X.K C)(b:Meth X.K C m f)(F:iZ X.prog X.w X.K X.mg X.base CX k f fd ps sp)(i:jr k X.A)(p:Binds X.K fd ps ds)(hd:Gr dvs ds)(e:Passes CX X E)(g: ~~~(GI (.Call (.Attribute o m apos) [] [] pos) X.env=(do
   let Y <- GI o X.env
   Mi apos.atName
   let (f,first) <- Mj [Y] (Lf Y m pl)
   LC pos f first (He pos (h_ [] X.env)) (Ic pos (Hs [] X.env))))):
  PE X (.Call (.Attribute o m apos) [] [] pos) (vC C m sp dvs E ta fw):=by
 intro B' s σ H Q I h;refine Kp (pl:=pl) (H9 (n B' s σ H _ I h) λu t j=>?_) g;obtain⟨x,H1,J,d,a,dx,fs,ex,r,l,q⟩:=j;subst ex;obtain rfl:u=GP a:=d;refine v8 J r c b l ?_;exact Mm (first:=[.ref a]) J.kIn b.kp (Ew (us:=[.ref a]) (vs:=[.ref a]) F i p hd e J (.cons rfl .nil) q)
structure Mk(K:Pn)(C f:f_):Prop where
 makes:Nk K C=d_
 init:GG K (.ref C) "__init__"=a_ (a_ (.ref f))
 fn:isFn K (.ref f)=d_
 kp:Ja K (.ref C)=d_
theorem AZ{Q:VK}{vs:b'}(M:Mk X.K C f)(F:iZ X.prog X.w X.K X.mg X.base CX k f fd ps sp)(g:jr (k+1) X.A)(j:Binds X.K fd ps ds)(hd:Gr dvs ds)(d:Passes CX X E)(I:Cv X B' σ H s)(r:Gr vs us)(h:∀x dx,H x=c_->H dx=c_->dx≠x->sp (.ref x::(vs++dvs)) (upd (upd H dx (.own x)) x (.ins C dx [])) (λv H2=>v=.non/\Q (.ref x) H2) E):
  D_ (GD X.prog X.w) X.A (JR (.ref C) us) (EP X B' σ Q) X.xe s:=by
 have a:=h (s.z+1) s.z (I.hok.fresh (Hw _)) (I.hok.fresh (z_ _)) (GS (Iu _));have Y:=Cv.made (C:=C) I;have r2:Gr (V.ref (s.z+1)::(vs++dvs)) (GP (s.z+1)::(us++ds)):=.cons rfl (r.append hd);have i:(GP (s.z+1)::us++ds).length=ps.length:=by have e:=r2.length;rw[F.len _ _ _ _ a]at e;exact e.symm
 refine KJ (make_map (f:=f) I.kIn M.makes M.init (Jm.mp M.fn) (IK (F.run _ X.stack _ _ ⟨GP (s.z+1)::us,[]⟩ (GP (s.z+1)::(us++ds)) _ _ E (g.make C us [])
  (Y.env0.make C us []) (j _ (GP (s.z+1)::us) Y.kIn i) r2 a) λr s' J=>?_))
 cases r with
 |error e=>exact d B' σ _ _ e s' Y J|ok fl=>
  cases fl with
  |ret u=>obtain⟨v,H',m,b,l,c⟩:=Y.after J;subst l;exact⟨b,⟨V.ref (s.z+1),H',m,rfl,c⟩⟩
  |next=>exact Hi J|brk=>exact Hi J|cont=>exact Hi J
def vW(M:Mk X.K C f)(F:iZ X.prog X.w X.K X.mg X.base CX k f fd ps sp)(c:jr (k+1) X.A)(i:Gl X x)(g:X.mg x=a_ (.ref C))(l:Binds X.K fd ps ds)(hd:Gr dvs ds)(b:Passes CX X E)(m:PA X (e::es) t)(Y:((x==("__debug__":i_))=b_)⁻¹)(j: ~~~(h_ (e::es) X.env=(b_,GI e X.env)::h_ es X.env))(J: ~~~((He pos (h_ es X.env)).any (·.1)=b_)):
  PE X (.Call (.Name x p) (e::es) [] pos) (C7 C sp dvs E t):=by
 intro B' s σ H Q I h;refine ID (lS I i g ?_ Y);refine Lw (h₀:=X.base) I.ok.mod.kin M.kp (H9 (m pos B' s σ H _ I h) λus n d=>?_) j J;obtain⟨vs,H1,a,r,q⟩:=d;refine⟨a.kIn,?_⟩
 exact AZ M F c l hd b a r q
def pe_make0(M:Mk X.K C f)(F:iZ X.prog X.w X.K X.mg X.base CX k f fd ps sp)(a:jr (k+1) X.A)(c:Gl X x)(b:X.mg x=a_ (.ref C))(d:Binds X.K fd ps ds)(hd:Gr dvs ds)(Y:Passes CX X E)(J:((x==("__debug__":i_))=b_)⁻¹):PE X (.Call (.Name x p) [] [] pos) (C7 C sp dvs E fw):=by intro B' s σ H Q I h;refine ID (lS I c b ?_ J);exact Mm I.kIn M.kp (AZ (us:=[]) M F a d hd Y I .nil h)
end
structure gB(N P:bv)(sc:LH):Prop where
 kind:sc.kind=.function
 co:sc.isCoroutine=b_
 gen:sc.isGenerator=b_
 nd:N.Nodup
 pre:N.take P.length=P
 par:∀x∈P,sc.names.lookup x=a_ .local\/sc.names.lookup x=a_ .cell
 nofree:∀y∈sc.names,y.2≠.free
theorem yV{J:i_->Option Jf}{x:i_}:∀{I:List (i_×m_)} {m:Ld},(∀v,(x,v)∉I)->M7 J I m x=m x
 |[],_,_=>rfl|(n,v)::r,m,h=>by
  unfold M7;rw[yV λw hw=>h w (Gv _ hw)];split
  .have:x≠n:=by rintro rfl;exact h v Hg
   simp[this]
  .rfl
theorem yX{J:i_->Option Jf}{x:i_}:∀{I:List (i_×m_)} {m:Ld},(∀v,(x,v)∉I)->M8 J I m x=m x
 |[],_,_=>rfl|(n,v)::r,m,h=>by
  unfold M8;rw[yX λw hw=>h w (Gv _ hw)];split
  .rfl
  .have:x≠n:=by rintro rfl;exact h v Hg
   simp[this]
theorem yW{I:i_->Option Jf}{x:i_}{v:m_}:∀{P:bv} {vs:ce} {i:Nat} {m:Ld},P.Nodup->P[i]?=a_ x->vs[i]?=a_ v->I x=a_ .local ->
  M7 I (P.zip vs) m x=a_ v
 |[],_,_,_,_,h,_,_=>by simp at h|_::_,[],_,_,_,_,h,_=>by simp at h|p::P,w::vs,0,m,J,h1,h2,Y=>by simp at h1 h2;subst h1;subst h2;show M7 I ((p,w)::P.zip vs) m p=_;unfold M7;rw[yV λv hv=>(JO.mp J).1 (Lz hv).1,g_ Y];simp|p::P,w::vs,i+1,m,J,h1,h2,Y=>by show M7 I ((p,w)::P.zip vs) m x=_;unfold M7;exact yW (i:=i) (JO.mp J).2 (by simpa using h1) (by simpa using h2) Y
theorem yY{I:i_->Option Jf}{x:i_}{v:m_}:∀{P:bv} {vs:ce} {i:Nat} {m:Ld},P.Nodup->P[i]?=a_ x->vs[i]?=a_ v->I x≠a_ .local ->
  M8 I (P.zip vs) m x=a_ v
 |[],_,_,_,_,h,_,_=>by simp at h|_::_,[],_,_,_,_,h,_=>by simp at h|p::P,w::vs,0,m,J,h1,h2,Y=>by simp at h1 h2;subst h1;subst h2;show M8 I ((p,w)::P.zip vs) m p=_;unfold M8;rw[yX λv hv=>(JO.mp J).1 (Lz hv).1,k_ Y];simp|p::P,w::vs,i+1,m,J,h1,h2,Y=>by show M8 I ((p,w)::P.zip vs) m x=_;unfold M8;exact yY (i:=i) (JO.mp J).2 (by simpa using h1) (by simpa using h2) Y
def start(N:bv)(vs:b'):St:=vs.map a_++C_ (N.length-vs.length) c_
noncomputable def x4(CX:CXT)(P:HP)(w:GW)(K:Pn)(mg:Ld)(base:Hq)(N:bv)(qual:i_)(scope:LH)(f:f_)(cd:m_)(A:IY)(outer:List LP)(s:u_)(H:Hp)(E:XK):Cx where
 prog:=P
 w:=w
 K:=K
 mg:=mg
 base:=base
 A:=A.deeper (IS qual scope s.heap.objs.size f cd)
 N:=N
 s₀:=s
 H₀:=H
 env:=IS qual scope s.heap.objs.size f cd
 outer:=outer
 stack:=IS qual scope s.heap.objs.size f cd::outer
 ex:=[]
 calm:=d_
 fn:=λ_=>d_
 pn:=[]
 xe:=λe s'=>D_ (GD P w) (A.deeper (IS qual scope s.heap.objs.size f cd)) (Oi (IS qual scope s.heap.objs.size f cd) e) (λ_ I=>CX outer H s E e I) (λJ I=>CX outer H s E J I) s'
def BN{sc:LH}{x:i_}(h:sc.names.lookup x=a_ .cell):∃c,(HX n sc.names []).lookup x=a_ c:=by have q:=IQ sc.names n [] (.inl h);exact IF.mp q
theorem FC{w:GW}{base:Hq}{f:f_}{cd:m_}{g:u_}{E:XK}{vs:b'}(S:gB N ps scope)(hd:A.handled=c_)(e0:Env0 P w K mg base A outer s H)(C:vs.length=ps.length)(r:Gr vs us)(x:InCallC s s.heap.objs.size (M7 (IS qual scope s.heap.objs.size f cd).kindOf (ps.zip us) λ_=>c_) (HX (s.heap.objs.size+1) scope.names []) (M8 (IS qual scope s.heap.objs.size f cd).kindOf (ps.zip us) λ_=>c_) g):
  Cv (x4 CX P w K mg base N qual scope f cd A outer s H E) [] (start N vs) H g:=by
 have o:ps.length<=N.length:=by have:=Jo ML S.pre;rw[JJ]at this;lia
 obtain⟨h1,B,rfl,l⟩:=x.done;have I:∀b:f_,b∉(x4 CX P w K mg base N qual scope f cd A outer s H E).ex:=λb z=>Gw (show b∈([]:List f_)from z) a8;refine⟨⟨e0.mod,S.kind,rfl,rfl,z_ _,λy z c h1 h2=>?_,λy J=>?_,λy c _ h=>?_,λ_=>hd,Around.frames_deeper e0.frames,.inr ⟨rfl,rfl⟩,λb z=>Gw z (I b),e0.bs,e0.bsz,λb _ _=>I b,λb z=>Gw z (I b),e0.yA,e0.frf⟩,
  rfl,e0.bare,Un.kept l,⟨_,x.toInCall.ns,λi y v h1 h2 D=>?_⟩,λy c h=>⟨_,x.cell y c h⟩,e0.hok.fresh (z_ _),λy c h=>?_,λp d=>Gw (show p∈([]:Vp)from d) a8,e0.hok.kept l,?_⟩
 .exact name_of_addr x.apart (HM h1) (HM h2)
 .have J:scope.names.lookup y=a_ .cell\/scope.names.lookup y=a_ .free:=J;rcases J with J|J
  .exact BN J
  .exact Gw rfl (S.nofree _ (HM J))
 .exact J1 (x.above y c (HM h))
 .have hi:i<vs.length:=by
   unfold start at h2;by_cases hi:i<vs.length
   .exact hi
   .simp_all[Ji,Jv]
  have t:vs[i]?=a_ v:=by
   unfold start at h2;rw[IC (by simpa using hi),HQ]at h2;cases e:vs[i]? with
   |none=>simp_all|some a=>simp_all
  obtain⟨u,j,m⟩:=r.get t;have d:ps[i]?=a_ y:=by rw[<- S.pre,List.getElem?_take_of_lt am];exact h1
  have Y:ps.Nodup:=by rw[<- S.pre];exact S.nd.sublist (List.take_sublist _ _)
  refine⟨u,m,?_⟩
  rcases S.par y (GX d)with k|k
  .exact .inl ⟨k,yW Y d j k⟩
  .obtain⟨c,e⟩:=BN (n:=s.z+1) k;refine .inr ⟨.inl k,c,e,?_⟩;have q:=x.cell y c e;rw[yY Y d j (by show scope.names.lookup y≠_;rw[k];decide)]at q;exact q
 .exact e0.hok.fresh (J1 (x.above y c (HM h)))
 .unfold start;show _=N.length;simp_all
theorem fn_of{w:GW}{base:Hq}{f:f_}{Y:Arguments}{B kV doc pm cdv ct oc:m_}{an od:Option f_}{osl:Array (Option m_)}(F:K.lookup f=a_ ⟨oc,od,.func (Lk name qual Y body scope B kV doc pm an cdv ct),osl⟩)(p:LW K cdv qual=d_)(S:gB N ps scope)(g:∀vs H Q E,sp vs H Q E->vs.length=ps.length)(c:∀(A:IY) (outer:List LP) (s:u_) (H:Hp) (vs:b') (Q:VK) (E:XK),jr k (A.deeper (IS qual scope s.heap.objs.size f cdv))->sp vs H Q E ->
   ∃t,PSs (x4 CX P w K mg base N qual scope f cdv A outer s H E) body t/\t {nx:=λ_ H'=>Q .non H',rt:=Q} (start N vs) H):
  iZ P w K mg base CX (k+1) f (Lk name qual Y body scope B kV doc pm an cdv ct) ps sp:=by
 refine⟨g,λA outer s H C us vs Q E m e0 U r h=>?_⟩
 have R:=g _ _ _ _ h;have D:K.In s.heap:=e0.mod.kin.keeps λb o e=>(e0.bs b o e).1;have l:s.heap.NoLimit:=e0.mod.nolimit.keeps λb o e=>(e0.bs b o e).1;have a:∀y∈ps.zip us,scope.names.lookup y.1=a_ .local\/(scope.names.lookup y.1=a_ .cell/\((HX (s.z+1) scope.names []).lookup y.1).isSome=d_):=λ⟨n,v⟩ G=>by
  rcases S.par n (Lz G).1 with q|q
  .exact .inl q
  .exact .inr ⟨q,IQ _ _ _ (.inl q)⟩
 refine codeAny_call_function m.depth (D _ _ F) rfl S.co S.gen rfl (PySem.W.codeRec_of D p) (U _ _ _ _ ?_);refine wpAny_newFunctionEnv_cells S.kind a λenv T z x=>?_;subst T;refine⟨l.keeps x.toInCall.keep,codeAny_func ?_⟩
 obtain⟨t,L,O⟩:=c A outer s H vs Q E (m.deeper _) h;have I:Cv (x4 CX P w K mg base N qual scope f cdv A outer s H E) [] (start N vs) H z:=FC S m.hd e0 R r x;refine HC (L [] z (start N vs) H _ I O) (λfl s' d=>?_) λe s' d=>d;have i:∀{σ':St} {H':Hp} {v:V} {u:m_},Cv (x4 CX P w K mg base N qual scope f cdv A outer s H E) [] σ' H' s'->Gq v u->Q v H'->CE outer P w H s Q u s':=
  λ{σ' H' v u} J j q=>⟨v,H',J.os,J.bare,J.base,J.hok,j,q⟩
 cases fl with
 |ret u=>obtain⟨v,σ',H',J,j,q⟩:=d;exact i J j q
 |next=>obtain⟨σ',H',J,q⟩:=d;exact i (v:=V.non) (u:=Je) J rfl q
 |brk=>obtain⟨_,_,_,q⟩:=d;simp_all
 |cont=>obtain⟨_,_,_,q⟩:=d;simp_all
section
variable{x:i_}{id T:String}{r:List V->Hp->VK->Prop}
def tCB(r:b'->Hp->VK->Prop)(t:TA):TE:=λσ H Q=>t σ H λvs H1=>r vs H1 Q
def o8(k:j0 X (.builtin id) r)(i:Gl X x)(g:X.mg x=c_)(hv:IM x=a_ (.builtin id))(l:PA X (e::es) t)(f:(x≠"__name__")⁻¹)(Y:((x==("__debug__":i_))=b_)⁻¹)(j: ~~~(h_ (e::es) X.env=(b_,GI e X.env)::h_ es X.env))(J: ~~~((He pos (h_ es X.env)).any (·.1)=b_)):PE X (.Call (.Name x p) (e::es) [] pos) (tCB r t):=by intro B' s σ H Q I h;refine ID (uX I i g hv ?_ f Y);refine PyProof.Rows.callWith_builtin1 (H9 (l pos B' s σ H _ I h) λus a d=>?_) j J;obtain⟨vs,H1,m,b,c⟩:=d;exact k B' a σ H1 vs us Q m b c
def lJ(k:j0 X (.type T) r)(i:Gl X x)(g:X.mg x=c_)(hv:IM x=a_ (.type T))(l:PA X (e::es) t)(f:(x≠"__name__")⁻¹)(Y:((x==("__debug__":i_))=b_)⁻¹)(j: ~~~(h_ (e::es) X.env=(b_,GI e X.env)::h_ es X.env))(J: ~~~((He pos (h_ es X.env)).any (·.1)=b_)):PE X (.Call (.Name x p) (e::es) [] pos) (tCB r t):=by intro B' s σ H Q I h;refine ID (uX I i g hv ?_ f Y);refine JE (H9 (l pos B' s σ H _ I h) λus a d=>?_) j J;obtain⟨vs,H1,m,b,c⟩:=d;exact k B' a σ H1 vs us Q m b c
end
end Lake
namespace Lake.HT
open PySem PyProof.Rows
section
open PySem.SeqAt
open PySem.AutoSeq1 (wpAny_loadPart')
open PySem.MeetsSeq PySem.MeetsSeq2 PySem.MeetsSeq3
end
section
variable{prog:HP}{w:GW}{A:IY}{E:Mq}{s:u_}
theorem cat_tup{t b:f_}{vs ws:ce}{Q:Mq}(j:Ox s.heap t vs.toArray)(k:Ox s.heap b ws.toArray)(hv:vs≠[])(h1:ws=[]->Q (.ref t) s)(h2:ws≠[]->Q (.ref s.heap.objs.size) {s with heap:=s.heap.push {cls:=.type "tuple",data:=.seq (vs++ws).toArray}})(hsz:vs.length+ws.length<=j_):D_ (GD prog w) A (Ih .Add (.ref t) (.ref b)) Q E s:=by
 obtain⟨⟨cls,dd,data,g⟩,d,h,n,hd⟩:=id j;obtain⟨⟨i,c,f,J⟩,I,a,n2,Y⟩:=id k;simp only at h hd a Y;subst h hd a Y;have e:vs.toArray++ws.toArray=(vs++ws).toArray:=by simp
 by_cases hw:ws=[]
 .exact LA ⟨_,d,rfl⟩ ⟨_,I,rfl⟩ LU MQ Kk Kc (J_ _ _)
   (tuple_addW1 t b vs.toArray ws.toArray n n2 dd c g J (by simpa using hv) (by simp[hw])) ⟨d,I,h1 hw⟩
 .refine LA ⟨_,d,rfl⟩ ⟨_,I,rfl⟩ LU MQ Kk Kc (J_ _ _)
   (tuple_addW2 t b vs.toArray ws.toArray n n2 dd c g J bt bt bt) ⟨d,I,?_⟩
  rw[e];exact h2 hw
def sIx(n d:Nat):Option Int->Nat
 |none=>d|some v=>if v<0 then(v+(n:Int)).toNat else min v.toNat n
theorem sIx_le(n d:Nat)(hd:d<=n)(o:Option Int):sIx n d o<=n:=by
 cases o with
 |none=>exact hd|some v=>
  show(if v<0 then(v+(n:Int)).toNat else min v.toNat n)<=n;by_cases hv:v<0
  .rw[g_ hv];lia
  .rw[k_ hv];exact Nat.min_le_right _ _
theorem Gb(v:Int)(n d:Nat):(if v<0 then max (v+(n:Int)) 0 else min v (n:Int))=((sIx n d (a_ v):Nat):Int):=by
 show(if v<0 then max (v+(n:Int)) 0 else min v (n:Int))=(((if v<0 then(v+(n:Int)).toNat else min v.toNat n):Nat):Int)
 grind
theorem Dy(lo hi:Option Int)(n:Nat):JM lo hi 1 (n:Int)=(((sIx n 0 lo:Nat):Int),((sIx n n hi:Nat):Int)):=by
 have h1:¬((1:Int)<0):=am
 unfold JM;simp only[h1,if_false];refine Prod.ext ?_ ?_
 .cases lo with
  |none=>rfl|some v=>exact Gb v n 0
 .cases hi with
  |none=>rfl|some v=>exact Gb v n n
theorem CF(i j:Nat):IZ (i:Int) (j:Int) 1=j-i:=by
 unfold IZ;have h1:(1:Int)>0:=am
 simp only[h1,NS,Int.ediv_one];split<;>lia
def uP{v:m_}{o:Option Int}{Q:Option Int->u_->Prop}(p:LX v o)(h:Q o s):D_ (GD prog w) A (OO v) Q E s:=by
 cases p with
 |none=>exact slicePart_none h|int i t=>exact slicePart_int h
def qO{b:f_}{a Y:m_}{lo hi:Option Int}{n:Nat}{Q:Int×Int×Nat->u_->Prop}(d:s.heap.IsSliceOf b a Y .none)(pl:LX a lo)(c:LX Y hi)(h:Q (((sIx n 0 lo:Nat):Int),1,sIx n n hi-sIx n 0 lo) s):D_ (GD prog w) A (KZ (.ref b) (Ig (n:Int))) Q E s:=by obtain⟨os,I,e,J⟩:=id d;unfold KZ OP;refine n_ (n_ (JC I J (x:=a) rfl (n_ (JC I J (x:=Y) rfl (n_ (JC I J (x:=.none) rfl (F_ ?_)))))));refine n_ (slicePart_none ?_);show D_ _ _ (if ((1:Int)==0)=d_ then _ else _) _ _ s;rw[k_ a'];refine n_ (uP pl (n_ (uP c (n_ (F_ ?_)))));show D_ _ _ (match JM lo hi 1 (n:Int)with|(lo,hi)=>Ig (lo,(1:Int),IZ lo hi 1)) _ _ s;rw[Dy lo hi n];show D_ _ _ (Ig (((sIx n 0 lo:Nat):Int),(1:Int),IZ ((sIx n 0 lo:Nat):Int) ((sIx n n hi:Nat):Int) 1)) _ _ s;rw[CF];exact F_ h
theorem pick_gen(xs:Array m_)(i k:Nat):((HF k).filterMap λ(m:Nat)=>xs[((i:Int)+(m:Int)*1).toNat]?).toArray=((xs.toList.drop i).take k).toArray:=by
 have e:(λ(m:Nat)=>xs[((i:Int)+(m:Int)*1).toNat]?)=λm=>xs[i+m]?:=by
  funext m
  have:((i:Int)+(m:Int)*1).toNat=i+m:=am
  rw[this]
 rw[e];have:=pick_run xs i k;rw[List.filterMap_map]at this;have e2:((λx=>xs[x]?)∘λx=>i+x)=λm=>xs[i+m]?:=rfl;rw[e2]at this;rw[this]
theorem pJ{t J:f_}{items:Array m_}{e d:m_}{lo hi:Option Int}{Q:Mq}(I:Ox s.heap t items)(f:s.heap.IsSliceOf J e d .none)(pl:LX e lo)(g:LX d hi)(hw:¬(sIx items.size 0 lo=0/\sIx items.size items.size hi=items.size))(h:Q (.ref s.heap.objs.size) {s with heap:=s.heap.push {cls:=.type "tuple",data:=.seq ((items.toList.drop (sIx items.size 0 lo)).take (sIx items.size items.size hi-sIx items.size 0 lo)).toArray}})(hsz:items.size<=j_):D_ (GD prog w) A (Ni (.ref t) (.ref J)) Q E s:=by
 have htake:sizeOk (.seq ((items.toList.drop (sIx items.size 0 lo)).take (sIx items.size items.size hi-sIx items.size 0 lo)).toArray):=by show((items.toList.drop (sIx items.size 0 lo)).take (sIx items.size items.size hi-sIx items.size 0 lo)).toArray.size<=j_;rw[Hy,JJ,NB,Im];lia
 have l:sIx items.size items.size hi<=items.size:=sIx_le _ _ (z_ _) hi;obtain⟨os,Y,b,i⟩:=id f;have c:s.TypeIs (.ref J) "slice":=⟨os,Y,b⟩
 unfold Ni
 try with_reducible refine KA ?_
 first|refine n_ (F_ ?_)|skip
 refine n_ (wpAny_sequenceKey I.typeIs a' ?_);refine n_ (wpAny_callSpecial?_slot (name:=e_ "__getitem__") I.typeIs IT
  (OB IT I.typeIs entry_tuple_getitem ?_ (args_tuple_getitem _ _)))
 show D_ _ _ (OM (.ref t) >>= _) _ _ s;refine n_ (tupleItemsOf_ I ?_);refine n_ (wpAny_typeOf c ?_);rw[g_ a'];refine n_ (qO f pl g ?_);have a:¬((((sIx items.size 0 lo:Nat):Int)==0&&(1:Int)==1&&(sIx items.size items.size hi-sIx items.size 0 lo)==items.size)=d_):=by intro q;rw[l_,l_]at q;have k:((sIx items.size 0 lo:Nat):Int)=0:=IA q.1.1;have j:sIx items.size items.size hi-sIx items.size 0 lo=items.size:=IA q.2;exact hw ⟨am,am⟩
 show D_ _ _ (if (((sIx items.size 0 lo:Nat):Int)==0&&(1:Int)==1&&(sIx items.size items.size hi-sIx items.size 0 lo)==items.size)=d_ then _ else _) _ _ s;rw[k_ a,pick_gen]
 first
  |exact n_ (m:=ON _) (Kt (F_ ⟨_,rfl,F_ h⟩) htake)
  |exact wpAny_bind (m:=Builtin.Tuple.tupleExact _) (wpAny_newObj_type (wpAny_bind (wpAny_pure (wpAny_pure ⟨_,rfl,wpAny_pure h⟩))) htake)
  |exact wpAny_bind (wpAny_bind (m:=Builtin.Tuple.tupleExact _) (wpAny_newObj_type (wpAny_pure (wpAny_pure ⟨_,rfl,wpAny_pure h⟩)) htake))
  |exact wpAny_bind (wpAny_bind (m:=Builtin.Tuple.tupleExact _) (wpAny_newObj_type (wpAny_pure ⟨_,rfl,wpAny_pure h⟩) htake))
end
end Lake.HT
namespace Lake
open PySem PySem.Spec PyProof.Rows
variable{X:Cx}{e:HG}{pos:OE}{r:V->Option Int->Option Int->Hp->VK->Prop}{us G':List m_}{α:Type}{n:Nat}{i:Int}{B':Vp}{σ:St}{H:Hp}{s:u_}{T:String}
abbrev TO:=St->Hp->(Option Int->Hp->Prop)->Prop
def PO(X:Cx)(e:Option HG)(t:TO):Prop:=
 ∀(B':Vp) (s:u_) (σ:St) (H:Hp) (Q:Option Int->Hp->Prop),Cv X B' σ H s->t σ H Q ->
  D_ (GD X.prog X.w) X.A (evalPart e X.env) (λu s'=>∃o H',Cv X B' σ H' s'/\LX u o/\Q o H') X.xe s
noncomputable def tNoPart:TO:=λ_ H Q=>Q c_ H
noncomputable def tPart(t:TE):TO:=λσ H Q=>t σ H λx H1=>∃i,x=.int i/\Q (a_ i) H1
def intsAre_of{ns:ca}:∀{us:ce},Gr (ns.map V.int) us->Mn us ns:=by
 induction ns with
 |nil=>intro us r;rw[JW]at r;cases r;exact .nil|cons n ns J=>
  intro us r;rw[GJ]at r;cases r with
  |cons I r2=>obtain⟨t,e⟩:=I;subst e;exact .cons n t (J r2)
section
variable{te:TE}{lo hi:Option HG}{tl th:TO}{p2:OE}
def po_none:PO X c_ tNoPart:=by intro B' s σ H Q I h;rw[evalPart_none];exact F_ ⟨c_,H,I,.none,h⟩
def po_some(h:PE X e te):PO X (a_ e) (tPart te):=by intro B' s σ H Q I hw;rw[evalPart_some];refine H9 (h B' s σ H _ I hw) λu c a=>?_;obtain⟨x,H1,b,J,Y⟩:=a;obtain⟨i,rfl,q⟩:=Y;obtain⟨t,rfl⟩:=J;exact⟨a_ i,H1,b,.int i t,q⟩
def SlR(X:Cx)(r:V->Option Int->Option Int->Hp->VK->Prop):Prop:=
 ∀(B':Vp) (s:u_) (σ:St) (H:Hp) (x:V) (v J I:m_) (lo hi:Option Int) (Y:f_) (Q:VK),Cv X B' σ H s->Gq x v->s.heap.IsSliceOf Y J I .none->LX J lo->LX I hi->r x lo hi H Q ->
  ∃T id,typeLookup (.type T) "__getitem__"=Ig (a_ (.builtin id))/\s.TypeIs v T/\D_ (GD X.prog X.w) X.A (Ni v (.ref Y)) (EP X B' σ Q) X.xe s
def SlR.or{r':V->Option Int->Option Int->Hp->VK->Prop}(h:SlR X r)(h':SlR X r'):SlR X (λx lo hi H Q=>r x lo hi H Q\/r' x lo hi H Q):=by
 intro B' s σ H x v Y J lo hi a Q I b d pl c q;rcases q with q|q
 .exact h B' s σ H x v Y J lo hi a Q I b d pl c q
 .exact h' B' s σ H x v Y J lo hi a Q I b d pl c q
noncomputable def tSl(r:V->Option Int->Option Int->Hp->VK->Prop)(te:TE)(tl th:TO):TE:=λσ H Q=>te σ H λx H1=>tl σ H1 λl H2=>th σ H2 λu I=>r x l u I Q
def pe_slice(t:SlR X r)(z:PE X e te)(w:PO X lo tl)(o:PO X hi th):PE X (.Subscript e (.Slice lo hi c_ p2) pos) (tSl r te tl th):=by intro B' s σ H Q I h;refine Subscript_ (H9 (z B' s σ H _ I h) λv g Y=>?_);obtain⟨x,H1,E,i,m⟩:=Y;refine wpAny_Slice (H9 (w B' g σ H1 _ E m) λc f Y=>?_);obtain⟨l,H2,D,pl,k⟩:=Y;refine H9 (o B' f σ H2 _ D k) λa J Y=>?_;obtain⟨u,d,C,n,j⟩:=Y;rw[evalPart_none];refine F_ ?_;have B:Cv X B' σ d {J with heap:=J.heap.push {cls:=.type "slice",data:=.fields #[c,a,.none]}}:=C.kept (t':=J.toks) λb F q=>r_ _ q;obtain⟨T,id,A,p,y⟩:=t B' {J with heap:=J.heap.push {cls:=.type "slice",data:=.fields #[c,a,.none]}} σ d x v c a l u J.z Q B i (Ou ..) pl n j;show D_ (GD X.prog X.w) X.A (subscriptTail e (.Slice lo hi c_ p2) v (.ref J.z)) (EP X B' σ Q) X.xe {J with heap:=J.heap.push {cls:=.type "slice",data:=.fields #[c,a,.none]}};exact tail_any (ops:=[.ref J.z,v]) p A y (by rfl)
def cutV(xs:b')(lo hi:Option Int):b':=(xs.drop (HT.sIx xs.length 0 lo)).take (HT.sIx xs.length xs.length hi-HT.sIx xs.length 0 lo)
theorem tY(xs:b')(lo hi:Option Int):(cutV xs lo hi).length<=xs.length:=by unfold cutV;rw[JJ,NB];lia
def rSlT(K:Pn):V->Option Int->Option Int->Hp->VK->Prop:=λx lo hi H Q=>∃a xs,x=.ref a/\SqT K H a xs /\
 ¬(HT.sIx xs.length 0 lo=0/\HT.sIx xs.length xs.length hi=xs.length)/\∀p,H p=c_->Q (.ref p) (upd H p (.tup (cutV xs lo hi)))
def sl_tup:SlR X (rSlT X.K):=by
 intro B' s σ H x v j i lo hi k Q I d g pl e h;obtain⟨a,xs,rfl,f,hw,q⟩:=h;cases d;obtain⟨G',r,c,Y⟩:=I.tuple f;have J:G'.toArray.size=xs.length:=by rw[Hy];exact r.length.symm
 refine⟨"tuple",_,IT.lookup,c.typeIs,?_⟩
 refine HT.pJ c g pl e (by rw[J];exact hw) ?_ (by rw[J];exact Y);rw[J];refine⟨.ref s.z,_,I.laid (t':=s.toks) (o:=.tup (cutV xs lo hi)) (λb l q=>r_ _ q) (z_ _) ?_,rfl,q _ (I.hok.fresh (z_ _))⟩
 exact⟨Ha (tY xs lo hi) Y,_,(r.drop (HT.sIx xs.length 0 lo)).take (HT.sIx xs.length xs.length hi-HT.sIx xs.length 0 lo),Nr _ _⟩
def rCatT(K:Pn):R2:=λx y H Q=>∃a b xs ys,x=.ref a/\y=.ref b/\SqT K H a xs/\SqT K H b ys/\xs≠[]/\xs.length+ys.length<=j_ /\
 (ys=[]->Q (.ref a) H)/\(ys≠[]->∀p,H p=c_->Q (.ref p) (upd H p (.tup (xs++ys))))
def Gr.A4{xs:b'}(r:Gr xs us):us=[]↔xs=[]:=by
 cases r with
 |nil=>simp|cons _ _=>simp
theorem op_catT:OpR X (Ih .Add) (rCatT X.K):=by
 intro B' s σ H x y v u Q I d c h;obtain⟨a,b,xs,ys,rfl,rfl,k,j,i,g,f,e⟩:=h;cases d;cases c;obtain⟨G',J,p1,_⟩:=I.tuple k;obtain⟨Y,r2,p2,_⟩:=I.tuple j;refine HT.cat_tup p1 p2 (λz=>i (J.A4.mp z)) (λz=>⟨.ref a,H,I,rfl,f (r2.A4.mp z)⟩) (λz=>?_) (by rw[<- J.length,<- r2.length];exact g);refine⟨.ref s.z,_,I.laid (t':=s.toks) (o:=.tup (xs++ys)) (λb l q=>r_ _ q) (z_ _) ?_,rfl,e (λw=>z (r2.A4.mpr w)) _ (I.hok.fresh (z_ _))⟩
 exact⟨bt,_,J.append r2,Nr _ _⟩
end
noncomputable def ixN(n:Nat)(i:Int):Option Nat:=if 0<=i then(if i<n then a_ i.toNat else c_)else if -(n:Int)<=i then a_ (i+n).toNat else c_
def atI(xs:List α)(i:Int):Option α:=(ixN xs.length i).bind λj=>xs[j]?
theorem Fv{j:Nat}(h:ixN n i=a_ j):OC i n=a_ j/\j<n/\ -(n:Int)<=i/\i<n:=by
 unfold ixN at h;by_cases I:0<=i
 .rw[g_ I]at h;by_cases h1:i<n
  .rw[g_ h1]at h;have e:i.toNat=j:=GR h;exact⟨by rw[seqIndex_of I h1,e],am,am,h1⟩
  simp_all
 .rw[k_ I]at h;by_cases h1: -(n:Int)<=i
  .rw[g_ h1]at h;grind[seqIndex_neg]
  simp_all
theorem AI{xs:List α}{v:α}(h:atI xs i=a_ v):∃j,OC i xs.length=a_ j/\xs[j]?=a_ v/\j<xs.length/\ -(xs.length:Int)<=i/\i<xs.length:=by
 unfold atI at h;cases e:ixN xs.length i with
 |none=>simp_all|some j=>rw[e]at h;obtain⟨h1,h2,J,I⟩:=Fv e;exact⟨j,h1,h,h2,J,I⟩
def Gn(b:HG):Prop:=∀o i,subscripted b b_ o i=operate [o,i] (Ni o i)
def IxR(X:Cx)(r:R2):Prop:=
 ∀(value I:HG) (B':Vp) (s:u_) (σ:St) (H:Hp) (x y:V) (v u:m_) (Q:VK),Cv X B' σ H s->Gq x v->Gq y u->r x y H Q ->
  subscripted I b_ v u=operate [v,u] (Ni v u)->D_ (GD X.prog X.w) X.A (subscriptTail value I v u) (EP X B' σ Q) X.xe s
def MtR(X:Cx)(id:String)(r:V->b'->Hp->VK->Prop):Prop:=
 ∀(B':Vp) (s:u_) (σ:St) (H:Hp) (x:V) (xs:b') (v:m_) (us:ce) (Q:VK),Cv X B' σ H s->Gq x v->Gr xs us->r x xs H Q ->
  D_ (GD X.prog X.w) X.A (JR (.builtin id) (v::us)) (EP X B' σ Q) X.xe s
section
variable{a b:HG}{ta tb:TE}
def IxR.or{r r':R2}(h:IxR X r)(h':IxR X r'):IxR X (λx y H Q=>r x y H Q\/r' x y H Q):=by
 intro value J B' s σ H x y v u Q I a Y q b;rcases q with q|q
 .exact h value J B' s σ H x y v u Q I a Y q b
 .exact h' value J B' s σ H x y v u Q I a Y q b
def yf{r:R2}(e:IxR X r)(g:PE X a ta)(f:PE X b tb)(d:Gn b):PE X (.Subscript a b pos) (tOp r ta tb):=by intro B' s σ H Q I h;exact Subscript_ (binT g f I h λv u J x y H2 i c Y q=>e a b B' J σ H2 x y v u Q i c Y q (d _ _))
def rIxL(K:Pn):R2:=λx y H Q=>∃p xs i v,x=.ref p/\y=.int i/\SqL K H p xs/\atI xs i=a_ v/\Q v H
def rIxT(K:Pn):R2:=λx y H Q=>∃p xs i v,x=.ref p/\y=.int i/\SqT K H p xs/\atI xs i=a_ v/\Q v H
def rIxS:R2:=λx y H Q=>∃z i c,x=.str z/\y=.int i/\z.length<=j_/\atI z.cps.toList i=a_ c/\Q (.str ⟨#[c]⟩) H
theorem lT:IxR X (rIxL X.K):=by
 intro value Y B' s σ H x y v u Q I g f h c;obtain⟨p,xs,i,z,rfl,rfl,k,m,q⟩:=h;cases g;obtain⟨t,rfl⟩:=f;obtain⟨G',r,pl,A⟩:=I.list k;obtain⟨j,h1,h2,C,o,n⟩:=AI m;obtain⟨w,e,a⟩:=r.get h2;have l:=r.length;have B:=uW;have J:EP X B' σ Q w s:=⟨z,H,I,a,q⟩
 by_cases d:0<=i
 .have b:i.toNat=j:=by
   rw[seqIndex_of d n]at h1;exact GR h1
  exact item_listR pl.isList d am (by rw[b];simpa using e) J c
 .have b:(i+(G'.toArray.size:Int)).toNat=j:=by
   rw[seqIndex_neg am o]at h1;rw[Hy,<- l];exact GR h1
  exact Nq (x:=w) pl.isList.typeIs Og.lookup
   (wpAny_getItem_list_neg (Q:=λr s'=>r=w/\EP X B' σ Q r s') pl.isList am bt am (by rw[b];simpa using e) ⟨rfl,J⟩) c
theorem ix_tup:IxR X (rIxT X.K):=by
 intro value J B' s σ H x y v u Q I c b h d;obtain⟨p,xs,i,z,rfl,rfl,e,f,q⟩:=h;cases c;obtain⟨t,rfl⟩:=b;obtain⟨G',r,pl,k⟩:=I.tuple e;obtain⟨j,h1,h2,A,o,n⟩:=AI f;obtain⟨w,g,Y⟩:=r.get h2;have m:=r.length;have l:=uW;have a:EP X B' σ Q w s:=⟨z,H,I,Y,q⟩
 exact Nq (x:=w) pl.typeIs IT.lookup
  (getItem_tuple (j:=j) (Q:=λr s'=>r=w/\EP X B' σ Q r s') pl am am bt (by simpa using g) ⟨rfl,a⟩) d
theorem ix_str:IxR X rIxS:=by
 intro value J B' s σ H x y v u Q I a Y h b;obtain⟨z,i,c,rfl,rfl,k,e,q⟩:=h;obtain⟨t,rfl⟩:=a;obtain⟨t',rfl⟩:=Y;obtain⟨j,h1,h2,m,g,f⟩:=AI e;have d:z.cps.toList.length=z.length:=by simp[K9]
 rw[d]at h1 g f;have l:=uW;exact tail_any (Kg s z t) slot_str_getitem.lookup (getItem_str (c:=c) am (by rw[h1];simpa using h2) ⟨.str ⟨#[c]⟩,H,I.tok _,⟨_,rfl⟩,q⟩) b
def rIx(K:Pn):R2:=λx y H Q=>rIxL K x y H Q\/rIxT K x y H Q\/rIxS x y H Q
def ix_seq:IxR X (rIx X.K):=lT.or (ix_tup.or ix_str)
theorem xE(lo hi:Option Int)(n:Nat):(K4 lo hi c_ n).1=((HT.sIx n 0 lo:Nat):Int)/\(K4 lo hi c_ n).2.1=((HT.sIx n n hi:Nat):Int)/\(K4 lo hi c_ n).2.2=1:=by
 refine⟨?_,?_,rfl⟩
 .cases lo with
  |none=>rfl|some i=>simp only[K4,HT.sIx,Li,show(1:Int)>0 by decide,NS];grind
 .cases hi with
  |none=>rfl|some i=>simp only[K4,HT.sIx,Li,show(1:Int)>0 by decide,NS];grind
def vG(G':ce)(lo hi:Option Int):slicePick G'.toArray lo hi c_=((G'.drop (HT.sIx G'.length 0 lo)).take (HT.sIx G'.length G'.length hi-HT.sIx G'.length 0 lo)).toArray:=by obtain⟨h1,h2,I⟩:=xE lo hi G'.toArray.size;unfold slicePick;rw[h1,h2,I];simp only[sliceRange_one,pick_run,Hy]<;>rfl
def rSlL(K:Pn):V->Option Int->Option Int->Hp->VK->Prop:=λx lo hi H Q=>∃a xs,x=.ref a/\SqL K H a xs/\∀p,H p=c_->Q (.ref p) (upd H p (.lst (cutV xs lo hi)))
theorem sl_list:SlR X (rSlL X.K):=by
 intro B' s σ H x v j i lo hi k Q I c g pl d h;obtain⟨a,xs,rfl,f,q⟩:=h;cases c;obtain⟨G',r,Y,e⟩:=I.list f;have J:=r.length;refine⟨"list",_,Og.lookup,Y.isList.typeIs,?_⟩
 refine wpAny_getItem_list_slice Y.isList g pl d .none a8 ?_ bt;rw[vG,<- J];refine⟨.ref s.z,_,I.laid (t':=s.toks) (o:=.lst (cutV xs lo hi)) (λb l q=>r_ _ q) (z_ _) ?_,rfl,q _ (I.hok.fresh (z_ _))⟩
 exact⟨Ha (tY xs lo hi) e,_,0,(r.drop (HT.sIx xs.length 0 lo)).take (HT.sIx xs.length xs.length hi-HT.sIx xs.length 0 lo),GC _ rfl⟩
theorem mh:j0 X (.builtin "len") (λxs H Q=>∃p ys,xs=[.ref p]/\(SqL X.K H p ys\/SqT X.K H p ys)/\Q (.int ys.length) H):=by
 intro B' s σ H xs us Q I r h;obtain⟨p,ys,rfl,J,q⟩:=h;obtain⟨u,rfl,a⟩:=vals1 r;cases a;have c:=uW;rcases J with J|J
 .obtain⟨G',r',pl,b⟩:=I.list J;have Y:=r'.length;exact Calls.call_len_list pl.isList (by simp only[Hy]<;>lia) ⟨.int ys.length,H,I.tok _,⟨s.toks+1,bt⟩,q⟩
 .obtain⟨G',r',pl,b⟩:=I.tuple J;have Y:=r'.length;exact len_tuple pl (by simp only[Hy]<;>lia) ⟨.int ys.length,H,I.tok _,⟨s.toks+1,bt⟩,q⟩
theorem yS:j0 X (.builtin "len") (λxs H Q=>∃z,xs=[.str z]/\z.length<=j_/\Q (.int z.length) H):=by intro B' s σ H xs us Q I r h;obtain⟨z,rfl,J,q⟩:=h;obtain⟨u,rfl,t,rfl⟩:=vals1 r;have Y:=uW;exact len_str am ⟨.int z.length,H,I.tok _,⟨_,rfl⟩,q⟩
def j0.or{f:m_}{r r':b'->Hp->VK->Prop}(h:j0 X f r)(h':j0 X f r'):j0 X f (λxs H Q=>r xs H Q\/r' xs H Q):=by
 intro B' s σ H xs us Q I rs q;rcases q with q|q
 .exact h B' s σ H xs us Q I rs q
 .exact h' B' s σ H xs us Q I rs q
theorem iU:j0 X (.type "list") (λxs H Q=>∃p ys,xs=[.ref p]/\(SqL X.K H p ys\/SqT X.K H p ys)/\∀l,H l=c_->Q (.ref l) (upd H l (.lst ys))):=by
 intro B' s σ H xs us Q I r h;obtain⟨p,ys,rfl,c,q⟩:=h;obtain⟨u,rfl,j⟩:=vals1 r;cases j;have f:∀(G':ce),Gr ys G'->ys.length<=j_->∀(h':Hq) (J:Nat),(∀b o',s.heap.get? b=a_ o'->h'.get? b=a_ o') ->
   h'.get? s.z=a_ {cls:=.type "list",dict:=c_,data:=.seq G'.toArray J,slots:=#[]}->EP X B' σ Q (.ref s.z) {s with heap:=h'}:=λG' r' a h' J Y e=>
  ⟨.ref s.z,_,I.laid (t':=s.toks) Y (z_ _) (show iA X.prog X.w _ h' _ (.lst ys)from⟨a,G',J,r',e⟩),rfl,q _ (I.hok.fresh (z_ _))⟩
 rcases c with c|c
 .obtain⟨G',r',pl,a⟩:=I.list c;have d:=r'.length;obtain⟨o,g,i,n,hd⟩:=pl.isList;exact call_list_seq p (.inl rfl) g i hd (λh' J Y e=>f G' r' a h' J Y e) bt
 .obtain⟨G',r',pl,a⟩:=I.tuple c;have d:=r'.length;obtain⟨o,g,i,n,hd⟩:=pl;exact call_list_seq p (.inr rfl) g i hd (λh' J Y e=>f G' r' a h' J Y e) bt
def tyV(K:Pn)(T:String)(x:V)(H:Hp):Prop:=match x with
 |.str _=>T="str"|.int _=>T="int"|.ref p=>(T="list"/\∃xs,SqL K H p xs)\/(T="tuple"/\∃o,K.lookup p=a_ o/\o.cls=.type "tuple"/\o.dict=c_) \/
   (T="dict"/\((∃I,H p=a_ (.dK I))\/∃I,H p=a_ (.dT I)))\/(T="set"/\∃S n,H p=a_ (.set S n))
 |_=>False
def DX{x:V}{v:m_}(I:Cv X B' σ H s)(r:Gq x v)(ty:tyV X.K T x H):
  s.TypeIs v T/\∀a,v=.ref a->∃b,s.heap.get? a=a_ b/\b.dict=c_:=by
 cases x with
 |str z=>obtain⟨t,rfl⟩:=r;cases(show T="str" from ty);exact⟨Kg s z t,λ_ e=>nomatch e⟩
 |int i=>obtain⟨t,rfl⟩:=r;cases(show T="int" from ty);exact⟨typeIs_int s i t,λ_ e=>nomatch e⟩
 |ref p=>
  cases r;rcases ty with⟨rfl,xs,d⟩|⟨rfl,o,J,f,hd⟩|⟨rfl,J⟩|⟨rfl,S,n,J⟩
  .obtain⟨G',_,pl,_⟩:=I.list d;refine⟨pl.isList.typeIs,λa e=>?_⟩
   cases e;obtain⟨o,n,e,c,hd,_⟩:=pl;exact⟨o,e,hd⟩
  .refine⟨⟨o,I.kIn p o J,f⟩,λa e=>?_⟩
   cases e;exact⟨o,I.kIn _ o J,hd⟩
  .have z:∃o,s.heap.get? p=a_ o/\o.ExactDict:=by
    rcases J with⟨Y,J⟩|⟨Y,J⟩
    .obtain⟨_,_,_,_,o,_,_,e,ex,_⟩:=I.hok p _ J;exact⟨o,e,ex⟩
    .obtain⟨_,_,_,_,o,_,_,e,ex,_⟩:=I.hok p _ J;exact⟨o,e,ex⟩
   obtain⟨o,e,ex⟩:=z;refine⟨⟨o,e,ex.1⟩,λa e2=>?_⟩
   cases e2;exact⟨o,e,ex.2.1⟩
  .obtain⟨o,_,_,_,e,ex,_⟩:=I.hok p _ J;refine⟨⟨o,e,ex.1⟩,λa e2=>?_⟩
   cases e2;exact⟨o,e,ex.2.1⟩
 |_=>exact Hi ty
def tBM0(K:Pn)(T:String)(r:V->b'->Hp->VK->Prop)(to:TE):TE:=λσ H Q=>to σ H λx H1=>tyV K T x H1/\r x [] H1 Q
def tBM(K:Pn)(T:String)(r:V->b'->Hp->VK->Prop)(to:TE)(t:TA):TE:=λσ H Q=>to σ H λx H1=>tyV K T x H1/\t σ H1 λxs H2=>r x xs H2 Q
variable{o:HG}{es:List HG}{to:TE}{t:TA}{name:i_}{apos cpos:OE}{id:String}{r:V->List V->Hp->VK->Prop}
def pe_bm0(g:N5 T)(a:Slot T name id)(b:typeOf (.builtin id)=Ig (.type "method_descriptor"))(k:MtR X id r)(j:PE X o to)(Y: ~~~(HA o name X.env (GI o X.env)=GI o X.env))(J: ~~~((apos.endLine==cpos.line)=d_)):PE X (.Call (.Attribute o name apos) [] [] cpos) (tBM0 X.K T r to):=by intro B' s σ H Q I h;refine wpAny_Call_method0_late Y J (H9 (j B' s σ H _ I h) λv e i=>?_);obtain⟨x,H1,d,c,ty,f⟩:=i;obtain⟨h1,h2⟩:=DX d c ty;exact⟨T,id,g,a,b,h1,h2,IV rfl (PySem.evalArgs_none (k B' e σ H1 x [] v [] Q d c .nil f))⟩
def pC(p:N5 T)(b:Slot T name id)(d:typeOf (.builtin id)=Ig (.type "method_descriptor"))(w:MtR X id r)(u:PE X o to)(y:PA X (e::es) t)(a: ~~~(HA o name X.env (GI o X.env)=GI o X.env))(c: ~~~(((He cpos (h_ (e::es) X.env)).all (λx=> !x.1)&&(Ic cpos (Hs [] X.env)).all (λx=>x.1.isSome)
   &&o_ ((e::es).length+([]:List Ie).length+(if ([]:List Ie).isEmpty then 0 else 1)<30))=d_))(Y: ~~~((apos.endLine==cpos.line)=d_))(q: ~~~(h_ (e::es) X.env=(b_,GI e X.env)::h_ es X.env))(J: ~~~((He cpos (h_ es X.env)).any (·.1)=b_)):
  PE X (.Call (.Attribute o name apos) (e::es) [] cpos) (tBM X.K T r to t):=by
 intro B' s σ H Q I h;refine KN a c Y rfl (H9 (u B' s σ H _ I h) λv l f=>?_);obtain⟨x,H1,j,g,ty,n⟩:=f;obtain⟨h1,h2⟩:=DX j g ty;refine⟨T,id,p,b,d,h1,h2,?_⟩
 have i:=y cpos B' l σ H1 _ j n;rw[q]at i ⊢;refine IV (by show(b_||(He cpos (h_ es X.env)).any (·.1))=b_;rw[J]<;>rfl) (Jg ?_);refine H9 i λus k f=>?_;obtain⟨vs,H2,z,r2,m⟩:=f;exact w B' k σ H2 x vs v us Q z g r2 m
/- xs.append(e),list.index on a module's tuple .. are MtR facts of 06m -/
end
def MtM(X:Cx)(id:String)(r:V->b'->Hp->VK->Prop):Prop:=
 ∀(B':Vp) (s:u_) (σ:St) (H:Hp) (x:V) (xs:b') (v:m_) (us:ce) (Q:VK),Cv X B' σ H s->Gq x v->Gr xs us->r x xs H Q ->
  D_ (GD X.prog X.w) X.A (JR (.builtin id) (v::us)) (EP X B' σ Q) X.xe s
def Gr.one{x:V}(h:Gr [x] us):∃u,us=[u]/\Gq x u:=by
 cases h with
 |cons r t=>cases t;exact⟨_,rfl,r⟩
def Gr.two{x y:V}(h:Gr [x,y] us):∃u v,us=[u,v]/\Gq x u/\Gq y v:=by
 cases h with
 |cons r t=>obtain⟨v,rfl,q⟩:=Gr.one t;exact⟨_,_,rfl,r,q⟩
theorem Gr.zero:∀{us:ce},Gr [] us->us=[]
 |_,.nil=>rfl
theorem Gr.eraseIdx:∀{xs:b'} {us:ce} (i:Nat),Gr xs us->Gr (xs.eraseIdx i) (us.eraseIdx i)
 |_,_,_,.nil=>.nil|_,_,0,.cons _ t=>t|_,_,i+1,.cons r t=>.cons r (Gr.eraseIdx i t)
theorem yr{α:Type}:∀(l:List α) (i:Nat),(l.eraseIdx i).length<=l.length
 |[],_=>z_ _|_::_,0=>Hw _|_::r,i+1=>Nat.succ_le_succ (yr r i)
section
variable{l:f_}{xs ys:List V}
def Cv.lset{its':ce}{f:Array m_->Array m_}{t':Nat}(I:Cv X B' σ H s)(c:H l=a_ (.lst xs))(e:s.heap.get? l=a_ {cls:=.type "list",data:=.seq G'.toArray n})(a:f G'.toArray=its'.toArray)(hv:Gr ys its')(J:ys.length<=j_):
  Cv X B' σ (upd H l (.lst ys)) {s with heap:=s.heap.update l (Obj.mapSeq f),toks:=t'}:=by
 have q:=PySem.IsL.update e f;rw[a]at q;refine I.write (x:=l) (e:=l) (by rw[c];exact trivial) (.inl rfl) (λd u b Y=>(Hd s.heap (Obj.mapSeq f) (HI b)).trans Y) ⟨_,q⟩ ?_;exact⟨J,its',_,hv,q⟩
def Cv.lnew{t':Nat}(I:Cv X B' σ H s)(hv:Gr ys G')(J:ys.length<=j_):
  Cv X B' σ (upd H s.heap.objs.size (.lst ys)) {s with heap:=s.heap.push {cls:=.type "list",data:=.seq G'.toArray},toks:=t'}:=
 I.laid (λ_ _ q=>r_ _ q) (z_ _) ⟨J,G',0,hv,GC _ rfl⟩
theorem Cv.fresh(I:Cv X B' σ H s):H s.heap.objs.size=c_:=I.hok.fresh (z_ _)
def Cv.lstM(I:Cv X B' σ H s)(J:H l=a_ (.lst xs)):xs.length<=j_/\∃(G':ce) (n:Nat),Gr xs G'/\xs.length=G'.length/\s.heap.get? l=a_ {cls:=.type "list",data:=.seq G'.toArray n}:=by obtain⟨z,G',n,r,e⟩:=I.hok l _ J;exact⟨z,G',n,r,r.length,e⟩
theorem notLongL(h:n<=j_):JN n=b_:=by simp_all[JN]
end
def pz:V->b'->Hp->VK->Prop:=λx vs H Q=>∃l xs y,x=.ref l/\vs=[y]/\H l=a_ (.lst xs)/\xs.length<j_/\Q .non (upd H l (.lst (xs++[y])))
theorem gI:MtM X "list.append" pz:=by
 intro B' s σ H x vs v us Q I Y a h;obtain⟨l,xs,y,rfl,rfl,J,c,q⟩:=h;cases Y;obtain⟨u,rfl,b⟩:=a.one;obtain⟨z,G',n,r,d,e⟩:=I.lstM J;refine Kh Hf ⟨_,e,rfl⟩ F.entry_list_append (F.args_list_append_2 _ _) (PySem.list_append l G'.toArray n u bt) ⟨e,?_⟩;refine⟨.non,_,I.lset (its':=G'++[u]) J e a8 (r.append (.cons b .nil)) ?_,rfl,q⟩
 rw[Gx,MA];lia
def EI:V->b'->Hp->VK->Prop:=λx vs H Q=>∃l b xs zs,x=.ref l/\vs=[.ref b]/\H l=a_ (.lst xs)/\H b=a_ (.lst zs)/\xs.length+zs.length<=j_/\Q .non (upd H l (.lst (xs++zs)))
theorem Fi:MtM X "list.extend" EI:=by
 intro B' s σ H x vs v us Q I c d h;obtain⟨l,b,xs,zs,rfl,rfl,a,i,k,q⟩:=h;cases c;obtain⟨u,rfl,f⟩:=d.one;cases f;obtain⟨z,G',n,r,m,e⟩:=I.lstM a;obtain⟨j,J,n2,r2,g,e2⟩:=I.lstM i;have hsz:G'.toArray.size+J.toArray.size<=j_:=by rw[Hy,Hy];lia
 have Y:¬(!G'.toArray.isEmpty&&JN (G'.toArray.size+J.toArray.size))=d_:=by rw[notLongL hsz,J9];exact HV
 refine Kh My ⟨_,e,rfl⟩ F.entry_list_extend (F.args_list_extend_2 _ _)
  (AutoSeq1.list_extend_list_list_0 l G'.toArray n b J.toArray n2 Y bt am) ⟨e,e2,?_⟩
 refine⟨.non,_,I.lset (its':=G'++J) a e a8 (r.append r2) ?_,rfl,q⟩
 simp_all
def rPopAt:V->b'->Hp->VK->Prop:=λx vs H Q=>∃l xs i k y,x=.ref l/\vs=[.int i]/\H l=a_ (.lst xs)/\ -(2^63)<=i/\i<2^63/\OC i xs.length=a_ k/\xs[k]?=a_ y/\Q y (upd H l (.lst (xs.eraseIdx k)))
theorem Bl:MtM X "list.pop" rPopAt:=by
 intro B' s σ H x vs v us Q I a b h;obtain⟨l,xs,i,k,y,rfl,rfl,Y,h1,h2,g,d,q⟩:=h;cases a;obtain⟨u,rfl,c⟩:=b.one;obtain⟨t,rfl⟩:=c;obtain⟨z,G',n,r,f,e⟩:=I.lstM Y;obtain⟨w,hw,J⟩:=r.get d;refine Kh KQ ⟨_,e,rfl⟩ F.entry_list_pop (F.args_list_pop_2 _ _)
  (MeetsSeq.list_pop_at l G'.toArray n i t k w (fitsIndex_both h1 h2) bt bt bt) ⟨e,?_⟩
 refine⟨y,_,I.lset (its':=G'.eraseIdx k) Y e ?_ (r.eraseIdx k) ?_,J,q⟩
 .simp
 .have:=yr xs k;lia
def rClear:V->b'->Hp->VK->Prop:=λx vs H Q=>∃l xs,x=.ref l/\vs=[]/\H l=a_ (.lst xs)/\Q .non (upd H l (.lst []))
theorem mt_clear:MtM X "list.clear" rClear:=by intro B' s σ H x vs v us Q I a b h;obtain⟨l,xs,rfl,rfl,Y,q⟩:=h;cases a;have J:=b.zero;subst J;obtain⟨z,G',n,r,c,e⟩:=I.lstM Y;refine Kh MH ⟨_,e,rfl⟩ F.entry_list_clear (F.args_list_clear_1 _) (AutoSeq1.list_clear_list_0 l G'.toArray n bt) ⟨e,?_⟩;exact⟨.non,_,I.lset (its':=[]) (ys:=[]) Y e rfl .nil (Ib _),rfl,q⟩
end Lake
namespace Lake.Att
open PySem PySem.W PySem.Calls PyProof.Rows
def t9{P:Params}{h:Hq}:∀(ns:ca) (vs:ce),WellAll P h vs (ns.map WData.int)->Mn vs ns:=by
 intro ns
 induction ns with
 |nil=>intro vs w;rw[JW]at w;cases w;exact .nil|cons n ns I=>
  intro vs w;rw[GJ]at w;cases w with
  |cons a b=>cases a;exact .cons _ _ (I _ b)
theorem Ep{l:K8}{n:Nat}(m:l.most=a_ n){P:Params}{h:Hq}{args:List WData}{I:ce}(J:l.row.toRowW.claim.pre args=d_)(e:WellAll P h I args):
  ∃a vs ns,I=[GP a]/\args=[WData.list (ns.map WData.int)]/\h.get? a=a_ {cls:=.type "list",data:=.seq vs.toArray}/\Mn vs ns/\ns.length<=n:=by
 have f:WShape.hasAll [] args [.list .int]=d_:=(pre_splitW J).1;have g:l.pre.holds [] {args:=args}=d_:=(pre_splitW J).2;obtain⟨d,r,rfl,h1,h2⟩:=hasAllW_cons f;obtain rfl:=hasAllW_nil h2;obtain⟨xs,rfl,o⟩:=hasW_list h1;obtain⟨ns,rfl⟩:=items_int o;have Y:ns.length<=n:=by
  unfold OpenLaw.pre at g;have c:(WTm.not (.lt (.lit (.int (n:Int))) (.len (.arg 0)))).holds [] {args:=[.list (ns.map .int)]}=d_:=by have c:=(holds_andW g).1;rw[m]at c;exact c
  have h5:=condW_of c (w_not (w_lt w_lit (w_len_list (w_arg rfl))));rw[w_]at h5;refine Nat.le_of_not_lt λq=>?_;have p:(n:Int)<((ns.length:Nat):Int):=am
  first
   |simp_all
   |(simp at h5;lia)
 cases e with
 |cons j i=>
  cases i;cases j with
  |list k b=>exact⟨_,_,ns,rfl,rfl,k,t9 ns _ b,Y⟩
def ET(l:K8)(args:List WData):l.row.toRowW.claim.post args (.bool d_) args=d_:=
 postW_of (r:=l.row.toRowW) (X:=(d_==d_))
  (show WShape.has [] (.bool d_) .bool=d_ by rfl)
  (show(WTm.eq .res (.lit (.bool d_))).value [] {args:=args,res:=a_ (.bool d_),after:=args}=a_ (.bool (d_==d_))from w_eq_bool (w_res rfl) w_lit) rfl
def AH{l:K8}{n:Nat}{q:HP}{b:bv}{z:(Ld)->Hq->Prop}{y:GW->Hq->Prop}{d:DefRec}(D:l.most=a_ n)(p:d.params.defaults=[])(i:∀(w:GW) (J I:u_) (mg j:Ld) (fa:f_) (o:K1) (pm cd doc:m_) (a:f_) (vs:ce) (ns:ca),
   Ground q b [] z w J mg j I.heap->y w I.heap ->
   I.heap.get? fa=a_ o->o.data=.func (docDef d.name d.params d.body d.scope pm cd doc)->I.heap.CodeRec cd d.name->mg d.name=a_ (.ref fa) ->
   I.heap.get? a=a_ {cls:=.type "list",data:=.seq vs.toArray}->Mn vs ns->ns.length<=n->I.gens=#[] ->
   Kb (GD l.prog w) LB (.call (.ref fa) ⟨[.ref a],[]⟩) (λr s'=>r=.ok (.ret (.bool d_))/\OldK I.heap s'.heap/\s'.os=I.os/\Kx s'.gens) I):
  MW q b z y l.row.toRowW d [] (λf vs=>JR f vs):=by
 intro w J I mg j G Y fa o pm cd doc N kV C hd s v m H x t as e u A k F;obtain rfl:N=.none:=Dflts.none v p;obtain rfl:kV=.none:=Dflts.noKw v;obtain⟨a,vs,ns,rfl,rfl,g,c,h⟩:=Ep D e k;refine enter_call (IK (i w J I mg j fa o pm cd doc a vs ns G Y C (fd_plain hd) s m g c h H) λr s' B=>?_);obtain⟨rfl,h2,L,K⟩:=B;exact⟨.inl ⟨.bool d_,.bool d_,[],rfl,λ_=>rfl,.bool d_,ET l _,λ_=>⟨OV,λ_ E=>(nomatch E)⟩⟩,h2,L,K⟩
end Lake.Att
namespace Lake
open PySem PySem.Spec PyProof.Rows
variable{P prog:HP}{K:Pn}{mg:Ld}{CX:CXT}{k n j i nN nN2 n2 ep ep' lo di ni ri i0:Nat}{a f l b c L it C dx fad C2 fI Cb CN:f_}{fd fdI:Iq}{sp:Sp}{X:Cx}{qual y z name mt:i_}{st b₀ st1 st2:Hm}{ps N' N sn:List i_}{oc doc pm cdv ct mc u hv cd:m_}{od an hd dd:Option f_}{osl:Array (Option m_)}{pos spos py p apos pos' q p2 np cpos p1 p0:OE}{A:IY}{B T newId initId:String}{H H1 H2 H' F F' H0 F1 F0 FB G Hc:Hp}{scope sc:LH}{env:LP}{E E' E1 E2 E3:XK}{s:u_}{B':Vp}{σ σ':St}{fp as ch:List f_}{t:TA}{R:Bool->Hp->Prop}{elt tg iter e value e1 e2 e3 e4 e5:HG}{ifs es elts:List HG}{tt:TT}{te ta tb tc td tv:TE}{us bmB tl sub:List m_}{h h':Hq}{cs:List (i_×f_)}{rows:List (List Int)}{dvs:List V}{pl:Oq Bool}{v w':V}{o:HO}{Q:VK}{O O2 OL O':List Nat}{ro bn hdct ab:Bool}{α κ:Type}{op op' op'':CmpOp}{sts body suite:List Hm}{r':R2}{outer:List LP}{oe:K1}{os:OsState}{col:Option Bool}{k0 k2 k3 k5:Option m_}{U:TS}{k':Int}
theorem xr:∀{vs:ce} {ns:ca},Mn vs ns->Gr (ns.map V.int) vs
 |_,_,.nil=>.nil|_,_,.cons n t h=>.cons ⟨t,rfl⟩ (xr h)
def Only(H:Hp):Prop:=∀b,H b=c_\/∃o xs,H b=a_ (.frz o (.lst xs))
theorem law_call{w:GW}{B:Ld}{fa:f_}{x:i_}{I:u_}{vs:ce}{ns:ca}(R:K.In I.heap)(l:I.heap.Ns GY mg)(Y:I.heap.Ns N2 B)(E:∀x:i_,x≠"__name__"->B x=IM x)(p:I.heap.NoLimit)(hg:I.gens=#[])(G:I.heap.get? a=a_ {cls:=.type "list",data:=.seq vs.toArray})(hi:Mn vs ns)(hl:ns.length<=j_)(Z:jr k LB)(F:∀base:Hq,K.In base->base.Ns GY mg->iZ P w K mg base CX k fa fd [x] sp)(g:∀(s:u_) (u:m_),Lh s fd ⟨[u],[]⟩ [(x,u)])(C:∀H:Hp,Only H->SqL K H a (ns.map V.int)->sp [.ref a] H (λv _=>v=.bl d_) λ_ _ _=>False)(L:∀H e s',CX [] H I (λ_ _ _=>False) e s'->False):
  Kb (GD P w) LB (.call (.ref fa) ⟨[.ref a],[]⟩) (λr s'=>r=.ok (.ret (.bool d_))/\OldK I.heap s'.heap/\s'.os=I.os/\Kx s'.gens) I:=by
 have U:=xr hi;have O:=hi.length;have f:∀H:Hp,Only H->SqL K H a (ns.map V.int)->HOk P w H I.heap->(∀b,H b≠c_->b=a)->(H a≠c_->K.lookup a=c_) ->
   Kb (GD P w) LB (.call (.ref fa) ⟨[.ref a],[]⟩) (λr s'=>r=.ok (.ret (.bool d_))/\OldK I.heap s'.heap/\s'.os=I.os/\Kx s'.gens) I:=by
  intro H Q hS j hA hK;have J:∀{b:f_} {o:K1},I.heap.get? b=a_ o->H b=c_->(hidT I.heap H).get? b=a_ o:=λe n=>hidT_get e n;have A:∀{b:f_} {o:K1} {es:Array OJ} {ep:Nat},I.heap.get? b=a_ o->o.data=.dict es ep->H b=c_:=λ{b o es ep} e d=>by grind
  have c:∀{b:f_} {m:Ld},I.heap.Ns b m->(hidT I.heap H).Ns b m:=λ{b m} ⟨o,es,ep,e,d,r⟩=>⟨o,es,ep,J e (A e d),d,r⟩
  have t:K.In (hidT I.heap H):=λb o e=>J (R b o e) (by grind)
  have hM:Mod K mg (hidT I.heap H):=⟨t,c l,⟨B,c Y,E⟩,let ⟨mc,h1,h2⟩:=p;⟨mc,c h1,h2⟩⟩
  have e0:Env0 P w K mg (hidT I.heap H) LB [] I H:=⟨rfl,hM,λb o e=>of_hidT e,OS (FE _ _),trivial,λb Y=>Gw (show b∈([]:List f_)from Y) a8,j,.of_eq hg⟩
  refine IK ((F _ t (c l)).run LB [] I H ⟨[.ref a],[]⟩ [.ref a] [.ref a] _ _ Z e0 (g I (.ref a)) (.cons rfl .nil) (C H Q hS)) λr s' h=>?_;cases r with
  |error e=>exact(L H e s' h).elim|ok fl=>
   cases fl with
   |next=>exact Hi h|brk=>exact Hi h|cont=>exact Hi h|ret u=>
    obtain⟨v,H',os,y,N,i,r',q⟩:=h;have W:v=.bl d_:=q;subst W;obtain rfl:u=LG d_:=r';refine⟨rfl,OldK.of_keep λb o e=>?_,os,y⟩
    cases q:H b with
    |none=>exact N.keep b o e q (by intro z;exact Gw (show b∈([]:List f_)from z) a8) a8|some u=>
     rcases Q b with z|⟨X,xs,z⟩
     .simp_all
     .have S:=N.frzs b X _ z;obtain⟨e1,_⟩:=j b _ z;obtain⟨e2,_⟩:=i b _ S;simp_all
 cases D:K.lookup a with
 |some o=>have e:=R a o D;rw[G]at e;cases e;refine f (λ_=>c_) (λ_=>.inl rfl) (.inr ⟨_,vs.toArray,_,D,rfl,rfl,rfl,bt,bt⟩) (λb u z=>by simp_all) (λb z=>Gw rfl z) λz=>Gw rfl z|none=>
  refine f (λb=>if b=a then a_ (.frz {cls:=.type "list",data:=.seq vs.toArray} (.lst (ns.map V.int)))else c_) (λb=>?_) (.inl (.inr ⟨{cls:=.type "list",data:=.seq vs.toArray},g_ rfl⟩)) (λb u z=>?_) (λb z=>?_) λ_=>D
  .by_cases Y:b=a
   .exact .inr ⟨_,_,g_ Y⟩
   .exact .inl (k_ Y)
  .by_cases Y:b=a
   .have T:=(g_ Y).symm.trans z;cases T;subst Y;exact⟨G,bt,vs,_,U,G⟩
   simp_all
  .by_cases Y:b=a
   .exact Y
   .exact Gw (k_ Y) z
def walk_of{l:K8}{q:HP}{J:bv}{Q:(Ld)->Hq->Prop}{y:GW->Hq->Prop}{d:DefRec}{K:Params->Pn}{CX:GW->CXT}{sp:GW->Sp}{x:i_}(B:l.most=a_ n)(j:n<=j_)(p:d.params.defaults=[])(A:jr k LB)(L:∀(w:GW) (h:Hq),y w h->(K w.params).In h)(F:∀(w:GW) (mg:Ld) (fa:f_) (h:Hq),(K w.params).In h->h.Ns GY mg->mg d.name=a_ (.ref fa) ->
   ∃fd:Iq,(∀(s:u_) (u:m_),Lh s fd ⟨[u],[]⟩ [(x,u)]) /\
    ∀base:Hq,(K w.params).In base->base.Ns GY mg->iZ l.prog w (K w.params) mg base (CX w) k fa fd [x] (sp w))(i:∀(w:GW) (H:Hp) (a:f_) (ns:ca),ns.length<=n->Only H->SqL (K w.params) H a (ns.map V.int)->sp w [.ref a] H (λv _=>v=.bl d_) λ_ _ _=>False)(r:∀(w:GW) (H:Hp) (s:u_) (e:m_) (s':u_),CX w [] H s (λ_ _ _=>False) e s'->False):
  MW q J Q y l.row.toRowW d [] (λf vs=>JR f vs):=by
 refine Att.AH B p λw t c mg R fa o pm cd doc a vs ns G Y S hd D m g b I C=>?_;have z:=L w _ Y;obtain⟨fd,E,P⟩:=F w mg fa _ z G.T.g m;exact law_call z G.T.g G.T.b G.T.builtins G.T.nolimit C g b (Ha I j) A P E (λH O N=>i w H a ns I O N) λH e s'=>r w H c e s'
noncomputable def inClass(s:Hm)(j:Nat):Hm:=match s with
 |.ClassDef _ _ _ body _ _ _ _ _ _ _=>body.getD j (.Pass ⟨0,0,0,0⟩)|_=>.Pass ⟨0,0,0,0⟩
noncomputable def fW(s:Hm):Arguments:=match s with
 |.FunctionDef _ a _ _ _ _ _ _ _ _=>a|_=>{posonlyargs:=[],args:=[],vararg:=c_,kwonlyargs:=[],kw_defaults:=[],kwarg:=c_,defaults:=[]}
noncomputable def bT(s:Hm):List Hm:=match s with
 |.FunctionDef _ _ b _ _ _ _ _ _ _=>b|_=>[]
def aA(s:Hm):LH:=match s with
 |.FunctionDef _ _ _ _ _ _ sc _ _ _=>sc|_=>{kind:=.function,names:=[],isGenerator:=b_,isCoroutine:=b_}
noncomputable abbrev CX0:CXT:=λ_ _ _ _ _ _=>False
noncomputable abbrev E0:XK:=λ_ _ _=>False
def qQ:Passes CX0 X E0:=λ_ _ _ _ _ _ _ h=>h.elim
structure Fun(K:Pn)(x qual:i_)(st:Hm)(f:f_)(fd:Iq):Prop where
 ex:∃(oc:m_) (od:Option f_) (kV doc pm:m_) (an:Option f_) (cdv ct:m_) (osl:Array (Option m_)),
  fd=Lk x qual (fW st) (bT st) (aA st) .none kV doc pm an cdv ct/\K.lookup f=a_ ⟨oc,od,.func fd,osl⟩/\LW K cdv qual=d_
 kp:Ja K (.ref f)=d_
theorem Fun.binds{x:i_}(F:Fun K x qual st f fd)(h:∀(kV doc pm:m_) (an:Option f_) (cdv ct:m_) (us:ce),us.length=ps.length->K6 (Lk x qual (fW st) (bT st) (aA st) .none kV doc pm an cdv ct) ⟨us,[]⟩=Ig (ps.zip us)):Binds K fd ps []:=by obtain⟨oc,od,kV,doc,pm,an,cdv,ct,osl,rfl,J,I⟩:=F.ex;exact .all (h kV doc pm an cdv ct)
def Bw{x:i_}{kV:m_}(l:K.lookup f=a_ ⟨oc,od,.func (Lk x qual (fW st) (bT st) (aA st) .none kV doc pm an cdv ct),osl⟩)(c:LW K cdv qual=d_)(k:Ja K (.ref f)=d_):Fun K x qual st f (Lk x qual (fW st) (bT st) (aA st) .none kV doc pm an cdv ct):=⟨⟨oc,od,kV,doc,pm,an,cdv,ct,osl,rfl,l,c⟩,k⟩
def pv(i:Nat){x:i_}(J: ~~~(X.N[i]?=a_ x))(hv:autoParam (Vis X.env.scope x) Jq4)(hd:((x==("__debug__":i_))=b_)⁻¹)(I:((x==("__classdict__":i_))=b_)⁻¹):PE X (.Name x pos) (bB i):=pe_var J hv hd I
theorem iteF{A B:Prop}(h:B):if b_=d_ then A else B:=by simp_all
theorem iteNS{c A B:Prop}[Decidable c](I:c)(h:B):if (!decide c)=d_ then A else B:=by simp_all
def aS(H H':Hp):Prop:=∀b o,H b=a_ o->H' b=a_ o
def aS.refl(H:Hp):aS H H:=λ_ _ h=>h
def aS.trans(a:aS H H1)(b:aS H1 H2):aS H H2:=λc o h=>b c o (a c o h)
theorem aS.free(e:aS H H')(h:H' l=c_):H l=c_:=by
 cases q:H l with
 |none=>rfl|some o=>rw[e l o q]at h;lia
def vm(cells:List (i_×f_)):List (i_×Jf)->List (i_×f_)->List (i_×f_)
 |[],I=>I|(x,k)::r,I=>vm cells r (if (k==NameKind.free)=d_ then(x,(cells.lookup x).getD 0)::I else I)
def gt_ne(h1:b<a)(h2:a<c):c≠b:=by rintro rfl;exact Gw (KC h1 h2) (HE _)
def CT(h1:a<n)(h2:n<=b):a≠b:=by rintro rfl;exact Gw (GA h1 h2) (HE _)
theorem vk{cells:List (i_×f_)}{x:i_}{c:f_}:∀(ns:List (i_×Jf)) (I:List (i_×f_)),(vm cells ns I).lookup x=a_ c ->
  ((x,NameKind.free)∈ns/\c=(cells.lookup x).getD 0)\/I.lookup x=a_ c
 |[],_,h=>.inr h|(y,k)::r,I,h=>by
  unfold vm at h;rcases vk r _ h with⟨m,e⟩|q
  .exact .inl ⟨Gv _ m,e⟩
  .by_cases Y:(k==NameKind.free)=d_
   .rw[g_ Y,y_]at q;cases J:x==y with
    |true=>rw[J]at q;have e1:=IA J;have e2:=IA Y;subst e1 e2;exact .inl ⟨Hg,(GR q).symm⟩|false=>rw[J]at q;exact .inr q
   .rw[k_ Y]at q;exact .inr q
theorem u6{cells:List (i_×f_)}{x:i_}:∀(ns:List (i_×Jf)) (I:List (i_×f_)),((x,NameKind.free)∈ns\/(I.lookup x).isSome=d_)->((vm cells ns I).lookup x).isSome=d_
 |[],_,h=>h.elim (λz=>nomatch z) id
 |(y,k)::r,I,h=>by
  unfold vm;refine u6 r _ ?_;rcases h with h|h
  .rcases q_.mp h with e|h
   .cases e;refine .inr ?_;rw[g_ a',y_];simp
   .exact .inl h
  .refine .inr ?_;by_cases J:(k==NameKind.free)=d_
   .rw[g_ J,y_];cases Y:x==y with
    |true=>rfl|false=>exact h
   .rw[k_ J];exact h
theorem nJ{x:i_}{c:f_}:∀(ns:List (i_×Jf)) (n:Nat) (I:List (i_×f_)),(HX n ns I).lookup x=a_ c->(n<=c/\(x,Il)∈ns)\/I.lookup x=a_ c
 |[],_,_,h=>.inr h|(y,k)::r,n,I,h=>by
  unfold HX at h;by_cases Y:(k==Il)=d_
  .rw[g_ Y]at h;rcases nJ r (n+1) _ h with⟨a,m⟩|q
   .exact .inl ⟨am,Gv _ m⟩
   .rw[y_]at q;cases J:x==y with
    |true=>rw[J]at q;have e1:=IA J;have e2:=IA Y;have e3:=GR q;subst e1 e2 e3;exact .inl ⟨z_ _,Hg⟩|false=>rw[J]at q;exact .inr q
  .rw[k_ Y]at h;rcases nJ r n I h with⟨a,m⟩|q
   .exact .inl ⟨a,Gv _ m⟩
   .exact .inr q
theorem u7:∀(ns:List (i_×Jf)) (n:Nat) (I:List (i_×f_)),(∀x y c,I.lookup x=a_ c->I.lookup y=a_ c->x=y)->(∀x c,I.lookup x=a_ c->c<n) ->
  ∀x y c,(HX n ns I).lookup x=a_ c->(HX n ns I).lookup y=a_ c->x=y
 |[],_,_,hi,_=>hi|(z,k)::r,n,I,hi,b=>by
  unfold HX;by_cases d:(k==Il)=d_
  .rw[g_ d];refine u7 r (n+1) _ (λx y c h1 h2=>?_) (λx c h1=>?_)
   .rw[y_]at h1 h2;cases J:x==z with
    |true=>
     rw[J]at h1;have e1:=GR h1;cases Y:y==z with
     |true=>rw[IA J,IA Y]|false=>rw[Y]at h2;have a:=b y c h2;rw[<- e1]at a;exact Gw a (HE _)
    |false=>
     rw[J]at h1;cases Y:y==z with
     |true=>rw[Y]at h2;have e2:=GR h2;have a:=b x c h1;rw[<- e2]at a;exact Gw a (HE _)|false=>rw[Y]at h2;exact hi x y c h1 h2
   .rw[y_]at h1;cases J:x==z with
    |true=>rw[J]at h1;have e1:=GR h1;rw[<- e1];exact Iu _|false=>rw[J]at h1;exact NA (b x c h1)
  .rw[k_ d];exact u7 r n I hi b
theorem pA{x:i_}{c:f_}:∀(ns:List (i_×Jf)) (h:Hq) (I:List (i_×f_)),(HX h.objs.size ns I).lookup x=a_ c ->
  I.lookup x=a_ c\/(h.objs.size<=c/\(pushCells h ns).IsCell c c_)
 |[],_,_,e=>.inl e|(y,k)::r,h,I,e=>by
  unfold HX at e;unfold pushCells;by_cases Y:(k==Il)=d_
  .rw[g_ Y]at e ⊢;have q:=pA (x:=x) (c:=c) r (h.push {cls:=.type "cell",data:=.cell c_}) ((y,h.objs.size)::I) (by rw[Ii];exact e);rcases q with q|⟨b,a⟩
   .rw[y_]at q;cases J:x==y with
    |true=>rw[J]at q;have e1:=GR q;subst e1;exact .inr ⟨z_ _,Heap.IsCell.keeps ⟨_,GC _ rfl,rfl⟩ (Mc r _)⟩|false=>rw[J]at q;exact .inl q
   .rw[Ii]at b;exact .inr ⟨am,a⟩
  .rw[k_ Y]at e ⊢;exact pA r h I e
theorem pM{env:LP}(f:i_×Jf->List (i_×f_)->Oq (ForInStep (List (i_×f_))))(Y:∀n k cs,f (n,k) cs=if (k==NameKind.free)=d_ then(do let a <- cellOf env n;Ig (.yield ((n,a)::cs)))else Ig (.yield cs)):
  ∀(ns:List (i_×Jf)) (I:List (i_×f_)),(∀x∈ns,x.2=NameKind.free->∃c,env.cells.lookup x.1=a_ c)->forIn ns I f=(Ig (vm env.cells ns I):Oq _)
 |[],I,_=>by rfl|(y,k)::r,I,d=>by
  have b:∀x∈r,x.2=NameKind.free->∃c,env.cells.lookup x.1=a_ c:=λx h=>d x (Gv _ h);rw[List.forIn_cons,Y];unfold vm;by_cases J:(k==NameKind.free)=d_
  .rw[g_ J,g_ J];obtain⟨c,e⟩:=d (y,k) Hg (IA J);have g:env.cells.lookup y=a_ c:=e;have e2:cellOf env y=Ig c:=by unfold cellOf;rw[g]
   rw[e2,g];exact pM f Y r _ b
  .rw[k_ J,k_ J];exact pM f Y r _ b
def vj(I:∀x∈scope.names,x.2=NameKind.free->∃c,env.cells.lookup x.1=a_ c):closureFor scope env=Ig (vm env.cells scope.names []):=by simp only[closureFor];rw[pM (env:=env) _ (λn k cs=>by rfl) scope.names [] I];rfl
theorem Ff{M:LI}{E:Mq}{d:f_}{J:List (i_×f_)}{I:LP}{Q:LP->u_->Prop}(g:∀h1:Hq,(∀b o,s.heap.get? b=a_ o->h1.get? b=a_ o)->h1.Ns s.heap.objs.size (λ_=>c_) ->
   (∀x c,(HX (s.heap.objs.size+1) scope.names J).lookup x=a_ c->J.lookup x=a_ c\/(s.heap.objs.size<c/\h1.IsCell c c_)) ->
   Q {scope:=scope,locals:=s.heap.objs.size,globals:=d,cells:=HX (s.heap.objs.size+1) scope.names J,qual:=qual,func:=c_,code:=I.code,frame:=I.frame,builtins:=I.builtins} {s with heap:=h1}):
  D_ M A (Mt scope d J [] qual c_ .none (a_ I)) Q E s:=by
 simp only[Mt,Option.isSome_some,NS];refine n_ (wpAny_alloc ?_);refine n_ (wpAny_layCells _ (λname Y cells=>by rfl) _ _ _ _ ?_);rw[show({s with heap:=s.heap.push {cls:=.type "dict",data:=.dict #[]}}:u_).heap.objs.size=s.z+1 from Ii ..];rw[List.forIn_nil];refine n_ (F_ (F_ ?_));refine g _ (λb o e=>Mc _ _ b o (r_ _ e)) ((Heap.Ns.new s.heap (.type "dict")).keeps (Mc _ _)) λx c e=>?_;have q:=pA (x:=x) (c:=c) scope.names (s.heap.push {cls:=.type "dict",data:=.dict #[]}) J (by rw[Ii];exact e);rw[Ii]at q;refine q.imp id λf=>?_;obtain⟨a,b⟩:=f;exact⟨am,b⟩
theorem uS{env:LP}{x:i_}:∀{ns:List (i_×Jf)},ns.lookup x=a_ .free ->
  (ns.map λ(n,k)=>if (k==NameKind.free&&env.scope.kind==.function&&env.kindOf n==a_ .cell)then(n,Il)else(n,k)).lookup x=a_ .cell \/
  (ns.map λ(n,k)=>if (k==NameKind.free&&env.scope.kind==.function&&env.kindOf n==a_ .cell)then(n,Il)else(n,k)).lookup x=a_ .free
 |[],h=>by simp at h|(n,k)::r,h=>by
  have J:=@uS env x r;rw[GJ];dsimp only;by_cases Y:(k==NameKind.free&&env.scope.kind==.function&&env.kindOf n==a_ .cell)=d_
  .rw[g_ Y,y_];cases I:x==n with
   |true=>exact .inl rfl|false=>rw[y_,I]at h;exact J h
  .rw[k_ Y,y_];cases I:x==n with
   |true=>rw[y_,I]at h;have e:=GR h;subst e;exact .inr rfl|false=>rw[y_,I]at h;exact J h
theorem uT{env:LP}{x:i_}:∀{ns:List (i_×Jf)},
  ((ns.map λ(n,k)=>if (k==NameKind.free&&env.scope.kind==.function&&env.kindOf n==a_ .cell)then(n,Il)else(n,k)).lookup x=a_ .cell \/
  (ns.map λ(n,k)=>if (k==NameKind.free&&env.scope.kind==.function&&env.kindOf n==a_ .cell)then(n,Il)else(n,k)).lookup x=a_ .free) ->
  ns.lookup x=a_ .cell\/ns.lookup x=a_ .free
 |[],h=>by simp at h|(n,k)::r,h=>by
  have Y:=@uT env x r;rw[GJ]at h;dsimp only at h;by_cases J:(k==NameKind.free&&env.scope.kind==.function&&env.kindOf n==a_ .cell)=d_
  .rw[g_ J,y_]at h;rw[y_];cases I:x==n with
   |true=>
    have:k=NameKind.free:=by rw[l_,l_]at J;exact IA J.1.1
    subst this;exact .inr rfl
   |false=>rw[I]at h;exact Y h
  .rw[k_ J,y_]at h;rw[y_];cases I:x==n with
   |true=>rw[I]at h;exact h|false=>rw[I]at h;exact Y h
def bL(X:Cx)(N':bv)(sc:LH)(L:f_)(cs:List (i_×f_))(s:u_)(H:Hp)(fp:List f_):Cx:=
 {X with
  N:=N',s₀:=s,H₀:=H,outer:=X.stack,ex:=fp,pn:=[],xe:=λ_ _=>False
  fn:=λx=> !(sc.names.any λp=>p.1==x&&p.2==NameKind.free)
  env:={scope:=relabel sc X.env,locals:=L,globals:=X.env.globals,cells:=cs,qual:=X.env.qual,func:=c_,code:=X.env.code,frame:=X.env.frame,builtins:=X.env.builtins}}
noncomputable def inS(ix:List (Option Nat))(σ:St):St:=ix.map λo=>match o with
 |none=>c_|some j=>(σ[j]?).join
def cC(N:bv)(I:LH)(N':bv)(sc:LH)(ix:List (Option Nat)):Bool:=
 o_ (ix.length=N'.length) &&
 ((HF ix.length).all λi=>match ix[i]? with
  |some (a_ j)=>(match N'[i]?,N[j]? with
   |some x,a_ y=>x==y&&sc.names.lookup x==a_ NameKind.free|_,_=>b_)
  |_=>d_) &&
 (sc.names.all λp=>(p.2 != NameKind.free||(I.names.lookup p.1==a_ Il||I.names.lookup p.1==a_ NameKind.free))&&(p.2 != NameKind.local||sc.names.lookup p.1==a_ NameKind.local)) &&
 (sc.names.all λp=>sc.names.all λq=> !(p.1==q.1)||p.2==q.2)
section
variable{ix:List (Option Nat)}
def cC.len(I:cC X.N X.env.scope N' sc ix=d_):ix.length=N'.length:=by unfold cC at I;rw[l_,l_,l_]at I;exact HW I.1.1.1
theorem cC.at(I:cC X.N X.env.scope N' sc ix=d_){i j:Nat}{x:i_}(h:ix[i]?=a_ (a_ j))(J:N'[i]?=a_ x):X.N[j]?=a_ x/\sc.names.lookup x=a_ .free:=by
 unfold cC at I;rw[l_,l_,l_]at I;have q:=Hk.mp I.1.1.2 i (List.mem_range.mpr (A_.mp h).1);rw[h,J]at q;dsimp only at q;cases e:X.N[j]? with
 |none=>rw[e]at q;cases q|some y=>rw[e]at q;dsimp only at q;rw[l_]at q;exact⟨by rw[IA q.1],IA q.2⟩
theorem cC.fr(I:cC X.N X.env.scope N' sc ix=d_){x:i_}(h:(x,NameKind.free)∈sc.names):X.env.kindOf x=a_ .cell\/X.env.kindOf x=a_ .free:=by
 unfold cC at I;rw[l_,l_]at I;have q:=Hk.mp I.1.2 _ h;rw[l_]at q;have J:=q.1;rw[JQ]at J;rcases J with z|z
 .simp_all
 .rw[JQ]at z;exact z.imp (λe=>IA e) λe=>IA e
def cC.loc(I:cC X.N X.env.scope N' sc ix=d_):∀x∈sc.names,x.2=NameKind.local->sc.names.lookup x.1=a_ .local:=λx Y e=>by
 unfold cC at I;rw[l_,l_]at I;have q:=Hk.mp I.1.2 _ Y;rw[l_]at q;have J:=q.2;rw[JQ]at J;rcases J with z|z
 .rw[e]at z;exact Gw z a'
 .exact IA z
def cC.apart(I:cC X.N X.env.scope N' sc ix=d_){x:i_}(h1:(x,Il)∈sc.names)(h2:(x,NameKind.free)∈sc.names):False:=by unfold cC at I;rw[l_]at I;have q:=Hk.mp (Hk.mp I.2 _ h1) _ h2;simp at q
def u0(I:Cv X B' σ H s)(J:cC X.N X.env.scope N' sc ix=d_):∀x∈sc.names,x.2=NameKind.free->∃c,X.env.cells.lookup x.1=a_ c:=λx Y e=>by obtain⟨n,k⟩:=x;have a:k=NameKind.free:=e;subst a;exact I.ok.has n (cC.fr J Y)
theorem Ga(I:Cv X B' σ H s)(J:cC X.N X.env.scope N' sc ix=d_){x:i_}(h:(vm X.env.cells sc.names []).lookup x=a_ c):(x,NameKind.free)∈sc.names/\X.env.cells.lookup x=a_ c:=by
 rcases vk _ _ h with⟨m,e⟩|z
 .obtain⟨d,hd⟩:=u0 I J _ m rfl;simp_all
 simp_all
theorem comp_inv{h1:Hq}(I:Cv X B' σ H s)(D:∀b∈fp,DN X B' H b)(hb:∀b∈fp,∃o,s.heap.get? b=a_ o)(g:cC X.N X.env.scope N' sc ix=d_)(hk:sc.kind=.function)(d:s.heap.objs.size<=L)(C:∀b o,s.heap.get? b=a_ o->h1.get? b=a_ o)(ns:h1.Ns L λ_=>c_)(h:∀x c,(HX (L+1) sc.names (vm X.env.cells sc.names [])).lookup x=a_ c->(vm X.env.cells sc.names []).lookup x=a_ c\/(L<c/\h1.IsCell c c_)):
  Cv (bL X N' sc L (HX (L+1) sc.names (vm X.env.cells sc.names [])) s H fp) [] (inS ix σ) H {s with heap:=h1}:=by
 have Y:∀x c,(vm X.env.cells sc.names []).lookup x=a_ c->(x,NameKind.free)∈sc.names/\X.env.cells.lookup x=a_ c/\(∃v,s.heap.IsCell c v)/\c<s.z:=λx c e=>by obtain⟨m,U⟩:=Ga I g e;obtain⟨v,z⟩:=I.cell x c U;exact⟨m,U,⟨v,z⟩,z.lt⟩
 have t:∀b∈fp,b<s.z:=λb z=>let ⟨o,e⟩:=hb b z;t_ e;have Q:∀b∈fp,∀x c,(HX (L+1) sc.names (vm X.env.cells sc.names [])).lookup x=a_ c->c≠b:=λb z x c e=>by
  have f:=t b z;rcases h x c e with q|⟨q,_⟩
  .exact(D b z).2.2.2.2.1 x c (Y x c q).2.1
  .exact gt_ne (GA f d) q
 have F:(bL X N' sc L (HX (L+1) sc.names (vm X.env.cells sc.names [])) s H fp).Ok:=by
  refine⟨I.ok.mod,hk,I.ok.glob,I.ok.blt,d,?_,?_,?_,I.ok.hd,I.ok.frames,.inl rfl,?_,I.bs,Ha I.ok.bsz I.sz,?_,?_,I.stack,I.Eh⟩
  .refine u7 sc.names (L+1) _ (λx y c e1 e2=>I.ok.inj x y c (Y x c e1).2.1 (Y y c e2).2.1) λx c e=>?_;exact NA (GA (Y x c e).2.2.2 d)
  .intro x hx;have G:=uT (env:=X.env) (x:=x) (ns:=sc.names) hx;have q:((HX (L+1) sc.names (vm X.env.cells sc.names [])).lookup x).isSome=d_:=by
    rcases G with z|z
    .exact IQ _ _ _ (.inl z)
    .exact IQ _ _ _ (.inr (u6 _ _ (.inl (HM z))))
   exact IF.mp q
  .intro x c O e;show s.z<=c;rcases h x c e with q|⟨q,_⟩
   .have m:=(Y x c q).1;have a:(!(sc.names.any λp=>p.1==x&&p.2==NameKind.free))=d_:=O;have z:(sc.names.any λp=>p.1==x&&p.2==NameKind.free)=d_:=Lr.mpr ⟨_,m,a8⟩;rw[z]at a;cases a
   .exact Ha d (J1 q)
  .intro b z;have f:=t b z;exact⟨GS (GA f d),Q b z⟩
  .intro b o e z;rcases(D b z).2.2.2.1 with q|q
   .exact I.ok.noex b o e q
   .exact Gw (GA (t_ e) (Ha I.ok.bsz q)) (HE _)
  .intro b z hs;rcases q_.mp (I.uN b hs)with q|q
   .exact(D b z).2.1 q
   .exact(D b z).2.2.1 q
 refine⟨F,rfl,I.bare,Un.kept C,⟨_,ns,λi x v P h2 h3=>?_⟩,λx c e=>?_,I.hok.fresh d,λx c e=>?_,λp hp=>Gw hp (by simp[bL]),I.hok.kept C,?_⟩
 .have K:∃j,ix[i]?=a_ (a_ j)/\σ[j]?=a_ (a_ v):=by
   unfold inS at h2;rw[HQ]at h2;cases e:ix[i]? with
   |none=>simp_all|some o=>
    rw[e]at h2;cases o with
    |none=>cases h2|some j=>
     have J:(σ[j]?).join=a_ v:=GR h2;refine⟨j,rfl,?_⟩
     cases e2:σ[j]? with
     |none=>rw[e2]at J;cases J|some w=>rw[e2]at J;have n:w=a_ v:=J;rw[n]
  obtain⟨j,e1,e2⟩:=K;obtain⟨e3,e4⟩:=cC.at g e1 P;have N:=cC.fr g (HM e4);obtain⟨m,hn,hl⟩:=I.loc;obtain⟨u,r,l⟩:=hl j x v e3 e2 (N.elim (λz=>.inr (.inl z)) λz=>.inr (.inr z));refine⟨u,r,.inr ⟨uS (env:=X.env) (x:=x) (ns:=sc.names) e4,?_⟩⟩
  rcases l with⟨k,_⟩|⟨k,c,e,z⟩
  .simp_all
  .have T:=u6 (cells:=X.env.cells) sc.names [] (.inl (HM e4));obtain⟨c2,B⟩:=IF.mp T;have S:=(Y x c2 B).2.1;rw[e]at S;cases S;have W:=IQ (x:=x) sc.names (L+1) (vm X.env.cells sc.names []) (.inr T);obtain⟨c3,E⟩:=IF.mp W;rcases h x c3 E with A|⟨A,q7⟩
   .rw[B]at A;cases A;exact⟨c,E,z.keeps C⟩
   .exfalso;rcases nJ _ _ _ E with⟨_,Z⟩|R
    .exact cC.apart g Z (HM e4)
    .rw[B]at R;cases R;exact Gw (KC (GA (Y x c B).2.2.2 d) A) (HE _)
 .rcases h x c e with q|⟨_,q⟩
  .obtain⟨v,z⟩:=(Y x c q).2.2.1;exact⟨v,z.keeps C⟩
  .exact⟨_,q⟩
 .rcases h x c e with q|⟨q,_⟩
  .exact I.freeC x c (Y x c q).2.1
  .exact I.hok.fresh (Ha d (J1 q))
 .show(inS ix σ).length=N'.length;unfold inS;rw[w_];exact cC.len g
end
def PTs(X:Cx)(ifs:List HG)(t:TT):Prop:=
 ∀(B':Vp) (s:u_) (σ:St) (H:Hp) (Q:Bool->Hp->Prop),Cv X B' σ H s->t σ H Q ->
  D_ (GD X.prog X.w) X.A (forIn ifs d_ λc r=>if r=d_ then do let I <- Ng c X.env (GI c X.env);Ig (Kf I)else Ig (Kf r)) (TP X B' σ Q) X.xe s
noncomputable def tYes:TT:=λ_ H Q=>Q d_ H
def pts_nil:PTs X [] tYes:=λ_ _ _ H _ I h=>wpAny_tests_nil ⟨H,I,h⟩
def pts_one{c:HG}{t:TT}(h:PT X c t):PTs X [c] t:=λB' s σ H Q I q=>wpAny_tests_one (h B' s σ H Q I q)
def yQ{w:GW}{R:Result->u_->Prop}{it I:m_}(J:Nat->u_->Prop)(Y:∀n s,J n s->D_ (GD prog w) A (pyNext it) (λr e=>match r with
   |none=>R (.ok .next) e|some v=>D_ (GD prog w) A (KR tg it v) (λ_ a=>D_ (GD prog w) A (K7 tg env v) (λ_ j=>
     D_ (GD prog w) A (forIn ifs d_ λc r=>if r=d_ then do let b <- Ng c env (GI c env);Ig (Kf b)else Ig (Kf r)) (λb d=>
      if b=d_ then D_ (GD prog w) A (GI elt env) (λx i=>D_ (GD prog w) A (JR (.builtin "list.append") [I,x]) (λ_ g=>∃m,m<n/\J m g) (λ_ _=>False) i) (λ_ _=>False) d
      else ∃m,m<n/\J m d) (λ_ _=>False) j) (λ_ _=>False) a) (λ_ _=>False) e) (λ_ _=>False) s)(n:Nat)(h:J n s):Kb (GD prog w) A (.compLoop (.ListComp elt [⟨tg,iter,ifs,0⟩] scope pos) 0 it I env) R s:=by
 refine codeAny_loop rfl J (λn s l=>?_) n h;show D_ _ A ((compTurn (.ListComp elt [⟨tg,iter,ifs,0⟩] scope pos) 0 it I env).onRaise (λx=>do M6 x env;theTreesLotGoes x)) _ _ s;refine wpAny_noted ?_;rw[compTurn_list];refine n_ (Jy (n_ (HC (Y n s l) (λr e h1=>?_) λ_ _ z=>z.elim)));cases r with
 |none=>exact F_ h1|some v=>
  refine n_ (HC h1 (λ_ a f=>?_) λ_ _ z=>z.elim);refine n_ (HC f (λ_ j h2=>n_ (HC h2 (λb d k=>?_) λ_ _ z=>z.elim)) λ_ _ z=>z.elim);cases b with
  |false=>exact F_ ⟨rfl,k⟩|true=>exact n_ (n_ (HC k (λx i p=>n_ (HC p (λ_ g o=>F_ (F_ ⟨rfl,o⟩)) λ_ _ z=>z.elim)) λ_ _ z=>z.elim))
def u3(J:It)(ix:List (Option Nat))(g:TG)(tt:TT)(te:TE)(σ:St)(F:b'->Hp->Prop)(H:Hp):Prop:=
 ∃W:Nat->Nat->b'->Hp->Prop,(∃m,W 0 m [] H)/\∀i m ys H,W i m ys H ->
  (J.stop i H/\ys.length<=j_/\F ys H)\/(J.go i H/\ys.length<=j_/\∃N:b'->Hp->Prop,(∀Y H',N Y H'->∃a,a<m/\W (i+1) a Y H') /\
   ∀x H',J.yld i H x H'->g x (inS ix σ) H' λI H2=>tt I H2 λb c=>if b=d_ then te I c λy d=>N (ys++[y]) d else N ys c)
section
variable{ix:List (Option Nat)}
def Cv.slots0(I:Cv X B' σ' H s)(h:∀(i:Nat) v,(inS ix σ)[i]?=a_ (a_ v)->σ'[i]?=a_ (a_ v))(J:(inS ix σ).length=X.N.length):Cv X B' (inS ix σ) H s:=
 I.weak (by rw[J,I.len]) h
theorem yP{g:TG}{J:It}{tn:Nat->Hq->Prop}{F:b'->Hp->Prop}{E:Mq}(hc:X.calm=d_)(I:Cv X B' σ H s)(T:Turn X.prog X.w X.K tg J fp it tn)(st:tn 0 s.heap)(hf:∀b∈fp,DN X B' H b)(ok:cC X.N X.env.scope N' sc ix=d_)(hk:sc.kind=.function)(hg:∀L cs s H fp,PG (bL X N' sc L cs s H fp) tg g)(hkeep:∀x σ' H' (Q:St->Hp->Prop),g x σ' H' Q->g x σ' H' λσ2 H2=>Q σ2 H2/\∀(i:Nat) v,σ'[i]?=a_ (a_ v)->(∃j,ix[i]?=a_ (a_ j))->σ2[i]?=a_ (a_ v))(ht:∀L cs s H fp,PTs (bL X N' sc L cs s H fp) ifs tt)(he:∀L cs s H fp,PE (bL X N' sc L cs s H fp) elt te)(tr:u3 J ix g tt te σ F H):
  D_ (GD X.prog X.w) X.A (newList []) (λacc s3=>D_ (GD X.prog X.w) X.A (Mt sc X.env.globals (vm X.env.cells sc.names []) [] X.env.qual c_ .none (a_ X.env)) (λf s4=>
   Kb (GD X.prog X.w) X.A (.compStart (.ListComp elt [⟨tg,iter,ifs,0⟩] sc pos) 0 (.ref it) acc {f with scope:=relabel sc X.env}) (λr s'=>(∃fl,r=.ok fl) /\
    ∃(p:f_) (ys:b') (H2:Hp),acc=.ref p/\Cv X B' σ (upd H2 p (.lst ys)) s'/\H2 p=c_/\F ys H2/\(∃m,s'.heap.Ns f.locals m)/\(upd H2 p (.lst ys)) f.locals=c_/\f.locals≠X.env.locals /\
     X.s₀.heap.objs.size<=f.locals/\(∀x c,X.env.cells.lookup x=a_ c->c≠f.locals)/\∀q∈X.pn++B',q.1≠f.locals) s4) E s3) E s:=by
 obtain⟨W,⟨m0,w0⟩,turn⟩:=tr;refine Kt (Ff λh1 kp ns hcl=>?_);dsimp only at kp ns hcl ⊢;generalize hH2:s.heap.push {cls:=.type "list",dict:=c_,data:=.seq ([]:ce).toArray}=w at kp ns hcl ⊢;have eL:w.objs.size=s.z+1:=by rw[<- hH2,Ii]
 have kp0:∀b o,s.heap.get? b=a_ o->h1.get? b=a_ o:=λb o e=>kp b o (hH2▸r_ _ e);have hD0:h1.PlainList s.z #[]:=⟨_,kp _ _ (hH2▸GC _ rfl)⟩
 have fpo:∀b∈fp,∃o,s.heap.get? b=a_ o:=λb z=>let ⟨o,e,_⟩:=T.obj 0 _ st b z;⟨o,e⟩;have fpl:∀b∈fp,b<s.z:=λb z=>let ⟨o,e⟩:=fpo b z;t_ e;have sL:s.z<=w.objs.size:=by rw[eL];exact Hw _
 have U:s.z<w.objs.size:=by rw[eL];exact Iu _
 have I0:=comp_inv (h1:=h1) I hf fpo ok hk sL kp0 ns hcl;generalize a:bL X N' sc w.objs.size (HX (w.objs.size+1) sc.names (vm X.env.cells sc.names [])) s H fp=Y at I0;have B:Y.prog=X.prog:=by subst a;rfl
 have A:Y.w=X.w:=by subst a;rfl
 have eY3:Y.K=X.K:=by subst a;rfl
 have eY4:Y.calm=d_:=by subst a;exact hc
 have K:Y.A=X.A:=by subst a;rfl
 have l:Y.env={scope:=relabel sc X.env,locals:=w.objs.size,globals:=X.env.globals,cells:=HX (w.objs.size+1) sc.names (vm X.env.cells sc.names []),qual:=X.env.qual,func:=c_,code:=X.env.code,frame:=X.env.frame,builtins:=X.env.builtins}:=by subst a;rfl
 have eY7:Y.xe=λ_ _=>False:=by subst a;rfl
 have eY8:Y.pn=[]:=by subst a;rfl
 have eY9:Y.fs=frs X.stack:=by subst a;rfl
 have N:Y.s₀=s:=by subst a;rfl
 have eY11:Y.H₀=H:=by subst a;rfl
 have eY12:Y.ex=fp:=by subst a;rfl
 have eY13:Y.N=N':=by subst a;rfl
 have hgY:PG Y tg g:=by subst a;exact hg _ _ _ _ _
 have htY:PTs Y ifs tt:=by subst a;exact ht _ _ _ _ _
 have heY:PE Y elt te:=by subst a;exact he _ _ _ _ _
 have lenI:(inS ix σ).length=Y.N.length:=by rw[eY13];unfold inS;rw[w_];exact cC.len ok
 have O:∀(b:f_),b<=w.objs.size->(∀x c,X.env.cells.lookup x=a_ c->c≠b)->∀x c,Y.env.cells.lookup x=a_ c->c≠b:=λb h hx x c e=>by
  rw[l]at e;rcases hcl x c e with q|⟨q,_⟩
  .exact hx x c (Ga I ok q).2
  .exact(CT (Nt h (Iu _)) q).symm
 have oldc:∀x c,X.env.cells.lookup x=a_ c->c<s.z:=λx c e=>let ⟨v,z⟩:=I.cell x c e;z.lt;have nfs:∀b,s.z<=b->b∉frs X.stack:=λb h z=>by
  rcases q_.mp (I.uN b z)with q|q
  .exact CT I.lt h q.symm
  .exact I.nofs h q
 have fpY:∀(pp:Vp) (H':Hp),(∀b∈fp,H' b=c_)->(∀q∈pp,q.1∉fp)->∀b∈fp,DN Y pp H' b:=λpp H' hn hq b z=>by
  have hlt:=fpl b z;refine⟨hn b z,?_,?_,.inl bt,O b (J1 (KC hlt U)) ((hf b z).2.2.2.2.1),λq D e=>?_⟩
  .rw[l];exact CT hlt sL
  .rw[eY9];intro hs;rcases q_.mp (I.uN b hs)with q|q
   .exact(hf b z).2.1 q
   .exact(hf b z).2.2.1 q
  .rw[eY8]at D;exact hq q (by simpa using D) (by rw[e];exact z)
 have Dfp:s.z∉fp:=λz=>Gw (fpl _ z) (HE _);have Dok:∀(pp:Vp) (H':Hp),H' s.z=c_->(∀q∈pp,q.1≠s.z)->DN Y pp H' s.z:=λpp H' hn hq=>by
  refine⟨hn,?_,by rw[eY9];exact nfs _ (z_ _),.inr (by rw[N];exact z_ _),O _ sL (λx c e=>GS (oldc x c e)),λq D=>?_⟩
  .rw[l];exact GS U
  .rw[eY8]at D;exact hq q (by simpa using D)
 have C:Kb (GD X.prog X.w) X.A (.compLoop (.ListComp elt [⟨tg,iter,ifs,0⟩] sc pos) 0 (.ref it) (.ref s.z) Y.env) (λr s'=>(∃fl,r=.ok fl) /\
    ∃(p:f_) (ys:b') (H2:Hp),GP s.z=.ref p/\Cv X B' σ (upd H2 p (.lst ys)) s'/\H2 p=c_/\F ys H2/\(∃m,s'.heap.Ns w.objs.size m)/\(upd H2 p (.lst ys)) w.objs.size=c_/\w.objs.size≠X.env.locals /\
     X.s₀.heap.objs.size<=w.objs.size/\(∀x c,X.env.cells.lookup x=a_ c->c≠w.objs.size)/\∀q∈X.pn++B',q.1≠w.objs.size) {s with heap:=h1}:=by
  refine yQ (λn s'=>∃i ys G' H',Cv Y [] (inS ix σ) H' s'/\tn i s'.heap/\(∀b∈fp,H' b=c_)/\H' s.z=c_/\s'.heap.PlainList s.z G'/\Gr ys G'.toList/\W i n ys H') ?_ m0
   ⟨0,[],#[],H,I0,T.keep _ _ _ st λb _ o e=>kp0 b o e,λb z=>(hf b z).1,I.hok.fresh (z_ _),hD0,.nil,w0⟩
  rintro n s3 ⟨i,ys,G',P,I3,st3,fr3,t,pl3,R,w3⟩;obtain⟨Z,oD⟩:=pl3;have hpD:∀q∈[((s.z:f_),({cls:=.type "list",data:=.seq G' Z}:K1))],q.1∉fp:=λq hq=>by have:q=_:=GK.mp hq;rw[this];exact Dfp
  have I3':Cv Y [((s.z:f_),({cls:=.type "list",data:=.seq G' Z}:K1))] (inS ix σ) P s3:=I3.vU λq hq=>by have e:q=_:=GK.mp hq;obtain⟨d0,d1,d2,_⟩:=Dok [] P t (λ_ z=>nomatch z);rw[e];exact⟨oD,d0,d1,d2,λv z=>by cases z⟩
  rcases turn i n ys P w3 with⟨stop,ln,qn⟩|⟨go,ln,NN,hNN,step⟩
  .have h1:=T.done Y B A eY3 eY4 i _ s3 _ P (λ_ _=>False) I3' (fpY _ P fr3 hpD) st3 stop;rw[K]at h1;refine HC h1 (λr s4 G=>?_) λ_ _ z=>z;obtain⟨hr,I4⟩:=G;subst hr;obtain⟨oD4,hD4,_⟩:=I4.pin ((s.z:f_),({cls:=.type "list",data:=.seq G' Z}:K1)) a8;refine⟨⟨_,rfl⟩,s.z,ys,P,rfl,?_,t,qn,?_,?_,?_,?_,?_,?_⟩
   .have S:Un (frs X.stack) fp H P s.heap s4.heap:=by
     have:=I4.base;rw[eY9,N,eY11,eY12]at this;exact this
    have hok4:HOk X.prog X.w P s4.heap:=by have:=I4.hok;rw[B,A]at this;exact this
    refine I.call' (ch:=fp) (by have:=I4.os;rw[N]at this;exact this) ⟨S.keep,S.slot,λb o e nn hx=>?_,S.there,λb xs q=>?_,λb o u q=>?_,λb ps q=>?_⟩ (λb u e=>?_) I4.bare (λb h=>?_)
    .rw[ao (GS (t_ e))];exact S.free b o e nn hx
    .rw[ao (aV (S.tups b xs q) t)];exact S.tups b xs q
    .rw[ao (aV (S.frzs b o u q) t)];exact S.frzs b o u q
    .obtain⟨more,z⟩:=S.tbls b ps q;exact⟨more,by rw[ao (aV z t)];exact z⟩
    .by_cases h:b=s.z
     .subst h;rw[aj]at e;cases e;exact⟨ln,G'.toList,Z,R,by simpa using oD4⟩
     .rw[ao h]at e;exact(hok4 b u e).zy (λ_ _ _ q=>q) (λc q=>by rw[ao (aV q t)];exact q) λc xs q=>by rw[ao (aV q t)];exact q
    .obtain⟨f0,f1,f2,f3,f4,f5⟩:=hf b h;exact⟨f3,f1,f4,f5⟩
   .obtain⟨m,hn,_⟩:=I4.loc;rw[l]at hn;exact⟨m,hn⟩
   .rw[ao (J0 U)];have:=I4.free;rw[l]at this;exact this
   .exact J0 (KC I.lt U)
   .exact Ha I.sz sL
   .exact λx c e=>CT (oldc x c e) sL
   .exact λq hq=>CT (t_ (I.pin q hq).1) sL
  .have h1:=T.item Y B A eY3 eY4 i _ s3 _ P (λ_ _=>False) I3' (fpY _ P fr3 hpD) st3 go;rw[K]at h1;refine HC h1 (λr s4 G=>?_) λ_ _ z=>z;obtain⟨u,hr,h4⟩:=G;subst hr;refine HC h4 (λ_ s5 G=>?_) λ_ _ z=>z;obtain⟨x,H5,I5,r5,y5,st5,fr5⟩:=G;have I5':=I5.pinned (fpY _ H5 fr5 hpD) (T.obj _ _ st5);have h5:=hgY _ s5 _ H5 x u _ I5' r5 (hkeep x _ H5 _ (step x H5 y5));rw[B,A,K,eY7]at h5;refine HC h5 (λ_ s6 G=>?_) λ_ _ z=>z;obtain⟨σ6,H6,I6,q6,k6⟩:=G;have h6:=htY _ s6 σ6 H6 _ I6 q6;rw[B,A,K,eY7]at h6;refine HC h6 (λb s7 G=>?_) λ_ _ z=>z;obtain⟨H7,I7,q7⟩:=G;have back:∀{s8:u_} {H8:Hp},Cv Y ([((s.z:f_),({cls:=.type "list",data:=.seq G' Z}:K1))]++yc fp s5.heap) σ6 H8 s8->Cv Y [] (inS ix σ) H8 s8/\tn (i+1) s8.heap/\(∀b∈fp,H8 b=c_)/\H8 s.z=c_/\s8.heap.get? s.z=a_ {cls:=.type "list",data:=.seq G' Z}:=λ{s8 H8} I8=>by
    obtain⟨a1,a2,_⟩:=I8.pin ((s.z:f_),({cls:=.type "list",data:=.seq G' Z}:K1)) a8;refine⟨(I8.vU (pins':=[]) λ_ z=>nomatch z).slots0 (λk v e=>?_) lenI,T.keep _ _ _ st5 λb h o e=>(I8.pin (b,o) (Hv _ (Hv _ (mv h e)))).1,λb h=>?_,a2,a1⟩
    .refine k6 k v e ?_;unfold inS at e;rw[HQ]at e;cases e2:ix[k]? with
     |none=>rw[e2]at e;cases e|some o=>
      cases o with
      |none=>rw[e2]at e;cases e|some j=>exact⟨j,rfl⟩
    .obtain⟨o,e,d⟩:=T.obj _ _ st5 b h;exact(I8.pin (b,o) (Hv _ (Hv _ (mv h e)))).2.1
   cases b with
   |false=>rw[k_ HV]at q7 ⊢;obtain⟨m',hm,w7⟩:=hNN _ _ q7;obtain⟨b1,b2,b3,b4,b5⟩:=back I7;exact⟨m',hm,i+1,ys,G',H7,b1,b2,b3,b4,⟨Z,b5⟩,R,w7⟩
   |true=>
    rw[g_ rfl]at q7 ⊢;have h7:=heY _ s7 σ6 H7 _ I7 q7;rw[B,A,K,eY7,l]at h7;rw[l];refine HC h7 (λuu s8 G=>?_) λ_ _ z=>z;obtain⟨y,H8,I8,r8,q8⟩:=G;obtain⟨m',hm,w8⟩:=hNN _ _ q8;obtain⟨b1,b2,b3,b4,b5⟩:=back I8;have ez:G'.size<=j_:=by
     have h1:=R.length;have h2:G'.toList.length=G'.size:=by simp
     lia
    refine wpAny_list_append_plain (hsz:=ez) ⟨Z,b5⟩ λh9 pl9 sb9=>?_;obtain⟨d0,d1,d2,d3,d4,d5⟩:=Dok [] H8 b4 (λ_ z=>nomatch z);refine⟨m',hm,i+1,ys++[y],G'.push uu,H8,b1.turned (t':=s8.toks) (λb o h e=>(sb9.2 b h).trans e) d0 d1 d3 d4 d5,T.keep _ _ _ b2 λb h o e=>(sb9.2 b ?_).trans e,b3,b4,pl9,?_,w8⟩
    .exact CT (fpl b h) (z_ _)
    .rw[Array.toList_push];exact R.append (.cons r8 .nil)
 rw[l]at C;exact codeAny_compStart_list C (T.self X.A 0 _ _ _ (T.keep _ _ _ st λb _ o e=>kp0 b o e) C)
end
def tComp(wi:TI)(ix:List (Option Nat))(g:TG)(tt:TT)(te:TE):TE:=λσ H Q=>wi σ H λJ H1=>u3 J ix g tt te σ (λys H2=>∀p,H2 p=c_->Q (.ref p) (upd H2 p (.lst ys))) H1
def vq(ix:List (Option Nat))(g:TG):Prop:=∀x σ' H' (Q:St->Hp->Prop),g x σ' H' Q->g x σ' H' λI H2=>Q I H2/\∀(i:Nat) v,σ'[i]?=a_ (a_ v)->(∃j,ix[i]?=a_ (a_ j))->I[i]?=a_ (a_ v)
def aW{ix:List (Option Nat)}(h:ix[k]?=a_ c_):vq ix (hG k):=λx σ' H' Q q=>⟨q,λi v e ⟨j,I⟩=>by
 have:k≠i:=by rintro rfl;rw[h]at I;cases I
 rw[p_ this];exact e⟩
section
variable{ix:List (Option Nat)}{wi:TI}{g:TG}
def pe_comp(N':bv)(ix:List (Option Nat))(A:X.calm=d_)(hi:PI X tg iter wi)(y:∀L cs s H fp,PG (bL X N' sc L cs s H fp) tg g)(w:vq ix g)(k:∀L cs s H fp,PTs (bL X N' sc L cs s H fp) ifs tt)(z:∀L cs s H fp,PE (bL X N' sc L cs s H fp) elt te)(Y: ~~~(cC X.N X.env.scope N' sc ix=d_))(a: ~~~(sc.kind=.function))(l:autoParam (∀x,Jk iter X.env x=Ig x) Jq5):
  PE X (.ListComp elt [⟨tg,iter,ifs,0⟩] sc pos) (tComp wi ix g tt te):=by
 intro B' s σ H Q I h;rw[eval_ListComp];refine MN (use:=c_) rfl l (vj (u0 I Y)) a (cC.loc Y) (H9 (hi B' s σ H _ I h) λv Z h1=>H9 h1 λj W h2=>?_);obtain⟨it,fp,R,J,H2,e,P,T,st2,E,d⟩:=h2;subst e;refine H9 (yP A P T st2 E Y a y w k z d) λN U D=>H9 D λc S C=>IK C λr i n=>?_;obtain⟨⟨fl,e1⟩,p,ys,H5,e2,O,t,q,⟨m,u⟩,K,c1,c2,G,F⟩:=n;subst e1;subst e2;exact⟨m,u,λh' f=>⟨.ref p,_,O.turned (t':=i.toks) (λb o B e=>(f.2 b B).trans e) K c1 (.inr c2) G F,rfl,q p t⟩⟩
def tSetComp(j:Nat)(wi:TI)(ix:List (Option Nat))(g:TG)(tt:TT)(te:TE):TS:=λD σ H=>wi σ H λJ H1=>u3 J ix g tt te σ (λys H2=>∀p,H2 p=c_->D.nx (σ.set j (a_ (.ref p))) (upd H2 p (.lst ys))) H1
def CC(N':bv)(ix:List (Option Nat))(Z:X.N.Nodup)(O:X.N[j]?=a_ y)(k:X.env.scope.names.lookup y=a_ .local)(S:X.calm=d_)(hi:PI X tg iter wi)(P:∀L cs s H fp,PG (bL X N' sc L cs s H fp) tg g)(N:vq ix g)(C:∀L cs s H fp,PTs (bL X N' sc L cs s H fp) ifs tt)(R:∀L cs s H fp,PE (bL X N' sc L cs s H fp) elt te)(f: ~~~(II (.ListComp elt [⟨tg,iter,ifs,0⟩] sc pos) (a_ (.Name y py)) spos.line X.env=Ig d_))(d: ~~~(cC X.N X.env.scope N' sc ix=d_))(l: ~~~(sc.kind=.function))(E:autoParam (∀x,Jk iter X.env x=Ig x) Jq5):
  PS X (.Assign [.Name y py] (.ListComp elt [⟨tg,iter,ifs,0⟩] sc pos) spos) (tSetComp j wi ix g tt te):=by
 intro B' s σ H D I h;rw[exec_Assign_Name_used _ _ _ _ f];refine n_ (Jy (n_ ?_));show D_ _ X.A (do let _ <- comprehension (.ListComp elt [⟨tg,iter,ifs,0⟩] sc pos) sc X.env _ (newList []) b_ (GI iter X.env) (a_ (K7 (.Name y py) X.env))) _ _ s;refine n_ (HC (MN (use:=a_ (K7 (.Name y py) X.env)) (Q:=λ_ s'=>SP X B' D .next s') rfl E (vj (u0 I d)) l (cC.loc d) (H9 (hi B' s σ H _ I h) λv s1 h1=>H9 h1 λB s2 h2=>?_)) (λ_ s' G=>F_ (F_ G)) λ_ _ z=>z);obtain⟨it,fp,tn,J,H2,e,I2,T,st2,f2,t⟩:=h2;subst e;refine H9 (yP S I2 T st2 f2 d l P N C R t) λacc s3 h3=>H9 h3 λY s4 h4=>IK h4 λr A F=>?_;obtain⟨⟨fl,e1⟩,p,ys,H5,e2,I5,i,q,⟨m,K⟩,c0,c1,c2,n,c4⟩:=F;subst e1;subst e2;show D_ _ X.A (K7 (.Name y py) X.env (.ref p)) _ _ A;refine Oe (xB (v:=.ref p) I5 Z O (.inl k) rfl (λw I6 i=>?_) (.inr k));obtain⟨a,u,W⟩:=i;have ea:Y.locals≠a:=by
  rcases W with z|z
  .rw[z];exact c1
  .exact λe=>n y a z e.symm
 refine⟨m,K.sameBut u ea,λh' c=>?_⟩
 exact⟨_,_,I6.turned (t':=w.toks) (λb o U e=>(c.2 b U).trans e) c0 c1 (.inr c2) n c4,q p i⟩
end
theorem BQ:∀{bs:List Bool} {us:ce},Gr (bs.map V.bl) us->LSm.BoolsAre us bs
 |[],_,.nil=>.nil|b::r,_,.cons e t=>by cases e;exact .cons b (BQ t)
def call_all(l:X.calm=d_):j0 X (.builtin "all") (λxs H Q=>∃(a:f_) (bs:List Bool),xs=[.ref a]/\SqL X.K H a (bs.map V.bl)/\Q (.bl (bs.all id)) H):=by
 intro B' s σ H xs us Q I r h;obtain⟨a,bs,rfl,j,q⟩:=h;obtain⟨u,rfl,g⟩:=r.one;cases g;obtain⟨G',f,p,o⟩:=I.list j;have c:=BQ f;have Y:=p.isList;have J:a<s.z:=by obtain⟨_,e,_⟩:=Y;exact t_ e
 refine call_all_walk (Ks Y ?_);refine⟨s.z,[s.z,a],[s.z],G'.toArray.size,_,_,λi=>(bs[i]?).getD d_,rfl,Walks.list (A:=X.A.in1) (I.ok.hd l) _ a (GS J) G'.toArray,
  ⟨⟨_,GC _ rfl,rfl,rfl⟩,Y.push _⟩,λi v s' t E' m d=>?_,λh' n k=>?_⟩
 .obtain⟨b,e,rfl⟩:=c.get i v (by simpa using m);simp only[e,Option.getD_some]at d;exact HJ d
 .have e:((HF G'.toArray.size).all λi=>(bs[i]?).getD d_)=bs.all id:=by
   rw[Hy,c.length];exact LSm.range_all bs
  rw[e];exact⟨.bl (bs.all id),H,I.kept (LSm.kept_iter k),rfl,q⟩
def Gr.atA{xs:b'}(r:Gr xs us)(h:j<us.toArray.size):∃x,xs[j]?=a_ x/\Gq x us.toArray[j]:=by
 have I:=r.length;have J:j<xs.length:=by rw[I];simpa using h
 obtain⟨u,e1,e2⟩:=r.get (i:=j) (x:=xs[j]) a8;refine⟨xs[j],by simp[J],?_⟩
 have:us.toArray[j]=u:=by
  have h':j<us.length:=by simpa using h
  rw[G_ h']at e1;simpa using GR e1
 rw[this];exact e2
section
variable{x:i_}
def pe_tyN(Y:Gl X x)(J:X.mg x=c_)(hv:IM x=a_ (.type T))(I:(x≠"__name__")⁻¹)(hd:((x==("__debug__":i_))=b_)⁻¹):PE X (.Name x pos) (tC (.ty T)):=pe_bltn (v:=.ty T) Y J hv rfl I hd
def pe_gint{n:Int}(J:Gl X x)(I:∃t,X.mg x=a_ (.int n t))(hd:((x==("__debug__":i_))=b_)⁻¹):PE X (.Name x pos) (tC (.int n)):=by obtain⟨t,e⟩:=I;exact zX (v:=.int n) J e ⟨t,rfl⟩ hd
end
section
variable{w:GW}{base:Hq}
theorem Fun.okX{x:i_}(F:Fun K x qual st f fd)(S:gB N ps (aA st))(J:∀vs H Q E,sp vs H Q E->vs.length=ps.length)(I:∀(cdv:m_) (A:IY) (outer:List LP) (s:u_) (H:Hp) (vs:b') (Q:VK) (E:XK),jr k (A.deeper (IS qual (aA st) s.heap.objs.size f cdv))->sp vs H Q E ->
   ∃t,PSs (x4 CX P w K mg base N qual (aA st) f cdv A outer s H E).nox (bT st) t/\t {nx:=λ_ H'=>Q .non H',rt:=Q} (start N vs) H):iZ P w K mg base CX (k+1) f fd ps sp:=by
 obtain⟨oc,od,kV,doc,pm,an,cdv,ct,osl,rfl,b,a⟩:=F.ex;refine fn_of b a S J λA outer s H vs Q E c Y=>?_;obtain⟨t,h,q⟩:=I cdv A outer s H vs Q E c Y;exact⟨t,h.nox,q⟩
structure Def(K:Pn)(mg:Ld)(x:i_)(st:Hm)(ps:bv)(f:f_)(fd:Iq):Prop where
 fn:Fun K x x st f fd
 mg:mg x=a_ (.ref f)
 bd:Binds K fd ps []
def def_of(J:K.In h)(G:h.Ns GY mg){x:i_}{kV:m_}(a:Nj K GY x=a_ (a_ (.ref f)))(l:K.lookup f=a_ ⟨oc,od,.func (Lk x x (fW st) (bT st) (aA st) .none kV doc pm an cdv ct),osl⟩)(c:LW K cdv x=d_)(k:Ja K (.ref f)=d_)(I:∀(kV doc pm:m_) (an:Option f_) (cdv ct:m_) (us:ce),us.length=ps.length->K6 (Lk x x (fW st) (bT st) (aA st) .none kV doc pm an cdv ct) ⟨us,[]⟩=Ig (ps.zip us)):
  Def K mg x st ps f (Lk x x (fW st) (bT st) (aA st) .none kV doc pm an cdv ct):=
 ⟨Bw l c k,mg_of J G a,(Bw l c k).binds I⟩
structure Mth(K:Pn)(C:f_)(x qual:i_)(st:Hm)(ps:bv)(f:f_)(fd:Iq):Prop where
 fn:Fun K x qual st f fd
 mt:Meth K C x f
 bd:Binds K fd ps []
def mth_of{x:i_}{kV:m_}(a:GG K (.ref C) x=a_ (a_ (.ref f)))(i:isFn K (.ref f)=d_)(l:K.lookup f=a_ ⟨oc,od,.func (Lk x qual (fW st) (bT st) (aA st) .none kV doc pm an cdv ct),osl⟩)(c:LW K cdv qual=d_)(k:Ja K (.ref f)=d_)(I:∀(kV doc pm:m_) (an:Option f_) (cdv ct:m_) (us:ce),us.length=ps.length->K6 (Lk x qual (fW st) (bT st) (aA st) .none kV doc pm an cdv ct) ⟨us,[]⟩=Ig (ps.zip us)):
  Mth K C x qual st ps f (Lk x qual (fW st) (bT st) (aA st) .none kV doc pm an cdv ct):=
 ⟨Bw l c k,⟨a,i,k⟩,(Bw l c k).binds I⟩
structure Kls(K:Pn)(mg:Ld)(x:i_)(C:f_):Prop where
 cl:Cls K C
 mg:mg x=a_ (.ref C)
 mks:Nk K C=d_
 kp:Ja K (.ref C)=d_
 c1:GG K (.ref C) "__class__"=a_ (a_ (.builtin "object.__class__"))
 c2:Lg K (.builtin "object.__class__") "__get__"=a_ (a_ (.builtin "getset_descriptor.__get__"))
 c3:Oj K (.builtin "object.__class__")=a_ d_
 c4:HY K C (.type "object")=a_ d_
def Kls.ty{x:i_}{fs:List (i_×V)}(k:Kls K mg x C)(e:H a=a_ (.ins C dx fs)):Dz K H (.ref a) (.ref C):=.ins e k.cl k.c1 k.c2 k.c3 k.c4
def kls_of(e:K.In h)(G:h.Ns GY mg){x:i_}(a:Nj K GY x=a_ (a_ (.ref C)))(Y:LF K C Ip=d_)(hd:LV K C=d_)(J:M_ K C=d_)(I:GG K (.ref C) "__setattr__"=a_ (a_ (.builtin "object.__setattr__")))(mk:Nk K C=d_)(b:Ja K (.ref C)=d_)(c1:GG K (.ref C) "__class__"=a_ (a_ (.builtin "object.__class__")))(c2:Lg K (.builtin "object.__class__") "__get__"=a_ (a_ (.builtin "getset_descriptor.__get__")))(d:Oj K (.builtin "object.__class__")=a_ d_)(c:HY K C (.type "object")=a_ d_):Kls K mg x C:=
 ⟨⟨Y,hd,J,I⟩,mg_of e G a,mk,b,c1,c2,d,c⟩
end
def pg_c{x:i_}(Y:N'.Nodup)(hi:N'[i]?=a_ x)(I:Loc (bL X N' sc L cs s H fp).env.scope x)(J:autoParam ((bL X N' sc L cs s H fp).fn x=d_\/(bL X N' sc L cs s H fp).env.scope.names.lookup x=a_ .local) Jq3):PG (bL X N' sc L cs s H fp) (.Name x pos) (hG i):=jv Y hi I J
structure Grid(H:Hp)(a:f_)(as:List f_)(rows:List ca):Prop where
 top:H a=a_ (.lst (as.map V.ref))
 len:as.length=rows.length
 row:∀(i:Nat) (b:f_) (r:ca),as[i]?=a_ b->rows[i]?=a_ r->H b=a_ (.lst (r.map V.int))
def Grid.same(g:Grid H a as rows)(h:aS H H'):Grid H' a as rows:=
 ⟨h _ _ g.top,g.len,λi b r e1 e2=>h _ _ (g.row i b r e1 e2)⟩
theorem aS.upd{H:Hp}{a:f_}{o:HO}(h:H a=c_):aS H (upd H a o):=λb u e=>by rw[ao (aV e h)];exact e
section
variable{ds:List m_}{x m:i_}
structure Stat(K:Pn)(C:f_)(mc:m_)(m:i_)(f:f_):Prop where
 s1:Lg K (.ref C) "__getattribute__"=a_ (a_ (.builtin "type.__getattribute__"))
 s2:M9 K C mc=d_
 s3:Na K (.ref C) mc m=a_ (.val (.ref f))
 s4:Ja K (.ref f)=d_
def pe_cmeth(S:Stat X.K C mc m f)(o:Gl X x)(n:X.mg x=a_ (.ref C))(F:iZ X.prog X.w X.K X.mg X.base CX k f fd ps sp)(j:jr k X.A)(q:Binds X.K fd ps ds)(hd:Gr dvs ds)(g:Passes CX X E)(u:PA X (e::es) t)(a:((x==("__debug__":i_))=b_)⁻¹)(J: ~~~(h_ (e::es) X.env=(b_,GI e X.env)::h_ es X.env))(Y: ~~~((He pos (h_ es X.env)).any (·.1)=b_))(i: ~~~(GI (.Call (.Attribute (.Name x p) m apos) (e::es) [] pos) X.env=(do
   let b <- GI (.Name x p) X.env
   Mi apos.atName
   let (f,first) <- Mj [b] (Lf b m pl)
   LC pos f first (He pos (h_ (e::es) X.env)) (Ic pos (Hs [] X.env))))):
  PE X (.Call (.Attribute (.Name x p) m apos) (e::es) [] pos) (gG sp dvs E t):=by
 intro B' s σ H Q I h;refine Kp (pl:=pl) (lS I o n ?_ a) i;refine PySem.W.method_cls I.kIn S.s1 (PySem.W.cls_value I.kIn S.s2 S.s3 rfl ?_);refine Lw (first:=[]) (h₀:=X.base) I.ok.mod.kin S.s4 (H9 (u pos B' _ σ H _ (I.tok (s.toks+1)) h) λus v l=>?_) J Y;obtain⟨vs,H2,c,r,d⟩:=l;refine⟨c.kIn,?_⟩
 exact Ew (us:=us) (vs:=vs) F j q hd g c r d
end
def Keeps(S:f_->Prop)(H H':Hp):Prop:=∀b o,H b=a_ o->¬S b->H' b=a_ o
def Keeps.same{S:f_->Prop}(k:Keeps S H H1)(s:aS H1 H2):Keeps S H H2:=λb o e n=>s b o (k b o e n)
def Grid.keeps{S:f_->Prop}(g:Grid H a as rows)(k:Keeps S H H')(h1:¬S a)(h2:∀x∈as,¬S x):Grid H' a as rows:=
 ⟨k _ _ g.top h1,g.len,λi b r e1 e2=>k _ _ (g.row i b r e1 e2) (h2 b (GX e1))⟩
section
variable{a:HG}
def Ee(r r' I:R2)(ta tb tc td:TE):TE:=λσ H Q=>ta σ H λx H1=>tb σ H1 λy H2=>r x y H2 λz a=>∃k,z=.bl k /\
 (if k=d_ then tc σ a λJ e=>r' y J e λb Y=>∃k',b=.bl k'/\(if k'=d_ then td σ Y λc d=>I J c d Q else Q (.bl b_) Y)else Q (.bl b_) a)
def aS.tup{a:f_}{xs:b'}(e:aS H H')(h:SqT K H a xs):SqT K H' a xs:=by
 rcases h with(h|⟨o,h⟩)|h
 .exact .inl (.inl (e _ _ h))
 .exact .inl (.inr ⟨o,e _ _ h⟩)
 .exact .inr h
end
def iB{xs:b'}(h:H a=a_ (.lst xs)):tyV K "list" (.ref a) H:=.inl ⟨rfl,_,SqL.of h⟩
set_option genSizeOf true in
set_option genInjectivity true in
inductive A' where
 |non|bl (b:Bool)|int (i:Int)|str (x:i_)|tup (ds:List A')|lst (ds:List A')|ins (C:f_) (fs:List (i_×A'))|dic (ks:List (List Int×A'))|dil (ks:List (Int×List (List Int)))
variable{S d' S':A'}{r:Bool×List A'}{ds' ws:List A'}{ks:List (List Int×A')}
noncomputable abbrev oU:=ca×f_×V
noncomputable def tHash(ks:ca):Int:=N1 (Jh (ks.map hashInt))
def rowE(x:ca×f_×m_):OJ:=⟨tHash x.1,.ref x.2.1,x.2.2⟩
def oS(p:oU)(q:ca×f_×m_):Prop:=p.1=q.1/\p.2.1=q.2.1/\Gq p.2.2 q.2.2
def qj(h:Hq)(a:f_)(xs:List oU)(ep:Nat):Prop:=∃vs:List (ca×f_×m_),JT oS xs vs/\(a==Jn)=b_/\xs.length<=j_/\(vs.map (·.1)).Nodup/\∃o es,h.get? a=a_ o/\o.ExactDict/\o.data=.dict es ep/\es.toList=vs.map rowE
def zb(a:f_)(xs:List oU)(ep:Nat):HO:=.ext λh=>qj h a xs ep
noncomputable abbrev LK:=Int×List ca
def lHash(k:LK):Int:=N1 (Jh [hashInt k.1,N1 (Jh (k.2.map tHash))])
def rowL(x:LK×f_):OJ:=⟨lHash x.1,.ref x.2,.bool d_⟩
def DilOk(h:Hq)(a:f_)(xs:List (LK×f_))(ep:Nat):Prop:=(a==Jn)=b_/\xs.length<=j_/\(xs.map (·.1)).Nodup/\∃o es,h.get? a=a_ o/\o.ExactDict/\o.data=.dict es ep/\es.toList=xs.map rowL
def DilO(a:f_)(xs:List (LK×f_))(ep:Nat):HO:=.ext λh=>DilOk h a xs ep
def LabAt(K:Pn)(F:Hp)(b:f_)(k:LK):Prop:=∃(r:f_) (bs:List f_),SqT K F b [V.int k.1,V.ref r]/\SqT K F r (bs.map V.ref)/\bs.length=k.2.length/\∀(j:Nat) (I:ca) (c:f_),k.2[j]?=a_ I->bs[j]?=a_ c->SqT K F c (I.map V.int)
def DB(K:Pn)(F:Hp)(ks:List LK)(xs:List (LK×f_)):Prop:=xs.map (·.1)=ks/\∀x∈xs,LabAt K F x.2 x.1
mutual
noncomputable def aR(K:Pn)(F:Hp):A'->V->Prop
 |.non,v=>v=.non|.bl b,v=>v=.bl b|.int i,v=>v=.int i|.str x,v=>v=.str x|.tup ds,v=>∃a xs,v=.ref a/\SqT K F a xs/\az K F ds xs
 |.lst ds,v=>∃a xs,v=.ref a/\SqL K F a xs/\az K F ds xs
 |.ins C I,v=>∃a dx fs,v=.ref a/\F a=a_ (.ins C dx fs)/\jI K F I fs
 |.dic ks,v=>∃a xs,v=.ref a/\(∃ep,F a=a_ (zb a xs ep))/\dU K F ks xs
 |.dil ks,v=>∃a xs,v=.ref a/\(∃ep,F a=a_ (DilO a xs ep))/\DB K F ks xs
noncomputable def az(K:Pn)(F:Hp):List A'->b'->Prop
 |[],xs=>xs=[]|d::ds,xs=>∃v vs,xs=v::vs/\aR K F d v/\az K F ds vs
noncomputable def jI(K:Pn)(F:Hp):List (i_×A')->List (i_×V)->Prop
 |[],fs=>fs=[]|(f,d)::I,fs=>∃v r,fs=(f,v)::r/\aR K F d v/\jI K F I r
noncomputable def dU(K:Pn)(F:Hp):List (ca×A')->List oU->Prop
 |[],xs=>xs=[]|(k,d)::ks,xs=>∃b v r,xs=(k,b,v)::r/\SqT K F b (k.map .int)/\aR K F d v/\dU K F ks r
end
mutual
noncomputable def bS:A'->Bool
 |.tup ds=>j9 ds|.lst _=>b_|.ins _ _=>b_|.dic _=>b_|.dil _=>b_|_=>d_
noncomputable def j9:List A'->Bool
 |[]=>d_|d::ds=>bS d&&j9 ds
end
def aS.lst{xs:b'}(e:aS H H')(h:SqL K H a xs):SqL K H' a xs:=by
 rcases h with(h|⟨o,h⟩)|h
 .exact .inl (.inl (e _ _ h))
 .exact .inl (.inr ⟨o,e _ _ h⟩)
 .exact .inr h
def LabAt.mono(s:aS F F'){k:LK}(h:LabAt K F b k):LabAt K F' b k:=
 let ⟨r,bs,t1,t2,l,J⟩:=h;⟨r,bs,s.tup t1,s.tup t2,l,λj I c e1 e2=>s.tup (J j I c e1 e2)⟩
theorem DB.mono{K:Pn}{F F':Hp}(s:aS F F'){ks:List LK}{xs:List (LK×f_)}(h:DB K F ks xs):DB K F' ks xs:=⟨h.1,λx I=>(h.2 x I).mono s⟩
mutual
theorem aR.mono{K:Pn}{F F':Hp}(s:aS F F'):∀{d:A'} {v:V},aR K F d v->aR K F' d v
 |.non,_,h=>h|.bl _,_,h=>h|.int _,_,h=>h|.str _,_,h=>h|.tup _,_,⟨a,xs,e,q,r⟩=>⟨a,xs,e,s.tup q,az.mono s r⟩|.lst _,_,⟨a,xs,e,q,r⟩=>⟨a,xs,e,s.lst q,az.mono s r⟩|.ins _ _,_,⟨a,dx,fs,e,q,r⟩=>⟨a,dx,fs,e,s _ _ q,jI.mono s r⟩|.dic _,_,⟨a,xs,e,⟨ep,q⟩,r⟩=>⟨a,xs,e,⟨ep,s _ _ q⟩,dU.mono s r⟩|.dil _,_,⟨a,xs,e,⟨ep,q⟩,r⟩=>⟨a,xs,e,⟨ep,s _ _ q⟩,DB.mono s r⟩
theorem az.mono{K:Pn}{F F':Hp}(s:aS F F'):∀{ds:List A'} {xs:b'},az K F ds xs->az K F' ds xs
 |[],_,h=>h|_::_,_,⟨v,vs,e,q,r⟩=>⟨v,vs,e,aR.mono s q,az.mono s r⟩
theorem jI.mono{K:Pn}{F F':Hp}(s:aS F F'):∀{I:List (i_×A')} {fs:List (i_×V)},jI K F I fs->jI K F' I fs
 |[],_,h=>h|(_,_)::_,_,⟨v,r,e,q,t⟩=>⟨v,r,e,aR.mono s q,jI.mono s t⟩
theorem dU.mono{K:Pn}{F F':Hp}(s:aS F F'):∀{ks:List (ca×A')} {xs:List oU},dU K F ks xs->dU K F' ks xs
 |[],_,h=>h|(_,_)::_,_,⟨b,v,r,e,t,q,z⟩=>⟨b,v,r,e,s.tup t,aR.mono s q,dU.mono s z⟩
end
mutual
theorem aR.flat{K:Pn}{F F':Hp}(s:∀a xs,SqT K F a xs->SqT K F' a xs):∀{d:A'} {v:V},bS d=d_->aR K F d v->aR K F' d v
 |.non,_,_,h=>h|.bl _,_,_,h=>h|.int _,_,_,h=>h|.str _,_,_,h=>h|.tup ds,_,f,⟨a,xs,e,q,r⟩=>⟨a,xs,e,s _ _ q,az.flat s (by simpa[bS] using f) r⟩|.lst _,_,f,_=>by simp_all[bS]|.ins _ _,_,f,_=>by simp_all[bS]|.dic _,_,f,_=>by simp_all[bS]|.dil _,_,f,_=>by simp_all[bS]
theorem az.flat{K:Pn}{F F':Hp}(s:∀a xs,SqT K F a xs->SqT K F' a xs):∀{ds:List A'} {xs:b'},j9 ds=d_->az K F ds xs->az K F' ds xs
 |[],_,_,h=>h|d::ds,_,f,⟨v,vs,e,q,r⟩=>by simp only[j9,l_]at f;exact⟨v,vs,e,aR.flat s f.1 q,az.flat s f.2 r⟩
end
theorem az.length{K:Pn}{F:Hp}:∀{ds:List A'} {xs:b'},az K F ds xs->xs.length=ds.length
 |[],_,h=>by rw[show _=[]from h];rfl|_::_,_,⟨_,_,e,_,r⟩=>by rw[e,Gy,Gy,az.length r]
theorem az.get{K:Pn}{F:Hp}:∀{ds:List A'} {xs:b'} {i:Nat} {d:A'},az K F ds xs->ds[i]?=a_ d->∃v,xs[i]?=a_ v/\aR K F d v
 |[],_,_,_,_,e=>by simp at e|_::_,_,0,_,⟨v,vs,e,q,_⟩,h=>by simp only[List.getElem?_cons_zero,L9]at h;subst h e;exact⟨v,rfl,q⟩|_::_,_,i+1,_,⟨v,vs,e,_,r⟩,h=>by subst e;simp only[Jw]at h ⊢;exact az.get r h
theorem az.at{K:Pn}{F:Hp}{ds:List A'}{xs:b'}{i:Nat}{v:V}(r:az K F ds xs)(h:xs[i]?=a_ v):∃d,ds[i]?=a_ d/\aR K F d v:=by
 have hi:i<ds.length:=by rw[<- r.length];exact(A_.mp h).1
 obtain⟨w,e,q⟩:=r.get (i:=i) (d:=ds[i]) a8;simp_all
def az.cons{d:A'}{ds:List A'}{xs:b'}(q:aR K F d v)(r:az K F ds xs):az K F (d::ds) (v::xs):=⟨v,xs,rfl,q,r⟩
theorem az.append{K:Pn}{F:Hp}:∀{ds es:List A'} {xs ys:b'},az K F ds xs->az K F es ys->az K F (ds++es) (xs++ys)
 |[],_,_,_,h,r=>by rw[show _=[]from h];exact r|_::_,_,_,_,⟨v,vs,e,q,t⟩,r=>by subst e;exact⟨v,_,rfl,q,az.append t r⟩
theorem az.take{K:Pn}{F:Hp}:∀{ds:List A'} {xs:b'} (n:Nat),az K F ds xs->az K F (ds.take n) (xs.take n)
 |_,_,0,_=>rfl|[],_,_+1,h=>by rw[show _=[]from h];rfl|_::_,_,n+1,⟨v,vs,e,q,r⟩=>by subst e;exact⟨v,_,rfl,q,az.take n r⟩
theorem az.drop{K:Pn}{F:Hp}:∀{ds:List A'} {xs:b'} (n:Nat),az K F ds xs->az K F (ds.drop n) (xs.drop n)
 |_,_,0,h=>h|[],_,_+1,h=>by rw[show _=[]from h];rfl|_::_,_,n+1,⟨v,vs,e,q,r⟩=>by subst e;exact az.drop n r
theorem az.eraseIdx{K:Pn}{F:Hp}:∀{ds:List A'} {xs:b'} (n:Nat),az K F ds xs->az K F (ds.eraseIdx n) (xs.eraseIdx n)
 |[],_,_,h=>by rw[show _=[]from h];rfl|_::_,_,0,⟨w,vs,e,_,r⟩=>by subst e;exact r|_::_,_,n+1,⟨w,vs,e,p,r⟩=>by subst e;exact⟨w,_,rfl,p,az.eraseIdx n r⟩
structure C6(F H F' H':Hp):Prop where
 ff:aS F F'
 hh:aS H H'
 fh:aS F' H'
 nw:∀b o,F' b=a_ o->F b=a_ o\/H b=c_
theorem C6.refl{F H:Hp}(s:aS F H):C6 F H F H:=⟨aS.refl _,aS.refl _,s,λ_ _ h=>.inl h⟩
theorem C6.trans{F H F1 H1 F2 H2:Hp}(a:C6 F H F1 H1)(b:C6 F1 H1 F2 H2):C6 F H F2 H2:=
 ⟨a.ff.trans b.ff,a.hh.trans b.hh,b.fh,λx o h=>(b.nw x o h).elim (λz=>a.nw x o z) λz=>.inr (a.hh.free z)⟩
theorem C6.lay{p:f_}(s:aS F H)(I:H p=c_):C6 F H (upd F p o) (upd H p o):=
 ⟨aS.upd (s.free I),aS.upd I,λb u h=>by
  by_cases e:b=p
  .simp_all[aj]
  .rw[ao e]at h ⊢;exact s b u h,λb u h=>by
  by_cases e:b=p
  .subst e;exact .inr I
  .rw[ao e]at h;exact .inl h⟩
def C6.grow{p:f_}(s:aS F H)(I:H p=c_):C6 F H F (upd H p o):=
 ⟨aS.refl _,aS.upd I,s.trans (aS.upd I),λ_ _ h=>.inl h⟩
def C6.same(s:aS F H)(h:aS H H'):C6 F H F H':=⟨aS.refl _,h,s.trans h,λ_ _ z=>.inl z⟩
def nO(K:Pn)(F H0 H:Hp):A'->V->Prop
 |.lst ds,v=>∃a xs,v=.ref a/\H a=a_ (.lst xs)/\F a=c_/\H0 a=c_/\az K F ds xs
 |.dic ks,v=>∃a xs,v=.ref a/\(∃ep,H a=a_ (zb a xs ep))/\F a=c_/\H0 a=c_/\dU K F ks xs
 |.dil ks,v=>∃a xs,v=.ref a/\(∃ep,H a=a_ (DilO a xs ep))/\F a=c_/\H0 a=c_/\DB K F ks xs
 |d,v=>aR K F d v
noncomputable def isO:A'->Bool
 |.lst _=>d_|.dic _=>d_|.dil _=>d_|_=>b_
noncomputable def isMu:HO->Bool
 |.lst _=>d_|.ext _=>d_|_=>b_
def nO.non{d:A'}(hd:isO d=b_):nO K F H0 H d v=aR K F d v:=by cases d<;>first|rfl|cases hd
def nO.top{d:A'}(hd:isO d=d_)(q:nO K F H0 H d v):∃a o,v=.ref a/\H a=a_ o/\isMu o=d_/\F a=c_/\H0 a=c_:=by
 cases d with
 |lst ds=>obtain⟨a,xs,e,p,f,z,_⟩:=q;exact⟨a,_,e,p,rfl,f,z⟩
 |dic ks=>obtain⟨a,xs,e,⟨ep,p⟩,f,z,_⟩:=q;exact⟨a,_,e,p,rfl,f,z⟩
 |dil ks=>obtain⟨a,xs,e,⟨ep,p⟩,f,z,_⟩:=q;exact⟨a,_,e,p,rfl,f,z⟩
 |_=>cases hd
def nO.re{d:A'}(hd:isO d=d_)(q:nO K F H0 H d (.ref a))(I:aS F F')(fa:F' a=c_)(hh:∀o,H a=a_ o->H' a=a_ o):nO K F' H0 H' d (.ref a):=by
 cases d with
 |lst ds=>obtain⟨b,xs,e,p,f,z,r⟩:=q;cases e;exact⟨a,xs,rfl,hh _ p,fa,z,r.mono I⟩
 |dic ks=>obtain⟨b,xs,e,⟨ep,p⟩,f,z,r⟩:=q;cases e;exact⟨a,xs,rfl,⟨ep,hh _ p⟩,fa,z,r.mono I⟩
 |dil ks=>obtain⟨b,xs,e,⟨ep,p⟩,f,z,r⟩:=q;cases e;exact⟨a,xs,rfl,⟨ep,hh _ p⟩,fa,z,r.mono I⟩
 |_=>cases hd
def nO.give{d:A'}(hd:isO d=d_)(q:nO K F H0 H d (.ref a))(I:aS F F')(fa:F' a=H a):aR K F' d (.ref a):=by
 cases d with
 |lst ds=>obtain⟨b,xs,e,p,f,z,r⟩:=q;cases e;exact⟨a,xs,rfl,SqL.of (fa.trans p),r.mono I⟩
 |dic ks=>obtain⟨b,xs,e,⟨ep,p⟩,f,z,r⟩:=q;cases e;exact⟨a,xs,rfl,⟨ep,fa.trans p⟩,r.mono I⟩
 |dil ks=>obtain⟨b,xs,e,⟨ep,p⟩,f,z,r⟩:=q;cases e;exact⟨a,xs,rfl,⟨ep,fa.trans p⟩,r.mono I⟩
 |_=>cases hd
def Val(K:Pn)(own:Bool)(F H0 H:Hp)(d:A')(v:V):Prop:=if own=d_ then nO K F H0 H d v else aR K F d v
def nO.back{d:A'}(s:aS H0 H1)(h:nO K F H1 H d v):nO K F H0 H d v:=by
 cases d with
 |lst ds=>obtain⟨a,xs,e,p,q,z,r⟩:=h;exact⟨a,xs,e,p,q,s.free z,r⟩
 |dic ks=>obtain⟨a,xs,e,p,q,z,r⟩:=h;exact⟨a,xs,e,p,q,s.free z,r⟩
 |dil ks=>obtain⟨a,xs,e,p,q,z,r⟩:=h;exact⟨a,xs,e,p,q,s.free z,r⟩
 |_=>exact h
theorem Val.back{K:Pn}{own:Bool}{F H0 H1 H:Hp}{d:A'}{v:V}(s:aS H0 H1)(h:Val K own F H1 H d v):Val K own F H0 H d v:=by
 cases own with
 |true=>exact nO.back s h|false=>exact h
theorem nO.freeze{d:A'}(s:aS F H)(h:nO K F H0 H d v):∃F',aS F F'/\aS F' H/\(∀b o,F' b=a_ o->F b=a_ o\/H0 b=c_)/\aR K F' d v:=by
 cases hd:isO d with
 |true=>
  obtain⟨a,u,e,p,_,q,z⟩:=h.top hd;subst e;refine⟨upd F a u,aS.upd q,λb o h=>?_,λb o h=>?_,h.give hd (aS.upd q) (by rw[aj,p])⟩
  .by_cases e:b=a
   .simp_all[aj]
   .rw[ao e]at h;exact s b o h
  .by_cases e:b=a
   .subst e;exact .inr z
   .rw[ao e]at h;exact .inl h
 |false=>rw[nO.non hd]at h;exact⟨F,aS.refl _,s,λ_ _ z=>.inl z,h⟩
inductive Err where
 |stuck|exc (C:f_) (fs:List (i_×A'))
noncomputable abbrev M:=Except Err
variable{g g' g'':A'->A'->M A'}{mk mf ms mw gR:List A'->M A'}{mr:List A'->List A'->M (Bool×List A')}{sy:A'->Int->A'->M (A'×Int)}
noncomputable abbrev ah:=List (Option A')
variable{ρ ρ':ah}{fa fb fc fe fo fk fx f3 f4 f5 fS fT:ah->M A'}{ft fu t1 t2 c7 c1 c2:ah->M Bool}{fi:ah->M (List A')}{fl:ah->M (Option Int)}
structure gf where
 p:Err->Hp->Hp->Prop
 mono:∀{e:Err} {F H F' H':Hp},p e F H->C6 F H F' H'->p e F' H'
 ns:∀{F H:Hp},p .stuck F H->False
noncomputable def Hh:gf:=⟨λ_ _ _=>False,λh _=>h,λh=>h⟩
def aH(K:Pn)(W:gf)(own:Bool)(F H:Hp)(r:M A')(Q:VK):Prop:=match r with
 |.ok d=>∀v F' H',C6 F H F' H'->Val K own F' H H' d v->Q v H'|.error e=>W.p e F H
def aH.step{W:gf}{own:Bool}{r:M A'}(p:aH K W own F H r Q)(s:C6 F H F1 H1):aH K W own F1 H1 r Q:=by
 cases r with
 |ok d=>exact λv F' H' t q=>p v F' H' (s.trans t) (q.back s.hh)|error e=>exact W.mono p s
def aH.frz{W:gf}{r:M A'}(p:aH K W b_ F H r Q):aH K W d_ F H r Q:=by
 cases r with
 |ok d=>intro v F' H' t q;obtain⟨F2,J,I,n,z⟩:=nO.freeze t.fh q;exact p v F2 H' ⟨t.ff.trans J,t.hh,I,λb o h=>(n b o h).elim (λz=>t.nw b o z) .inr⟩ z
 |error e=>exact p
structure hR(K:Pn)(F:Hp)(σ:St)(ρ:ah):Prop where
 len:ρ.length=σ.length
 sl:∀(i:Nat) (d:A'),ρ[i]?=a_ (a_ d)->∃v,σ[i]?=a_ (a_ v)/\aR K F d v
theorem hR.mono{K:Pn}{F F':Hp}{σ:St}{ρ:ah}(r:hR K F σ ρ)(s:aS F F'):hR K F' σ ρ:=
 ⟨r.len,λi d e=>let ⟨v,h,q⟩:=r.sl i d e;⟨v,h,q.mono s⟩⟩
theorem hR.set{K:Pn}{F:Hp}{σ:St}{ρ:ah}{d:A'}{v:V}(r:hR K F σ ρ)(q:aR K F d v)(i:Nat):hR K F (σ.set i (a_ v)) (ρ.set i (a_ d)):=
 ⟨by rw[GB,GB,r.len],λj e h=>by
  by_cases I:i=j
  .subst I;have hi:i<ρ.length:=by
    have:=(A_.mp h).1;simpa using this
   rw[x_ hi]at h;cases h;exact⟨v,by rw[x_ (by rw[<- r.len];exact hi)],q⟩
  .rw[p_ I]at h;obtain⟨w,h1,h2⟩:=r.sl j e h;simp_all⟩
def tD(K:Pn)(W:gf)(own:Bool)(f:ah->M A'):TE:=λσ H Q=>∃F ρ,hR K F σ ρ/\aS F H/\aH K W own F H (f ρ) Q
def ba{W:gf}{own:Bool}{f:ah->M A'}{R:VK}(r:hR K F σ ρ)(s:aS F H)(J:∀e,f ρ=.error e->W.p e F H)(I:∀d,f ρ=.ok d->∀v F1 H1,C6 F H F1 H1->Val K own F1 H H1 d v->R v H1):tD K W own f σ H R:=by
 refine⟨F,ρ,r,s,?_⟩
 cases e:f ρ with
 |ok d=>exact I d e|error x=>exact J x e
def tDT(K:Pn)(W:gf)(f:ah->M Bool):TT:=λσ H Q=>∃F ρ,hR K F σ ρ/\aS F H/\(match f ρ with
 |.ok b=>∀F' H',C6 F H F' H'->Q b H'|.error e=>W.p e F H)
def iV{W:gf}{f:ah->M Bool}(r:hR K F σ ρ)(s:aS F H)(J:∀e,f ρ=.error e->W.p e F H)(I:∀b,f ρ=.ok b->∀F1 H1,C6 F H F1 H1->R b H1):tDT K W f σ H R:=by
 refine⟨F,ρ,r,s,?_⟩
 cases e:f ρ with
 |ok d=>exact I d e|error x=>exact J x e
def tDA(K:Pn)(W:gf)(f:ah->M (List A')):TA:=λσ H Q=>∃F ρ,hR K F σ ρ/\aS F H/\(match f ρ with
 |.ok ds=>∀vs F' H',C6 F H F' H'->az K F' ds vs->Q vs H'|.error e=>W.p e F H)
def rO{W:gf}{f:ah->M (List A')}{R:b'->Hp->Prop}(r:hR K F σ ρ)(s:aS F H)(J:∀e,f ρ=.error e->W.p e F H)(I:∀ds,f ρ=.ok ds->∀vs F1 H1,C6 F H F1 H1->az K F1 ds vs->R vs H1):tDA K W f σ H R:=by
 refine⟨F,ρ,r,s,?_⟩
 cases e:f ρ with
 |ok d=>exact I d e|error x=>exact J x e
def ae(i:Nat):ah->M A':=λρ=>match ρ[i]? with
 |some (a_ d)=>.ok d|_=>.error .stuck
def fC(d:A'):ah->M A':=λ_=>.ok d
noncomputable def f1(g:A'->M A')(fa:ah->M A'):ah->M A':=λρ=>(fa ρ).bind g
noncomputable def f2(g:A'->A'->M A')(fa fb:ah->M A'):ah->M A':=λρ=>(fa ρ).bind λa=>(fb ρ).bind λb=>g a b
noncomputable def aB:ah->M (List A'):=λ_=>.ok []
noncomputable def a9(fa:ah->M A')(fr:ah->M (List A')):ah->M (List A'):=λρ=>(fa ρ).bind λa=>(fr ρ).bind λr=>.ok (a::r)
noncomputable def fL(g:List A'->M A')(fr:ah->M (List A')):ah->M A':=λρ=>(fr ρ).bind g
def iO(ds:List A'):M A':=if ds.length<=j_ then .ok (.tup ds)else .error .stuck
def eh(ds:List A'):M A':=if ds.length<=j_ then .ok (.lst ds)else .error .stuck
noncomputable def DM(ft:ah->M Bool)(fa fb:ah->M A'):ah->M A':=λρ=>(ft ρ).bind λb=>if b=d_ then fa ρ else fb ρ
noncomputable def zg(ft fu:ah->M Bool):ah->M Bool:=λρ=>(ft ρ).bind λb=>if b=d_ then fu ρ else .ok b_
noncomputable def fOr(ft fu:ah->M Bool):ah->M Bool:=λρ=>(ft ρ).bind λb=>if b=d_ then .ok d_ else fu ρ
noncomputable def DL(ft:ah->M Bool):ah->M Bool:=λρ=>(ft ρ).bind λb=>.ok (!b)
noncomputable def asB:A'->M Bool
 |.bl b=>.ok b|_=>.error .stuck
def fB(fa:ah->M A'):ah->M Bool:=λρ=>(fa ρ).bind asB
def mE(fa fb:ah->M A'):ah->M A':=λρ=>(fa ρ).bind λa=>(asB a).bind λb=>if b=d_ then fb ρ else .ok (.bl b_)
def D7(fa fb:ah->M A'):ah->M A':=λρ=>(fa ρ).bind λa=>(asB a).bind λb=>if b=d_ then .ok (.bl d_)else fb ρ
def truD:A'->M Bool
 |.non=>.ok b_|.bl b=>.ok b|.int i=>.ok (i != 0)|.str x=>if x.length<=j_ then .ok ((x.length:Int) != 0)else .error .stuck
 |.tup ds=>.ok (!ds.isEmpty)|.lst ds=>.ok (!ds.isEmpty)|_=>.error .stuck
def qF(fa:ah->M A'):ah->M Bool:=λρ=>(fa ρ).bind truD
def ki(g g':A'->A'->M A')(fa fb fc:ah->M A'):ah->M A':=λρ=>(fa ρ).bind λa=>(fb ρ).bind λb=>(g a b).bind λx=>(asB x).bind λk=>if k=d_ then(fc ρ).bind λc=>g' b c else .ok (.bl b_)
def rD2(K:Pn)(W:gf)(own:Bool)(g:A'->A'->M A'):R2:=λx y H Q=>∃F a b,aS F H/\aR K F a x/\aR K F b y/\aH K W own F H (g a b) Q
def rD1(K:Pn)(W:gf)(own:Bool)(g:A'->M A'):V->Hp->VK->Prop:=λx H Q=>∃F a,aS F H/\aR K F a x/\aH K W own F H (g a) Q
def rDL(K:Pn)(W:gf)(own:Bool)(g:List A'->M A'):b'->Hp->VK->Prop:=λxs H Q=>∃F ds,aS F H/\az K F ds xs/\aH K W own F H (g ds) Q
section
variable{W:gf}{own:Bool}
def rd_var(h:tD K W b_ (ae i) σ H Q):bB i σ H Q:=by
 obtain⟨F,ρ,r,s,p⟩:=h;unfold ae at p
 match e:ρ[i]? with
 |some (a_ d)=>rw[e]at p;obtain⟨v,e1,q⟩:=r.sl i d e;exact⟨v,e1,p v F H (C6.refl s) q⟩
 |some c_=>rw[e]at p;exact(W.ns p).elim|none=>rw[e]at p;exact(W.ns p).elim
def rd_c{d:A'}(hd:∀F,aR K F d v)(h:tD K W b_ (fC d) σ H Q):tC v σ H Q:=by obtain⟨F,ρ,r,s,p⟩:=h;exact p v F H (C6.refl s) (hd F)
def aH.err{x:M A'}{e:Err}(p:aH K W own F H x Q)(h:x=.error e):W.p e F H:=by rw[h]at p;exact p
def rd_1{g:A'->M A'}(h:tD K W own (f1 g fa) σ H Q):tUn (rD1 K W own g) (tD K W b_ fa) σ H Q:=by
 obtain⟨F,ρ,r,s,p⟩:=h;refine ba r s (λe Y=>p.err (by unfold f1;rw[Y];rfl)) λa b x F1 H1 I J=>?_;refine⟨F1,a,I.fh,J,?_⟩
 have e:f1 g fa ρ=g a:=by unfold f1;rw[b];rfl
 rw[e]at p;exact p.step I
def rd_2(h:tD K W own (f2 g fa fb) σ H Q):tOp (rD2 K W own g) (tD K W b_ fa) (tD K W b_ fb) σ H Q:=by
 obtain⟨F,ρ,r,s,p⟩:=h;refine ba r s (λe Y=>p.err (by unfold f2;rw[Y];rfl)) λa c x F1 H1 I f=>?_;refine ba (r.mono I.ff) I.fh (λe Y=>(p.step I).err (by unfold f2;rw[c];show(fb ρ).bind _=_;rw[Y];rfl)) λb i y F2 H2 J d=>?_;refine⟨F2,a,b,J.fh,aR.mono J.ff f,d,?_⟩
 have e:f2 g fa fb ρ=g a b:=by unfold f2;rw[c];show(fb ρ).bind _=_;rw[i];rfl
 rw[e]at p;exact p.step (I.trans J)
def rd_nil{R:b'->Hp->Prop}(h:tDA K W aB σ H R):fw σ H R:=by obtain⟨F,ρ,r,s,p⟩:=h;exact p [] F H (C6.refl s) rfl
theorem rd_cons{fr:ah->M (List A')}{R:b'->Hp->Prop}(h:tDA K W (a9 fa fr) σ H R):aP (tD K W b_ fa) (tDA K W fr) σ H R:=by
 obtain⟨F,ρ,r,s,p⟩:=h;refine ba r s (λe J=>?_) λa b x F1 H1 I d=>rO (r.mono I.ff) I.fh (λe J=>?_) λds hd xs F2 H2 Y c=>?_
 .have z:a9 fa fr ρ=.error e:=by unfold a9;rw[J];rfl
  simp_all
 .have z:a9 fa fr ρ=.error e:=by unfold a9;rw[b];show(fr ρ).bind _=_;rw[J];rfl
  rw[z]at p;exact W.mono p I
 .have z:a9 fa fr ρ=.ok (a::ds):=by unfold a9;rw[b];show(fr ρ).bind _=_;rw[hd];rfl
  rw[z]at p;exact p (x::xs) F2 H2 (I.trans Y) ⟨x,xs,rfl,aR.mono Y.ff d,c⟩
def rd_L{g:List A'->M A'}{fr:ah->M (List A')}(h:tD K W own (fL g fr) σ H Q):tDA K W fr σ H λxs H1=>rDL K W own g xs H1 Q:=by
 obtain⟨F,ρ,r,s,p⟩:=h;refine rO r s (λe Y=>p.err (by unfold fL;rw[Y];rfl)) λds hd xs F1 H1 I J=>⟨F1,ds,I.fh,J,?_⟩
 have e:fL g fr ρ=g ds:=by unfold fL;rw[hd];rfl
 rw[e]at p;exact p.step I
theorem rd_tup{fr:ah->M (List A')}(h:tD K W own (fL iO fr) σ H Q):tTup (tDA K W fr) σ H Q:=by
 obtain⟨F,ρ,r,s,p⟩:=rd_L h;refine⟨F,ρ,r,s,?_⟩
 cases e:fr ρ with
 |error x=>simp_all|ok ds=>
  rw[e]at p;intro vs F' H' t q;obtain⟨F1,es,J,Y,z⟩:=p vs F' H' t q;unfold iO at z;by_cases I:es.length<=j_
  .rw[g_ I]at z;refine⟨by rw[Y.length];exact I,λa b=>z (.ref a) _ _ (C6.lay J b) ?_⟩
   have:aR K (upd F1 a (.tup vs)) (.tup es) (.ref a):=⟨a,vs,rfl,SqT.of aj,Y.mono (aS.upd (J.free b))⟩
   cases own with
   |true=>exact this|false=>exact this
  .rw[k_ I]at z;exact(W.ns z).elim
theorem rd_lst{fr:ah->M (List A')}(h:tD K W d_ (fL eh fr) σ H Q):tLst (tDA K W fr) σ H Q:=by
 obtain⟨F,ρ,r,s,p⟩:=rd_L h;refine⟨F,ρ,r,s,?_⟩
 cases e:fr ρ with
 |error x=>simp_all|ok ds=>
  rw[e]at p;intro vs F' H' t q;obtain⟨F1,es,Y,b,z⟩:=p vs F' H' t q;unfold eh at z;by_cases I:es.length<=j_
  .rw[g_ I]at z;exact⟨by rw[b.length];exact I,λa J=>z (.ref a) F1 _ (C6.grow Y J) ⟨a,vs,rfl,aj,Y.free J,J,b⟩⟩
  .rw[k_ I]at z;exact(W.ns z).elim
def rd_ite(h:tD K W own (DM ft fa fb) σ H Q):tIf (tDT K W ft) (tD K W own fa) (tD K W own fb) σ H Q:=by
 obtain⟨F,ρ,r,s,p⟩:=h;refine iV r s (λe J=>p.err (by unfold DM;rw[J];rfl)) λb Y F1 H1 I=>?_;have e:DM ft fa fb ρ=if b=d_ then fa ρ else fb ρ:=by unfold DM;rw[Y];rfl
 rw[e]at p;cases b with
 |true=>exact⟨F1,ρ,r.mono I.ff,I.fh,p.step I⟩|false=>exact⟨F1,ρ,r.mono I.ff,I.fh,p.step I⟩
theorem AU{f:ah->M Bool}(r:hR K F σ ρ)(I:C6 F H F1 H1)(p:match f ρ with
 |.ok b=>∀F' H',C6 F H F' H'->R b H'|.error e=>W.p e F H):tDT K W f σ H1 R:=by
 refine⟨F1,ρ,r.mono I.ff,I.fh,?_⟩
 cases e:f ρ with
 |ok b=>rw[e]at p;exact λF' H' t=>p F' H' (I.trans t)|error x=>rw[e]at p;exact W.mono p I
theorem rd_and(h:tDT K W (zg ft fu) σ H R):tAnd (tDT K W ft) (tDT K W fu) σ H R:=by
 obtain⟨F,ρ,r,s,p⟩:=h;refine iV r s (λe J=>?_) λb Y F1 H1 I=>?_
 .have z:zg ft fu ρ=.error e:=by unfold zg;rw[J];rfl
  simp_all
 .have z:zg ft fu ρ=if b=d_ then fu ρ else .ok b_:=by unfold zg;rw[Y];rfl
  rw[z]at p;cases b with
  |true=>exact AU r I p|false=>exact p F1 H1 I
theorem rd_or(h:tDT K W (fOr ft fu) σ H R):tOr (tDT K W ft) (tDT K W fu) σ H R:=by
 obtain⟨F,ρ,r,s,p⟩:=h;refine iV r s (λe J=>?_) λb Y F1 H1 I=>?_
 .have z:fOr ft fu ρ=.error e:=by unfold fOr;rw[J];rfl
  simp_all
 .have z:fOr ft fu ρ=if b=d_ then .ok d_ else fu ρ:=by unfold fOr;rw[Y];rfl
  rw[z]at p;cases b with
  |false=>exact AU r I p|true=>exact p F1 H1 I
theorem rd_not(h:tDT K W (DL ft) σ H R):tNot (tDT K W ft) σ H R:=by
 obtain⟨F,ρ,r,s,p⟩:=h;refine iV r s (λe J=>?_) λb Y F1 H1 I=>?_
 .have z:DL ft ρ=.error e:=by unfold DL;rw[J];rfl
  simp_all
 .have z:DL ft ρ=.ok (!b):=by unfold DL;rw[Y];rfl
  rw[z]at p;exact p F1 H1 I
theorem rd_B(h:tDT K W (fB fa) σ H R):BZ (tD K W b_ fa) σ H R:=by
 obtain⟨F,ρ,r,s,p⟩:=h;refine ba r s (λe Y=>?_) λa c x F1 H1 I J=>?_
 .have z:fB fa ρ=.error e:=by unfold fB;rw[Y];rfl
  simp_all
 .have z:fB fa ρ=asB a:=by unfold fB;rw[c];rfl
  rw[z]at p;cases a with
  |bl b=>exact⟨b,J,p F1 H1 I⟩|_=>exact(W.ns p).elim
theorem tru_of{a:A'}{x:V}{b:Bool}(s:aS F H1)(q:aR K F a x)(h:truD a=.ok b):TruV K x H1 b:=by
 cases a with
 |non=>rw[show x=.non from q];exact(Ik h).symm|bl c=>rw[show x=.bl c from q];exact(Ik h).symm|int i=>rw[show x=.int i from q];exact(Ik h).symm|str y=>
  rw[show x=.str y from q];have h':(if y.length<=j_ then Hb ((y.length:Int) != 0)else IU Err.stuck)=Hb b:=h;by_cases I:y.length<=j_
  .rw[g_ I]at h';exact⟨I,(Ik h').symm⟩
  simp_all
 |tup ds=>
  obtain⟨p,xs,e,t,r⟩:=q;subst e;refine .inr (.inl ⟨xs,s.tup t,?_⟩);rw[<- Ik h];cases ds with
  |nil=>rw[show xs=[]from r];rfl|cons d ds=>obtain⟨v,vs,e,_⟩:=r;rw[e];rfl
 |lst ds=>
  obtain⟨p,xs,e,t,r⟩:=q;subst e;refine .inl ⟨xs,s.lst t,?_⟩;rw[<- Ik h];cases ds with
  |nil=>rw[show xs=[]from r];rfl|cons d ds=>obtain⟨v,vs,e,_⟩:=r;rw[e];rfl
 |ins C fs=>cases h|dic ks=>cases h|dil ks=>cases h
theorem rd_tru(h:tDT K W (qF fa) σ H R):tD K W b_ fa σ H λx H1=>∃k,TruV K x H1 k/\R k H1:=by
 obtain⟨F,ρ,r,s,p⟩:=h;refine ba r s (λe Y=>?_) λa c x F1 H1 I J=>?_
 .have z:qF fa ρ=.error e:=by unfold qF;rw[Y];rfl
  simp_all
 .have z:qF fa ρ=truD a:=by unfold qF;rw[c];rfl
  rw[z]at p;cases e:truD a with
  |ok b=>rw[e]at p;exact⟨b,tru_of I.fh J e,p F1 H1 I⟩|error x=>
   rw[e]at p;have:x=.stuck:=by
    cases a with
    |str y=>have d:(if y.length<=j_ then Hb ((y.length:Int) != 0)else IU Err.stuck)=IU x:=e;lia
    |ins C fs=>cases e;rfl|dic ks=>cases e;rfl|dil ks=>cases e;rfl|_=>cases e
   subst this;exact(W.ns p).elim
def rd_andV(h:tD K W b_ (mE fa fb) σ H Q):tAndV (tD K W b_ fa) (tD K W b_ fb) σ H Q:=by
 obtain⟨F,ρ,r,s,p⟩:=h;refine ba r s (λe Y=>p.err (by unfold mE;rw[Y];rfl)) λa c x F1 H1 I J=>?_;have z:mE fa fb ρ=(asB a).bind λb=>if b=d_ then fb ρ else .ok (.bl b_):=by unfold mE;rw[c];rfl
 rw[z]at p;cases a with
 |bl b=>
  refine⟨b,J,?_⟩
  cases b with
  |true=>exact⟨F1,ρ,r.mono I.ff,I.fh,aH.step (own:=b_) (r:=fb ρ) p I⟩|false=>exact p (.bl b_) F1 H1 I rfl
 |_=>exact(W.ns p).elim
def rd_orV(h:tD K W b_ (D7 fa fb) σ H Q):tOrV (tD K W b_ fa) (tD K W b_ fb) σ H Q:=by
 obtain⟨F,ρ,r,s,p⟩:=h;refine ba r s (λe Y=>p.err (by unfold D7;rw[Y];rfl)) λa c x F1 H1 I J=>?_;have z:D7 fa fb ρ=(asB a).bind λb=>if b=d_ then .ok (.bl d_)else fb ρ:=by unfold D7;rw[c];rfl
 rw[z]at p;cases a with
 |bl b=>
  refine⟨b,J,?_⟩
  cases b with
  |false=>exact⟨F1,ρ,r.mono I.ff,I.fh,aH.step (own:=b_) (r:=fb ρ) p I⟩|true=>exact p (.bl d_) F1 H1 I rfl
 |_=>exact(W.ns p).elim
def B8(h:tD K W b_ (ki g g' fa fb fc) σ H Q):Ef (rD2 K W b_ g) (rD2 K W b_ g') (tD K W b_ fa) (tD K W b_ fb) (tD K W b_ fc) σ H Q:=by
 obtain⟨F,ρ,r,s,p⟩:=h;refine ba r s (λe Y=>p.err (by unfold ki;rw[Y];rfl)) λa o x F1 H1 J u=>?_;refine ba (r.mono J.ff) J.fh (λe Y=>(p.step J).err (by unfold ki;rw[o];show(fb ρ).bind _=_;rw[Y];rfl)) λb B y F2 H2 f n=>?_;have z:ki g g' fa fb fc ρ=(g a b).bind λx=>(asB x).bind λk=>if k=d_ then(fc ρ).bind λc=>g' b c else .ok (.bl b_):=by unfold ki;rw[o];show(fb ρ).bind _=_;rw[B];rfl
 rw[z]at p;refine⟨F2,a,b,f.fh,aR.mono f.ff u,n,?_⟩
 have p2:=p.step (J.trans f);cases e:g a b with
 |error x=>rw[e]at p2;exact p2|ok d=>
  rw[e]at p2;intro v m l I t;have p3:aH K W b_ m l ((asB d).bind λk=>if k=d_ then(fc ρ).bind λc=>g' b c else .ok (.bl b_)) Q:=aH.step p2 I;cases d with
  |bl k=>
   refine⟨k,t,?_⟩
   cases k with
   |false=>exact p3 (.bl b_) m l (C6.refl I.fh) rfl|true=>
    have j:aH K W b_ m l ((fc ρ).bind λc=>g' b c) Q:=p3;refine ba (r.mono (J.trans (f.trans I)).ff) I.fh (λe Y=>j.err (by rw[Y];rfl)) λc A w C D i q=>⟨C,b,c,i.fh,aR.mono (I.trans i).ff n,q,?_⟩
    rw[A]at j;exact j.step i
  |_=>exact(W.ns p3).elim
end
inductive Pat where
 |nm (i:Nat)|tp (is:List Nat)
def j6:cc->List A'->ah->ah
 |i::is,d::ds,ρ=>j6 is ds (ρ.set i (a_ d))|_,_,ρ=>ρ
def mJ:Pat->A'->ah->M ah
 |.nm i,d,ρ=>.ok (ρ.set i (a_ d))|.tp is,.tup ds,ρ=>if ds.length=is.length then .ok (j6 is ds ρ)else .error .stuck
 |.tp _,_,_=>.error .stuck
def j8:cc->TGs
 |[]=>gNil|i::is=>yz (hG i) (j8 is)
def gP(K:Pn):Pat->TG
 |.nm i=>hG i|.tp is=>gTup K is.length (j8 is)
theorem vd{K:Pn}{F H:Hp}{R:St->Hp->Prop}:∀{is:cc} {ds:List A'} {vs:b'} {σ:St} {ρ:ah},hR K F σ ρ->az K F ds vs->ds.length=is.length->(∀σ',hR K F σ' (j6 is ds ρ)->R σ' H)->j8 is vs σ H R
 |[],[],_,σ,ρ,r,q,_,h=>⟨q,h σ r⟩|[],_::_,_,_,_,_,_,e,_=>by simp at e|_::_,[],_,_,_,_,_,e,_=>by simp at e|i::is,d::ds,_,σ,ρ,r,⟨v,vs,e,q,t⟩,l,h=>⟨v,vs,e,vd (r.set q i) t (by simpa using l) h⟩
theorem gP_run{R:St->Hp->Prop}{p:Pat}{d:A'}(r:hR K F σ ρ)(s:aS F H)(q:aR K F d v)(e:mJ p d ρ=.ok ρ')(h:∀σ',hR K F σ' ρ'->R σ' H):gP K p v σ H R:=by
 cases p with
 |nm i=>have:=Ik e;subst this;exact h _ (r.set q i)|tp is=>
  cases d with
  |tup ds=>
   have J:(if ds.length=is.length then Hb (j6 is ds ρ)else IU Err.stuck)=Hb ρ':=e;by_cases I:ds.length=is.length
   .rw[g_ I]at J;have:=Ik J;subst this;obtain⟨a,xs,Y,t,z⟩:=q;exact⟨a,xs,Y,s.tup t,by rw[z.length,I],vd r z I h⟩
   simp_all
  |_=>cases e
theorem yU{p:Pat}{d:A'}{e:Err}(h:mJ p d ρ=.error e):e=.stuck:=by
 cases p with
 |nm i=>cases h|tp is=>
  cases d with
  |tup ds=>have I:(if ds.length=is.length then Hb (j6 is ds ρ)else IU Err.stuck)=IU e:=h;lia
  |_=>cases h;rfl
structure za(K:Pn)(F1:Hp)(J:It)(ds:List A'):Prop where
 go:∀(i:Nat) (F H:Hp),aS F1 F->aS F H->i<ds.length->J.go i H
 yl:∀(i:Nat) (F H:Hp) (x:V) (H':Hp) (d:A'),aS F1 F->aS F H->ds[i]?=a_ d->J.yld i H x H'->∃F',C6 F H F' H'/\aR K F' d x
 st:∀(F H:Hp),aS F1 F->aS F H->J.stop ds.length H
def iD(K:Pn)(W:gf)(f:ah->M (List A')):TI:=λσ H R=>∃F ρ,hR K F σ ρ/\aS F H/\(match f ρ with
 |.ok ds=>∀J F1 H1,C6 F H F1 H1->za K F1 J ds->R J H1|.error e=>W.p e F H)
def lU:A'->M (List A')
 |.lst ds=>.ok ds|.tup ds=>.ok ds|_=>.error .stuck
def fIt(fa:ah->M A'):ah->M (List A'):=λρ=>(fa ρ).bind lU
def iSeq(K:Pn)(tl:TE):TI:=λσ H R=>tl σ H λx H1=>∃a,x=.ref a/\((∃xs,SqL K H1 a xs)/\R (Itl K a) H1\/(∃xs,SqT K H1 a xs)/\R (Itt K a) H1)
def Fy{xs:b'}{ds:List A'}(t:SqL K F a xs)(z:az K F ds xs):za K F (Itl K a) ds where
 go:=λi F' H' J I hi=>⟨xs,xs[i]'(by rw[z.length];exact hi),I.lst (J.lst t),a8⟩
 yl:=λi F' H' x H2 d J I hd Y=>by obtain⟨e,Y⟩:=Y;subst e;obtain⟨v,e1,q⟩:=z.get hd;have e2:=Y xs (I.lst (J.lst t));rw[e1]at e2;cases e2;exact⟨F',C6.refl I,q.mono J⟩
 st:=λF' H' J I=>⟨xs,I.lst (J.lst t),by rw[z.length];simp⟩
def iter_tup{xs:b'}{ds:List A'}(t:SqT K F a xs)(z:az K F ds xs):za K F (Itt K a) ds where
 go:=λi F' H' J I hi=>⟨xs,xs[i]'(by rw[z.length];exact hi),I.tup (J.tup t),a8⟩
 yl:=λi F' H' x H2 d J I hd Y=>by obtain⟨e,Y⟩:=Y;subst e;obtain⟨v,e1,q⟩:=z.get hd;have e2:=Y xs (I.tup (J.tup t));rw[e1]at e2;cases e2;exact⟨F',C6.refl I,q.mono J⟩
 st:=λF' H' J I=>⟨xs,I.tup (J.tup t),by rw[z.length];simp⟩
noncomputable def d6(lo:Int)(n:Nat):List A':=(HF n).map λk:Nat=>A'.int (lo+k)
theorem CZ{lo:Int}:za K F (Itr lo n) (d6 lo n) where
 go:=λi F' H' Y I hi=>by show i<n;simp_all[d6]
 yl:=λi F' H' x H2 d Y I hd J=>by
  obtain⟨e,J⟩:=J;subst e J;unfold d6 at hd;rw[HQ]at hd;have hi:i<n:=by have:=(A_.mp (show((HF n).map λk:Nat=>A'.int (lo+k))[i]?=a_ d by rw[HQ];exact hd)).1;simpa using this
  rw[M1 hi]at hd;cases hd;exact⟨F',C6.refl I,rfl⟩
 st:=λF' H' Y I=>by show n<=_;simp[d6]
noncomputable def mY(i:Int):Bool:=o_ (-(2^62)<=i)&&o_ (i<2^62)
def B5:List A'->M (List A')
 |[.int j]=>if mY j=d_ then .ok (d6 0 j.toNat)else .error .stuck
 |_=>.error .stuck
noncomputable def Aj(g:List A'->M (List A'))(fr:ah->M (List A')):ah->M (List A'):=λρ=>(fr ρ).bind g
section
variable{W:gf}
theorem ri_seq{R:It->Hp->Prop}(h:iD K W (fIt fa) σ H R):iSeq K (tD K W b_ fa) σ H R:=by
 obtain⟨F,ρ,r,s,p⟩:=h;refine ba r s (λe Y=>?_) λa c x F1 H1 I J=>?_
 .have z:fIt fa ρ=.error e:=by unfold fIt;rw[Y];rfl
  simp_all
 .have z:fIt fa ρ=lU a:=by unfold fIt;rw[c];rfl
  rw[z]at p;cases a with
  |lst ds=>obtain⟨b,xs,e,t,z⟩:=J;exact⟨b,e,.inl ⟨⟨xs,I.fh.lst t⟩,p _ F1 H1 I (Fy t z)⟩⟩
  |tup ds=>obtain⟨b,xs,e,t,z⟩:=J;exact⟨b,e,.inr ⟨⟨xs,I.fh.tup t⟩,p _ F1 H1 I (iter_tup t z)⟩⟩
  |_=>exact(W.ns p).elim
theorem ri_rng1{fr:ah->M (List A')}{R:It->Hp->Prop}(h:iD K W (Aj B5 fr) σ H R):iRng1 (tDA K W fr) σ H R:=by
 obtain⟨F,ρ,r,s,p⟩:=h;refine rO r s (λe c=>?_) λds hd xs F1 H1 a b=>?_
 .have z:Aj B5 fr ρ=.error e:=by unfold Aj;rw[c];rfl
  simp_all
 .have z:Aj B5 fr ρ=B5 ds:=by unfold Aj;rw[hd];rfl
  rw[z]at p;cases ds with
  |nil=>exact(W.ns p).elim|cons d ds=>
   cases d with
   |int j=>
    cases ds with
    |cons _ _=>exact(W.ns p).elim|nil=>
     obtain⟨v,vs,e,q,t⟩:=b;have Y:match (if mY j=d_ then Hb (d6 0 j.toNat)else IU Err.stuck:M (List A'))with
      |.ok ds=>∀J F1 H1,C6 F H F1 H1->za K F1 J ds->R J H1|.error e=>W.p e F H:=p
     by_cases I:mY j=d_
     .rw[g_ I]at Y;unfold mY at I;simp only[l_,GH]at I;exact⟨j,by rw[e,show v=.int j from q,show vs=[]from t],I.1,I.2,Y _ F1 H1 a CZ⟩
     .rw[k_ I]at Y;exact(W.ns Y).elim
   |_=>exact(W.ns p).elim
noncomputable def lV(ix:List (Option Nat))(ρ:ah):ah:=ix.map λo=>match o with
 |none=>c_|some j=>(ρ[j]?).join
def bu(p:Pat)(ft:ah->M Bool)(fe:ah->M A')(ρ0:ah):List A'->M (List A')
 |[]=>.ok []|d::ds=>(mJ p d ρ0).bind λρ=>(ft ρ).bind λb=>if b=d_ then(fe ρ).bind λy=>(bu p ft fe ρ0 ds).bind λr=>.ok (y::r)else bu p ft fe ρ0 ds
def eY(fi:ah->M (List A'))(ix:List (Option Nat))(p:Pat)(ft:ah->M Bool)(fe:ah->M A'):ah->M A':=λρ=>(fi ρ).bind λds=>if ds.length<=j_ then(bu p ft fe (lV ix ρ) ds).bind λr=>.ok (.lst r)else .error .stuck
noncomputable def ir:ah->M Bool:=λ_=>.ok d_
theorem hR.inS{F:Hp}{ρ:ah}(r:hR K F σ ρ)(ix:List (Option Nat)):hR K F (Lake.inS ix σ) (lV ix ρ):=
 ⟨by simp[Lake.inS,lV],λi d e=>by
  unfold lV at e;unfold Lake.inS;rw[HQ]at e ⊢;cases h:ix[i]? with
  |none=>simp_all|some o=>
   rw[h]at e;cases o with
   |none=>cases e|some j=>
    simp only[Ln,L9]at e ⊢;have e1:ρ[j]?=a_ (a_ d):=by
     cases z:ρ[j]? with
     |none=>simp_all|some w=>simp_all
    obtain⟨v,h1,h2⟩:=r.sl j d e1;exact⟨v,by rw[h1];rfl,h2⟩⟩
theorem EF{ix:List (Option Nat)}{p:Pat}(h:tD K W d_ (eY fi ix p ft fe) σ H Q):
  tComp (iD K W fi) ix (gP K p) (tDT K W ft) (tD K W b_ fe) σ H Q:=by
 obtain⟨F,ρ,r,s,q⟩:=h;refine⟨F,ρ,r,s,?_⟩
 cases R:fi ρ with
 |error e=>exact q.err (by unfold eY;rw[R];rfl)|ok ds=>
  intro J F1 H1 B it;have e0:eY fi ix p ft fe ρ=if ds.length<=j_ then(bu p ft fe (lV ix ρ) ds).bind λr=>.ok (.lst r)else .error .stuck:=by unfold eY;rw[R];rfl
  rw[e0]at q;by_cases P:ds.length<=j_
  .rw[g_ P]at q;refine⟨λi m ys H2=>m=ds.length-i/\i<=ds.length/\∃F2 I,C6 F1 H1 F2 H2/\az K F2 I ys/\I.length<=i /\
    (match bu p ft fe (lV ix ρ) (ds.drop i)with
     |.ok Y=>bu p ft fe (lV ix ρ) ds=.ok (I++Y)|.error e=>W.p e F H),⟨ds.length,am,Ib _,F1,[],C6.refl B.fh,rfl,Ib _,?_⟩,?_⟩
   .rw[J8];cases e:bu p ft fe (lV ix ρ) ds with
    |ok Y=>rfl|error x=>exact q.err (by rw[e];rfl)
   .rintro i m ys H2 ⟨rfl,hi,F2,I,f,D,ly,t⟩;have z:ys.length<=j_:=by rw[D.length];lia
    by_cases k:i<ds.length
    .have ed:ds.drop i=ds[i]::ds.drop (i+1):=Hz k;rw[ed]at t;refine .inr ⟨it.go i F2 H2 f.ff f.fh k,z,λw H'=>(i+1<=ds.length/\∃F2 I,C6 F1 H1 F2 H'/\az K F2 I w/\I.length<=i+1 /\
      (match bu p ft fe (lV ix ρ) (ds.drop (i+1))with
       |.ok Y=>bu p ft fe (lV ix ρ) ds=.ok (I++Y)|.error e=>W.p e F H)),λw H' n=>⟨ds.length-(i+1),am,rfl,n⟩,λx H' y=>?_⟩
     obtain⟨T,o,q3⟩:=it.yl i F2 H2 x H' ds[i] f.ff f.fh a8 y;have X:hR K T (Lake.inS ix σ) (lV ix ρ):=(r.mono (B.trans (f.trans o)).ff).inS ix;have st3:C6 F H T H':=B.trans (f.trans o);have ec:bu p ft fe (lV ix ρ) (ds[i]::ds.drop (i+1))=(mJ p ds[i] (lV ix ρ)).bind λc=>(ft c).bind λb=>if b=d_ then(fe c).bind λy=>(bu p ft fe (lV ix ρ) (ds.drop (i+1))).bind λr=>.ok (y::r)else bu p ft fe (lV ix ρ) (ds.drop (i+1)):=by rw[bu]
     rw[ec]at t;cases C:mJ p ds[i] (lV ix ρ)with
     |error e=>rw[C]at t;have:=yU C;subst this;exact(W.ns t).elim|ok c=>
      rw[C]at t;refine gP_run X o.fh q3 C λU O=>?_;have j:match ((ft c).bind λb=>if b=d_ then(fe c).bind λy=>(bu p ft fe (lV ix ρ) (ds.drop (i+1))).bind λr=>.ok (y::r)else bu p ft fe (lV ix ρ) (ds.drop (i+1)))with
       |.ok Y=>bu p ft fe (lV ix ρ) ds=.ok (I++Y)|.error e=>W.p e F H:=t
      refine iV O o.fh (λe E=>by rw[E]at j;exact W.mono j st3) λb G F5 H5 u=>?_;rw[G]at j;cases b with
      |false=>
       have g:match bu p ft fe (lV ix ρ) (ds.drop (i+1))with
        |.ok Y=>bu p ft fe (lV ix ρ) ds=.ok (I++Y)|.error e=>W.p e F H:=j
       exact⟨k,F5,I,f.trans (o.trans u),D.mono (o.trans u).ff,am,g⟩
      |true=>
       have g:match ((fe c).bind λy=>(bu p ft fe (lV ix ρ) (ds.drop (i+1))).bind λr=>.ok (y::r))with
        |.ok Y=>bu p ft fe (lV ix ρ) ds=.ok (I++Y)|.error e=>W.p e F H:=j
       refine ba (O.mono u.ff) u.fh (λe E=>by rw[E]at g;exact W.mono g (st3.trans u)) λd hd v F6 H6 N Z=>?_;rw[hd]at g;refine⟨k,F6,I++[d],f.trans (o.trans (u.trans N)),az.append (D.mono (o.trans (u.trans N)).ff) ⟨v,[],rfl,Z,rfl⟩,by simp;lia,?_⟩
       have l:match ((bu p ft fe (lV ix ρ) (ds.drop (i+1))).bind λr=>.ok (d::r):M (List A'))with
        |.ok Y=>bu p ft fe (lV ix ρ) ds=.ok (I++Y)|.error e=>W.p e F H:=g
       cases S:bu p ft fe (lV ix ρ) (ds.drop (i+1))with
       |ok Y=>rw[S]at l;show _=Hb ((I++[d])++Y);rw[Hl];exact l|error x=>rw[S]at l;exact l
    .have:i=ds.length:=am
     subst this;rw[Lp]at t;have A:bu p ft fe (lV ix ρ) ds=.ok (I++[]):=t;rw[Ia]at A;rw[A]at q;refine .inl ⟨it.st F2 H2 f.ff f.fh,z,λa L=>?_⟩;have st:C6 F H F2 H2:=B.trans f;exact q (.ref a) F2 _ (st.trans (C6.grow f.fh L)) ⟨a,ys,rfl,aj,f.fh.free L,st.hh.free L,D⟩
  .rw[k_ P]at q;exact(W.ns q).elim
end
inductive Gp where
 |nx (ρ:ah)|rt (d:A')|bk (ρ:ah)|ct (ρ:ah)
structure Rep(K:Pn)(F0 H0 FB:Hp)(O:cc)(F H:Hp)(σ:St)(ρ:ah):Prop where
 st:C6 F0 H0 F H
 fb:aS FB F
 len:ρ.length=σ.length
 fz:∀(i:Nat) (d:A'),ρ[i]?=a_ (a_ d)->i∉O->∃v,σ[i]?=a_ (a_ v)/\aR K F d v
 ow:∀(i:Nat) (d:A'),ρ[i]?=a_ (a_ d)->i∈O->∃v,σ[i]?=a_ (a_ v)/\nO K F H0 H d v
 ap:∀(i j:Nat) (d e:A') (a:f_),i∈O->j∈O->(ρ[i]?=a_ (a_ d)/\isO d=d_)->(ρ[j]?=a_ (a_ e)/\isO e=d_)->σ[i]?=a_ (a_ (.ref a))->σ[j]?=a_ (a_ (.ref a))->i=j
def u9(O O2:cc)(σ:St)(ρ:ah)(b:f_):Prop:=∃(i:Nat) (d:A'),i∈O/\i∉O2/\isO d=d_/\ρ[i]?=a_ (a_ d)/\σ[i]?=a_ (a_ (.ref b))
open Classical in
noncomputable def plus(F H:Hp)(A:Addr->Prop):Hp:=λb=>if A b then H b else F b
open Classical in
noncomputable def minus(F:Hp)(A:Addr->Prop):Hp:=λb=>if A b then none else F b
theorem i7{A:f_->Prop}(h:A b):plus F H A b=H b:=by simp_all[plus,g_]
theorem cG{A:f_->Prop}(h:¬A b):plus F H A b=F b:=by simp_all[plus,k_]
theorem mq{A:f_->Prop}(h:A b):minus F A b=c_:=by simp_all[minus,g_]
theorem d9{A:f_->Prop}(h:¬A b):minus F A b=F b:=by simp_all[minus,k_]
def Rep.own(r:Rep K F0 H0 FB O F H σ ρ)(h:u9 O O2 σ ρ b):F b=c_/\H0 b=c_/\∃o,H b=a_ o/\isMu o=d_:=by obtain⟨i,d,hi,_,hd,e1,e2⟩:=h;obtain⟨v,e3,q⟩:=r.ow i _ e1 hi;rw[e2]at e3;cases e3;obtain⟨a,o,e,p,m,f,z⟩:=q.top hd;cases e;exact⟨f,z,o,p,m⟩
def Rep.n8(r:Rep K F0 H0 FB O F H σ ρ):aS F (plus F H (u9 O O2 σ ρ)):=λb o h=>by
 by_cases I:u9 O O2 σ ρ b
 .rw[(r.own I).1]at h;cases h
 .rw[cG I];exact h
def Rep.pB(r:Rep K F0 H0 FB O F H σ ρ):aS (plus F H (u9 O O2 σ ρ)) H:=λb o h=>by
 by_cases I:u9 O O2 σ ρ b
 .rw[i7 I]at h;exact h
 .rw[cG I]at h;exact r.st.fh b o h
theorem Rep.freeze(r:Rep K F0 H0 FB O F H σ ρ)(I:∀i∈O2,i∈O):Rep K F0 H0 FB O2 (plus F H (u9 O O2 σ ρ)) H σ ρ where
 st:=⟨r.st.ff.trans r.n8,r.st.hh,r.pB,λb o h=>by
  by_cases k:u9 O O2 σ ρ b
  .exact .inr (r.own k).2.1
  .rw[cG k]at h;exact r.st.nw b o h⟩
 fb:=r.fb.trans r.n8
 len:=r.len
 fz:=λi d e hi=>by
  by_cases J:i∈O
  .obtain⟨v,e3,q⟩:=r.ow i d e J;refine⟨v,e3,?_⟩
   cases hd:isO d with
   |true=>obtain⟨a,_,g,_⟩:=q.top hd;subst g;exact q.give hd r.n8 (i7 ⟨i,d,J,hi,hd,e,e3⟩)
   |false=>rw[nO.non hd]at q;exact q.mono r.n8
  .obtain⟨v,e3,q⟩:=r.fz i d e J;exact⟨v,e3,q.mono r.n8⟩
 ow:=λi d e hi=>by
  obtain⟨v,e3,q⟩:=r.ow i d e (I i hi);refine⟨v,e3,?_⟩
  cases hd:isO d with
  |true=>
   obtain⟨a,o,g,p,_,f,z⟩:=q.top hd;subst g;refine q.re hd r.n8 ?_ λ_ h=>h;have:¬u9 O O2 σ ρ a:=λ⟨j,d',Y,l,c,f1,m⟩=>by have:=r.ap i j d d' a (I i hi) Y ⟨e,hd⟩ ⟨f1,c⟩ e3 m;simp_all
   rw[cG this];exact f
  |false=>rw[nO.non hd]at q ⊢;exact q.mono r.n8
 ap:=λi j d e a hi Y=>r.ap i j d e a (I i hi) (I j Y)
def Rep.repE(r:Rep K F0 H0 FB [] F H σ ρ):hR K F σ ρ:=⟨r.len,λi d e=>r.fz i d e a8⟩
def Rep.xY(r:Rep K F0 H0 FB O F H σ ρ):hR K (plus F H (u9 O [] σ ρ)) σ ρ:=(r.freeze (O2:=[]) a8).repE
noncomputable def erase:cc->ah->ah
 |[],ρ=>ρ|i::is,ρ=>erase is (ρ.set i c_)
theorem yD:∀(O:cc) (ρ:ah),(erase O ρ).length=ρ.length
 |[],_=>rfl|i::is,ρ=>by rw[erase,yD,GB]
theorem yE:∀(O:cc) (ρ:ah) (i:Nat) (d:A'),(erase O ρ)[i]?=a_ (a_ d)->ρ[i]?=a_ (a_ d)/\i∉O
 |[],_,_,_,h=>⟨h,a8⟩|j::is,ρ,i,d,h=>by
  obtain⟨h1,h2⟩:=yE is (ρ.set j c_) i d h;by_cases e:j=i
  .subst e;have I:j<ρ.length:=by
    have:=(A_.mp h1).1;simpa using this
   rw[x_ I]at h1;cases h1
  .rw[p_ e]at h1;exact⟨h1,by simp[h2];lia⟩
def Rep.rl(r:Rep K F0 H0 FB O F H σ ρ):hR K F σ (erase O ρ):=
 ⟨by rw[yD,r.len],λi d e=>let ⟨h1,h2⟩:=yE O ρ i d e;r.fz i d h1 h2⟩
theorem Rep.step(r:Rep K F0 H0 FB O F H σ ρ)(s:C6 F H F1 H1):Rep K F0 H0 FB O F1 H1 σ ρ where
 st:=r.st.trans s
 fb:=r.fb.trans s.ff
 len:=r.len
 fz:=λi d e hi=>let ⟨v,e3,q⟩:=r.fz i d e hi;⟨v,e3,q.mono s.ff⟩
 ow:=λi d e hi=>by
  obtain⟨v,e3,q⟩:=r.ow i d e hi;refine⟨v,e3,?_⟩
  cases hd:isO d with
  |true=>
   obtain⟨a,u,I,p,_,f,z⟩:=q.top hd;subst I;refine q.re hd s.ff ?_ (s.hh a);cases e1:F1 a with
   |none=>rfl|some o=>
    rcases s.nw a o e1 with h|h
    .simp_all
    simp_all
  |false=>rw[nO.non hd]at q ⊢;exact q.mono s.ff
 ap:=r.ap
theorem Rep.vD(r:Rep K F0 H0 FB O F H σ ρ)(s:C6 (plus F H (u9 O [] σ ρ)) H F1 H1):Rep K F0 H0 FB O (minus F1 (u9 O [] σ ρ)) H1 σ ρ:=by
 refine r.step ⟨λb o h=>?_,s.hh,λb o h=>?_,λb o h=>?_⟩
 .by_cases I:u9 O [] σ ρ b
  .rw[(r.own I).1]at h;cases h
  .rw[d9 I];exact s.ff b o (by rw[cG I];exact h)
 .by_cases I:u9 O [] σ ρ b
  .simp_all[mq]
  .rw[d9 I]at h;exact s.fh b o h
 .by_cases I:u9 O [] σ ρ b
  .simp_all[mq]
  .rw[d9 I]at h;rcases s.nw b o h with z|z
   .rw[cG I]at z;exact .inl z
   .exact .inr z
theorem Rep.minusT(r:Rep K F0 H0 FB O F H σ ρ)(s:C6 (plus F H (u9 O [] σ ρ)) H F1 H1)(a:f_)(xs:b')(h:SqT K F1 a xs):SqT K (minus F1 (u9 O [] σ ρ)) a xs:=by
 have key:∀{b:f_} {o:HO},F1 b=a_ o->isMu o=b_->minus F1 (u9 O [] σ ρ) b=a_ o:=λ{b o} h n=>by
  by_cases I:u9 O [] σ ρ b
  .obtain⟨_,_,u,e,m⟩:=r.own I;have:=s.ff b u (by rw[i7 I];exact e);simp_all
  .rw[d9 I];exact h
 rcases h with(h|⟨o,h⟩)|h
 .exact .inl (.inl (key h rfl))
 .exact .inl (.inr ⟨o,key h rfl⟩)
 .exact .inr h
theorem Rep.set{d:A'}{v:V}(r:Rep K F0 H0 FB O F H σ ρ)(q:aR K F d v)(i:Nat):Rep K F0 H0 FB (O.filter (· != i)) F H (σ.set i (a_ v)) (ρ.set i (a_ d)) where
 st:=r.st
 fb:=r.fb
 len:=by rw[GB,GB,r.len]
 fz:=λj e h J=>by
  by_cases I:i=j
  .subst I;have hi:i<ρ.length:=by
    have:=(A_.mp h).1;simpa using this
   rw[x_ hi]at h;cases h;exact⟨v,by rw[x_ (by rw[<- r.len];exact hi)],q⟩
  .rw[p_ I]at h;rw[p_ I];exact r.fz j e h λz=>J (HL.mpr ⟨z,by simpa using HI I⟩)
 ow:=λj e h J=>by
  obtain⟨h1,h2⟩:=HL.mp J;have I:i≠j:=λz=>by simp[z]at h2
  rw[p_ I]at h ⊢;exact r.ow j e h h1
 ap:=λj k ds es a J b e1 e2 e3 e4=>by
  obtain⟨j1,j2⟩:=HL.mp J;obtain⟨k1,k2⟩:=HL.mp b;have I:i≠j:=λz=>by simp[z]at j2
  have Y:i≠k:=λz=>by simp[z]at k2
  rw[p_ I]at e1 e3;rw[p_ Y]at e2 e4;exact r.ap j k ds es a j1 k1 e1 e2 e3 e4
def Rep.setOwn{d:A'}(r:Rep K F0 H0 FB O F H σ ρ)(q:nO K F H0 H d v)(s:∀a,v=.ref a->isO d=d_->¬u9 O [i] σ ρ a):Rep K F0 H0 FB (i::O.filter (· != i)) F H (σ.set i (a_ v)) (ρ.set i (a_ d)) where
 st:=r.st
 fb:=r.fb
 len:=by rw[GB,GB,r.len]
 fz:=λj e h b=>by simp only[q_,not_or]at b;have I:i≠j:=λz=>b.1 z.symm;rw[p_ I]at h ⊢;exact r.fz j e h λz=>b.2 (HL.mpr ⟨z,by simpa using HI I⟩)
 ow:=λj e h b=>by
  by_cases I:i=j
  .subst I;have hi:i<ρ.length:=by
    have:=(A_.mp h).1;simpa using this
   rw[x_ hi]at h;cases h;exact⟨v,by rw[x_ (by rw[<- r.len];exact hi)],q⟩
  .rw[p_ I]at h ⊢;rcases q_.mp b with z|z
   .exact Gw z.symm I
   .exact r.ow j e h (HL.mp z).1
 ap:=λj k ds es a b n e1 e2 e3 e4=>by
  have key:∀{k':Nat} {ds' J:A'},k'∈O->k'≠i->((ρ.set i (a_ d))[i]?=a_ (a_ ds')/\isO ds'=d_)->((ρ.set i (a_ d))[k']?=a_ (a_ J)/\isO J=d_)->(σ.set i (a_ v))[i]?=a_ (a_ (.ref a))->(σ.set i (a_ v))[k']?=a_ (a_ (.ref a))->False:=by
   intro k' ds' J g c f1 m f3 f4;have hi:i<ρ.length:=by have:=(A_.mp f1.1).1;simpa using this
   rw[x_ hi]at f1;rw[x_ (by rw[<- r.len];exact hi)]at f3;rw[p_ (HI c)]at m f4;have p:v=.ref a:=by simpa using f3
   have o:d=ds':=by simpa using f1.1
   exact s a p (o▸f1.2) ⟨k',J,g,by simpa using c,m.2,m.1,f4⟩
  rcases q_.mp b with f|f
  .rcases q_.mp n with Y|Y
   .rw[f,Y]
   .obtain⟨k1,k2⟩:=HL.mp Y;subst f;exact(key k1 (by simpa using k2) e1 e2 e3 e4).elim
  .obtain⟨j1,j2⟩:=HL.mp f;have I:i≠j:=λz=>by simp[z]at j2
   rcases q_.mp n with Y|Y
   .subst Y;exact(key j1 (HI I) e2 e1 e4 e3).elim
   .obtain⟨k1,k2⟩:=HL.mp Y;have l:i≠k:=λz=>by simp[z]at k2
    rw[p_ I]at e1 e3;rw[p_ l]at e2 e4;exact r.ap j k ds es a j1 k1 e1 e2 e3 e4
def Rep.C8(r:Rep K F0 H0 FB O F H σ ρ)(s:C6 (plus F H (u9 O [] σ ρ)) H F1 H1):aS F (minus F1 (u9 O [] σ ρ)):=λb o h=>by
 by_cases I:u9 O [] σ ρ b
 .rw[(r.own I).1]at h;cases h
 .rw[d9 I];exact s.ff b o (by rw[cG I];exact h)
def D6(h:i∉O):O.filter (· != i)=O:=by rw[M3];intro a I;simp;intro e;exact h (e▸I)
def Rep.set'{d:A'}(r:Rep K F0 H0 FB O F H σ ρ)(q:aR K F d v)(hi:i∉O):Rep K F0 H0 FB O F H (σ.set i (a_ v)) (ρ.set i (a_ d)):=by have:=r.set q i;rw[D6 hi]at this;exact this
def Rep.base{I:Hp}(r:Rep K F0 H0 FB O F H σ ρ)(s:aS I FB):Rep K F0 H0 I O F H σ ρ:=⟨r.st,s.trans r.fb,r.len,r.fz,r.ow,r.ap⟩
def Rep.writeO{d:A'}{u:HO}(r:Rep K F0 H0 FB O F H σ ρ)(hi:i∈O)(e1:ρ[i]?=a_ (a_ d))(hd:isO d=d_)(e2:σ[i]?=a_ (a_ (.ref a)))(q:F a=c_->H0 a=c_->nO K F H0 (upd H a u) d' (.ref a)):Rep K F0 H0 FB O F (upd H a u) σ (ρ.set i (a_ d')):=by
 have c:F a=c_/\H0 a=c_/\∃o,H a=a_ o/\isMu o=d_:=r.own (O2:=[]) ⟨i,d,hi,a8,hd,e1,e2⟩;have l:i<ρ.length:=(A_.mp e1).1;refine⟨⟨r.st.ff,λb o h=>?_,λb o h=>?_,r.st.nw⟩,r.fb,by rw[GB,r.len],λj e h J=>?_,λj e h J=>?_,λj k es fs b J w f1 x f3 f4=>?_⟩
 .rw[ao (aV h c.2.1)];exact r.st.hh b o h
 .rw[ao (aV h c.1)];exact r.st.fh b o h
 .have I:i≠j:=λz=>J (z▸hi);rw[p_ I]at h;exact r.fz j e h J
 .by_cases I:i=j
  .subst I;rw[x_ l]at h;cases h;exact⟨.ref a,e2,q c.1 c.2.1⟩
  .rw[p_ I]at h;obtain⟨v,e3,z⟩:=r.ow j e h J;refine⟨v,e3,?_⟩
   cases g:isO e with
   |true=>
    obtain⟨b,o,y,p,_,f,_⟩:=z.top g;subst y;have m:b≠a:=λz=>by subst z;exact I (r.ap i j d e b hi J ⟨e1,hd⟩ ⟨h,g⟩ e2 e3)
    exact z.re g (aS.refl _) f λo h=>by rw[ao m];exact h
   |false=>rw[nO.non g]at z ⊢;exact z
 .have Y:∀{j:Nat} {e:A'},((ρ.set i (a_ d'))[j]?=a_ (a_ e)/\isO e=d_)->∃t,ρ[j]?=a_ (a_ t)/\isO t=d_:=λ{j e} f=>by
   by_cases I:i=j
   .subst I;exact⟨d,e1,hd⟩
   .rw[p_ I]at f;exact⟨e,f⟩
  obtain⟨s,g1⟩:=Y f1;obtain⟨n,g2⟩:=Y x;exact r.ap j k s n b J w g1 g2 f3 f4
def Rep.write{ds:List A'}{I:b'}(r:Rep K F0 H0 FB O F H σ ρ)(hi:i∈O)(e1:ρ[i]?=a_ (a_ (.lst ds)))(e2:σ[i]?=a_ (a_ (.ref a)))(q:az K F ds' I):Rep K F0 H0 FB O F (upd H a (.lst I)) σ (ρ.set i (a_ (.lst ds'))):=
 r.writeO hi e1 rfl e2 λf z=>⟨a,I,rfl,aj,f,z,q⟩
noncomputable def Pat.names:Pat->cc
 |.nm i=>[i]|.tp is=>is
theorem pL{R:St->Hp->Prop}:∀{is:cc} {ds:List A'} {vs:b'} {σ:St} {ρ:ah},Rep K F0 H0 FB O F H σ ρ->(∀i∈is,i∉O)->az K F ds vs->ds.length=is.length->(∀σ',Rep K F0 H0 FB O F H σ' (j6 is ds ρ)->R σ' H)->j8 is vs σ H R
 |[],[],_,σ,ρ,r,_,q,_,h=>⟨q,h σ r⟩|[],_::_,_,_,_,_,_,_,e,_=>by simp at e|_::_,[],_,_,_,_,_,_,e,_=>by simp at e|i::is,d::ds,_,σ,ρ,r,n,⟨v,vs,e,q,t⟩,l,h=>⟨v,vs,e,pL (r.set' q (n i a8)) (λj I=>n j (by simp[I])) t (by simpa using l) h⟩
theorem gP_rep{R:St->Hp->Prop}{p:Pat}{d:A'}(r:Rep K F0 H0 FB O F H σ ρ)(n:∀i∈p.names,i∉O)(q:aR K F d v)(e:mJ p d ρ=.ok ρ')(h:∀σ',Rep K F0 H0 FB O F H σ' ρ'->R σ' H):gP K p v σ H R:=by
 cases p with
 |nm i=>have:=Ik e;subst this;exact h _ (r.set' q (n i (by simp[Pat.names])))|tp is=>
  cases d with
  |tup ds=>
   have J:(if ds.length=is.length then Hb (j6 is ds ρ)else IU Err.stuck)=Hb ρ':=e;by_cases I:ds.length=is.length
   .rw[g_ I]at J;have:=Ik J;subst this;obtain⟨a,xs,Y,t,z⟩:=q;exact⟨a,xs,Y,r.st.fh.tup t,by rw[z.length,I],pL r n z I h⟩
   simp_all
  |_=>cases e
def kN(K:Pn)(W:gf)(ro:Bool)(F0 H0 FB:Hp)(OL O':cc)(D:Ends)(r:M Gp):Prop:=match r with
 |.ok (.nx ρ)=>∀σ F H,Rep K F0 H0 FB O' F H σ ρ->D.nx σ H|.ok (.rt d)=>∀v F H,C6 F0 H0 F H->Val K ro F H0 H d v->D.rt v H|.ok (.bk ρ)=>∀σ F H,Rep K F0 H0 FB OL F H σ ρ->D.bk σ H|.ok (.ct ρ)=>∀σ F H,Rep K F0 H0 FB OL F H σ ρ->D.ct σ H|.error e=>W.p e F0 H0
def tS(K:Pn)(W:gf)(ro:Bool)(F0 H0:Hp)(OL O O':cc)(g:ah->M Gp):TS:=λD σ H=>∃FB F ρ,Rep K F0 H0 FB O F H σ ρ/\kN K W ro F0 H0 FB OL O' D (g ρ)
noncomputable def dN:ah->M Gp:=λρ=>.ok (.nx ρ)
noncomputable def cx(g h:ah->M Gp):ah->M Gp:=λρ=>(g ρ).bind λfl=>match fl with
 |.nx ρ'=>h ρ'|fl=>.ok fl
noncomputable def sIf(ft:ah->M Bool)(g h:ah->M Gp):ah->M Gp:=λρ=>(ft ρ).bind λb=>if b=d_ then g ρ else h ρ
def bE(O:cc)(i:Nat)(f:ah->M A'):ah->M Gp:=λρ=>(f (erase O ρ)).bind λd=>.ok (.nx (ρ.set i (a_ d)))
def jH(ρ:ah)(i:Nat):M (List A'):=match ρ[i]? with
 |some (a_ (.lst ds))=>.ok ds|_=>.error .stuck
def put(ρ:ah)(i:Nat)(ds:List A'):M Gp:=.ok (.nx (ρ.set i (a_ (.lst ds))))
def uo(i:Nat)(f:ah->M A'):ah->M Gp:=λρ=>(jH ρ i).bind λds=>(f ρ).bind λd=>if (bS d&&o_ (ds.length<j_))=d_ then put ρ i (ds++[d])else .error .stuck
def pf(O:cc)(i:Nat)(f:ah->M A'):ah->M Gp:=λρ=>(jH ρ i).bind λds=>(f (erase O ρ)).bind λd=>if ds.length<j_ then put ρ i (ds++[d])else .error .stuck
noncomputable def asI:A'->M Int
 |.int i=>.ok i|_=>.error .stuck
def dO(f:ah->M A'):ah->M Gp:=λρ=>(f ρ).bind λd=>.ok (.rt d)
noncomputable def isL:A'->Bool
 |.lst _=>d_|_=>b_
def kq(p:Pat)(g:ah->M Gp):List A'->ah->M Gp
 |[],ρ=>.ok (.nx ρ)|d::ds,ρ=>(mJ p d ρ).bind λJ=>(g J).bind λfl=>match fl with
  |.nx I=>kq p g ds I|.ct I=>kq p g ds I|.bk I=>.ok (.nx I)|.rt d=>.ok (.rt d)
def zM(O:cc)(fi:ah->M (List A'))(p:Pat)(g:ah->M Gp):ah->M Gp:=λρ=>(fi (erase O ρ)).bind λds=>kq p g ds ρ
def fq(ft:ah->M Bool)(g:ah->M Gp):Nat->ah->M Gp
 |0,_=>.error .stuck|n+1,ρ=>(ft ρ).bind λb=>if b=d_ then(g ρ).bind λfl=>match fl with
  |.nx I=>fq ft g n I|.ct I=>fq ft g n I|.bk I=>.ok (.nx I)|.rt d=>.ok (.rt d)else .ok (.nx ρ)
section
variable{W:gf}{own:Bool}{D:Ends}{g h:ah->M Gp}{f:ah->M A'}
def kN.err{x:M Gp}{e:Err}(p:kN K W ro F0 H0 FB OL O' D x)(h:x=.error e):W.p e F0 H0:=by rw[h]at p;exact p
def kN.uF{x:M Gp}{e:Err}(p:kN K W ro F0 H0 FB OL O' D x)(s:C6 F0 H0 F H)(h:x=.error e):W.p e F H:=W.mono (p.err h) s
theorem kN.stuck{x:M Gp}{P:Prop}(p:kN K W ro F0 H0 FB OL O' D x)(h:x=.error .stuck):P:=(W.ns (p.err h)).elim
def tS.enter(I:∀i∈O2,i∈O)(t:tS K W ro F0 H0 OL O O' g D σ H):tS K W ro F0 H0 OL O2 O' g D σ H:=by obtain⟨FB,F,ρ,r,p⟩:=t;exact⟨FB,_,ρ,r.freeze I,p⟩
def rs_next(t:tS K W ro F0 H0 OL O O dN D σ H):kr D σ H:=by obtain⟨FB,F,ρ,r,p⟩:=t;exact p σ F H r
def rs_seq(t:tS K W ro F0 H0 OL O O2 (cx g h) D σ H):j5 (tS K W ro F0 H0 OL O O' g) (tS K W ro F0 H0 OL O' O2 h) D σ H:=by
 obtain⟨FB,F,ρ,r,p⟩:=t;refine⟨FB,F,ρ,r,?_⟩
 unfold cx at p;cases e:g ρ with
 |error x=>exact p.err (by rw[e];rfl)|ok fl=>
  rw[e]at p;cases fl with
  |nx ρ'=>exact λσ' F' H' r'=>⟨FB,F',ρ',r',p⟩|rt d=>exact p|bk ρ'=>exact p|ct ρ'=>exact p
def rs_if(t:tS K W ro F0 H0 OL O O' (sIf ft g h) D σ H):uc (tDT K W ft) (tS K W ro F0 H0 OL O O' g) (tS K W ro F0 H0 OL O O' h) D σ H:=by
 obtain⟨FB,F,ρ,r,p⟩:=t;refine iV r.xY r.pB (λe J=>p.uF (r.freeze (O2:=[]) a8).st (by unfold sIf;rw[J];rfl)) λb Y F1 H1 I=>?_;have z:sIf ft g h ρ=if b=d_ then g ρ else h ρ:=by unfold sIf;rw[Y];rfl
 rw[z]at p;cases b with
 |true=>exact⟨FB,_,ρ,r.vD I,p⟩|false=>exact⟨FB,_,ρ,r.vD I,p⟩
noncomputable def aft(own:Bool)(i:Nat)(O:cc):cc:=if own=d_ then i::O.filter (· != i)else O.filter (· != i)
theorem Rep.bindV{d:A'}(r:Rep K F0 H0 FB O F H σ ρ)(q:Val K own F H2 H d v)(h2:aS H0 H2)(I:∀a,u9 O [] σ ρ a->∃o,H2 a=a_ o):Rep K F0 H0 FB (aft own i O) F H (σ.set i (a_ v)) (ρ.set i (a_ d)):=by
 cases own with
 |false=>exact r.set q i|true=>refine r.setOwn (nO.back h2 q) λa J hd z=>?_;subst J;obtain⟨b,_,e,_,_,_,n⟩:=nO.top hd q;cases e;obtain⟨j,es,h1,h2,f,c,Y⟩:=z;obtain⟨o,g⟩:=I a ⟨j,es,h1,a8,f,c,Y⟩;simp_all
def Ex(t:tS K W ro F0 H0 OL O (aft own i O) (bE O i f) D σ H):uM (tD K W own f) (hG i) D σ H:=by
 obtain⟨FB,F,ρ,r,p⟩:=t;refine ba r.rl r.st.fh (λe J=>p.uF r.st (by unfold bE;rw[J];rfl)) λd hd v F1 H1 I q=>?_;have z:bE O i f ρ=.ok (.nx (ρ.set i (a_ d))):=by unfold bE;rw[hd];rfl
 rw[z]at p;exact p _ F1 H1 ((r.step I).bindV q r.st.hh λa Y=>let ⟨_,_,_,e,_⟩:=r.own Y;⟨_,e⟩)
def jj{ds:List A'}(h:jH ρ i=.ok ds):ρ[i]?=a_ (a_ (.lst ds)):=by
 unfold jH at h;split at h
 .cases h;assumption
 .cases h
def sS{e:Err}(h:jH ρ i=.error e):e=.stuck:=by
 unfold jH at h;split at h
 .cases h
 .cases h;rfl
def Rep.Fl{ds:List A'}(r:Rep K F0 H0 FB O F H σ ρ)(hi:i∈O)(e:ρ[i]?=a_ (a_ (.lst ds))):∃a xs,σ[i]?=a_ (a_ (.ref a))/\H a=a_ (.lst xs)/\az K F ds xs:=by obtain⟨v,e3,a,xs,I,p,_,_,t⟩:=r.ow i _ e hi;subst I;exact⟨a,xs,e3,p,t⟩
def tApp(K:Pn)(i:Nat)(te:TE):TS:=uh (tBM K "list" pz (bB i) (aP te fw))
def rs_appB(hi:i∈O)(t:tS K W ro F0 H0 OL O O (pf O i f) D σ H):tApp K i (tD K W b_ f) D σ H:=by
 obtain⟨FB,F,ρ,r,p⟩:=t;cases I:jH ρ i with
 |error e=>have:=sS I;subst this;exact p.stuck (by unfold pf;rw[I];rfl)|ok ds=>
  obtain⟨a,xs,e2,b,z⟩:=r.Fl hi (jj I);refine⟨.ref a,e2,iB b,?_⟩
  refine ba r.rl r.st.fh (λe c=>p.uF r.st (by unfold pf;rw[I];show(f (erase O ρ)).bind _=_;rw[c];rfl)) λd hd v F1 H1 J q=>?_;have g:pf O i f ρ=if ds.length<j_ then put ρ i (ds++[d])else .error .stuck:=by unfold pf;rw[I];show(f (erase O ρ)).bind _=_;rw[hd];rfl
  rw[g]at p;by_cases Y:ds.length<j_
  .rw[g_ Y]at p;exact⟨a,xs,v,rfl,rfl,J.hh _ _ b,by rw[z.length];exact Y,p σ F1 _ ((r.step J).write hi (jj I) e2 (az.append (z.mono J.ff) ⟨v,[],rfl,q,rfl⟩))⟩
  .rw[k_ Y]at p;exact p.stuck rfl
theorem rs_appA(hi:i∈O)(t:tS K W ro F0 H0 OL O O (uo i f) D σ H):tApp K i (tD K W b_ f) D σ H:=by
 obtain⟨FB,F,ρ,r,p⟩:=t;cases I:jH ρ i with
 |error e=>have:=sS I;subst this;exact p.stuck (by unfold uo;rw[I];rfl)|ok ds=>
  obtain⟨a,xs,e2,b,z⟩:=r.Fl hi (jj I);refine⟨.ref a,e2,iB b,?_⟩
  refine ba r.xY r.pB (λe c=>p.uF (r.freeze (O2:=[]) a8).st (by unfold uo;rw[I];show(f ρ).bind _=_;rw[c];rfl)) λd hd v F1 H1 J q=>?_;have g:uo i f ρ=if (bS d&&o_ (ds.length<j_))=d_ then put ρ i (ds++[d])else .error .stuck:=by unfold uo;rw[I];show(f ρ).bind _=_;rw[hd];rfl
  rw[g]at p;by_cases Y:(bS d&&o_ (ds.length<j_))=d_
  .rw[g_ Y]at p;simp only[l_,GH]at Y;exact⟨a,xs,v,rfl,rfl,J.hh _ _ b,by rw[z.length];simp_all,p σ _ _ ((r.vD J).write hi (jj I) e2 (az.append (z.mono (r.C8 J)) ⟨v,[],rfl,aR.flat (r.minusT J) Y.1 q,rfl⟩))⟩
  .rw[k_ Y]at p;exact p.stuck rfl
def rs_ret(t:tS K W ro F0 H0 OL O O' (dO f) D σ H):oX (tD K W ro f) D σ H:=by
 obtain⟨FB,F,ρ,r,p⟩:=t;have I:=r.freeze (O2:=[]) a8;refine ba r.xY r.pB (λe Y=>p.uF I.st (by unfold dO;rw[Y];rfl)) λd hd v F1 H1 J q=>?_;have z:dO f ρ=.ok (.rt d):=by unfold dO;rw[hd];rfl
 rw[z]at p;exact p v F1 H1 (I.st.trans J) (q.back r.st.hh)
def rs_retV(hi:i∈O)(t:tS K W d_ F0 H0 OL O O' (dO (ae i)) D σ H):oX (bB i) D σ H:=by
 obtain⟨FB,F,ρ,r,p⟩:=t;unfold dO ae at p
 match e:ρ[i]? with
 |some (a_ d)=>rw[e]at p;obtain⟨v,e3,q⟩:=r.ow i d e hi;exact⟨v,e3,p v F H r.st q⟩
 |some c_=>rw[e]at p;exact p.stuck rfl|none=>rw[e]at p;exact p.stuck rfl
theorem rs_for{fs:ah->M (List A')}{pt:Pat}(n:∀i∈pt.names,i∉O)(t:tS K W ro F0 H0 OL O O (zM O fs pt g) D σ H):tFor (iD K W fs) (gP K pt) (tS K W ro F0 H0 O O O g) D σ H:=by
 obtain⟨FB,F,ρ,r,p⟩:=t;refine⟨F,erase O ρ,r.rl,r.st.fh,?_⟩
 cases e:fs (erase O ρ)with
 |error x=>exact p.uF r.st (by unfold zM;rw[e];rfl)|ok ds=>
  have z:zM O fs pt g ρ=kq pt g ds ρ:=by unfold zM;rw[e];rfl
  rw[z]at p;intro J F1 H1 k it;refine⟨λi m σ H=>∃F ρ,Rep K F0 H0 F1 O F H σ ρ/\i<=ds.length/\m=ds.length-i/\kN K W ro F0 H0 FB OL O D (kq pt g (ds.drop i) ρ),⟨ds.length,F1,ρ,?_,Ib _,am,bt⟩,?_⟩
  .have c:=r.step k;exact⟨c.st,aS.refl _,c.len,c.fz,c.ow,c.ap⟩
  .rintro i m h H2 ⟨F2,I,r2,hi,rfl,p2⟩;by_cases b:i<ds.length
   .have A:ds.drop i=ds[i]::ds.drop (i+1):=Hz b;rw[A]at p2;refine .inr ⟨it.go i F2 H2 r2.fb r2.st.fh b,λσ' H'=>(∃F ρ,Rep K F0 H0 F1 O F H' σ' ρ/\kN K W ro F0 H0 FB OL O D (kq pt g (ds.drop (i+1)) ρ)),λσ' H' ⟨F,ρ,r,p⟩=>⟨ds.length-(i+1),am,F,ρ,r,b,rfl,p⟩,λx H' y=>?_⟩;obtain⟨B,s,v⟩:=it.yl i F2 H2 x H' ds[i] r2.fb r2.st.fh a8 y;have w:kq pt g (ds[i]::ds.drop (i+1)) I=(mJ pt ds[i] I).bind λj=>(g j).bind λfl=>match fl with
     |.nx I=>kq pt g (ds.drop (i+1)) I|.ct I=>kq pt g (ds.drop (i+1)) I|.bk I=>.ok (.nx I)|.rt d=>.ok (.rt d):=by rw[kq]
    rw[w]at p2;cases f:mJ pt ds[i] I with
    |error x=>have:=yU f;subst this;exact p2.stuck (by rw[f];rfl)|ok a=>
     rw[f]at p2;have p2:kN K W ro F0 H0 FB OL O D ((g a).bind λfl=>match fl with
      |.nx I=>kq pt g (ds.drop (i+1)) I|.ct I=>kq pt g (ds.drop (i+1)) I|.bk I=>.ok (.nx I)|.rt d=>.ok (.rt d)):=p2
     refine gP_rep (r2.step s) n v f λq u=>⟨F1,B,a,u,?_⟩
     have l:aS FB F1:=(r.step k).fb;cases o:g a with
     |error x=>exact p2.err (by rw[o];rfl)|ok fl=>
      rw[o]at p2;cases fl with
      |nx Y=>exact λσ' F' H' r'=>⟨F',Y,r',p2⟩|ct Y=>exact λσ' F' H' r'=>⟨F',Y,r',p2⟩|bk Y=>exact λσ' F' H' r'=>p2 σ' F' H' (r'.base l)|rt d=>exact p2
   .have:i=ds.length:=am
    subst this;rw[Lp]at p2;exact .inl ⟨it.st F2 H2 r2.fb r2.st.fh,p2 h F2 H2 (r2.base (r.step k).fb)⟩
def rs_while{m:Nat}(t:tS K W ro F0 H0 OL O O (fq ft g m) D σ H):tWhile (tDT K W ft) (tS K W ro F0 H0 O O O g) D σ H:=by
 refine⟨λm σ H=>tS K W ro F0 H0 OL O O (fq ft g m) D σ H,⟨m,t⟩,?_⟩
 rintro m σ H ⟨FB,F,ρ,r,p⟩;cases m with
 |zero=>exact p.stuck rfl|succ m=>
  have i:fq ft g (m+1) ρ=(ft ρ).bind λb=>if b=d_ then(g ρ).bind λfl=>match fl with
   |.nx I=>fq ft g m I|.ct I=>fq ft g m I|.bk I=>.ok (.nx I)|.rt d=>.ok (.rt d)else .ok (.nx ρ):=by rw[fq]
  rw[i]at p;refine iV r.xY r.pB (λe f=>p.uF (r.freeze (O2:=[]) a8).st (by rw[f];rfl)) λb h F1 H1 c=>?_;rw[h]at p;have Y:=r.vD c;cases b with
  |false=>exact p σ _ H1 Y|true=>
   have p:kN K W ro F0 H0 FB OL O D ((g ρ).bind λfl=>match fl with
    |.nx I=>fq ft g m I|.ct I=>fq ft g m I|.bk I=>.ok (.nx I)|.rt d=>.ok (.rt d)):=p
   refine⟨λσ' H'=>tS K W ro F0 H0 OL O O (fq ft g m) D σ' H',λσ' H' n=>⟨m,Iu _,n⟩,FB,_,ρ,Y,?_⟩
   cases a:g ρ with
   |error x=>exact p.err (by rw[a];rfl)|ok fl=>
    rw[a]at p;cases fl with
    |nx J=>exact λσ' F' H' r'=>⟨FB,F',J,r',p⟩|ct J=>exact λσ' F' H' r'=>⟨FB,F',J,r',p⟩|bk J=>exact λσ' F' H' r'=>p σ' F' H' r'|rt d=>exact p
end
noncomputable def stk:M α:=.error .stuck
def bZ:A'->A'->M A'
 |.int i,.int j=>.ok (.int (i+j))|.str x,.str y=>if x.length+y.length<=j_ then .ok (.str (x++y))else stk
 |.lst xs,.lst ys=>if xs.length+ys.length<=j_ then .ok (.lst (xs++ys))else stk
 |.tup xs,.tup ys=>if xs.length+ys.length<=j_ then .ok (.tup (xs++ys))else stk
 |_,_=>stk
def subD:A'->A'->M A'
 |.int i,.int j=>.ok (.int (i-j))|_,_=>stk
noncomputable def dQ(i:Int):Bool:=o_ (-(2^64)<i)&&o_ (i<2^64)
def A6:A'->A'->M A'
 |.int i,.int j=>if (dQ i||dQ j)=d_ then .ok (.int (i*j))else stk
 |_,_=>stk
def iT:A'->A'->M A'
 |.int i,.int j=>if (o_ (0<j)&&o_ (j<18446744073709551616))=d_ then .ok (.int (i/j))else stk
 |_,_=>stk
def i9:A'->A'->M A'
 |.int i,.int j=>if 0<j then .ok (.int (i%j))else stk
 |_,_=>stk
def powD:A'->A'->M A'
 |.int i,.int j=>if (o_ (0<=j)&&o_ (j<=1000000)&&o_ (i.natAbs<2^64))=d_ then .ok (.int (i^j.toNat))else stk
 |_,_=>stk
def negD:A'->M A'
 |.int i=>.ok (.int (-i))|_=>stk
def ltD:A'->A'->M A'
 |.int i,.int j=>.ok (.bl (o_ (i<j)))|_,_=>stk
def leD:A'->A'->M A'
 |.int i,.int j=>.ok (.bl (o_ (i<=j)))|_,_=>stk
def gtD:A'->A'->M A'
 |.int i,.int j=>.ok (.bl (o_ (j<i)))|_,_=>stk
def geD:A'->A'->M A'
 |.int i,.int j=>.ok (.bl (o_ (j<=i)))|_,_=>stk
noncomputable def b2z(b:Bool):Int:=if b then 1 else 0
mutual
noncomputable def eqD:A'->A'->Bool
 |.non,.non=>d_|.bl a,.bl b=>a==b|.bl a,.int b=>b2z a==b|.int a,.bl b=>a==b2z b|.int a,.int b=>a==b|.str a,.str b=>a==b|.tup xs,.tup ys=>D9 xs ys|.lst xs,.lst ys=>D9 xs ys|_,_=>b_
noncomputable def D9:List A'->List A'->Bool
 |[],[]=>d_|d::ds,e::es=>eqD d e&&D9 ds es|_,_=>b_
end
mutual
noncomputable def okE:A'->Nat->Bool
 |.tup ds,n=>(match n with
  |0=>b_|n+1=>nh ds n)
 |.lst ds,n=>(match n with
  |0=>b_|n+1=>nh ds n)
 |.ins _ _,_=>b_|.dic _,_=>b_|.dil _,_=>b_|.non,_=>d_|.bl _,_=>d_|.int _,_=>d_|.str _,_=>d_
noncomputable def nh:List A'->Nat->Bool
 |[],_=>d_|d::ds,n=>okE d n&&nh ds n
end
def eqM(a b:A'):M A':=if (okE a 40&&okE b 40)=d_ then .ok (.bl (eqD a b))else stk
def neM(a b:A'):M A':=if (okE a 40&&okE b 40)=d_ then .ok (.bl (!eqD a b))else stk
def inM(a b:A'):M A':=(lU b).bind λds=>if (okE a 40&&nh ds 40)=d_ then .ok (.bl (ds.any λd=>eqD d a))else stk
def ke(a b:A'):M A':=(lU b).bind λds=>if (okE a 40&&nh ds 40)=d_ then .ok (.bl (!ds.any λd=>eqD d a))else stk
def isND:A'->A'->M A'
 |.non,.non=>.ok (.bl d_)|_,.non=>.ok (.bl b_)|_,_=>stk
def notND:A'->A'->M A'
 |.non,.non=>.ok (.bl b_)|_,.non=>.ok (.bl d_)|_,_=>stk
def iW(ds:List A')(i:Int):M A':=match atI ds i with
 |some d=>.ok d|none=>stk
def ixD:A'->A'->M A'
 |.lst ds,.int i=>iW ds i|.tup ds,.int i=>iW ds i|_,_=>stk
def mQ:List A'->M A'
 |[.lst ds]=>.ok (.int ds.length)|[.tup ds]=>.ok (.int ds.length)|_=>stk
def jG:List A'->M (List Bool)
 |[]=>.ok []|d::ds=>(asB d).bind λb=>(jG ds).bind λr=>.ok (b::r)
def pH:List A'->M ca
 |[]=>.ok []|d::ds=>(asI d).bind λb=>(pH ds).bind λr=>.ok (b::r)
def allD:List A'->M A'
 |[.lst ds]=>(jG ds).bind λbs=>.ok (.bl (bs.all id))|_=>stk
def Fp:List A'->M A'
 |[.lst ds]=>.ok (.lst ds)|[.tup ds]=>.ok (.lst ds)|_=>stk
def intD:List A'->M A'
 |[.int i]=>.ok (.int i)|[.bl b]=>.ok (.int (b2z b))|_=>stk
noncomputable def uA(i j:Int):Int:=if j<i then j else i
def minL:ca->M A'
 |[]=>stk|i::is=>.ok (.int (is.foldl uA i))
def minD:List A'->M A'
 |[.int i,.int j]=>.ok (.int (uA i j))|[.lst ds]=>(pH ds).bind minL|_=>stk
def ou:A'->M A'
 |.int _=>.ok (.bl d_)|.bl _=>.ok (.bl d_)|.ins _ _=>stk|.dic _=>stk|.dil _=>stk|_=>.ok (.bl b_)
def ox:A'->M A'
 |.bl _=>.ok (.bl d_)|.ins _ _=>stk|.dic _=>stk|.dil _=>stk|_=>.ok (.bl b_)
def oq:A'->M A'
 |.lst _=>.ok (.bl d_)|.ins _ _=>stk|.dic _=>stk|.dil _=>stk|_=>.ok (.bl b_)
def mS:A'->M (List A')
 |.lst ds=>.ok ds|_=>.error .stuck
def qN:List A'->List A'->List A'
 |d::ds,e::es=>.tup [d,e]::qN ds es|_,_=>[]
def By(fa fb:ah->M A'):ah->M (List A'):=λρ=>(fa ρ).bind λa=>(fb ρ).bind λb=>(mS a).bind λds=>(mS b).bind λes=>.ok (qN ds es)
def cn(nN n:Nat)(g:ah->M Gp)(ds:List A'):M A':=if ds.length=n then(g (ds.map a_++C_ (nN-ds.length) c_)).bind λfl=>match fl with
 |.nx _=>.ok .non|.rt d=>.ok d|_=>stk else stk
def popD(ds:List A')(k:A'):M (A'×List A'):=(asI k).bind λk=>if j_<ds.length then stk else match ixN ds.length k with
 |some j=>match ds[j]? with
  |some d=>.ok (d,ds.eraseIdx j)|none=>stk
 |none=>stk
@[simp]def aq{α β:Type}(a:α)(f:α->M β):Ob (Hb a:M α) f=f a:=id rfl
@[simp]def xa{α β:Type}(e:Err)(f:α->M β):Ob (IU e:M α) f=.error e:=id rfl
@[simp] theorem Dx:∀is:List Bool,jG (is.map A'.bl)=.ok is
 |[]=>rfl|i::is=>by simp[jG,asB,Dx is]
theorem getI_nat{ds:List A'}(h:k<ds.length):iW ds (k:Int)=.ok ds[k]:=by simp_all[iW,atI,ixN,g_]
theorem oP{p:Pat}{fe:ah->M A'}{ρ0:ah}(f:A'->A'):∀(ds:List A'),(∀d∈ds,∃ρ,mJ p d ρ0=.ok ρ/\fe ρ=.ok (f d))->bu p ir fe ρ0 ds=.ok (ds.map f)
 |[],_=>rfl|d::ds,h=>by obtain⟨ρ,e1,e2⟩:=h d a8;rw[bu,e1];simp only[aq,ir,e2,oP f ds λx I=>h x (by simp[I])];simp
@[simp]def small_def(i:Int):dQ i=(o_ (-(2^64)<i)&&o_ (i<2^64)):=id rfl
@[simp]def small_def2(i:Int):mY i=(o_ (-(2^62)<=i)&&o_ (i<2^62)):=id rfl
section
variable{fr:ah->M (List A')}{g h:ah->M Gp}
@[simp]def e_var0(d:A')(r:ah):ae 0 (a_ d::r)=.ok d:=id rfl
@[simp]def e_varS(i:Nat)(o:Option A')(r:ah):ae (i+1) (o::r)=ae i r:=by rfl
@[simp]def e_c(d:A'):fC d ρ=.ok d:=id rfl
@[simp]def e_1(k:A'->M A'):f1 k fa ρ=(fa ρ).bind k:=id rfl
@[simp]def e_2(k:A'->A'->M A'):f2 k fa fb ρ=(fa ρ).bind λa=>(fb ρ).bind λb=>k a b:=id rfl
@[simp]def e_nil:aB ρ=.ok []:=id rfl
@[simp]def e_cons:a9 fa fr ρ=(fa ρ).bind λa=>(fr ρ).bind λr=>.ok (a::r):=id rfl
@[simp]def e_L(k:List A'->M A'):fL k fr ρ=(fr ρ).bind k:=id rfl
@[simp]def e_ite:DM ft fa fb ρ=(ft ρ).bind λb=>if b=d_ then fa ρ else fb ρ:=id rfl
@[simp]def e_and:zg ft fu ρ=(ft ρ).bind λb=>if b=d_ then fu ρ else .ok b_:=id rfl
@[simp]def e_or:fOr ft fu ρ=(ft ρ).bind λb=>if b=d_ then .ok d_ else fu ρ:=id rfl
@[simp]def e_not:DL ft ρ=(ft ρ).bind λb=>.ok (!b):=id rfl
@[simp]def e_B:fB fa ρ=(fa ρ).bind asB:=id rfl
@[simp]def e_andV:mE fa fb ρ=(fa ρ).bind λa=>(asB a).bind λb=>if b=d_ then fb ρ else .ok (.bl b_):=id rfl
@[simp]def e_tru:qF fa ρ=(fa ρ).bind truD:=id rfl
@[simp]def e_chain(k k':A'->A'->M A'):ki k k' fa fb fc ρ=(fa ρ).bind λa=>(fb ρ).bind λb=>(k a b).bind λx=>(asB x).bind λz=>if z=d_ then(fc ρ).bind λc=>k' b c else .ok (.bl b_):=id rfl
@[simp]def e_yes:ir ρ=.ok d_:=id rfl
@[simp]def e_it:fIt fa ρ=(fa ρ).bind lU:=id rfl
@[simp]def e_rng(k:List A'->M (List A')):Aj k fr ρ=(fr ρ).bind k:=id rfl
@[simp]def e_zip:By fa fb ρ=(fa ρ).bind λa=>(fb ρ).bind λb=>(mS a).bind λds=>(mS b).bind λes=>.ok (qN ds es):=id rfl
@[simp]def e_comp(fi:ah->M (List A'))(ix:List (Option Nat))(p:Pat):eY fi ix p ft fa ρ=(fi ρ).bind λds=>if ds.length<=j_ then(bu p ft fa (lV ix ρ) ds).bind λr=>.ok (.lst r)else .error .stuck:=id rfl
@[simp]def e_asB(b:Bool):asB (.bl b)=.ok b:=id rfl
@[simp]def e_asI(b:Int):asI (.int b)=.ok b:=id rfl
@[simp]def e_itemsL(ds:List A'):lU (.lst ds)=.ok ds:=id rfl
@[simp]def e_itemsT(ds:List A'):lU (.tup ds)=.ok ds:=id rfl
@[simp]def e_truB(b:Bool):truD (.bl b)=.ok b:=id rfl
@[simp]def e_truL(ds:List A'):truD (.lst ds)=.ok (!ds.isEmpty):=id rfl
@[simp]def e_addI(i j:Int):bZ (.int i) (.int j)=.ok (.int (i+j)):=id rfl
@[simp]def e_subI(i j:Int):subD (.int i) (.int j)=.ok (.int (i-j)):=id rfl
@[simp]def e_negI(i:Int):negD (.int i)=.ok (.int (-i)):=id rfl
@[simp]def e_ltI(i j:Int):ltD (.int i) (.int j)=.ok (.bl (o_ (i<j))):=id rfl
@[simp]def e_leI(i j:Int):leD (.int i) (.int j)=.ok (.bl (o_ (i<=j))):=id rfl
@[simp]def e_gtI(i j:Int):gtD (.int i) (.int j)=.ok (.bl (o_ (j<i))):=id rfl
@[simp]def e_geI(i j:Int):geD (.int i) (.int j)=.ok (.bl (o_ (j<=i))):=id rfl
@[simp]def e_ixL(ds:List A')(i:Int):ixD (.lst ds) (.int i)=iW ds i:=id rfl
@[simp]def e_ixT(ds:List A')(i:Int):ixD (.tup ds) (.int i)=iW ds i:=id rfl
@[simp]def e_lenL(ds:List A'):mQ [.lst ds]=.ok (.int ds.length):=id rfl
@[simp]def e_all(ds:List A'):allD [.lst ds]=(jG ds).bind λbs=>.ok (.bl (bs.all id)):=id rfl
@[simp]def e_listL(ds:List A'):Fp [.lst ds]=.ok (.lst ds):=id rfl
@[simp]def e_min2(i j:Int):minD [.int i,.int j]=.ok (.int (uA i j)):=id rfl
@[simp]def e_isiBI(i:Int):ox (.int i)=.ok (.bl b_):=id rfl
@[simp]def e_isiII(i:Int):ou (.int i)=.ok (.bl d_):=id rfl
@[simp]def e_isiLL(ds:List A'):oq (.lst ds)=.ok (.bl d_):=id rfl
@[simp]def e_isN(d:A'):isND d .non=.ok (.bl (match d with|.non=>d_|_=>b_)):=by cases d<;>rfl
@[simp]def e_notN(d:A'):notND d .non=.ok (.bl (match d with|.non=>b_|_=>d_)):=by cases d<;>rfl
@[simp]def e_next:dN ρ=.ok (.nx ρ):=id rfl
@[simp] theorem oJ:cx g h ρ=(g ρ).bind λfl=>match fl with
 |.nx ρ'=>h ρ'|fl=>.ok fl:=id rfl
@[simp]def e_if:sIf ft g h ρ=(ft ρ).bind λb=>if b=d_ then g ρ else h ρ:=id rfl
@[simp]def e_setB(O:cc)(i:Nat):bE O i fa ρ=(fa (erase O ρ)).bind λd=>.ok (.nx (ρ.set i (a_ d))):=id rfl
@[simp]def e_ret:dO fa ρ=(fa ρ).bind λd=>.ok (.rt d):=id rfl
@[simp]def e_for(O:cc)(fi:ah->M (List A'))(p:Pat):zM O fi p g ρ=(fi (erase O ρ)).bind λds=>kq p g ds ρ:=id rfl
@[simp]def e_appA(i:Nat):uo i fa ρ=(jH ρ i).bind λds=>(fa ρ).bind λd=>if (bS d&&o_ (ds.length<j_))=d_ then put ρ i (ds++[d])else .error .stuck:=id rfl
@[simp]def e_appB(O:cc)(i:Nat):pf O i fa ρ=(jH ρ i).bind λds=>(fa (erase O ρ)).bind λd=>if ds.length<j_ then put ρ i (ds++[d])else .error .stuck:=id rfl
@[simp]def e_put(i:Nat)(ds:List A'):put ρ i ds=.ok (.nx (ρ.set i (a_ (.lst ds)))):=id rfl
@[simp]def e_lst0(ds:List A')(r:ah):jH (a_ (.lst ds)::r) 0=.ok ds:=id rfl
@[simp]def e_lstS(i:Nat)(o:Option A')(r:ah):jH (o::r) (i+1)=jH r i:=by rfl
@[simp]def e_er0:erase [] ρ=ρ:=id rfl
@[simp]def e_erS(i:Nat)(O:cc):erase (i::O) ρ=erase O (ρ.set i c_):=id rfl
@[simp]def e_bnm(i:Nat)(d:A'):mJ (.nm i) d ρ=.ok (ρ.set i (a_ d)):=id rfl
@[simp]def e_btp(is:cc)(ds:List A'):mJ (.tp is) (.tup ds) ρ=if ds.length=is.length then .ok (j6 is ds ρ)else .error .stuck:=id rfl
@[simp]def e_sa0(ds:List A'):j6 [] ds ρ=ρ:=by rfl
@[simp]def e_saS(i:Nat)(is:cc)(d:A')(ds:List A'):j6 (i::is) (d::ds) ρ=j6 is ds (ρ.set i (a_ d)):=id rfl
@[simp]def e_in0:lV [] ρ=[]:=id rfl
@[simp]def e_inN(ix:List (Option Nat)):lV (c_::ix) ρ=c_::lV ix ρ:=id rfl
@[simp]def e_inS(j:Nat)(ix:List (Option Nat)):lV (a_ j::ix) ρ=(ρ[j]?).join::lV ix ρ:=id rfl
@[simp]def e_tup(ds:List A'):iO ds=if ds.length<=j_ then .ok (.tup ds)else .error .stuck:=id rfl
@[simp]def e_lst(ds:List A'):eh ds=if ds.length<=j_ then .ok (.lst ds)else .error .stuck:=id rfl
@[simp]def e_line:j_=16777216:=Hr
@[simp] theorem e_run(a b:Nat)(ds:List A'):cn a b g ds=if ds.length=b then(g (ds.map a_++C_ (a-ds.length) c_)).bind λfl=>match fl with
 |.nx _=>.ok .non|.rt d=>.ok d|_=>stk else stk:=id rfl
@[simp]def e_rng1{j:Int}(h:mY j=d_):B5 [.int j]=.ok (d6 0 j.toNat):=by show(if mY j=d_ then _ else _)=_;rw[g_ h]
@[simp]def e_mod{i j:Int}(h:0<j):i9 (.int i) (.int j)=.ok (.int (i%j)):=by simp[i9,h]
@[simp] theorem e_fdiv{i j:Int}(h:0<j)(h2:j<18446744073709551616):iT (.int i) (.int j)=.ok (.int (i/j)):=by simp_all[iT]
@[simp]def e_mulR{i j:Int}(h:dQ j=d_):A6 (.int i) (.int j)=.ok (.int (i*j)):=by show(if (dQ i||dQ j)=d_ then _ else _)=_;rw[h,Mr,g_ rfl]
@[simp]def e_mulL{i j:Int}(h:dQ i=d_):A6 (.int i) (.int j)=.ok (.int (i*j)):=by show(if (dQ i||dQ j)=d_ then _ else _)=_;rw[h,Bool.true_or,g_ rfl]
end
section
variable{W:gf}{own:Bool}{a b c:HG}{rest:List HG}{x:i_}{f:ah->M A'}{fr:ah->M (List A')}
def PE.imp{t t':TE}(h:PE X e t)(q:∀σ H Q,t' σ H Q->t σ H Q):PE X e t':=λB' s σ H Q I z=>h B' s σ H Q I (q σ H Q z)
def PT.imp{t t':TT}(h:PT X e t)(q:∀σ H Q,t' σ H Q->t σ H Q):PT X e t':=λB' s σ H Q I z=>h B' s σ H Q I (q σ H Q z)
def PW.imp{t t':TT}(h:PW X e t)(q:∀σ H Q,t' σ H Q->t σ H Q):PW X e t':=λJ B' s σ H Q I z=>h J B' s σ H Q I (q σ H Q z)
def PA.imp{t':TA}(h:PA X es t)(q:∀σ H Q,t' σ H Q->t σ H Q):PA X es t':=λps B' s σ H Q I z=>h ps B' s σ H Q I (q σ H Q z)
def PI.imp{t t':TI}(h:PI X tg e t)(q:∀σ H Q,t' σ H Q->t σ H Q):PI X tg e t':=λB' s σ H Q I z=>h B' s σ H Q I (q σ H Q z)
def PS.imp{t t':TS}(h:PS X st t)(q:∀D σ H,t' D σ H->t D σ H):PS X st t':=λB' s σ H D I z=>h B' s σ H D I (q D σ H z)
def PSs.imp{st:List Hm}{t t':TS}(h:PSs X st t)(q:∀D σ H,t' D σ H->t D σ H):PSs X st t':=λB' s σ H D I z=>h B' s σ H D I (q D σ H z)
abbrev DE(K:Pn)(W:gf)(own:Bool)(X:Cx)(e:HG)(f:ah->M A'):Prop:=PE X e (tD K W own f)
abbrev DT(K:Pn)(W:gf)(X:Cx)(e:HG)(f:ah->M Bool):Prop:=PT X e (tDT K W f)
abbrev DW(K:Pn)(W:gf)(X:Cx)(e:HG)(f:ah->M Bool):Prop:=PW X e (tDT K W f)
abbrev DA(K:Pn)(W:gf)(X:Cx)(es:List HG)(f:ah->M (List A')):Prop:=PA X es (tDA K W f)
abbrev DI(K:Pn)(W:gf)(X:Cx)(tg e:HG)(f:ah->M (List A')):Prop:=PI X tg e (iD K W f)
abbrev DG(K:Pn)(X:Cx)(tg:HG)(p:Pat):Prop:=PG X tg (gP K p)
abbrev DS(K:Pn)(W:gf)(ro:Bool)(X:Cx)(OL O O':cc)(st:Hm)(g:ah->M Gp):Prop:=∀F0 H0:Hp,PS X st (tS K W ro F0 H0 OL O O' g)
abbrev DSs(K:Pn)(W:gf)(ro:Bool)(X:Cx)(OL O O':cc)(st:List Hm)(g:ah->M Gp):Prop:=∀F0 H0:Hp,PSs X st (tS K W ro F0 H0 OL O O' g)
abbrev Op2(K:Pn)(W:gf)(own:Bool)(X:Cx)(o:m_->m_->Oq m_)(g:A'->A'->M A'):Prop:=OpR X o (rD2 K W own g)
abbrev uL(K:Pn)(W:gf)(own:Bool)(X:Cx)(v:m_)(g:List A'->M A'):Prop:=j0 X v (rDL K W own g)
def ai(i:Nat)(J: ~~~(X.N[i]?=a_ x))(hv:autoParam (Vis X.env.scope x) Jq4)(hd:((x==("__debug__":i_))=b_)⁻¹)(I:((x==("__classdict__":i_))=b_)⁻¹):DE K W b_ X (.Name x pos) (ae i):=(pv i J hv hd I).imp λ_ _ _=>rd_var
def aa{i:Int}{j}:DE K W b_ X (.Constant (.int i) j pos) (fC (.int i)):=lI.imp λ_ _ _=>rd_c λ_=>rfl
def G5{k:Bool}{j}:DE K W b_ X (.Constant (.bool k) j pos) (fC (.bl k)):=sH.imp λ_ _ _=>rd_c λ_=>rfl
def gc{j}:DE K W b_ X (.Constant .none j pos) (fC .non):=pe_non.imp λ_ _ _=>rd_c λ_=>rfl
def aN{j}:DE K W b_ X (.Constant (.str z) j pos) (fC (.str z)):=EV.imp λ_ _ _=>rd_c λ_=>rfl
def jV{n:Int}(I:∃t,X.mg x=a_ (.int n t))(J: ~~~(Gl X x))(hd:((x==("__debug__":i_))=b_)⁻¹):DE K W b_ X (.Name x pos) (fC (.int n)):=(pe_gint J I hd).imp λ_ _ _=>rd_c λ_=>rfl
def av(h:DE K W d_ X e f):DE K W b_ X e f:=PE.imp h λ_ _ _ ⟨F,ρ,r,s,p⟩=>⟨F,ρ,r,s,p.frz⟩
def aw{op:Operator}(I:Op2 K W own X (Ih op) g)(Y:DE K W b_ X a fa)(J:DE K W b_ X b fb):DE K W own X (.BinOp a op b pos) (f2 g fa fb):=(pe_op I Y J).imp λ_ _ _=>rd_2
def de_un{op:UnaryOp}{g:A'->M A'}(I:UnR X (Of op) (rD1 K W own g))(J:DE K W b_ X a fa):DE K W own X (.UnaryOp op a pos) (f1 g fa):=(pe_un I J).imp λ_ _ _=>rd_1
def jO(I:Op2 K W b_ X (GL op) g)(c:DE K W b_ X a fa)(Y:DE K W b_ X b fb)(J:autoParam (IP op b=b_) Jq10):DE K W b_ X (.Compare a [op] [b] pos) (f2 g fa fb):=
 (pe_cmpR I c Y J).imp λ_ _ _=>rd_2
def aK(I:Op2 K W b_ X (GL op) g)(c:DE K W b_ X a fa)(Y:DE K W b_ X b fb)(J:autoParam (IP op b=b_) Jq10):DT K W X (.Compare a [op] [b] pos) (fB (f2 g fa fb)):=
 (zV I c Y J).imp λσ H Q h=>by have q:=rd_B h;exact rd_2 (own:=b_) q
def BI(J:Op2 K W b_ X (GL op) g)(I:Op2 K W b_ X (GL op') g')(f:DE K W b_ X a fa)(e:DE K W b_ X b fb)(d:DE K W b_ X c fc)(Y:autoParam (Le [op,op'] [b,c]=b_) Jq8):DE K W b_ X (.Compare a [op,op'] [b,c] pos) (ki g g' fa fb fc):=(pe_chain J I f e d Y).imp λ_ _ _=>B8
def dt_chain(J:Op2 K W b_ X (GL op) g)(I:Op2 K W b_ X (GL op') g')(f:DE K W b_ X a fa)(e:DE K W b_ X b fb)(d:DE K W b_ X c fc)(Y:autoParam (Le [op,op'] [b,c]=b_) Jq8):DT K W X (.Compare a [op,op'] [b,c] pos) (fB (ki g g' fa fb fc)):=(pt_chain J I f e d Y).imp λσ H Q h=>by have q:=rd_B h;exact B8 q
def jc(Y:DE K W b_ X a fa)(b: ~~~(X.K=K))(J:autoParam (∀I,Ng a X.env I=(do let v <- I;Mi a.pos;Mj [v] (truthy v))) Jq5):DT K W X a (qF fa):=by subst b;exact(rm Y J).imp λ_ _ _=>rd_tru
def yG(I:DT K W X a ft):DT K W X (.UnaryOp .Not a pos) (DL ft):=(ya I).imp λ_ _ _=>rd_not
def ma(I:DT K W X a ft):DW K W X (.BoolOp .And [a] pos) ft:=pw_and1 I
def m9(I:DT K W X a ft):DW K W X (.BoolOp .Or [a] pos) ft:=pw_or1 I
def qI(J:DT K W X a ft)(I:DW K W X (.BoolOp .And (b::rest) pos) fu):DW K W X (.BoolOp .And (a::b::rest) pos) (zg ft fu):=(pw_and J I).imp λ_ _ _=>rd_and
def pR(J:DT K W X a ft)(I:DW K W X (.BoolOp .Or (b::rest) pos) fu):DW K W X (.BoolOp .Or (a::b::rest) pos) (fOr ft fu):=(pw_or J I).imp λ_ _ _=>rd_or
def vg{op}(h:DE K W b_ X a f):DE K W b_ X (.BoolOp op [a] pos) f:=pe_one h
def vi(J:DE K W b_ X a fa)(I:DE K W b_ X (.BoolOp .And (b::rest) pos) fb):DE K W b_ X (.BoolOp .And (a::b::rest) pos) (mE fa fb):=(pe_and J I).imp λ_ _ _=>rd_andV
def de_or(J:DE K W b_ X a fa)(I:DE K W b_ X (.BoolOp .Or (b::rest) pos) fb):DE K W b_ X (.BoolOp .Or (a::b::rest) pos) (D7 fa fb):=(pe_or J I).imp λ_ _ _=>rd_orV
def vh(I:DT K W X c ft)(Y:DE K W own X a fa)(J:DE K W own X b fb):DE K W own X (.IfExp c a b pos) (DM ft fa fb):=(pe_ifExp I Y J).imp λ_ _ _=>rd_ite
def km:DA K W X [] aB:=aQ.imp λ_ _ _=>rd_nil
def cS(Y:DE K W b_ X e fa)(J:DA K W X es fr)(I: ~~~(h_ (e::es) X.env=(b_,GI e X.env)::h_ es X.env)):DA K W X (e::es) (a9 fa fr):=(au Y J I).imp λ_ _ _=>rd_cons
def jd{I}(h:DA K W X es fr):DE K W own X (.Tuple es I pos) (fL iO fr):=(pe_tup h).imp λ_ _ _=>rd_tup
def dj(h:DA K W X es fr):DE K W d_ X (.List es pos) (fL eh fr):=(sE h).imp λ_ _ _=>rd_lst
def aF{id:String}{g:List A'->M A'}(d:uL K W own X (.builtin id) g)(b:X.mg x=c_)(hv:IM x=a_ (.builtin id))(f:DA K W X (e::es) fr)(c: ~~~(Gl X x))(a:(x≠"__name__")⁻¹)(Y:((x==("__debug__":i_))=b_)⁻¹)(I: ~~~(h_ (e::es) X.env=(b_,GI e X.env)::h_ es X.env))(J: ~~~((He pos (h_ es X.env)).any (·.1)=b_)):DE K W own X (.Call (.Name x p) (e::es) [] pos) (fL g fr):=
 (o8 d c b hv f a Y I J).imp λ_ _ _=>rd_L
def bY{g:List A'->M A'}(d:uL K W own X (.type T) g)(b:X.mg x=c_)(hv:IM x=a_ (.type T))(f:DA K W X (e::es) fr)(c: ~~~(Gl X x))(a:(x≠"__name__")⁻¹)(Y:((x==("__debug__":i_))=b_)⁻¹)(I: ~~~(h_ (e::es) X.env=(b_,GI e X.env)::h_ es X.env))(J: ~~~((He pos (h_ es X.env)).any (·.1)=b_)):DE K W own X (.Call (.Name x p) (e::es) [] pos) (fL g fr):=
 (lJ d c b hv f a Y I J).imp λ_ _ _=>rd_L
def bh(J:IxR X (rD2 K W own g))(c:DE K W b_ X a fa)(Y:DE K W b_ X b fb)(I:Gn b:=by exact λ_ _=>rfl):DE K W own X (.Subscript a b pos) (f2 g fa fb):=(yf J c Y I).imp λ_ _ _=>rd_2
def De(Y:X.N.Nodup)(hi: ~~~(X.N[i]?=a_ x))(I:autoParam (Loc X.env.scope x) Jq6)(J:autoParam (X.fn x=d_\/X.env.scope.names.lookup x=a_ .local) Jq3):DG K X (.Name x pos) (.nm i):=jv Y hi I J
def hZ(k:DE K W b_ X e fa)(m: ~~~(X.K=K)):DI K W X tg e (fIt fa):=by
 subst m;refine PI.imp (t:=iSeq X.K (tD X.K W b_ fa)) ?_ λ_ _ _=>ri_seq;intro B' s σ H R I h;refine H9 (k B' s σ H _ I h) λv J j=>?_;obtain⟨y,H1,Y,f,g⟩:=j;obtain⟨l,e1,q⟩:=g;subst e1;cases f;rcases q with⟨⟨xs,a⟩,q⟩|⟨⟨xs,a⟩,q⟩
 .obtain⟨G',d,p,i⟩:=Y.list a;refine Ks p.isList ?_;refine⟨J.z,[J.z],_,_,H1,rfl,Y.kept (t':=J.toks) λb o e=>r_ _ e,E8 l _,⟨_,GC _ rfl,rfl,rfl⟩,λb c=>?_,q⟩
  have e:b=J.z:=by simpa using c
  subst e;exact Y.fpOk (z_ _) (Y.hok.fresh (z_ _))
 .obtain⟨G',d,p,i⟩:=Y.tuple a;refine wpAny_pyIter_tuple (show J.heap.IsTuple l G'.toArray from p) ?_;refine⟨J.z,[J.z],_,_,H1,rfl,Y.kept (t':=J.toks) λb o e=>r_ _ e,BW l _,⟨_,GC _ rfl,rfl,rfl⟩,λb c=>?_,q⟩
  have e:b=J.z:=by simpa using c
  subst e;exact Y.fpOk (z_ _) (Y.hok.fresh (z_ _))
def nF(J:X.mg "range"=c_)(b:DA K W X [a] fr)(Y: ~~~(Gl X "range"))(I: ~~~(h_ [a] X.env=[(b_,GI a X.env)])):DI K W X tg (.Call (.Name "range" p) [a] [] pos) (Aj B5 fr):=(EU Y J b I).imp λ_ _ _=>ri_rng1
variable{g h:ah->M Gp}
def bX:DSs K W ro X OL O O [] dN:=λ_ _=>gu.imp λ_ _ _=>rs_next
def ax(h1:DS K W ro X OL O O' st g)(h2:DSs K W ro X OL O' O2 sts h):DSs K W ro X OL O O2 (st::sts) (cx g h):=λF0 H0=>(aD (h1 F0 H0) (h2 F0 H0)).imp λ_ _ _=>rs_seq
def ay(h1:DS K W ro X OL O O' st g):DSs K W ro X OL O O' [st] g:=λF0 H0=>aJ (h1 F0 H0)
def wL(h1:DSs K W ro X OL O2 O' sts g)(I:(∀i∈O2,i∈O)⁻¹):DSs K W ro X OL O O' sts g:=λF0 H0=>PSs.imp (h1 F0 H0) λ_ _ _=>tS.enter I
def fV{J I:List Hm}(Y:DT K W X c ft)(b:DSs K W ro X OL O O' J g)(a:DSs K W ro X OL O O' I h):DS K W ro X OL O O' (.If c J I pos) (sIf ft g h):=λF0 H0=>(lg Y (b F0 H0) (a F0 H0)).imp λ_ _ _=>rs_if
def jU(b:X.N.Nodup)(a:DE K W own X e f)(hi: ~~~(X.N[i]?=a_ x))(I:autoParam (Loc X.env.scope x) Jq6)(J: ~~~(II e (a_ (.Name x pos')) pos.line X.env=Ig b_))(Y:autoParam (X.fn x=d_\/X.env.scope.names.lookup x=a_ .local) Jq3):
  DS K W ro X OL O (aft own i O) (.Assign [.Name x pos'] e pos) (bE O i f):=λF0 H0=>(g6 b hi I a J Y).imp λ_ _ _=>Ex
def aM(I:DE K W ro X e f):DS K W ro X OL O O' (.Return (a_ e) pos) (dO f):=λF0 H0=>(g7 I).imp λ_ _ _=>rs_ret
def ds_retV(J:(i∈O)⁻¹)(Y: ~~~(X.N[i]?=a_ x))(hv:autoParam (Vis X.env.scope x) Jq4)(hd:((x==("__debug__":i_))=b_)⁻¹)(I:((x==("__classdict__":i_))=b_)⁻¹):DS K W d_ X OL O O' (.Return (a_ (.Name x p)) pos) (dO (ae i)):=λF0 H0=>(g7 (pv i Y hv hd I)).imp λ_ _ _=>rs_retV J
def qJ{fs:ah->M (List A')}{pt:Pat}(hi:DI K W X tg iter fs)(Y:DG K X tg pt)(b:DSs K W ro X O O O body g)(n:(∀i∈pt.names,i∉O)⁻¹)(J:autoParam (Nb (GD X.prog X.w) X.A X.env X.xe) Jq11)(a: ~~~(X.calm=d_))(I:autoParam (∀x,Jk iter X.env x=Ig x) Jq5):DS K W ro X OL O O (.For tg iter body [] pos) (zM O fs pt g):=λF0 H0=>(ES J a hi Y (b F0 H0) I).imp λ_ _ _=>rs_for n
def BB{m:Nat}(J:DT K W X c ft)(Y:DSs K W ro X O O O body g)(I:autoParam (Nb (GD X.prog X.w) X.A X.env X.xe) Jq11):DS K W ro X OL O O (.While c body [] pos) (fq ft g m):=λF0 H0=>(ps_while I J (Y F0 H0)).imp λ_ _ _=>rs_while
def pS(h:DE K W b_ X e f)(g:(i∈O)⁻¹)(j: ~~~(X.N[i]?=a_ x))(hv:autoParam (Vis X.env.scope x) Jq4)(hd:((x==("__debug__":i_))=b_)⁻¹)(d:((x==("__classdict__":i_))=b_)⁻¹)(k: ~~~(X.K=K))(a: ~~~(h_ [e] X.env=[(b_,GI e X.env)]))(Y: ~~~(HA (.Name x p) "append" X.env (GI (.Name x p) X.env)=GI (.Name x p) X.env))(b: ~~~(((He q (h_ [e] X.env)).all (λx=> !x.1)&&(Ic q (Hs [] X.env)).all (λx=>x.1.isSome)&&o_ ([e].length+([]:List Ie).length+(if ([]:List Ie).isEmpty then 0 else 1)<30))=d_))(I: ~~~((He q (h_ [] X.env)).any (·.1)=b_))(J: ~~~((apos.endLine==q.line)=d_))(c: ~~~(II (.Call (.Attribute (.Name x p) "append" apos) [e] [] q) c_ pos.line X.env=Ig b_)):
  DS K W ro X OL O O (.Expr (.Call (.Attribute (.Name x p) "append" apos) [e] [] q) pos) (pf O i f):=λF0 H0=>by
 subst k;exact PS.imp (i5 (pC GN Hf Ho gI (pv i j hv hd d) (au h aQ a) Y b J a I) c) λ_ _ _=>rs_appB g
def An(h:DE K W b_ X e f)(g:(i∈O)⁻¹)(j: ~~~(X.N[i]?=a_ x))(hv:autoParam (Vis X.env.scope x) Jq4)(hd:((x==("__debug__":i_))=b_)⁻¹)(d:((x==("__classdict__":i_))=b_)⁻¹)(k: ~~~(X.K=K))(a: ~~~(h_ [e] X.env=[(b_,GI e X.env)]))(Y: ~~~(HA (.Name x p) "append" X.env (GI (.Name x p) X.env)=GI (.Name x p) X.env))(b: ~~~(((He q (h_ [e] X.env)).all (λx=> !x.1)&&(Ic q (Hs [] X.env)).all (λx=>x.1.isSome)&&o_ ([e].length+([]:List Ie).length+(if ([]:List Ie).isEmpty then 0 else 1)<30))=d_))(I: ~~~((He q (h_ [] X.env)).any (·.1)=b_))(J: ~~~((apos.endLine==q.line)=d_))(c: ~~~(II (.Call (.Attribute (.Name x p) "append" apos) [e] [] q) c_ pos.line X.env=Ig b_)):
  DS K W ro X OL O O (.Expr (.Call (.Attribute (.Name x p) "append" apos) [e] [] q) pos) (uo i f):=λF0 H0=>by
 subst k;exact PS.imp (i5 (pC GN Hf Ho gI (pv i j hv hd d) (au h aQ a) Y b J a I) c) λ_ _ _=>rs_appA g
end
section
variable{W:gf}{own:Bool}
def OpR.imp{f:m_->m_->Oq m_}{r:R2}(h:OpR X f r)(q:∀x y H Q,r' x y H Q->r x y H Q):OpR X f r':=λB' s σ H x y v u Q I Y J z=>h B' s σ H x y v u Q I Y J (q x y H Q z)
def UnR.imp{f:m_->Oq m_}{r r':V->Hp->VK->Prop}(h:UnR X f r)(q:∀x H Q,r' x H Q->r x H Q):UnR X f r':=λB' s σ H x v Q I J z=>h B' s σ H x v Q I J (q x H Q z)
def j0.imp{f:m_}{r r':b'->Hp->VK->Prop}(h:j0 X f r)(q:∀x H Q,r' x H Q->r x H Q):j0 X f r':=λB' s σ H x v Q I J z=>h B' s σ H x v Q I J (q x H Q z)
def IxR.imp{r:R2}(h:IxR X r)(q:∀x y H Q,r' x y H Q->r x y H Q):IxR X r':=λJ Y B' s σ H x y v u Q I b a z e=>h J Y B' s σ H x y v u Q I b a (q x y H Q z) e
def aH.stuck{P:Prop}(p:aH K W own F H (stk) Q):P:=(W.ns p).elim
theorem aH.int{F H:Hp}{Q:VK}{i:Int}(p:aH K W own F H (.ok (.int i)) Q)(s:aS F H):Q (.int i) H:=p _ F H (C6.refl s) (by cases own<;>rfl)
theorem aH.bl{F H:Hp}{Q:VK}{b:Bool}(p:aH K W own F H (.ok (.bl b)) Q)(s:aS F H):Q (.bl b) H:=p _ F H (C6.refl s) (by cases own<;>rfl)
theorem aH.str{F H:Hp}{Q:VK}{x:i_}(p:aH K W own F H (.ok (.str x)) Q)(s:aS F H):Q (.str x) H:=p _ F H (C6.refl s) (by cases own<;>rfl)
theorem aH.tup{F H:Hp}{Q:VK}{ds:List A'}{xs:b'}{a:f_}(p:aH K W own F H (.ok (.tup ds)) Q)(s:aS F H)(q:az K F ds xs)(I:H a=c_):Q (.ref a) (upd H a (.tup xs)):=
 p _ _ _ (C6.lay s I) (by
  have:aR K (upd F a (.tup xs)) (.tup ds) (.ref a):=⟨a,xs,rfl,SqT.of aj,q.mono (aS.upd (s.free I))⟩
  cases own<;>exact this)
def aH.same{ds:List A'}(p:aH K W own F H (.ok (.tup ds)) Q)(s:aS F H)(q:aR K F (.tup ds) v):Q v H:=p _ F H (C6.refl s) (by cases own<;>exact q)
theorem aH.lst{F H:Hp}{Q:VK}{ds:List A'}{xs:b'}{a:f_}(p:aH K W d_ F H (.ok (.lst ds)) Q)(s:aS F H)(q:az K F ds xs)(I:H a=c_):Q (.ref a) (upd H a (.lst xs)):=
 p _ F _ (C6.grow s I) ⟨a,xs,rfl,aj,s.free I,I,q⟩
def jh(Y:∀a b,(∃i j,a=.int i/\b=.int j)\/g a b=stk){x y:V}(h:rD2 K W own g x y H Q):∃F i j,aS F H/\x=.int i/\y=.int j/\aH K W own F H (g (.int i) (.int j)) Q:=by
 obtain⟨F,a,b,s,J,I,p⟩:=h;rcases Y a b with⟨i,j,rfl,rfl⟩|e
 .exact⟨F,i,j,s,J,I,p⟩
 .rw[e]at p;exact p.stuck
def o_sub:Op2 K W own X (Ih .Sub) subD:=op_sub.imp λx y H Q h=>by obtain⟨F,i,j,s,e1,e2,p⟩:=jh (λa b=>by cases a<;>cases b<;>first|exact .inr rfl|exact .inl ⟨_,_,rfl,rfl⟩) h;exact⟨i,j,e1,e2,p.int s⟩
def wg:Op2 K W own X (Ih .Mult) A6:=op_mul.imp λx y H Q h=>by
 obtain⟨F,i,j,s,e1,e2,p⟩:=jh (λa b=>by cases a<;>cases b<;>first|exact .inr rfl|exact .inl ⟨_,_,rfl,rfl⟩) h;have J:aH K W own F H (if (dQ i||dQ j)=d_ then .ok (.int (i*j))else stk) Q:=p;by_cases I:(dQ i||dQ j)=d_
 .rw[g_ I]at J;refine⟨i,j,e1,e2,?_,J.int s⟩
  unfold dQ at I;simp only[JQ,l_,GH]at I;exact I
 .rw[k_ I]at J;exact J.stuck
theorem Fo{j:Int}(I:0<j)(h1:j<18446744073709551616):j.natAbs.log2<9000:=by
 have a:j.natAbs<2^64:=am
 have b:=(Nat.log2_lt (n:=j.natAbs) (k:=64) am).mpr a;lia
theorem EY:OpR X (Ih .FloorDiv) (rI (λ_ j=>0<j/\j<18446744073709551616) λi j=>.int (i/j)):=opI λi j _ _ _ _ _ I q=>by obtain⟨c1,c2⟩:=I;exact floordiv_int am (by rw[Int.fdiv_eq_ediv_of_nonneg i am];exact q) (.inl (PyProof.noPylong_of_log2 (Fo c1 c2)))
def ee:Op2 K W own X (Ih .FloorDiv) iT:=EY.imp λx y H Q h=>by
 obtain⟨F,i,j,s,e1,e2,p⟩:=jh (λa b=>by cases a<;>cases b<;>first|exact .inr rfl|exact .inl ⟨_,_,rfl,rfl⟩) h;have I:aH K W own F H (if (o_ (0<j)&&o_ (j<18446744073709551616))=d_ then .ok (.int (i/j))else stk) Q:=p;by_cases J:(o_ (0<j)&&o_ (j<18446744073709551616))=d_
 .rw[g_ J]at I;simp only[l_,GH]at J;exact⟨i,j,e1,e2,J,I.int s⟩
 .rw[k_ J]at I;exact I.stuck
def bM:Op2 K W own X (Ih .Mod) i9:=op_mod.imp λx y H Q h=>by
 obtain⟨F,i,j,s,e1,e2,p⟩:=jh (λa b=>by cases a<;>cases b<;>first|exact .inr rfl|exact .inl ⟨_,_,rfl,rfl⟩) h;have I:aH K W own F H (if 0<j then .ok (.int (i%j))else stk) Q:=p;by_cases J:0<j
 .rw[g_ J]at I;exact⟨i,j,e1,e2,J,I.int s⟩
 .rw[k_ J]at I;exact I.stuck
def yn:Op2 K W own X (Ih .Pow) powD:=op_pow.imp λx y H Q h=>by
 obtain⟨F,i,j,s,e1,e2,p⟩:=jh (λa b=>by cases a<;>cases b<;>first|exact .inr rfl|exact .inl ⟨_,_,rfl,rfl⟩) h;have J:aH K W own F H (if (o_ (0<=j)&&o_ (j<=1000000)&&o_ (i.natAbs<2^64))=d_ then .ok (.int (i^j.toNat))else stk) Q:=p;by_cases I:(o_ (0<=j)&&o_ (j<=1000000)&&o_ (i.natAbs<2^64))=d_
 .rw[g_ I]at J;simp only[l_,GH]at I;exact⟨i,j,e1,e2,⟨I.1.1,I.1.2,I.2⟩,J.int s⟩
 .rw[k_ I]at J;exact J.stuck
def o_neg:UnR X (Of .USub) (rD1 K W own negD):=un_neg.imp λx H Q h=>by
 obtain⟨F,a,s,I,p⟩:=h;cases a with
 |int i=>exact⟨i,I,aH.int (own:=own) p s⟩|_=>exact aH.stuck p
def o_lt:Op2 K W own X (GL .Lt) ltD:=op_lt.imp λx y H Q h=>by obtain⟨F,i,j,s,e1,e2,p⟩:=jh (λa b=>by cases a<;>cases b<;>first|exact .inr rfl|exact .inl ⟨_,_,rfl,rfl⟩) h;exact⟨i,j,e1,e2,p.bl s⟩
def o_le:Op2 K W own X (GL .LtE) leD:=op_le.imp λx y H Q h=>by obtain⟨F,i,j,s,e1,e2,p⟩:=jh (λa b=>by cases a<;>cases b<;>first|exact .inr rfl|exact .inl ⟨_,_,rfl,rfl⟩) h;exact⟨i,j,e1,e2,p.bl s⟩
def o_gt:Op2 K W own X (GL .Gt) gtD:=op_gt.imp λx y H Q h=>by obtain⟨F,i,j,s,e1,e2,p⟩:=jh (λa b=>by cases a<;>cases b<;>first|exact .inr rfl|exact .inl ⟨_,_,rfl,rfl⟩) h;exact⟨i,j,e1,e2,p.bl s⟩
def o_ge:Op2 K W own X (GL .GtE) geD:=op_ge.imp λx y H Q h=>by obtain⟨F,i,j,s,e1,e2,p⟩:=jh (λa b=>by cases a<;>cases b<;>first|exact .inr rfl|exact .inl ⟨_,_,rfl,rfl⟩) h;exact⟨i,j,e1,e2,p.bl s⟩
theorem op_catL:OpR X (Ih .Add) (λx y H Q=>∃l b xs zs,x=.ref l/\y=.ref b/\SqL X.K H l xs/\SqL X.K H b zs/\xs.length+zs.length<=j_/\∀p,H p=c_->Q (.ref p) (upd H p (.lst (xs++zs)))):=by
 intro B' s σ H x y v u Q I t o h;obtain⟨l,b,xs,zs,rfl,rfl,z,A,F,q⟩:=h;cases t;cases o;obtain⟨G',r,p1,G⟩:=I.list z;obtain⟨J,r2,p2,w⟩:=I.list A;have E:=r.length;have D:=r2.length;obtain⟨⟨C,dd,j,m⟩,g,i,n,hd⟩:=id p1.isList;obtain⟨⟨k,e,f,d⟩,Y,c,n2,a⟩:=id p2.isList;simp only at i hd c a;subst i hd c a;refine LA ⟨_,g,rfl⟩ ⟨_,Y,rfl⟩ noFill_list_add seq_list_add PySem.F.slot_list_add PySem.F.entry_list_add (PySem.F.args_list_add_2 _ _) (list_addW l b G'.toArray J.toArray n n2 dd e m d bt) ⟨g,Y,?_⟩;have B:G'.toArray++J.toArray=(G'++J).toArray:=by simp
 rw[B];exact⟨.ref _,_,I.lnew (t':=s.toks) (r.append r2) (by rw[Gx];lia),rfl,q _ I.fresh⟩
def op_cat3:OpR X (Ih .Add) (λx y H Q=>∃a b xs ys,x=.ref a/\y=.ref b/\SqT X.K H a xs/\SqT X.K H b ys/\xs.length+ys.length<=j_/\(xs=[]->Q (.ref b) H)/\(ys=[]->Q (.ref a) H)/\∀p,H p=c_->Q (.ref p) (upd H p (.tup (xs++ys)))):=by
 intro B' s σ H x y v u Q I k j h;obtain⟨a,b,xs,ys,rfl,rfl,r,q,E,D,C,B⟩:=h;by_cases l:xs=[]
 .subst l;cases k;cases j;obtain⟨G',A,p1,_⟩:=I.tuple r;obtain⟨J,r2,p2,_⟩:=I.tuple q;cases A;obtain⟨⟨G,dd,t,z⟩,m,o,n,hd⟩:=id p1;obtain⟨⟨w,g,i,f⟩,Y,d,n2,c⟩:=id p2;simp only at o hd d c;subst o hd d c;exact LA ⟨_,m,rfl⟩ ⟨_,Y,rfl⟩ LU MQ Kk Kc (J_ _ _)
   (tuple_addW0 a b #[] J.toArray n n2 dd g z f rfl) ⟨m,Y,⟨.ref b,H,I,rfl,D rfl⟩⟩
 .exact op_catT B' s σ H _ _ v u Q I k j ⟨a,b,xs,ys,rfl,rfl,r,q,l,E,λe=>C e,λ_ p F=>B p F⟩
def bA(g: ~~~(X.K=K)):Op2 K W d_ X (Ih .Add) bZ:=by
 subst g;refine(op_add.or (CI.or (op_catL.or op_cat3))).imp λx y H Q h=>?_;obtain⟨F,a,b,s,d,c,p⟩:=h;cases a with
 |int i=>
  cases b with
  |int j=>exact .inl ⟨i,j,d,c,p.int s⟩|_=>exact aH.stuck p
 |str z=>
  cases b with
  |str w=>
   have I:aH X.K W d_ F H (if z.length+w.length<=j_ then .ok (.str (z++w))else stk) Q:=p;by_cases J:z.length+w.length<=j_
   .rw[g_ J]at I;exact .inr (.inl ⟨z,w,d,c,J,I.str s⟩)
   .rw[k_ J]at I;exact I.stuck
  |_=>exact aH.stuck p
 |lst ds=>
  cases b with
  |lst es=>
   obtain⟨a,xs,e1,t1,Y⟩:=d;obtain⟨b,ys,e2,t2,r2⟩:=c;have I:aH X.K W d_ F H (if ds.length+es.length<=j_ then .ok (.lst (ds++es))else stk) Q:=p;by_cases J:ds.length+es.length<=j_
   .rw[g_ J]at I;exact .inr (.inr (.inl ⟨a,b,xs,ys,e1,e2,s.lst t1,s.lst t2,by rw[Y.length,r2.length];exact J,λl f=>I.lst s (Y.append r2) f⟩))
   .rw[k_ J]at I;exact I.stuck
  |_=>exact aH.stuck p
 |tup ds=>
  cases b with
  |tup es=>
   obtain⟨a,xs,e1,t1,Y⟩:=d;obtain⟨b,ys,e2,t2,r2⟩:=c;have I:aH X.K W d_ F H (if ds.length+es.length<=j_ then .ok (.tup (ds++es))else stk) Q:=p;by_cases J:ds.length+es.length<=j_
   .rw[g_ J]at I;refine .inr (.inr (.inr ⟨a,b,xs,ys,e1,e2,s.tup t1,s.tup t2,by rw[Y.length,r2.length];exact J,λe=>?_,λe=>?_,λl f=>I.tup s (Y.append r2) f⟩))
    .have z:ds=[]:=by have:=Y.length;rw[e]at this;exact Ju.mp this.symm
     subst z;exact I.same s ⟨b,ys,rfl,t2,r2⟩
    .have z:es=[]:=by have:=r2.length;rw[e]at this;exact Ju.mp this.symm
     subst z;rw[Ia]at I;exact I.same s ⟨a,xs,rfl,t1,Y⟩
   .rw[k_ J]at I;exact I.stuck
  |_=>exact aH.stuck p
 |_=>exact aH.stuck p
def o_isN:Op2 K W own X (GL .Is) isND:=op_isN.imp λx y H Q h=>by
 obtain⟨F,a,b,s,I,J,p⟩:=h;have key:∀{k:Bool},isND a b=.ok (.bl k)->b=.non->(o_ (x=V.non)=k)->y=V.non/\Q (.bl (o_ (x=V.non))) H:=λ{k} e1 e2 e3=>by subst e2;rw[e1]at p;rw[e3];exact⟨J,p.bl s⟩
 cases b with
 |non=>
  cases a with
  |non=>exact key rfl rfl (by rw[show x=.non from I];rfl)|bl k=>exact key rfl rfl (by rw[show x=.bl k from I];rfl)|int k=>exact key rfl rfl (by rw[show x=.int k from I];rfl)|str k=>exact key rfl rfl (by rw[show x=.str k from I];rfl)|tup ds=>obtain⟨l,xs,e,_⟩:=I;exact key rfl rfl (by rw[e];rfl)
  |lst ds=>obtain⟨l,xs,e,_⟩:=I;exact key rfl rfl (by rw[e];rfl)
  |ins C fs=>obtain⟨l,dx,xs,e,_⟩:=I;exact key rfl rfl (by rw[e];rfl)
  |dic ks=>obtain⟨l,xs,e,_⟩:=I;exact key rfl rfl (by rw[e];rfl)
  |dil ks=>obtain⟨l,xs,e,_⟩:=I;exact key rfl rfl (by rw[e];rfl)
 |_=>cases a<;>exact aH.stuck p
def o_notN:Op2 K W own X (GL .IsNot) notND:=op_notN.imp λx y H Q h=>by
 obtain⟨F,a,b,s,I,J,p⟩:=h;have key:∀{k:Bool},notND a b=.ok (.bl k)->b=.non->((!decide (x=V.non))=k)->y=V.non/\Q (.bl (!decide (x=V.non))) H:=λ{k} e1 e2 e3=>by subst e2;rw[e1]at p;rw[e3];exact⟨J,p.bl s⟩
 cases b with
 |non=>
  cases a with
  |non=>exact key rfl rfl (by rw[show x=.non from I];rfl)|bl k=>exact key rfl rfl (by rw[show x=.bl k from I];rfl)|int k=>exact key rfl rfl (by rw[show x=.int k from I];rfl)|str k=>exact key rfl rfl (by rw[show x=.str k from I];rfl)|tup ds=>obtain⟨l,xs,e,_⟩:=I;exact key rfl rfl (by rw[e];rfl)
  |lst ds=>obtain⟨l,xs,e,_⟩:=I;exact key rfl rfl (by rw[e];rfl)
  |ins C fs=>obtain⟨l,dx,xs,e,_⟩:=I;exact key rfl rfl (by rw[e];rfl)
  |dic ks=>obtain⟨l,xs,e,_⟩:=I;exact key rfl rfl (by rw[e];rfl)
  |dil ks=>obtain⟨l,xs,e,_⟩:=I;exact key rfl rfl (by rw[e];rfl)
 |_=>cases a<;>exact aH.stuck p
theorem FJ{ds:List A'}{xs:b'}{i:Int}(p:aH K W b_ F H (iW ds i) Q)(s:aS F H)(r:az K F ds xs):∃v,atI xs i=a_ v/\Q v H:=by
 unfold iW at p;cases e:atI ds i with
 |none=>rw[e]at p;exact aH.stuck p|some d=>
  rw[e]at p;unfold atI at e;cases I:ixN ds.length i with
  |none=>simp_all|some j=>
   rw[I]at e;obtain⟨v,e1,q⟩:=r.get (show ds[j]?=a_ d from e);refine⟨v,?_,p v F H (C6.refl s) q⟩
   unfold atI;rw[r.length,I];exact e1
def gm(c: ~~~(X.K=K)):IxR X (rD2 K W b_ ixD):=by
 subst c;refine ix_seq.imp λx y H Q h=>?_;obtain⟨F,a,b,s,Y,J,p⟩:=h;cases a with
 |lst ds=>
  cases b with
  |int i=>obtain⟨a,xs,e1,t1,I⟩:=Y;obtain⟨v,e2,q⟩:=FJ p s I;exact .inl ⟨a,xs,i,v,e1,J,s.lst t1,e2,q⟩
  |_=>exact aH.stuck p
 |tup ds=>
  cases b with
  |int i=>obtain⟨a,xs,e1,t1,I⟩:=Y;obtain⟨v,e2,q⟩:=FJ p s I;exact .inr (.inl ⟨a,xs,i,v,e1,J,s.tup t1,e2,q⟩)
  |_=>exact aH.stuck p
 |_=>exact aH.stuck p
def gH(I: ~~~(X.K=K)):uL K W own X (.builtin "len") mQ:=by
 subst I;refine mh.imp λxs H Q h=>?_;obtain⟨F,ds,s,q,p⟩:=h;cases ds with
 |nil=>exact aH.stuck p|cons d ds=>
  cases ds with
  |cons _ _=>cases d<;>exact aH.stuck p
  |nil=>
   obtain⟨v,vs,e,q,e2⟩:=q;cases d with
   |lst es=>
    obtain⟨a,ys,e1,t,r⟩:=q;refine⟨a,ys,by rw[e,e1,show vs=[]from e2],.inl (s.lst t),?_⟩
    rw[r.length];exact aH.int (own:=own) p s
   |tup es=>
    obtain⟨a,ys,e1,t,r⟩:=q;refine⟨a,ys,by rw[e,e1,show vs=[]from e2],.inr (s.tup t),?_⟩
    rw[r.length];exact aH.int (own:=own) p s
   |_=>exact aH.stuck p
end
section
variable{W:gf}{own:Bool}
def pD{g:List A'->M A'}(J:∀ds,(∃d,ds=[d])\/g ds=stk){xs:b'}(h:rDL K W own g xs H Q):∃F d x,aS F H/\xs=[x]/\aR K F d x/\aH K W own F H (g [d]) Q:=by
 obtain⟨F,ds,s,q,p⟩:=h;rcases J ds with⟨d,rfl⟩|e
 .obtain⟨v,vs,e,I,e2⟩:=q;exact⟨F,d,v,s,by rw[e,show vs=[]from e2],I,p⟩
 .rw[e]at p;exact p.stuck
def two_arg{g:List A'->M A'}(Y:∀ds,(∃d,ds=[d])\/(∃d e,ds=[d,e])\/g ds=stk){xs:b'}(h:rDL K W own g xs H Q):(∃F d x,aS F H/\xs=[x]/\aR K F d x/\aH K W own F H (g [d]) Q)\/∃F d e x y,aS F H/\xs=[x,y]/\aR K F d x/\aR K F e y/\aH K W own F H (g [d,e]) Q:=by
 obtain⟨F,ds,s,q,p⟩:=h;rcases Y ds with⟨d,rfl⟩|⟨d,e,rfl⟩|e
 .obtain⟨v,vs,e,I,e2⟩:=q;exact .inl ⟨F,d,v,s,by rw[e,show vs=[]from e2],I,p⟩
 .obtain⟨v,vs,e1,I,w,ws,e2,J,e3⟩:=q;exact .inr ⟨F,d,e,v,w,s,by rw[e1,e2,show ws=[]from e3],I,J,p⟩
 .rw[e]at p;exact p.stuck
theorem vn{F:Hp}:∀{ds:List A'} {xs:b'} {bs:List Bool},az K F ds xs->jG ds=.ok bs->xs=bs.map V.bl
 |[],_,_,q,e=>by cases e;exact q|d::ds,_,bs,⟨v,vs,e1,q,r⟩,e=>by
  cases d with
  |bl b=>
   cases e2:jG ds with
   |error x=>simp_all[jG,asB,aq,xa]|ok cs=>simp only[jG,asB,aq,e2]at e;cases e;rw[e1,show v=.bl b from q,vn r e2];rfl
  |_=>cases e
theorem vo:∀{ds:List A'} {e:Err},jG ds=.error e->e=.stuck
 |[],_,h=>by cases h|d::ds,e,h=>by
  cases d with
  |bl b=>
   cases e2:jG ds with
   |error x=>simp only[jG,asB,aq,e2,xa]at h;cases h;exact vo e2|ok cs=>simp_all[jG,asB,aq]
  |_=>cases h;rfl
theorem tf{F:Hp}:∀{ds:List A'} {xs:b'} {bs:ca},az K F ds xs->pH ds=.ok bs->xs=bs.map V.int
 |[],_,_,q,e=>by cases e;exact q|d::ds,_,bs,⟨v,vs,e1,q,r⟩,e=>by
  cases d with
  |int b=>
   cases e2:pH ds with
   |error x=>simp_all[pH,asI,aq,xa]|ok cs=>simp only[pH,asI,aq,e2]at e;cases e;rw[e1,show v=.int b from q,tf r e2];rfl
  |_=>cases e
theorem ti:∀{ds:List A'} {e:Err},pH ds=.error e->e=.stuck
 |[],_,h=>by cases h|d::ds,e,h=>by
  cases d with
  |int b=>
   cases e2:pH ds with
   |error x=>simp only[pH,asI,aq,e2,xa]at h;cases h;exact ti e2|ok cs=>simp_all[pH,asI,aq]
  |_=>cases h;rfl
def Dw(Y:X.calm=d_)(f: ~~~(X.K=K)):uL K W own X (.builtin "all") allD:=by
 subst f;refine(call_all Y).imp λxs H Q h=>?_;obtain⟨F,d,x,s,e,q,p⟩:=pD (λds=>by match ds with|[d]=>exact .inl ⟨d,rfl⟩|[]=>exact .inr rfl|a::b::c=>exact .inr (by cases a<;>rfl)) h;cases d with
 |lst ds=>
  obtain⟨a,ys,e1,t,r⟩:=q;have I:aH X.K W own F H ((jG ds).bind λbs=>.ok (.bl (bs.all id))) Q:=p;cases J:jG ds with
  |error z=>rw[J]at I;have:=vo J;subst this;exact aH.stuck I|ok bs=>
   rw[J]at I;refine⟨a,bs,by rw[e,e1],?_,aH.bl (own:=own) I s⟩
   rw[<- vn r J];exact s.lst t
 |_=>exact aH.stuck p
def c_list(J: ~~~(X.K=K)):uL K W d_ X (.type "list") Fp:=by
 subst J;refine iU.imp λxs H Q h=>?_;obtain⟨F,d,x,s,e,q,p⟩:=pD (λds=>by match ds with|[d]=>exact .inl ⟨d,rfl⟩|[]=>exact .inr rfl|a::b::c=>exact .inr (by cases a<;>rfl)) h;cases d with
 |lst ds=>obtain⟨a,ys,e1,t,r⟩:=q;exact⟨a,ys,by rw[e,e1],.inl (s.lst t),λl I=>aH.lst p s r I⟩
 |tup ds=>obtain⟨a,ys,e1,t,r⟩:=q;exact⟨a,ys,by rw[e,e1],.inr (s.tup t),λl I=>aH.lst p s r I⟩
 |_=>exact aH.stuck p
def c_int:uL K W own X (.type "int") intD:=Gg.imp λxs H Q h=>by
 obtain⟨F,d,x,s,e,q,p⟩:=pD (λds=>by match ds with|[d]=>exact .inl ⟨d,rfl⟩|[]=>exact .inr rfl|a::b::c=>exact .inr (by cases a<;>rfl)) h;cases d with
 |int i=>exact .inl ⟨i,by rw[e,show x=.int i from q],aH.int (own:=own) p s⟩|bl b=>exact .inr ⟨b,by rw[e,show x=.bl b from q],aH.int (own:=own) p s⟩|_=>exact aH.stuck p
theorem fold_min:∀(is:ca) (i:Int),(is.foldl uA i=i\/is.foldl uA i∈is)/\is.foldl uA i<=i/\∀a∈is,is.foldl uA i<=a
 |[],i=>⟨.inl rfl,Int.le_refl _,λ_ h=>nomatch h⟩
 |j::is,i=>by
  obtain⟨h1,h2,J⟩:=fold_min is (uA i j);have z:(uA i j=i\/uA i j=j)/\uA i j<=i/\uA i j<=j:=by unfold uA;split<;>(refine⟨?_,?_,?_⟩<;>first|exact .inl rfl|exact .inr rfl|lia)
  rw[List.foldl_cons];refine⟨?_,OW h2 z.2.1,λa I=>?_⟩
  .rcases h1 with h1|h1
   .rw[h1];rcases z.1 with z|z
    .exact .inl z
    .exact .inr (by rw[z];exact Hg)
   .exact .inr (Gv _ h1)
  .rcases q_.mp I with e|e
   .rw[e];exact OW h2 z.2.2
   .exact J a e
theorem Ag{is:ca}{i m:Int}(h1:m∈i::is)(h2:∀a∈i::is,m<=a):is.foldl uA i=m:=by
 obtain⟨g1,g2,g3⟩:=fold_min is i;have J:m<=is.foldl uA i:=by
  rcases g1 with g|g
  .rw[g];exact h2 i Hg
  .exact h2 _ (Gv _ g)
 have I:is.foldl uA i<=m:=by
  rcases q_.mp h1 with e|e
  .rw[e];exact g2
  .exact g3 m e
 lia
theorem Gd(l:X.calm=d_):j0 X (.builtin "min") (λxs H Q=>∃a i is,xs=[.ref a]/\SqL X.K H a ((i::is).map V.int)/\Q (.int (is.foldl uA i)) H):=by
 intro B' s σ H xs us Q I r h;obtain⟨a,i,is,rfl,f,q⟩:=h;obtain⟨u,rfl,d⟩:=r.one;cases d;obtain⟨G',c,p,w⟩:=I.list f;have hi:=intsAre_of c;obtain⟨xs,e⟩:=hi.allInts.items;have J:i::is=xs.toList.map (·.1):=by rw[<- hi.numsOf,<- nums_intItems,<- e]
 have hsz:0<xs.size:=by have n:=Jo ML J;simp at n;lia
 have Y:=p.isList;rw[e]at Y;refine min_intList (I.ok.hd l) Y hsz λv h' o hv g=>?_;obtain⟨t,rfl⟩:=intItems_at hv;obtain⟨h1,h2⟩:=argBest_lt (numAt xs) (xs.size-1);refine⟨.int _,H,I.kept g,⟨t,rfl⟩,?_⟩
 have:=Ag (is:=is) (i:=i) (m:=numAt xs (argBest (λi j=>o_ (numAt xs i<numAt xs j)) (xs.size-1))) (by
   rw[J,numAt_eq];exact getD_mem (by rw[w_,Im];lia)) (λa b=>by
   rw[J]at b;obtain⟨j,k,rfl⟩:=mem_getD b;rw[w_,Im]at k;rw[<- numAt_eq];exact h2 j am)
 simp_all
def c_min(Y:X.calm=d_)(k: ~~~(X.K=K)):uL K W own X (.builtin "min") minD:=by
 subst k;refine((Ge Y).or (Gd Y)).imp λxs H Q h=>?_;rcases two_arg (λds=>by match ds with|[d]=>exact .inl ⟨d,rfl⟩|[d,e]=>exact .inr (.inl ⟨d,e,rfl⟩)|[]=>exact .inr (.inr rfl)|a::b::c::d=>exact .inr (.inr (by cases a<;>cases b<;>rfl))) h with⟨F,d,x,s,e,q,p⟩|⟨F,d,f,x,y,s,e,q,g,p⟩
 .cases d with
  |lst ds=>
   obtain⟨a,ys,e1,t,r⟩:=q;have I:aH X.K W own F H ((pH ds).bind minL) Q:=p;cases J:pH ds with
   |error z=>rw[J]at I;have:=ti J;subst this;exact aH.stuck I|ok is=>
    rw[J]at I;cases is with
    |nil=>exact aH.stuck I|cons i is=>refine .inr ⟨a,i,is,by rw[e,e1],?_,aH.int (own:=own) I s⟩;rw[<- tf r J];exact s.lst t
  |_=>exact aH.stuck p
 .cases d with
  |int i=>
   cases f with
   |int j=>exact .inl ⟨i,j,by rw[e,show x=.int i from q,show y=.int j from g],aH.int (own:=own) p s⟩|_=>exact aH.stuck p
  |_=>cases f<;>exact aH.stuck p
end
theorem SqL.inj{B':Vp}{σ:St}{H:Hp}{s:u_}{a:f_}{xs ys:b'}(I:Cv X B' σ H s)(h:SqL X.K H a xs)(h':SqL X.K H a ys):xs=ys:=by
 obtain⟨c,Y,p1,_⟩:=I.list h;obtain⟨b,r2,p2,_⟩:=I.list h';obtain⟨o,n,e,_,_,d⟩:=p1;obtain⟨o',f,J,_,_,d'⟩:=p2;rw[e]at J;cases J;rw[d]at d';injection d' with d1 _
 have:c=b:=by simpa using Jo Lb d1
 subst this;exact Y.inj r2
theorem SqT.inj{B':Vp}{σ:St}{H:Hp}{s:u_}{a:f_}{xs ys:b'}(I:Cv X B' σ H s)(h:SqT X.K H a xs)(h':SqT X.K H a ys):xs=ys:=by
 obtain⟨c,Y,p1,_⟩:=I.tuple h;obtain⟨b,r2,p2,_⟩:=I.tuple h';obtain⟨o,e,_,n,d⟩:=p1;obtain⟨o',J,_,f,d'⟩:=p2;rw[e]at J;cases J;rw[d]at d';injection d' with d1 _
 have:c=b:=by simpa using Jo Lb d1
 subst this;exact Y.inj r2
def az.all_eq{F:Hp}(e:Nat->Bool):∀{ds es:List A'},ds.length=es.length->(∀(j:Nat) a b,ds[j]?=a_ a->es[j]?=a_ b->e j=eqD a b)->(HF ds.length).all e=D9 ds es:=by
 intro ds
 induction ds generalizing e with
 |nil=>intro es h _;cases es with
  |nil=>rfl|cons _ _=>simp at h
 |cons d ds I=>
  intro es h q;cases es with
  |nil=>simp at h|cons b es=>
   rw[Gy,Mp,Oa,JX,D9];rw[q 0 d b rfl rfl]
   congr 1
   exact I (e∘Nat.succ) (by simpa using h) λj x y Y J=>q (j+1) x y (by simpa using Y) (by simpa using J)
theorem rG:∀{ds es:List A'},ds.length≠es.length->D9 ds es=b_
 |[],[],h=>Gw rfl h|[],_::_,_=>rfl|_::_,[],_=>rfl|d::ds,e::es,h=>by rw[D9,rG (ds:=ds) (es:=es) (λz=>h (by simp[z])),J9]
theorem BA(e:Nat->Bool):∀{ds es:List A'},(∀(j:Nat) a b,ds[j]?=a_ a->es[j]?=a_ b->e j=eqD a b)->((HF (min ds.length es.length)).all e&&ds.length==es.length)=D9 ds es:=by
 intro ds es q;by_cases I:ds.length=es.length
 .have e1:min ds.length es.length=ds.length:=am
  rw[e1,az.all_eq (F:=λ_=>c_) e I q,I,Nd,Ma]
 simp_all[rG,J9]
mutual
theorem wJ:∀{d:A'} {n:Nat},okE d n=d_->eqD d d=d_
 |.non,_,_=>rfl|.bl b,_,_=>by simp[eqD]|.int i,_,_=>by simp[eqD]|.str x,_,_=>by simp[eqD]|.tup ds,0,h=>by simp_all[okE]|.tup ds,n+1,h=>by simp only[okE]at h;simp only[eqD];exact tO h|.lst ds,0,h=>by simp_all[okE]|.lst ds,n+1,h=>by simp only[okE]at h;simp only[eqD];exact tO h|.ins _ _,_,h=>by simp_all[okE]|.dic _,_,h=>by simp_all[okE]|.dil _,_,h=>by simp_all[okE]
theorem tO:∀{ds:List A'} {n:Nat},nh ds n=d_->D9 ds ds=d_
 |[],_,_=>rfl|d::ds,n,h=>by simp only[nh,l_]at h;simp only[D9,wJ h.1,tO h.2,Bool.and_self]
end
theorem we:∀{ds:List A'} {n i:Nat} {d:A'},nh ds n=d_->ds[i]?=a_ d->okE d n=d_
 |[],_,_,_,_,h=>by simp at h|_::_,_,0,_,h,e=>by simp_all[nh,l_]|_::_,_,i+1,_,h,e=>by simp only[nh,l_]at h;exact we h.2 (by simpa using e)
def mG(ds es:List A')(j:Nat):Bool:=match ds[j]?,es[j]? with
 |some a,a_ b=>eqD a b|_,_=>d_
inductive Sh(s:u_):A'->m_->Prop
 |non:Sh s .non .none
 |bl (b:Bool):Sh s (.bl b) (.bool b)
 |int (i:Int) (t:Nat):Sh s (.int i) (.int i t)
 |str (x:i_) (t:Nat):Sh s (.str x) (.str x t)
 |tup {ds:List A'} {l:f_} {is:Array m_} (p:s.heap.IsTuple l is):Sh s (.tup ds) (.ref l)
 |lst {ds:List A'} {l:f_} {is:Array m_} (p:s.heap.IsList l is):Sh s (.lst ds) (.ref l)
noncomputable def sq:A'->A'->Bool
 |.tup _,.tup _=>d_|.lst _,.lst _=>d_|_,_=>b_
def xC{a b:A'}(h:sq a b=d_):(∃ds es,a=.tup ds/\b=.tup es)\/∃ds es,a=.lst ds/\b=.lst es:=by
 unfold sq at h;split at h
 .exact .inl ⟨_,_,rfl,rfl⟩
 .exact .inr ⟨_,_,rfl,rfl⟩
 .cases h
def eqAt_U{a b:A'}{v:m_}(Y:Sh s a u)(J:Sh s b v)(I:A.units<IL):sq a b=d_\/Kq A s u v (eqD a b):=match Y,J with
 |.non,.non=>.inr (.same _)|.non,.bl b=>.inr (.none_bool b)|.non,.int b t2=>.inr (.none_int b t2)|.non,.str b t2=>.inr (.none_str b t2)|.non,.tup q=>.inr (.none_tuple q I)|.non,.lst q=>.inr (.none_list q I)|.bl a,.non=>.inr (.bool_none a)|.bl a,.bl b=>.inr (.bool_bool a b)|.bl a,.int b t2=>.inr (.bool_int a b t2)|.bl a,.str b t2=>.inr (.bool_str a b t2)|.bl a,.tup q=>.inr (.bool_tuple a q I)|.bl a,.lst q=>.inr (.bool_list a q I)|.int a t,.non=>.inr (.int_none a t)|.int a t,.bl b=>.inr (.int_bool a t b)|.int a t,.int b t2=>.inr (.int_int a t b t2)|.int a t,.str b t2=>.inr (.int_str a t b t2)|.int a t,.tup q=>.inr (.int_tuple a t q I)|.int a t,.lst q=>.inr (.int_list a t q I)|.str a t,.non=>.inr (.str_none a t)|.str a t,.bl b=>.inr (.str_bool a t b)|.str a t,.int b t2=>.inr (.str_int a t b t2)|.str a t,.str b t2=>.inr (.str_str a t b t2)|.str a t,.tup q=>.inr (.str_tuple a t q I)|.str a t,.lst q=>.inr (.str_list a t q I)|.tup p,.non=>.inr (.tuple_none p I)|.tup p,.bl b=>.inr (.tuple_bool b p I)|.tup p,.int b t2=>.inr (.tuple_int b t2 p I)|.tup p,.str b t2=>.inr (.tuple_str b t2 p I)|.tup _,.tup _=>.inl rfl|.tup p,.lst q=>.inr (.tuple_list p q I)|.lst p,.non=>.inr (.list_none p I)|.lst p,.bl b=>.inr (.list_bool b p I)|.lst p,.int b t2=>.inr (.list_int b t2 p I)|.lst p,.str b t2=>.inr (.list_str b t2 p I)|.lst p,.tup q=>.inr (.list_tuple p q I)|.lst _,.lst _=>.inl rfl
def rcAt_U{a b:A'}{v:m_}(Y:Sh s a u)(J:Sh s b v)(I:A.units<IL):sq a b=d_\/MY A s u v (eqD a b):=match Y,J with
 |.non,.non=>.inr (.none_none)|.non,.bl b=>.inr (.none_bool b)|.non,.int b t2=>.inr (.none_int b t2)|.non,.str b t2=>.inr (.none_str b t2)|.non,.tup q=>.inr (.none_tuple q I)|.non,.lst q=>.inr (.none_list q I)|.bl a,.non=>.inr (.bool_none a)|.bl a,.bl b=>.inr (.bool_bool a b)|.bl a,.int b t2=>.inr (.bool_int a b t2)|.bl a,.str b t2=>.inr (.bool_str a b t2)|.bl a,.tup q=>.inr (.bool_tuple a q I)|.bl a,.lst q=>.inr (.bool_list a q I)|.int a t,.non=>.inr (.int_none a t)|.int a t,.bl b=>.inr (.int_bool a t b)|.int a t,.int b t2=>.inr (.int_int a t b t2)|.int a t,.str b t2=>.inr (.int_str a t b t2)|.int a t,.tup q=>.inr (.int_tuple a t q I)|.int a t,.lst q=>.inr (.int_list a t q I)|.str a t,.non=>.inr (.str_none a t)|.str a t,.bl b=>.inr (.str_bool a t b)|.str a t,.int b t2=>.inr (.str_int a t b t2)|.str a t,.str b t2=>.inr (.str_str a t b t2)|.str a t,.tup q=>.inr (.str_tuple a t q I)|.str a t,.lst q=>.inr (.str_list a t q I)|.tup p,.non=>.inr (.tuple_none p I)|.tup p,.bl b=>.inr (.tuple_bool b p I)|.tup p,.int b t2=>.inr (.tuple_int b t2 p I)|.tup p,.str b t2=>.inr (.tuple_str b t2 p I)|.tup _,.tup _=>.inl rfl|.tup p,.lst q=>.inr (.tuple_list p q I)|.lst p,.non=>.inr (.list_none p I)|.lst p,.bl b=>.inr (.list_bool b p I)|.lst p,.int b t2=>.inr (.list_int b t2 p I)|.lst p,.str b t2=>.inr (.list_str b t2 p I)|.lst p,.tup q=>.inr (.list_tuple p q I)|.lst _,.lst _=>.inl rfl
def rcNeAt_U{a b:A'}{v:m_}(Y:Sh s a u)(J:Sh s b v)(I:A.units<IL):sq a b=d_\/Mf A s u v (!eqD a b):=match Y,J with
 |.non,.non=>.inr (.none_none)|.non,.bl b=>.inr (.none_bool b)|.non,.int b t2=>.inr (.none_int b t2)|.non,.str b t2=>.inr (.none_str b t2)|.non,.tup q=>.inr (.none_tuple q I)|.non,.lst q=>.inr (.none_list q I)|.bl a,.non=>.inr (.bool_none a)|.bl a,.bl b=>.inr (.bool_bool a b)|.bl a,.int b t2=>.inr (.bool_int a b t2)|.bl a,.str b t2=>.inr (.bool_str a b t2)|.bl a,.tup q=>.inr (.bool_tuple a q I)|.bl a,.lst q=>.inr (.bool_list a q I)|.int a t,.non=>.inr (.int_none a t)|.int a t,.bl b=>.inr (.int_bool a t b)|.int a t,.int b t2=>.inr (.int_int a t b t2)|.int a t,.str b t2=>.inr (.int_str a t b t2)|.int a t,.tup q=>.inr (.int_tuple a t q I)|.int a t,.lst q=>.inr (.int_list a t q I)|.str a t,.non=>.inr (.str_none a t)|.str a t,.bl b=>.inr (.str_bool a t b)|.str a t,.int b t2=>.inr (.str_int a t b t2)|.str a t,.str b t2=>.inr (.str_str a t b t2)|.str a t,.tup q=>.inr (.str_tuple a t q I)|.str a t,.lst q=>.inr (.str_list a t q I)|.tup p,.non=>.inr (.tuple_none p I)|.tup p,.bl b=>.inr (.tuple_bool b p I)|.tup p,.int b t2=>.inr (.tuple_int b t2 p I)|.tup p,.str b t2=>.inr (.tuple_str b t2 p I)|.tup _,.tup _=>.inl rfl|.tup p,.lst q=>.inr (.tuple_list p q I)|.lst p,.non=>.inr (.list_none p I)|.lst p,.bl b=>.inr (.list_bool b p I)|.lst p,.int b t2=>.inr (.list_int b t2 p I)|.lst p,.str b t2=>.inr (.list_str b t2 p I)|.lst p,.tup q=>.inr (.list_tuple p q I)|.lst _,.lst _=>.inl rfl
def xH(I:Cv X B' σ H s)(J:aS F H){d:A'}{x:V}(o:okE d n=d_)(q:aR X.K F d x)(r:Gq x u):Sh s d u:=by
 cases d with
 |non=>cases(show x=.non from q);cases r;exact .non|bl b=>cases(show x=.bl b from q);cases r;exact .bl b|int i=>cases(show x=.int i from q);obtain⟨t,rfl⟩:=r;exact .int i t
 |str y=>cases(show x=.str y from q);obtain⟨t,rfl⟩:=r;exact .str y t
 |tup ds=>obtain⟨l,xs,e,t,_⟩:=q;subst e;cases r;obtain⟨is,_,p,_⟩:=I.tuple (J.tup t);exact .tup (show s.heap.IsTuple l is.toArray from p)
 |lst ds=>obtain⟨l,xs,e,t,_⟩:=q;subst e;cases r;obtain⟨is,_,p,_⟩:=I.list (J.lst t);exact .lst p.isList
 |_=>simp[okE]at o
theorem tQ{n:Nat}(Y:∀(d e:A') {v:V},aR X.K F d v->aR X.K F e v->okE d n=d_->okE e n=d_->d=e):∀(ds es:List A') {xs:b'},az X.K F ds xs->az X.K F es xs->nh ds n=d_->nh es n=d_->ds=es
 |[],[],_,_,_,_,_=>rfl|[],_::_,_,q,⟨_,_,e,_⟩,_,_=>by rw[show _=[]from q]at e;cases e|_::_,[],_,⟨_,_,e,_⟩,q,_,_=>by rw[show _=[]from q]at e;cases e|d::ds,e::es,_,⟨v,vs,e1,c,a⟩,⟨w,ws,e2,b,r2⟩,J,I=>by rw[e1]at e2;cases e2;simp only[nh,l_]at J I;rw[Y d e c b J.1 I.1,tQ Y ds es a r2 J.2 I.2]
def rH{d e:A'}(hd:sq d d=b_)(q:aR X.K F d v)(r:aR X.K F e v)(J:okE d n=d_)(I:okE e n=d_):d=e:=by
 cases d<;>first|(cases hd;done)|(simp[okE]at J;done)|(simp only[aR]at q;subst q)
 all_goals cases e<;>first|(simp[okE]at I;done)|(simp only[aR]at r;first|(obtain⟨_,_,z,_⟩:=r;cases z;done)|(cases r<;>rfl))
theorem wM(I:Cv X B' σ H s)(a:aS F H):∀(n:Nat) (d e:A') {v:V},aR X.K F d v->aR X.K F e v->okE d n=d_->okE e n=d_->d=e
 |n,.tup ds,e,v,⟨l,xs,e1,h1,b⟩,r,J,Y=>by
  subst e1;cases n with
  |zero=>simp_all[okE]|succ n=>
   cases e with
   |tup es=>obtain⟨c,ys,e2,h2,r2⟩:=r;cases e2;cases SqT.inj I (a.tup h1) (a.tup h2);rw[tQ (wM I a n) _ _ b r2 (by simpa only[okE] using J) (by simpa only[okE] using Y)]
   |lst es=>obtain⟨c,ys,e2,h2,r2⟩:=r;cases e2;obtain⟨g,_,p1,_⟩:=I.list (a.lst h2);obtain⟨f,_,p2,_⟩:=I.tuple (a.tup h1);exact Gw rfl (Me p1.isList (show s.heap.IsTuple l f.toArray from p2))
   |_=>first|(simp[okE]at Y;done)|(simp only[aR]at r;cases r)
 |n,.lst ds,e,v,⟨l,xs,e1,h1,b⟩,r,J,Y=>by
  subst e1;cases n with
  |zero=>simp_all[okE]|succ n=>
   cases e with
   |lst es=>obtain⟨c,ys,e2,h2,r2⟩:=r;cases e2;cases SqL.inj I (a.lst h1) (a.lst h2);rw[tQ (wM I a n) _ _ b r2 (by simpa only[okE] using J) (by simpa only[okE] using Y)]
   |tup es=>obtain⟨c,ys,e2,h2,r2⟩:=r;cases e2;obtain⟨g,_,p1,_⟩:=I.list (a.lst h1);obtain⟨f,_,p2,_⟩:=I.tuple (a.tup h2);exact Gw rfl (Me p1.isList (show s.heap.IsTuple l f.toArray from p2))
   |_=>first|(simp[okE]at Y;done)|(simp only[aR]at r;cases r)
 |_,.non,_,_,q,r,J,Y=>rH rfl q r J Y|_,.bl _,_,_,q,r,J,Y=>rH rfl q r J Y|_,.int _,_,_,q,r,J,Y=>rH rfl q r J Y|_,.str _,_,_,q,r,J,Y=>rH rfl q r J Y|_,.ins _ _,_,_,_,_,J,_=>by simp_all[okE]|_,.dic _,_,_,_,_,J,_=>by simp_all[okE]|_,.dil _,_,_,_,_,J,_=>by simp_all[okE]
termination_by n=>n
theorem rcAt_S{a b:A'}{x y:V}{v:m_}(I:Cv X B' σ H s)(g:aS F H)(N:sq a b=d_)(w:aR X.K F a x)(t:aR X.K F b y)(r:Gq x u)(p:Gq y v)(n:A.units<IL)(C:∀(ds es:List A') (j:Nat) (Y J:A') (x y:V) (u v:m_),(a=.tup ds/\b=.tup es\/a=.lst ds/\b=.lst es)->ds[j]?=a_ Y->es[j]?=a_ J->aR X.K F Y x->aR X.K F J y->Gq x u->Gq y v->Kq A.in1 s u v (eqD Y J)):MY A s u v (eqD a b):=by
 rcases xC N with⟨ds,es,rfl,rfl⟩|⟨ds,es,rfl,rfl⟩
 .skip;obtain⟨B,xs,e1,h1,f⟩:=w;subst e1;cases r;obtain⟨is,d,p1,_⟩:=I.tuple (g.tup h1);obtain⟨z,ys,e2,h2,r2⟩:=t;subst e2;cases p;obtain⟨m,c,p2,_⟩:=I.tuple (g.tup h2);have G:=d.length;have E:=c.length;have L:=f.length;have K:=r2.length;have q:=SeqAt.RcAt.tuples (A:=A) (e:=mG ds es) (show s.heap.IsTuple B is.toArray from p1) (show s.heap.IsTuple z m.toArray from p2) n (λj h1 h2=>by
   obtain⟨i,f1,g1⟩:=d.atA h1;obtain⟨h,o,g2⟩:=c.atA h2;obtain⟨Y,k1,l⟩:=f.at f1;obtain⟨J,k2,k⟩:=r2.at o;rw[show mG ds es j=eqD Y J by simp only[mG,k1,k2]];exact C ds es j Y J i h _ _ (.inl ⟨rfl,rfl⟩) k1 k2 l k g1 g2)
  rw[show is.toArray.size=ds.length by simp;lia,show m.toArray.size=es.length by simp;lia,BA _ (λj a b h1 h2=>by simp_all[mG])]at q;exact q
 .skip;obtain⟨B,xs,e1,h1,f⟩:=w;subst e1;cases r;obtain⟨is,d,p1,_⟩:=I.list (g.lst h1);obtain⟨z,ys,e2,h2,r2⟩:=t;subst e2;cases p;obtain⟨m,c,p2,_⟩:=I.list (g.lst h2);have G:=d.length;have E:=c.length;have L:=f.length;have K:=r2.length;by_cases D:ds.length=es.length
  .have q:=SeqAt.RcAt.lists (A:=A) (e:=mG ds es) p1.isList p2.isList (by grind) n (λj h1 h2=>by
   obtain⟨i,f1,g1⟩:=d.atA h1;obtain⟨h,o,g2⟩:=c.atA h2;obtain⟨Y,k1,l⟩:=f.at f1;obtain⟨J,k2,k⟩:=r2.at o;rw[show mG ds es j=eqD Y J by simp only[mG,k1,k2]];exact C ds es j Y J i h _ _ (.inr ⟨rfl,rfl⟩) k1 k2 l k g1 g2)
   rw[show is.toArray.size=ds.length by grind,az.all_eq (F:=F) _ D (λj a b h1 h2=>by simp_all[mG])]at q;exact q
  .rw[show eqD (.lst ds) (.lst es)=b_ from rG D];exact SeqAt.RcAt.lists_lengths (A:=A) p1.isList p2.isList (by simp;lia) n
theorem rcNeAt_S{a b:A'}{x y:V}{v:m_}(I:Cv X B' σ H s)(g:aS F H)(N:sq a b=d_)(w:aR X.K F a x)(t:aR X.K F b y)(r:Gq x u)(p:Gq y v)(n:A.units<IL)(C:∀(ds es:List A') (j:Nat) (Y J:A') (x y:V) (u v:m_),(a=.tup ds/\b=.tup es\/a=.lst ds/\b=.lst es)->ds[j]?=a_ Y->es[j]?=a_ J->aR X.K F Y x->aR X.K F J y->Gq x u->Gq y v->Kq A.in1 s u v (eqD Y J)):Mf A s u v (!eqD a b):=by
 rcases xC N with⟨ds,es,rfl,rfl⟩|⟨ds,es,rfl,rfl⟩
 .skip;obtain⟨B,xs,e1,h1,f⟩:=w;subst e1;cases r;obtain⟨is,d,p1,_⟩:=I.tuple (g.tup h1);obtain⟨z,ys,e2,h2,r2⟩:=t;subst e2;cases p;obtain⟨m,c,p2,_⟩:=I.tuple (g.tup h2);have G:=d.length;have E:=c.length;have L:=f.length;have K:=r2.length;have q:=SeqAt.RcNeAt.tuples (A:=A) (e:=mG ds es) (show s.heap.IsTuple B is.toArray from p1) (show s.heap.IsTuple z m.toArray from p2) n (λj h1 h2=>by
   obtain⟨i,f1,g1⟩:=d.atA h1;obtain⟨h,o,g2⟩:=c.atA h2;obtain⟨Y,k1,l⟩:=f.at f1;obtain⟨J,k2,k⟩:=r2.at o;rw[show mG ds es j=eqD Y J by simp only[mG,k1,k2]];exact C ds es j Y J i h _ _ (.inl ⟨rfl,rfl⟩) k1 k2 l k g1 g2)
  rw[show is.toArray.size=ds.length by simp;lia,show m.toArray.size=es.length by simp;lia,BA _ (λj a b h1 h2=>by simp_all[mG])]at q;exact q
 .skip;obtain⟨B,xs,e1,h1,f⟩:=w;subst e1;cases r;obtain⟨is,d,p1,_⟩:=I.list (g.lst h1);obtain⟨z,ys,e2,h2,r2⟩:=t;subst e2;cases p;obtain⟨m,c,p2,_⟩:=I.list (g.lst h2);have G:=d.length;have E:=c.length;have L:=f.length;have K:=r2.length;by_cases D:ds.length=es.length
  .have q:=SeqAt.RcNeAt.lists (A:=A) (e:=mG ds es) p1.isList p2.isList (by simp;lia) n (λj h1 h2=>by
   obtain⟨i,f1,g1⟩:=d.atA h1;obtain⟨h,o,g2⟩:=c.atA h2;obtain⟨Y,k1,l⟩:=f.at f1;obtain⟨J,k2,k⟩:=r2.at o;rw[show mG ds es j=eqD Y J by simp only[mG,k1,k2]];exact C ds es j Y J i h _ _ (.inr ⟨rfl,rfl⟩) k1 k2 l k g1 g2)
   rw[show is.toArray.size=ds.length by simp;lia,az.all_eq (F:=F) _ D (λj a b h1 h2=>by simp_all[mG])]at q;exact q
  .rw[show eqD (.lst ds) (.lst es)=b_ from rG D];exact SeqAt.RcNeAt.lists_lengths (A:=A) p1.isList p2.isList (by simp;lia) n
def ok_sub{a b c Y:A'}{ds es:List A'}(I:okE a n=d_)(J:okE b n=d_)(h:a=.tup ds/\b=.tup es\/a=.lst ds/\b=.lst es)(k1:ds[j]?=a_ c)(k2:es[j]?=a_ Y):∃m,n=m+1/\okE c m=d_/\okE Y m=d_:=by
 cases n with
 |zero=>rcases h with⟨rfl,rfl⟩|⟨rfl,rfl⟩<;>simp[okE]at I
 |succ m=>exact⟨m,rfl,by rcases h with⟨rfl,rfl⟩|⟨rfl,rfl⟩<;>simp only[okE]at I J<;>exact⟨we I k1,we J k2⟩⟩
theorem eqAt_N(I:Cv X B' σ H s)(g:aS F H):∀(n:Nat) (a b:A') {x y:V} {u v:m_} {A:IY},okE a n=d_->okE b n=d_->aR X.K F a x->aR X.K F b y->Gq x u->Gq y v->A.units+n<IL->Kq A s u v (eqD a b):=by
 intro n
 induction n with
 |zero=>intro a b x y u v A Y i J f d c B;refine(eqAt_U (xH I g Y J d) (xH I g i f c) am).resolve_left λh=>?_;rcases xC h with⟨ds,es,rfl,rfl⟩|⟨ds,es,rfl,rfl⟩<;>simp[okE]at Y
 |succ n w=>
  intro a b x y u v A Y i J f d c B;rcases eqAt_U (A:=A) (xH I g Y J d) (xH I g i f c) am with h|h
  .by_cases k:x=y
   .subst k;cases(show a=b from wM I g (n+1) a b J f Y i);rw[wJ Y];rcases xC h with⟨ds,es,rfl,_⟩|⟨ds,es,rfl,_⟩<;>(obtain⟨t,xs,e1,_⟩:=J;subst e1;cases d;cases c;exact SeqAt.EqAt.same _)
   .have q:=rcAt_S (A:=A) I g h J f d c am λds es j E D K G L v' C k1 k2 r p g1 g2=>by
     obtain⟨m,e,o,l⟩:=ok_sub Y i C k1 k2;cases e;exact w E D o l r p g1 g2 (by show A.units+1+n<IL;lia)
    rcases xC h with⟨ds,es,rfl,rfl⟩|⟨ds,es,rfl,rfl⟩<;>(obtain⟨t,xs,e1,_⟩:=J;obtain⟨N,ys,e2,_⟩:=f;subst e1;subst e2;cases d;cases c;exact SeqAt.EqAt.of_refs (λz=>k (by rw[z])) q)
  .exact h
def FP(I:Cv X B' σ H s)(h:aS F H)(a b:A'){x y:V}{v:m_}(f:okE a n=d_)(e:okE b n=d_)(d:aR X.K F a x)(c:aR X.K F b y)(Y:Gq x u)(J:Gq y v)(g:A.units+n<IL):Kq A s u v (eqD a b):=eqAt_N I h n a b f e d c Y J g
theorem eqAt_I(I:Cv X B' σ H s)(k:aS F H){a b:A'}(d:okE a n=d_)(c:okE b n=d_)(l:A.units+n<IL)(ds es:List A')(j:Nat)(Y J:A')(x y:V)(u v:m_)(i:a=.tup ds/\b=.tup es\/a=.lst ds/\b=.lst es)(k1:ds[j]?=a_ Y)(k2:es[j]?=a_ J)(h:aR X.K F Y x)(g:aR X.K F J y)(g1:Gq x u)(g2:Gq y v):Kq A.in1 s u v (eqD Y J):=by obtain⟨m,rfl,f,e⟩:=ok_sub d c i k1 k2;exact FP I k Y J f e h g g1 g2 am
theorem rcAt_D(I:Cv X B' σ H s)(J:aS F H)(a b:A'){x y:V}{v:m_}(g:okE a n=d_)(f:okE b n=d_)(e:aR X.K F a x)(d:aR X.K F b y)(c:Gq x u)(Y:Gq y v)(i:A.units+n<IL):MY A s u v (eqD a b):=
 (rcAt_U (xH I J g e c) (xH I J f d Y) am).elim (λh=>rcAt_S I J h e d c Y am (eqAt_I I J g f i)) id
theorem rcNeAt_D(I:Cv X B' σ H s)(J:aS F H)(a b:A'){x y:V}{v:m_}(g:okE a n=d_)(f:okE b n=d_)(e:aR X.K F a x)(d:aR X.K F b y)(c:Gq x u)(Y:Gq y v)(i:A.units+n<IL):Mf A s u v (!eqD a b):=
 (rcNeAt_U (xH I J g e c) (xH I J f d Y) am).elim (λh=>rcNeAt_S I J h e d c Y am (eqAt_I I J g f i)) id
section
variable{W:gf}{own:Bool}
def aH.blS{b:Bool}(p:aH K W own F H (.ok (.bl b)) Q)(J:aS F H)(I:Cv X B' σ H s):EP X B' σ Q (.bool b) s:=⟨.bl b,H,I,rfl,p.bl J⟩
theorem nj(i:X.A.units+64<IL)(g: ~~~(X.K=K)):Op2 K W own X (GL .Eq) eqM:=by
 subst g;intro B' s σ H x y v u Q I d c h;obtain⟨F,a,b,Y,f,e,p⟩:=h;unfold eqM at p;by_cases J:(okE a 40&&okE b 40)=d_
 .rw[g_ J]at p;simp only[l_]at J;exact rcAt_D I Y a b J.1 J.2 f e d c am _ _ _ _ (p.blS Y I)
 .rw[k_ J]at p;exact p.stuck
theorem o_ne(i:X.A.units+64<IL)(g: ~~~(X.K=K)):Op2 K W own X (GL .NotEq) neM:=by
 subst g;intro B' s σ H x y v u Q I d c h;obtain⟨F,a,b,Y,f,e,p⟩:=h;unfold neM at p;by_cases J:(okE a 40&&okE b 40)=d_
 .rw[g_ J]at p;simp only[l_]at J;exact rcNeAt_D I Y a b J.1 J.2 f e d c am _ _ _ _ (p.blS Y I)
 .rw[k_ J]at p;exact p.stuck
end
def Cv.DY{t':Nat}{T:f_}{xs:b'}(I:Cv X B' σ H s)(h:∀b∈ch,DN X B' H b)(k:∀b o,b∉ch->s.heap.get? b=a_ o->h'.get? b=a_ o)(i:s.heap.objs.size<=T)(g:xs.length<=j_/\∃G':ce,Gr xs G'/\Ox h' T G'.toArray):Cv X B' σ (upd H T (.tup xs)) {s with heap:=h',toks:=t'}:=by
 have J:H T=c_:=I.hok.fresh i;have a:∀b u,H b=a_ u->b∉ch:=λb u e z=>by rw[(h b z).1]at e;cases e
 have f:∀{b:f_} {o:K1},s.heap.get? b=a_ o->b≠T:=λ{b o} e=>GS (GA (t_ e) i);refine I.step (g':=s.gens) (d':=s.drawn) (ch:=ch) (λb d=>?_) (λb o _ _ Y e _=>k b o Y e) (λb o _ _ Y e _=>⟨o.slots,k b o Y e⟩) (λb o _ e n=>by rw[ao (f e)];exact n)
  (λb o Y e=>⟨o,k b o Y e⟩) (λb ys e=>by rw[ao (aV e J)];exact e) (λb o u e=>by rw[ao (aV e J)];exact e) (λb ps e=>⟨#[],by rw[ao (aV e J),e];simp⟩) (λm l=>?_) (λb u e=>?_) I.bare
 .obtain⟨t,f1,p,f3,f4,f5⟩:=h b d;exact⟨f3,f1,f4,f5⟩
 .obtain⟨o,es,ep,j,r⟩:=l;exact⟨o,es,ep,k _ o (λz=>(h _ z).2.1 rfl) j,r⟩
 .by_cases d:b=T
  .subst d;rw[aj]at e;cases e;exact g
  .rw[ao d]at e;refine(I.hok b u e).zy (λc v Y q=>k c v ?_ q) (λc q=>?_) λc ys q=>?_
   .rcases Y with z|z
    .rw[z];exact a b u e
    .exact a c _ z
   .rw[ao (aV q J)];exact q
   .rw[ao (aV q J)];exact q
theorem Cv.DZ{t':Nat}(I:Cv X B' σ H s)(a:∀b∈ch,DN X B' H b)(k:∀b o,b∉ch->s.heap.get? b=a_ o->h'.get? b=a_ o):Cv X B' σ H {s with heap:=h',toks:=t'}:=by
 have Y:∀b u,H b=a_ u->b∉ch:=λb u e z=>by rw[(a b z).1]at e;lia
 refine I.step (g':=s.gens) (d':=s.drawn) (ch:=ch) (λb g=>?_) (λb o _ _ J e _=>k b o J e) (λb o _ _ J e _=>⟨o.slots,k b o J e⟩) (λb o _ e n=>n)
  (λb o J e=>⟨o,k b o J e⟩) (λb ys e=>e) (λb o u e=>e) (λb ps e=>⟨#[],bt⟩) (λm f=>?_) (λb u e=>?_) I.bare
 .obtain⟨i,f1,h,f3,f4,f5⟩:=a b g;exact⟨f3,f1,f4,f5⟩
 .obtain⟨o,es,ep,d,r⟩:=f;exact⟨o,es,ep,k _ o (λz=>(a _ z).2.1 rfl) d,r⟩
 .refine(I.hok b u e).zy (λc v J q=>k c v ?_ q) (λ_ q=>q) λ_ _ q=>q;rcases J with z|z
  .rw[z];exact Y b u e
  .exact Y c _ z
section
variable{W:gf}{own:Bool}{a:HG}{x:i_}{f:ah->M A'}{fr:ah->M (List A')}
def cR:PTs X [] (tDT K W ir):=λB' s σ H Q I h=>pts_nil B' s σ H Q I (by obtain⟨F,ρ,r,J,q⟩:=h;exact q F H (C6.refl J))
def nG:PGs X [] (j8 []):=sC
def gq{is:cc}(a:X.N.Nodup)(h2:PGs X es (j8 is))(hi: ~~~(X.N[i]?=a_ x))(I:autoParam (Loc X.env.scope x) Jq6)(Y:autoParam (X.fn x=d_\/X.env.scope.names.lookup x=a_ .local) Jq3)(J: ~~~((HU (.Name x p::es) X.env).map (·.2)=K7 (.Name x p) X.env::(HU es X.env).map (·.2))):PGs X (.Name x p::es) (j8 (i::is)):=iC (jv a hi I Y) h2 J
def Dd{is:cc}(Y:X.calm=d_)(h:PGs X es (j8 is))(J: ~~~((HU es X.env).length=is.length))(I: ~~~((HU es X.env).findIdx? (·.1)=c_))(a: ~~~(X.K=K)):DG K X (.Tuple es k pos) (.tp is):=by subst a;exact ye Y h J I
theorem qu{ix:List (Option Nat)}:∀{is:cc},(∀i∈is,ix[i]?=a_ c_)->∀vs σ' H' (Q:St->Hp->Prop),j8 is vs σ' H' Q->j8 is vs σ' H' λI H2=>Q I H2/\∀(i:Nat) v,σ'[i]?=a_ (a_ v)->(∃j,ix[i]?=a_ (a_ j))->I[i]?=a_ (a_ v)
 |[],_,vs,σ',H',Q,⟨e,q⟩=>⟨e,q,λ_ _ h _=>h⟩|i::is,d,vs,σ',H',Q,⟨v,r,e,q⟩=>by
  refine⟨v,r,e,?_⟩
  have:=qu (ix:=ix) (is:=is) (λj n=>d j (by simp[n])) r (σ'.set i (a_ v)) H' Q q;have Y:∀{is:cc} {vs:b'} {J:St} {H1:Hp} {Q a:St->Hp->Prop},(∀I H2,Q I H2->a I H2)->j8 is vs J H1 Q->j8 is vs J H1 a:=by
   intro is
   induction is with
   |nil=>rintro vs J H1 Q a m ⟨e,q⟩;exact⟨e,m _ _ q⟩
   |cons i is k=>rintro vs J H1 Q a m ⟨v,r,e,q⟩;exact⟨v,r,e,k m q⟩
  refine Y (λI H2 b=>?_) this;obtain⟨g,f⟩:=b;refine⟨g,λj w h b=>?_⟩
  obtain⟨l,c⟩:=b;refine f j w ?_ ⟨l,c⟩;have:i≠j:=by rintro rfl;rw[d i a8]at c;cases c
  rw[p_ this];exact h
def sW{ix:List (Option Nat)}{is:cc}(h:∀i∈is,ix[i]?=a_ c_):vq ix (gP K (.tp is)):=λx σ' H' Q ⟨a,xs,e,t,l,q⟩=>⟨a,xs,e,t,l,qu h xs σ' H' Q q⟩
def gY(Y:N'.Nodup)(hi: ~~~(N'[i]?=a_ x))(I:autoParam (Loc (bL X N' sc L cs s H fp).env.scope x) Jq6)(J:autoParam ((bL X N' sc L cs s H fp).fn x=d_\/(bL X N' sc L cs s H fp).env.scope.names.lookup x=a_ .local) Jq3):DG K (bL X N' sc L cs s H fp) (.Name x pos) (.nm i):=pg_c Y hi I J
variable{pt:Pat}
def du(N':bv)(ix:List (Option Nat))(hi:DI K W X tg iter fi)(c:∀L cs s H fp,DG K (bL X N' sc L cs s H fp) tg pt)(a:vq ix (gP K pt))(J:∀L cs s H fp,PTs (bL X N' sc L cs s H fp) ifs (tDT K W ft))(d:∀L cs s H fp,DE K W b_ (bL X N' sc L cs s H fp) elt fe)(e: ~~~(X.calm=d_))(I: ~~~(cC X.N X.env.scope N' sc ix=d_))(b: ~~~(sc.kind=.function))(Y:autoParam (∀x,Jk iter X.env x=Ig x) Jq5):
  DE K W d_ X (.ListComp elt [⟨tg,iter,ifs,0⟩] sc pos) (eY fi ix pt ft fe):=(pe_comp N' ix e hi c a J d I b Y).imp λ_ _ _=>EF
def tD_fr(h:tD K W own f σ H Q):tD K W d_ f σ H Q:=by
 cases own with
 |true=>exact h|false=>obtain⟨F,ρ,r,s,p⟩:=h;exact⟨F,ρ,r,s,p.frz⟩
def BD(own:Bool)(N':bv)(ix:List (Option Nat))(j:X.N.Nodup)(hi:DI K W X tg iter fi)(f:∀L cs s H fp,DG K (bL X N' sc L cs s H fp) tg pt)(c:vq ix (gP K pt))(a:∀L cs s H fp,PTs (bL X N' sc L cs s H fp) ifs (tDT K W ft))(g:∀L cs s H fp,DE K W b_ (bL X N' sc L cs s H fp) elt fe)(e: ~~~(X.N[i]?=a_ x))(Y: ~~~(X.env.scope.names.lookup x=a_ .local))(h: ~~~(X.calm=d_))(I: ~~~(II (.ListComp elt [⟨tg,iter,ifs,0⟩] sc pos) (a_ (.Name x py)) spos.line X.env=Ig d_))(J: ~~~(cC X.N X.env.scope N' sc ix=d_))(d: ~~~(sc.kind=.function))(b:autoParam (∀x,Jk iter X.env x=Ig x) Jq5):
  DS K W ro X OL O (aft own i O) (.Assign [.Name x py] (.ListComp elt [⟨tg,iter,ifs,0⟩] sc pos) spos) (bE O i (eY fi ix pt ft fe)):=λF0 H0=>
 (CC N' ix j e Y h hi f c a g I J d b).imp λD σ H t=>EF (tD_fr (Ex t))
def spF(K:Pn)(ro:Bool)(g:List A'->M A')(n:Nat):Sp:=λvs H Q _=>∃F ds,aS F H/\az K F ds vs/\ds.length=n/\aH K Hh ro F H (g ds) Q
theorem vR{g:ah->M Gp}{ds:List A'}(h:ds.length≠n):cn nN n g ds=stk:=by simp_all[cn,k_]
theorem de_call{g:ah->M Gp}(F:iZ X.prog X.w X.K X.mg X.base CX0 k fad fd ps (spF K ro (cn nN n g) n))(f:jr k X.A)(i:X.mg x=a_ (.ref fad))(j:Ja X.K (.ref fad)=d_)(m:Binds X.K fd ps [])(o:DA K Hh X (e::es) fr)(l: ~~~(Gl X x))(a:((x==("__debug__":i_))=b_)⁻¹)(J: ~~~(h_ (e::es) X.env=(b_,GI e X.env)::h_ es X.env))(Y: ~~~((He pos (h_ es X.env)).any (·.1)=b_)):
  DE K Hh ro X (.Call (.Name x p) (e::es) [] pos) (fL (cn nN n g) fr):=by
 refine PE.imp (kx F f l i j m .nil qQ o a J Y) λσ H Q h=>?_;obtain⟨F,ρ,r,s,p⟩:=rd_L h;refine⟨F,ρ,r,s,?_⟩
 cases e1:fr ρ with
 |error z=>simp_all|ok ds=>
  rw[e1]at p;intro vs F' H' st q;obtain⟨F1,I,c,d,z⟩:=p vs F' H' st q;show spF K ro (cn nN n g) n (vs++[]) H' Q E0;rw[Ia];by_cases b:I.length=n
  .exact⟨F1,I,c,d,b,z⟩
  .rw[vR b]at z;exact aH.stuck z
end
section
variable{w:GW}{base:Hq}
theorem nV{vs:b'}{ds:List A'}{d:A'}(q:az K F ds vs)(h:(ds.map a_++C_ (N.length-ds.length) c_)[i]?=a_ (a_ d)):∃v,(start N vs)[i]?=a_ (a_ v)/\aR K F d v:=by
 have hi:i<ds.length:=by
  by_cases hi:i<ds.length
  .exact hi
  .simp_all[Ji,Jv]
 rw[IC bt,HQ]at h;cases e:ds[i]? with
 |none=>rw[e]at h;cases h|some d'=>
  rw[e]at h;cases h;obtain⟨v,e1,I⟩:=q.get e;refine⟨v,?_,I⟩
  unfold start;rw[IC (by rw[w_,q.length];exact hi),HQ,e1];rfl
theorem fn_D{x:i_}(F:Fun K x qual st f fd)(S:gB N ps (aA st))(ro:Bool)(g:ah->M Gp)(c:∀(cdv:m_) (A:IY) (outer:List LP) (s:u_) (H:Hp) (E:XK),jr k (A.deeper (IS qual (aA st) s.heap.objs.size f cdv)) ->
   DSs K Hh ro (x4 CX0 P w K mg base N qual (aA st) f cdv A outer s H E).nox [] [] O' (bT st) g):iZ P w K mg base CX0 (k+1) f fd ps (spF K ro (cn N.length ps.length g) ps.length):=by
 have Y:ps.length<=N.length:=by have:=Jo ML S.pre;rw[JJ]at this;lia
 refine F.okX S (λvs H Q E ⟨F,ds,s,q,l,p⟩=>by rw[q.length,l]) λcdv A outer s H vs Q E J b=>?_;obtain⟨F1,ds,I,q,l,p⟩:=b;refine⟨_,c cdv A outer s H E J F1 H,F1,F1,ds.map a_++C_ (N.length-ds.length) c_,?_,?_⟩
 .refine⟨C6.refl I,aS.refl _,?_,λi d e _=>nV q e,(λi d e h=>nomatch h),(λi j ds es a h=>nomatch h)⟩
  unfold start;rw[Gx,Gx,w_,w_,HS,HS,q.length]
 .have e1:cn N.length ps.length g ds=(g (ds.map a_++C_ (N.length-ds.length) c_)).bind λfl=>match fl with
   |.nx _=>.ok .non|.rt d=>.ok d|_=>stk:=by unfold cn;exact g_ l
  rw[e1]at p;cases e2:g (ds.map a_++C_ (N.length-ds.length) c_)with
  |error z=>rw[e2]at p;exact p|ok fl=>
   rw[e2]at p;cases fl with
   |nx ρ=>exact λσ F H r=>p .non F H r.st (by cases ro<;>rfl)
   |rt d=>exact λv F H st q=>p v F H st q|bk ρ=>exact aH.stuck p|ct ρ=>exact aH.stuck p
def spLaw(K:Pn):Sp:=λvs H Q _=>∃(a:f_) (ns:ca),vs=[.ref a]/\SqL K H a (ns.map V.int)/\ns.length<=63/\∀H',Q (.bl d_) H'
theorem vf{F:Hp}:∀is:ca,az K F (is.map A'.int) (is.map V.int)
 |[]=>rfl|i::is=>⟨.int i,is.map V.int,rfl,rfl,vf is⟩
theorem law_ok{x:i_}{mlaw:Nat->List A'->M A'}(F:∀n,iZ P w K mg base CX0 k f fd [x] (spF K ro (mlaw n) 1))(h:∀ns:ca,ns.length<=63->∃n,mlaw n [.lst (ns.map .int)]=.ok (.bl d_)):iZ P w K mg base CX0 k f fd [x] (spLaw K):=by
 refine⟨λvs H Q E ⟨a,ns,e,_⟩=>by rw[e];rfl,λA outer s H I us vs Q E J d g hv ⟨a,ns,e,Y,c,q⟩=>?_⟩
 obtain⟨n,b⟩:=h ns c;refine(F n).run A outer s H I us vs Q E J d g hv ⟨H,[.lst (ns.map .int)],aS.refl _,⟨.ref a,[],e,⟨a,_,rfl,Y,vf ns⟩,rfl⟩,rfl,?_⟩;rw[b];intro v F' H' st z;have:v=.bl d_:=by cases ro<;>exact z
 simp_all
end
structure Kit(K:Pn):Prop where
 EM:HD K (.type "int") (.type "int")=a_ d_
 CA:HD K (.type "bool") (.type "int")=a_ d_
 Ct:HD K (.type "list") (.type "int")=a_ b_
 zQ:HD K (.type "tuple") (.type "int")=a_ b_
 EK:HD K (.type "str") (.type "int")=a_ b_
 ur:HD K (.type "NoneType") (.type "int")=a_ b_
 Cy:HD K (.type "int") (.type "bool")=a_ b_
 zU:HD K (.type "bool") (.type "bool")=a_ d_
 zS:HD K (.type "list") (.type "bool")=a_ b_
 y9:HD K (.type "tuple") (.type "bool")=a_ b_
 Cq:HD K (.type "str") (.type "bool")=a_ b_
 sr:HD K (.type "NoneType") (.type "bool")=a_ b_
 Cw:HD K (.type "int") (.type "list")=a_ b_
 zT:HD K (.type "bool") (.type "list")=a_ b_
 zR:HD K (.type "list") (.type "list")=a_ d_
 xZ:HD K (.type "tuple") (.type "list")=a_ b_
 Cp:HD K (.type "str") (.type "list")=a_ b_
 so:HD K (.type "NoneType") (.type "list")=a_ b_
 q_int_tuple:HD K (.type "int") (.type "tuple")=a_ b_
 q_bool_tuple:HD K (.type "bool") (.type "tuple")=a_ b_
 q_list_tuple:HD K (.type "list") (.type "tuple")=a_ b_
 q_tuple_tuple:HD K (.type "tuple") (.type "tuple")=a_ d_
 q_str_tuple:HD K (.type "str") (.type "tuple")=a_ b_
 DD:HD K (.type "NoneType") (.type "tuple")=a_ b_
 EL:HD K (.type "int") (.type "str")=a_ b_
 Cz:HD K (.type "bool") (.type "str")=a_ b_
 Cr:HD K (.type "list") (.type "str")=a_ b_
 zP:HD K (.type "tuple") (.type "str")=a_ b_
 EJ:HD K (.type "str") (.type "str")=a_ d_
 uq:HD K (.type "NoneType") (.type "str")=a_ b_
section
variable{W:gf}{own:Bool}{a:HG}{x:i_}
def isi_D{d:A'}{x:V}{b c bl a bs:Bool}{Q:Mq}(I:Cv X B' σ H s)(Y:aS F H)(q:aR X.K F d x)(r:Gq x u)(hi:HD X.K (.type "int") (.type T)=a_ b)(w:HD X.K (.type "bool") (.type T)=a_ c)(v:HD X.K (.type "list") (.type T)=a_ bl)(m:HD X.K (.type "tuple") (.type T)=a_ a)(n:HD X.K (.type "str") (.type T)=a_ bs)(p:HD X.K (.type "NoneType") (.type T)=a_ bn)(h:∀k J,(match d with|.int _=>k=b|.bl _=>k=c|.lst _=>k=bl|.tup _=>k=a|.str _=>k=bs|.non=>k=bn|.ins _ _=>False|.dic _=>False|.dil _=>False)->Q (.bool k) {s with toks:=J})(f:∀C fs,d≠.ins C fs)(j:∀ks,d≠.dic ks)(g:∀ks,d≠.dil ks):
  D_ (GD X.prog X.w) X.A (JR (.builtin "isinstance") [u,.type T]) Q X.xe s:=by
 cases d with
 |non=>cases(show x=.non from q);cases r;exact I_ MC I.kIn Iv p (λz=>nomatch z) λJ=>h _ J rfl
 |bl y=>cases(show x=.bl y from q);cases r;exact I_ ME I.kIn Iv w (λz=>nomatch z) λJ=>h _ J rfl
 |int i=>cases(show x=.int i from q);obtain⟨t,rfl⟩:=r;exact I_ MU I.kIn Iv hi (λz=>nomatch z) λJ=>h _ J rfl
 |str y=>cases(show x=.str y from q);obtain⟨t,rfl⟩:=r;exact I_ MT I.kIn Iv n (λz=>nomatch z) λJ=>h _ J rfl
 |lst ds=>obtain⟨l,xs,e,t,_⟩:=q;subst e;cases r;obtain⟨G',_,pl,_⟩:=I.list (Y.lst t);obtain⟨o,h1,h2,_⟩:=pl.isList;exact I_ KY I.kIn ⟨o,h1,h2⟩ v (λz=>nomatch z) λJ=>h _ J rfl
 |tup ds=>obtain⟨l,xs,e,t,_⟩:=q;subst e;cases r;obtain⟨G',_,pl,_⟩:=I.tuple (Y.tup t);obtain⟨o,h1,h2,_⟩:=pl;exact I_ Mv I.kIn ⟨o,h1,h2⟩ m (λz=>nomatch z) λJ=>h _ J rfl
 |ins C fs=>exact Gw rfl (f C fs)|dic ks=>exact Gw rfl (j ks)|dil ks=>exact Gw rfl (g ks)
def BH{g:A'->M A'}(k:j0 X (.builtin "isinstance") (λxs H Q=>∃v,xs=[v,.ty T]/\rD1 K W own g v H Q))(i:X.mg "isinstance"=c_)(c:X.mg y=c_)(Y:IM y=a_ (.type T))(l:DE K W b_ X a fa)(j: ~~~(Gl X "isinstance"))(e: ~~~(Gl X y))(f:(y≠"__name__")⁻¹)(hd:((y==("__debug__":i_))=b_)⁻¹)(J: ~~~(h_ [a,.Name y p2] X.env=[(b_,GI a X.env),(b_,GI (.Name y p2) X.env)]))(I: ~~~(h_ [.Name y p2] X.env=[(b_,GI (.Name y p2) X.env)]))(b: ~~~((He pos (h_ [.Name y p2] X.env)).any (·.1)=b_)):
  DE K W own X (.Call (.Name "isinstance" p) [a,.Name y p2] [] pos) (f1 g fa):=
 (o8 k j i boot_isinstance (au l (au (pe_tyN (pos:=p2) e c Y f hd) aQ I) (by rw[J,I])) a' a' (by rw[J,I]) b).imp λσ H Q h=>by
  obtain⟨F,ρ,r,s,q⟩:=rd_1 h;refine⟨F,ρ,r,s,?_⟩
  cases e1:fa ρ with
  |error z=>rw[e1]at q;exact q|ok d=>rw[e1]at q;exact λv F' H' st z=>⟨v,rfl,q v F' H' st z⟩
theorem Gj(J:Kit K)(i: ~~~(X.K=K)):j0 X (.builtin "isinstance") (λxs H Q=>∃v,xs=[v,.ty "int"]/\rD1 K W own ou v H Q):=by
 subst i;intro B' s σ H xs us Q I r h;obtain⟨v,rfl,F,d,b,q,p⟩:=h;obtain⟨u,w,rfl,f,Y⟩:=r.two;cases(show w=JY "int" from Y);by_cases hi:(∃C fs,d=.ins C fs)\/(∃ks,d=.dic ks)\/∃ks,d=.dil ks
 .rcases hi with⟨C,fs,rfl⟩|⟨ks,rfl⟩|⟨ks,rfl⟩<;>exact aH.stuck p
 .refine isi_D I b q f J.EM J.CA J.Ct J.zQ J.EK J.ur (λk c g=>⟨.bl k,H,I.tok c,rfl,?_⟩) (λC fs e=>hi (.inl ⟨C,fs,e⟩)) (λks e=>hi (.inr (.inl ⟨ks,e⟩))) (λks e=>hi (.inr (.inr ⟨ks,e⟩)));cases d<;>first|(have a:k=_:=g;subst a;exact aH.bl (own:=own) p b)|exact Gw (.inl ⟨_,_,rfl⟩) hi|exact Gw (.inr (.inl ⟨_,rfl⟩)) hi|simp_all
def Dh(J:Kit K)(e:X.mg "isinstance"=c_)(c:X.mg "int"=c_)(g:DE K W b_ X a fa)(h: ~~~(X.K=K))(f: ~~~(Gl X "isinstance"))(d: ~~~(Gl X "int"))(Y: ~~~(h_ [a,.Name "int" p2] X.env=[(b_,GI a X.env),(b_,GI (.Name "int" p2) X.env)]))(I: ~~~(h_ [.Name "int" p2] X.env=[(b_,GI (.Name "int" p2) X.env)]))(b: ~~~((He pos (h_ [.Name "int" p2] X.env)).any (·.1)=b_)):
  DE K W own X (.Call (.Name "isinstance" p) [a,.Name "int" p2] [] pos) (f1 ou fa):=BH (Gj J h) e c (by rfl) g f d a' a' Y I b
theorem Dv(J:Kit K)(i: ~~~(X.K=K)):j0 X (.builtin "isinstance") (λxs H Q=>∃v,xs=[v,.ty "bool"]/\rD1 K W own ox v H Q):=by
 subst i;intro B' s σ H xs us Q I r h;obtain⟨v,rfl,F,d,b,q,p⟩:=h;obtain⟨u,w,rfl,f,Y⟩:=r.two;cases(show w=JY "bool" from Y);by_cases hi:(∃C fs,d=.ins C fs)\/(∃ks,d=.dic ks)\/∃ks,d=.dil ks
 .rcases hi with⟨C,fs,rfl⟩|⟨ks,rfl⟩|⟨ks,rfl⟩<;>exact aH.stuck p
 .refine isi_D I b q f J.Cy J.zU J.zS J.y9 J.Cq J.sr (λk c g=>⟨.bl k,H,I.tok c,rfl,?_⟩) (λC fs e=>hi (.inl ⟨C,fs,e⟩)) (λks e=>hi (.inr (.inl ⟨ks,e⟩))) (λks e=>hi (.inr (.inr ⟨ks,e⟩)));cases d<;>first|(have a:k=_:=g;subst a;exact aH.bl (own:=own) p b)|exact Gw (.inl ⟨_,_,rfl⟩) hi|exact Gw (.inr (.inl ⟨_,rfl⟩)) hi|simp_all
def Aq(J:Kit K)(e:X.mg "isinstance"=c_)(c:X.mg "bool"=c_)(g:DE K W b_ X a fa)(h: ~~~(X.K=K))(f: ~~~(Gl X "isinstance"))(d: ~~~(Gl X "bool"))(Y: ~~~(h_ [a,.Name "bool" p2] X.env=[(b_,GI a X.env),(b_,GI (.Name "bool" p2) X.env)]))(I: ~~~(h_ [.Name "bool" p2] X.env=[(b_,GI (.Name "bool" p2) X.env)]))(b: ~~~((He pos (h_ [.Name "bool" p2] X.env)).any (·.1)=b_)):
  DE K W own X (.Call (.Name "isinstance" p) [a,.Name "bool" p2] [] pos) (f1 ox fa):=BH (Dv J h) e c (by rfl) g f d a' a' Y I b
theorem Du(J:Kit K)(i: ~~~(X.K=K)):j0 X (.builtin "isinstance") (λxs H Q=>∃v,xs=[v,.ty "list"]/\rD1 K W own oq v H Q):=by
 subst i;intro B' s σ H xs us Q I r h;obtain⟨v,rfl,F,d,b,q,p⟩:=h;obtain⟨u,w,rfl,f,Y⟩:=r.two;cases(show w=JY "list" from Y);by_cases hi:(∃C fs,d=.ins C fs)\/(∃ks,d=.dic ks)\/∃ks,d=.dil ks
 .rcases hi with⟨C,fs,rfl⟩|⟨ks,rfl⟩|⟨ks,rfl⟩<;>exact aH.stuck p
 .refine isi_D I b q f J.Cw J.zT J.zR J.xZ J.Cp J.so (λk c g=>⟨.bl k,H,I.tok c,rfl,?_⟩) (λC fs e=>hi (.inl ⟨C,fs,e⟩)) (λks e=>hi (.inr (.inl ⟨ks,e⟩))) (λks e=>hi (.inr (.inr ⟨ks,e⟩)));cases d<;>first|(have a:k=_:=g;subst a;exact aH.bl (own:=own) p b)|exact Gw (.inl ⟨_,_,rfl⟩) hi|exact Gw (.inr (.inl ⟨_,rfl⟩)) hi|simp_all
def Ap(J:Kit K)(e:X.mg "isinstance"=c_)(c:X.mg "list"=c_)(g:DE K W b_ X a fa)(h: ~~~(X.K=K))(f: ~~~(Gl X "isinstance"))(d: ~~~(Gl X "list"))(Y: ~~~(h_ [a,.Name "list" p2] X.env=[(b_,GI a X.env),(b_,GI (.Name "list" p2) X.env)]))(I: ~~~(h_ [.Name "list" p2] X.env=[(b_,GI (.Name "list" p2) X.env)]))(b: ~~~((He pos (h_ [.Name "list" p2] X.env)).any (·.1)=b_)):
  DE K W own X (.Call (.Name "isinstance" p) [a,.Name "list" p2] [] pos) (f1 oq fa):=BH (Du J h) e c (by rfl) g f d a' a' Y I b
end
section
variable{h:ah->M Gp}
theorem popD_ok{ds:List A'}{k:A'}{d:A'}{es:List A'}(h:popD ds k=.ok (d,es)):∃i j,k=.int i/\ds.length<=j_/\ixN ds.length i=a_ j/\ds[j]?=a_ d/\es=ds.eraseIdx j:=by
 unfold popD at h;cases k with
 |int i=>
  simp only[asI,aq]at h;split at h
  .cases h
  .rename_i J;cases I:ixN ds.length i with
   |none=>rw[I]at h;cases h|some j=>
    rw[I]at h;simp only at h;cases hd:ds[j]? with
    |none=>rw[hd]at h;cases h|some d'=>simp_all
 |_=>cases h
end
section
variable{x:i_}
def kj{is:cc}(a:N'.Nodup)(h2:PGs (bL X N' sc L cs s H fp) es (j8 is))(hi: ~~~(N'[i]?=a_ x))(I:autoParam (Loc (bL X N' sc L cs s H fp).env.scope x) Jq6)(Y:autoParam ((bL X N' sc L cs s H fp).fn x=d_\/(bL X N' sc L cs s H fp).env.scope.names.lookup x=a_ .local) Jq3)(J: ~~~((HU (.Name x p::es) (bL X N' sc L cs s H fp).env).map (·.2)=K7 (.Name x p) (bL X N' sc L cs s H fp).env::(HU es (bL X N' sc L cs s H fp).env).map (·.2))):PGs (bL X N' sc L cs s H fp) (.Name x p::es) (j8 (i::is)):=iC (pg_c a hi I Y) h2 J
end
open PySem.W in
section
open PySem.W
end
section
variable{lt:α->α->Bool}
structure Ord(lt:α->α->Bool):Prop where
 irr:∀a,lt a a=b_
 tr:∀a b c,lt a b=d_->lt b c=d_->lt a c=d_
 tot:∀a b,lt a b=b_->lt b a=b_->a=b
theorem Ord.le_trans(o:Ord lt){a b c:α}(h1:lt b a=b_)(h2:lt c b=b_):lt c a=b_:=by
 cases h:lt c a with
 |false=>rfl|true=>
  cases I:lt b c with
  |true=>rw[o.tr b c a I h]at h1;lia|false=>have:=o.tot c b h2 I;simp_all
end
section
open PySem.W
variable{lt:α->α->Bool}
def rk(lt:α->α->Bool)(zs:List α)(d:α)(i:Nat):Int:=((zs.filter λz=>lt z (zs.getD i d)).length:Int)
end
def cX(n d:Nat):Option Int->Nat
 |none=>d|some v=>if v<0 then(v+(n:Int)).toNat else min v.toNat n
def pZ(xs:List α)(lo hi:Option Int):List α:=(xs.drop (cX xs.length 0 lo)).take (cX xs.length xs.length hi-cX xs.length 0 lo)
def dB:A'->Option Int->Option Int->M A'
 |.lst ds,lo,hi=>.ok (.lst (pZ ds lo hi))|.tup ds,lo,hi=>if (o_ (cX ds.length 0 lo=0)&&o_ (cX ds.length ds.length hi=ds.length))=d_ then stk else .ok (.tup (pZ ds lo hi))
 |_,_,_=>stk
noncomputable def ky:ah->M (Option Int):=λ_=>.ok c_
def i8(f:ah->M A'):ah->M (Option Int):=λρ=>(f ρ).bind λd=>(asI d).bind λi=>.ok (a_ i)
noncomputable def fSl(g:A'->Option Int->Option Int->M A')(fa:ah->M A')(fl fu:ah->M (Option Int)):ah->M A':=λρ=>(fa ρ).bind λa=>(fl ρ).bind λl=>(fu ρ).bind λu=>g a l u
def extD(ρ:ah)(i:Nat)(ds:List A'):A'->M Gp
 |.lst es=>if ds.length+es.length<=j_ then put ρ i (ds++es)else stk
 |_=>stk
def Et(O:cc)(i:Nat)(f:ah->M A'):ah->M Gp:=λρ=>(jH ρ i).bind λds=>(f (erase O ρ)).bind λd=>extD ρ i ds d
def m8(g g' g'':A'->A'->M A')(fa fb fc fd':ah->M A'):ah->M A':=λρ=>(fa ρ).bind λa=>(fb ρ).bind λb=>(g a b).bind λx=>(asB x).bind λk=>if k=d_ then(fc ρ).bind λc=>(g' b c).bind λy=>(asB y).bind λl=>if l=d_ then(fd' ρ).bind λd=>g'' c d else .ok (.bl b_)else .ok (.bl b_)
section
variable{W:gf}{own:Bool}{a b c d:HG}{lo hi:Option HG}{x:i_}{p3 r t u:OE}{f fd':ah->M A'}{fu:ah->M (Option Int)}
def tDO(K:Pn)(W:gf)(f:ah->M (Option Int)):TO:=λσ H Q=>∃F ρ,hR K F σ ρ/\aS F H/\(match f ρ with
 |.ok o=>∀F' H',C6 F H F' H'->Q o H'|.error e=>W.p e F H)
def Ed{R:Option Int->Hp->Prop}(r:hR K F σ ρ)(s:aS F H)(J:∀e,fl ρ=.error e->W.p e F H)(I:∀o,fl ρ=.ok o->∀F1 H1,C6 F H F1 H1->R o H1):tDO K W fl σ H R:=by
 refine⟨F,ρ,r,s,?_⟩
 cases e:fl ρ with
 |ok d=>exact I d e|error x=>exact J x e
abbrev DP(K:Pn)(W:gf)(X:Cx)(e:Option HG)(f:ah->M (Option Int)):Prop:=PO X e (tDO K W f)
def PO.imp{t t':TO}(h:PO X lo t)(q:∀σ H Q,t' σ H Q->t σ H Q):PO X lo t':=λB' s σ H Q I z=>h B' s σ H Q I (q σ H Q z)
def gX:DP K W X c_ ky:=po_none.imp λσ H Q ⟨F,ρ,r,s,p⟩=>p F H (C6.refl s)
theorem dR(h:DE K W b_ X e f):DP K W X (a_ e) (i8 f):=(po_some h).imp λσ H Q ⟨F,ρ,r,s,p⟩=>by
 refine ba r s (λe Y=>?_) λd hd v F1 H1 I J=>?_
 .simp_all[i8]
 .have z:i8 f ρ=(asI d).bind λi=>.ok (a_ i):=by unfold i8;rw[hd];rfl
  rw[z]at p;cases d with
  |int i=>exact⟨i,J,p F1 H1 I⟩|_=>exact(W.ns p).elim
def rDS(K:Pn)(W:gf)(own:Bool)(g:A'->Option Int->Option Int->M A'):V->Option Int->Option Int->Hp->VK->Prop:=λx lo hi H Q=>∃F a,aS F H/\aR K F a x/\aH K W own F H (g a lo hi) Q
theorem rd_sl{g:A'->Option Int->Option Int->M A'}(h:tD K W own (fSl g fa fl fu) σ H Q):tSl (rDS K W own g) (tD K W b_ fa) (tDO K W fl) (tDO K W fu) σ H Q:=by
 obtain⟨F,ρ,r,s,p⟩:=h;refine ba r s (λe Y=>p.err (by unfold fSl;rw[Y];rfl)) λa c x F1 H1 I d=>?_;refine Ed (r.mono I.ff) I.fh (λe Y=>(p.step I).err (by unfold fSl;rw[c];show(fl ρ).bind _=_;rw[Y];rfl)) λl i F2 H2 J=>?_;refine Ed ((r.mono I.ff).mono J.ff) J.fh (λe Y=>(p.step (I.trans J)).err (by simp_all[fSl])) λu f j k b=>?_;refine⟨j,a,b.fh,aR.mono (J.trans b).ff d,?_⟩
 have e:fSl g fa fl fu ρ=g a l u:=by unfold fSl;rw[c];show(fl ρ).bind _=_;rw[i];show(fu ρ).bind _=_;rw[f];rfl
 rw[e]at p;exact p.step ((I.trans J).trans b)
def mH{g:A'->Option Int->Option Int->M A'}(J:SlR X (rDS K W own g))(b:DE K W b_ X a fa)(Y:DP K W X lo fl)(I:DP K W X hi fu):DE K W own X (.Subscript a (.Slice lo hi c_ p2) pos) (fSl g fa fl fu):=(pe_slice J b Y I).imp λ_ _ _=>rd_sl
def BP(n d:Nat)(o:Option Int):cX n d o=HT.sIx n d o:=by rfl
def az.cut{ds:List A'}{xs:b'}{l u:Option Int}(h:az K F ds xs):az K F (pZ ds l u) (cutV xs l u):=by unfold pZ cutV;rw[BP,BP,h.length];exact az.take _ (az.drop _ h)
theorem BV(n: ~~~(X.K=K)):SlR X (rDS K W d_ dB):=by
 subst n;intro B' s σ H x v g f lo hi i Q I j m pl k h;refine(SlR.or sl_list sl_tup) B' s σ H x v g f lo hi i Q I j m pl k ?_;obtain⟨F,a,J,d,p⟩:=h;cases a with
 |lst ds=>obtain⟨l,xs,e,t,z⟩:=d;exact .inl ⟨l,xs,e,J.lst t,λr b=>aH.lst p J z.cut b⟩
 |tup ds=>
  obtain⟨l,xs,e,t,z⟩:=d;have Y:aH X.K W d_ F H (if (o_ (cX ds.length 0 lo=0)&&o_ (cX ds.length ds.length hi=ds.length))=d_ then stk else .ok (.tup (pZ ds lo hi))) Q:=p;by_cases c:(o_ (cX ds.length 0 lo=0)&&o_ (cX ds.length ds.length hi=ds.length))=d_
  .rw[g_ c]at Y;exact Y.stuck
  .rw[k_ c]at Y;refine .inr ⟨l,xs,e,J.tup t,λhw=>c ?_,λr b=>aH.tup Y J z.cut b⟩;rw[BP,BP,<- z.length];simp_all
 |_=>exact aH.stuck p
theorem rs_ext{D:Ends}(hi:i∈O)(t:tS K W ro F0 H0 OL O O (Et O i f) D σ H):uh (tBM K "list" EI (bB i) (aP (tD K W d_ f) fw)) D σ H:=by
 obtain⟨FB,F,ρ,r,p⟩:=t;cases I:jH ρ i with
 |error e=>have:=sS I;subst this;exact p.stuck (by unfold Et;rw[I];rfl)|ok ds=>
  obtain⟨a,xs,e2,g,z⟩:=r.Fl hi (jj I);refine⟨.ref a,e2,iB g,?_⟩
  refine ba r.rl r.st.fh (λe k=>p.uF r.st (by simp_all[Et])) λd hd v F1 H1 J q=>?_;have j:Et O i f ρ=extD ρ i ds d:=by unfold Et;rw[I];show(f (erase O ρ)).bind _=_;rw[hd];rfl
  rw[j]at p;cases d with
  |lst es=>
   obtain⟨b,zs,e3,h,_,_,c⟩:=q;by_cases Y:ds.length+es.length<=j_
   .have ep:extD ρ i ds (.lst es)=put ρ i (ds++es):=g_ Y;rw[ep]at p;exact⟨a,b,xs,zs,rfl,by rw[e3],J.hh _ _ g,h,by rw[z.length,c.length];exact Y,p σ F1 _ ((r.step J).write hi (jj I) e2 (az.append (z.mono J.ff) c))⟩
   .exact p.stuck (k_ Y)
  |_=>exact p.stuck rfl
def BC(h:DE K W d_ X e f)(g:(i∈O)⁻¹)(j: ~~~(X.N[i]?=a_ x))(hv:autoParam (Vis X.env.scope x) Jq4)(hd:((x==("__debug__":i_))=b_)⁻¹)(d:((x==("__classdict__":i_))=b_)⁻¹)(k: ~~~(X.K=K))(a: ~~~(h_ [e] X.env=[(b_,GI e X.env)]))(Y: ~~~(HA (.Name x p) "extend" X.env (GI (.Name x p) X.env)=GI (.Name x p) X.env))(b: ~~~(((He q (h_ [e] X.env)).all (λx=> !x.1)&&(Ic q (Hs [] X.env)).all (λx=>x.1.isSome)&&o_ ([e].length+([]:List Ie).length+(if ([]:List Ie).isEmpty then 0 else 1)<30))=d_))(I: ~~~((He q (h_ [] X.env)).any (·.1)=b_))(J: ~~~((apos.endLine==q.line)=d_))(c: ~~~(II (.Call (.Attribute (.Name x p) "extend" apos) [e] [] q) c_ pos.line X.env=Ig b_)):
  DS K W ro X OL O O (.Expr (.Call (.Attribute (.Name x p) "extend" apos) [e] [] q) pos) (Et O i f):=λF0 H0=>by
 subst k;exact PS.imp (i5 (pC GN My PySem.F.type_list_extend Fi (pv i j hv hd d) (au h aQ a) Y b J a I) c) λ_ _ _=>rs_ext g
def EW{r J:R2}(T:OpR X (GL op) r)(g:OpR X (GL op') r')(Y:OpR X (GL op'') J)(ha:PE X a ta)(Z:PE X b tb)(W:PE X c tc)(hd:PE X d td)(U:autoParam (Le [op,op',op''] [b,c,d]=b_) Jq8):PE X (.Compare a [op,op',op''] [b,c,d] pos) (Ee r r' J ta tb tc td):=by
 intro B' s σ H Q I h;refine Compare_chain (H9 (ha B' s σ H _ I h) λv F ⟨x,H1,I1,N,S⟩=>N8 (H9 (Z B' F σ H1 _ I1 S) λu E ⟨y,H2,I2,r2,R⟩=>H9 (T B' E σ H2 x y v u _ I2 N r2 R) λd D ⟨z,q,o,L,k,e,m⟩=>?_)) U
 subst e;cases L;refine HJ ?_;cases k with
 |false=>exact ite_ff ⟨.bl b_,q,o,rfl,m⟩|true=>
  refine ite_tt (N8 (H9 (W B' D σ q _ o m) λw' C f=>?_));obtain⟨i,H4,I4,j,P⟩:=f;refine H9 (g B' C σ H4 y i u w' _ I4 r2 j P) λd' B f=>?_;obtain⟨z2,p,n,K,k2,e2,l⟩:=f;subst e2;cases K;refine HJ ?_;cases k2 with
  |false=>exact ite_ff ⟨.bl b_,p,n,rfl,l⟩|true=>exact ite_tt (chain_last (H9 (hd B' B σ p _ n l) λw A ⟨t,H6,I6,G,O⟩=>Y B' A σ H6 i t w' w Q I6 j G O))
def EG(h:tD K W b_ (m8 g g' g'' fa fb fc fd') σ H Q):Ee (rD2 K W b_ g) (rD2 K W b_ g') (rD2 K W b_ g'') (tD K W b_ fa) (tD K W b_ fb) (tD K W b_ fc) (tD K W b_ fd') σ H Q:=by
 obtain⟨F,ρ,r,s,p⟩:=h;refine ba r s (λe J=>p.err (by unfold m8;rw[J];rfl)) λa C x F1 H1 i O=>?_;refine ba (r.mono i.ff) i.fh (λe J=>(p.step i).err (by unfold m8;rw[C];show(fb ρ).bind _=_;rw[J];rfl)) λb R y F2 H2 n A=>?_;have z:m8 g g' g'' fa fb fc fd' ρ=(g a b).bind λx=>(asB x).bind λk=>if k=d_ then(fc ρ).bind λc=>(g' b c).bind λy=>(asB y).bind λl=>if l=d_ then(fd' ρ).bind λd=>g'' c d else .ok (.bl b_)else .ok (.bl b_):=by unfold m8;rw[C];show(fb ρ).bind _=_;rw[R];rfl
 rw[z]at p;refine⟨F2,a,b,n.fh,aR.mono n.ff O,A,?_⟩
 have p2:=p.step (i.trans n);have t:=(r.mono i.ff).mono n.ff;cases e:g a b with
 |error x=>rw[e]at p2;exact p2|ok w=>
  rw[e]at p2;cases w with
  |bl k=>
   intro v F3 U Y L;cases(show v=.bl k from L);have p3:=p2.step Y;refine⟨k,rfl,?_⟩
   cases k with
   |false=>exact aH.bl p3 Y.fh|true=>
    have p3:aH K W b_ F3 U ((fc ρ).bind λc=>(g' b c).bind λy=>(asB y).bind λl=>if l=d_ then(fd' ρ).bind λd=>g'' c d else .ok (.bl b_)) Q:=p3;refine ba (t.mono Y.ff) Y.fh (λe J=>p3.err (by rw[J];rfl)) λc P w D T m u=>?_;have I:=p3.step m;rw[P]at I;have I:aH K W b_ D T ((g' b c).bind λy=>(asB y).bind λl=>if l=d_ then(fd' ρ).bind λd=>g'' c d else .ok (.bl b_)) Q:=I;refine⟨D,b,c,m.fh,aR.mono (Y.trans m).ff A,u,?_⟩
    cases e4:g' b c with
    |error x=>rw[e4]at I;exact I|ok E=>
     rw[e4]at I;cases E with
     |bl l=>
      intro G Z S f q;cases(show G=.bl l from q);have j:=I.step f;refine⟨l,rfl,?_⟩
      cases l with
      |false=>exact aH.bl j f.fh|true=>have j:aH K W b_ Z S ((fd' ρ).bind λd=>g'' c d) Q:=j;refine ba (((t.mono Y.ff).mono m.ff).mono f.ff) f.fh (λe J=>j.err (by rw[J];rfl)) λd hd w6 X H6 o N=>?_;have B:=j.step o;rw[hd]at B;exact⟨X,c,d,o.fh,aR.mono (f.trans o).ff u,N,B⟩
     |_=>exact(W.ns I).elim
  |_=>exact(W.ns p2).elim
def G4(Y:Op2 K W b_ X (GL op) g)(J:Op2 K W b_ X (GL op') g')(I:Op2 K W b_ X (GL op'') g'')(i:DE K W b_ X a fa)(h:DE K W b_ X b fb)(f:DE K W b_ X c fc)(hd:DE K W b_ X d fd')(e:autoParam (Le [op,op',op''] [b,c,d]=b_) Jq8):DE K W b_ X (.Compare a [op,op',op''] [b,c,d] pos) (m8 g g' g'' fa fb fc fd'):=(EW Y J I i h f hd e).imp λ_ _ _=>EG
end
section
variable{fu:ah->M (Option Int)}
@[simp]def e_pNone:ky ρ=.ok c_:=id rfl
@[simp]def e_pSome:i8 fa ρ=(fa ρ).bind λd=>(asI d).bind λi=>.ok (a_ i):=id rfl
@[simp]def e_slF(k:A'->Option Int->Option Int->M A'):fSl k fa fl fu ρ=(fa ρ).bind λa=>(fl ρ).bind λl=>(fu ρ).bind λu=>k a l u:=id rfl
@[simp]def e_sliceL(ds:List A')(lo hi:Option Int):dB (.lst ds) lo hi=.ok (.lst (pZ ds lo hi)):=id rfl
@[simp]def e_extD(i:Nat)(ds es:List A'):extD ρ i ds (.lst es)=if ds.length+es.length<=j_ then put ρ i (ds++es)else stk:=id rfl
@[simp]def e_ext(O:cc)(i:Nat):Et O i fa ρ=(jH ρ i).bind λds=>(fa (erase O ρ)).bind λd=>extD ρ i ds d:=id rfl
@[simp] theorem e_pow{i j:Int}(I:0<=j)(h1:j<=1000000)(h2:i.natAbs<2^64):powD (.int i) (.int j)=.ok (.int (i^j.toNat)):=by show(if (o_ (0<=j)&&o_ (j<=1000000)&&o_ (i.natAbs<2^64))=d_ then _ else _)=_;simp_all
@[simp]def e_eqII(i j:Int):eqM (.int i) (.int j)=.ok (.bl (o_ (i=j))):=by rfl
@[simp]def e_isiIN:ou .non=.ok (.bl b_):=id rfl
@[simp] theorem rJ{α:Type}(xs:List α){j:Int}(h:0<=j):pZ xs c_ (a_ j)=xs.take j.toNat:=by unfold pZ cX;simp_all[k_,J8,Nat.sub_zero,NX,NQ,List.take_length,Ky]
@[simp] theorem cut_drop{α:Type}(xs:List α){j:Int}(h:0<=j):pZ xs (a_ j) c_=xs.drop j.toNat:=by simp_all[pZ,cX,k_,NX,Ky,NQ,List.drop_of_length_le,Lp]
end
def bx(Cs:List f_)(x:i_):A'->M A'
 |.ins C fs=>if Cs.contains C=d_ then(match fs.lookup x with
  |some d=>.ok d|none=>stk)else stk
 |_=>stk
def isC(C:f_)(m:i_):A'->Bool
 |.ins D fs=>(D==C)&&(fs.lookup m).isNone|_=>b_
def m7(C:f_)(m:i_)(g:List A'->M A')(fo:ah->M A')(fr:ah->M (List A')):ah->M A':=λρ=>(fo ρ).bind λo=>if isC C m o=d_ then(fr ρ).bind λas=>g (o::as)else stk
def mV(C C2:f_)(m:i_)(g g2:List A'->M A')(fo:ah->M A')(fr:ah->M (List A')):ah->M A':=λρ=>(fo ρ).bind λo=>if isC C m o=d_ then(fr ρ).bind λas=>g (o::as)else if isC C2 m o=d_ then(fr ρ).bind λas=>g2 (o::as)else stk
def newR(C:f_)(g:List A'->M A'):List A'->M A'
 |[d]=>(g [d]).bind λr=>.ok (.ins C [("gaps",r)])|_=>stk
def twoL:A'->A'->Bool
 |.lst xs,.lst ys=>o_ (xs.length=ys.length)|_,_=>b_
def newP(C:f_)(g:List A'->M A'):List A'->M A'
 |[d,e]=>(g [d]).bind λr=>(g [e]).bind λr2=>if twoL r r2=d_ then .ok (.ins C [("gaps",r),("beside",r2)])else stk
 |_=>stk
def sStk:ah->M Gp:=λ_=>stk
section
variable{W:gf}{own:Bool}{o a b c d:HG}{x m:i_}{f:ah->M A'}{fr:ah->M (List A')}{Cs:List f_}
def ds_stk:DS K W ro X OL O O' st sStk:=λF0 H0 B' s σ H D I h=>by obtain⟨FB,F,ρ,r,p⟩:=h;exact p.stuck rfl
theorem jI.at{F:Hp}{x:i_}:∀{I:List (i_×A')} {fs:List (i_×V)},jI K F I fs->(∀d,I.lookup x=a_ d->∃v,fs.lookup x=a_ v/\aR K F d v)/\(I.lookup x=c_->fs.lookup x=c_)
 |[],fs,h=>by cases(show fs=[]from h);exact⟨λd h=>by simp at h,λ_=>rfl⟩|(g,d)::I,fs,h=>by
  obtain⟨v,r,rfl,h1,h2⟩:=h;have J:=jI.at (x:=x) h2;rw[y_,y_];cases e:x==g with
  |true=>exact⟨λd' h'=>by cases h';exact⟨v,rfl,h1⟩,λh'=>by cases h'⟩|false=>exact J
theorem cf(m:∀C∈Cs,Cls K C/\bp K C y)(b:DE K W b_ X e fa)(i: ~~~(HA e y X.env (GI e X.env)=GI e X.env))(k: ~~~(X.K=K)):DE K W b_ X (.Attribute e y pos) (f1 (bx Cs y) fa):=by
 subst k;refine(iL b i).imp λσ H Q h=>?_;obtain⟨F,ρ,r,s,p⟩:=h;refine ba r s (λe b=>p.err (by unfold f1;rw[b];rfl)) λa j x F1 H1 J g=>?_;have n:f1 (bx Cs y) fa ρ=bx Cs y a:=by unfold f1;rw[j];rfl
 rw[n]at p;cases a with
 |ins C f=>
  obtain⟨l,dx,fs,e1,o,q⟩:=g;have I:aH X.K W b_ F H (if Cs.contains C=d_ then(match f.lookup y with
   |some d=>.ok d|none=>stk)else stk) Q:=p
  by_cases c:Cs.contains C=d_
  .rw[g_ c]at I;obtain⟨h1,h2⟩:=m C bt;cases Y:f.lookup y with
   |none=>rw[Y]at I;exact aH.stuck I|some d=>rw[Y]at I;obtain⟨v,hv,hd⟩:=q.at.1 d Y;exact⟨l,C,dx,fs,v,e1,J.fh _ _ o,h1,h2,hv,(I.step J) v F1 H1 (C6.refl J.fh) hd⟩
  .rw[k_ c]at I;exact aH.stuck I
 |_=>exact aH.stuck p
def PE.or{t1 t2:TE}(h1:PE X e t1)(h2:PE X e t2):PE X e (λσ H Q=>t1 σ H Q\/t2 σ H Q):=λB' s σ H Q I h=>h.elim (h1 B' s σ H Q I) (h2 B' s σ H Q I)
def rd_meth{g:ah->M Gp}(h:tD K Hh ro (m7 C m (cn nN n g) fo fr) σ H Q):vC C m (spF K ro (cn nN n g) n) [] E0 (tD K Hh b_ fo) (tDA K Hh fr) σ H Q:=by
 obtain⟨F,ρ,r,s,p⟩:=h;refine ba r s (λe c=>p.err (by unfold m7;rw[c];rfl)) λo q x F1 H1 J i=>?_;have u:m7 C m (cn nN n g) fo fr ρ=if isC C m o=d_ then(fr ρ).bind λas=>cn nN n g (o::as)else stk:=by unfold m7;rw[q];rfl
 rw[u]at p;by_cases Y:isC C m o=d_
 .rw[g_ Y]at p;cases o with
  |ins D a=>
   obtain⟨l,dx,fs,e1,v,w⟩:=id i;have I:((D==C)&&(a.lookup m).isNone)=d_:=Y;rw[l_]at I;obtain⟨f,t⟩:=I;have f:D=C:=by simpa using f
   subst f;refine⟨l,dx,fs,e1,J.fh _ _ v,w.at.2 (by simpa using t),?_⟩
   have p:=p.step J;refine rO (r.mono J.ff) J.fh (λe c=>p.err (by rw[c];rfl)) λas d vs F2 H2 b k=>?_;rw[d]at p;have p:aH K Hh ro F1 H1 (cn nN n g (.ins D a::as)) Q:=p;have p:=p.step b;show spF K ro (cn nN n g) n (x::(vs++[])) H2 Q E0;rw[Ia];by_cases j:(A'.ins D a::as).length=n
   .exact⟨F2,.ins D a::as,b.fh,⟨x,vs,rfl,aR.mono b.ff i,k⟩,j,p⟩
   .rw[vR j]at p;exact aH.stuck p
  |_=>cases Y
 .rw[k_ Y]at p;exact aH.stuck p
def rd_meth2{g g2:ah->M Gp}(h:tD K Hh ro (mV C C2 m (cn nN n g) (cn nN2 n2 g2) fo fr) σ H Q):
  tD K Hh ro (m7 C m (cn nN n g) fo fr) σ H Q\/tD K Hh ro (m7 C2 m (cn nN2 n2 g2) fo fr) σ H Q:=by
 obtain⟨F,ρ,r,s,p⟩:=h;cases I:fo ρ with
 |error e=>
  refine .inl ⟨F,ρ,r,s,?_⟩;have e1:mV C C2 m (cn nN n g) (cn nN2 n2 g2) fo fr ρ=.error e:=by unfold mV;rw[I];rfl
  have e2:m7 C m (cn nN n g) fo fr ρ=.error e:=by unfold m7;rw[I];rfl
  rw[e1]at p;rw[e2];exact p
 |ok o=>
  have e1:mV C C2 m (cn nN n g) (cn nN2 n2 g2) fo fr ρ=if isC C m o=d_ then(fr ρ).bind λas=>cn nN n g (o::as)else if isC C2 m o=d_ then(fr ρ).bind λas=>cn nN2 n2 g2 (o::as)else stk:=by unfold mV;rw[I];rfl
  have e2:m7 C m (cn nN n g) fo fr ρ=if isC C m o=d_ then(fr ρ).bind λas=>cn nN n g (o::as)else stk:=by unfold m7;rw[I];rfl
  have e3:m7 C2 m (cn nN2 n2 g2) fo fr ρ=if isC C2 m o=d_ then(fr ρ).bind λas=>cn nN2 n2 g2 (o::as)else stk:=by unfold m7;rw[I];rfl
  rw[e1]at p;by_cases J:isC C m o=d_
  .rw[g_ J]at p e2;exact .inl ⟨F,ρ,r,s,by rw[e2];exact p⟩
  .rw[k_ J]at p;exact .inr ⟨F,ρ,r,s,by rw[e3];exact p⟩
def Gs(X:Cx)(o:HG)(m:i_)(apos:OE)(es:List HG)(pos:OE)(pl:Oq Bool):Prop:=GI (.Call (.Attribute o m apos) es [] pos) X.env=(do let I <- GI o X.env;Mi apos.atName;let (f,first) <- Mj [I] (Lf I m pl);LC pos f first (He pos (h_ es X.env)) (Ic pos (Hs [] X.env)))
section
variable{fad2:f_}{fd2:Iq}{g g2:ah->M Gp}
def sD(c:Cls X.K C)(M:Meth X.K C m fad)(F:iZ X.prog X.w X.K X.mg X.base CX0 k fad fd ps (spF X.K ro (cn nN n g) n))(J:jr k X.A)(a:Binds X.K fd ps [])(Y:DE X.K Hh b_ X o fo)(I:Gs X o m apos [] pos pl):DE X.K Hh ro X (.Call (.Attribute o m apos) [] [] pos) (m7 C m (cn nN n g) fo aB):=
 (vV (pl:=pl) Y c M F J a .nil qQ I).imp λσ H Q h=>by
  obtain⟨F,ρ,r,s,z⟩:=rd_meth h;refine⟨F,ρ,r,s,?_⟩
  cases e1:fo ρ with
  |error e=>rw[e1]at z;exact z|ok od=>rw[e1]at z;intro v F' H' st q;obtain⟨l,dx,fs,h1,h2,d,b⟩:=z v F' H' st q;exact⟨l,dx,fs,h1,h2,d,rd_nil b⟩
def G3(c:Cls K C)(M:Meth K C m fad)(F:iZ X.prog X.w X.K X.mg X.base CX0 k fad fd ps (spF K ro (cn nN n g) n))(J:jr k X.A)(a:Binds X.K fd ps [])(Y:DE K Hh b_ X o fo)(b: ~~~(X.K=K))(I: ~~~(Gs X o m apos [] pos pl)):DE K Hh ro X (.Call (.Attribute o m apos) [] [] pos) (m7 C m (cn nN n g) fo aB):=by subst b;exact sD c M F J a Y I
def G2{k2:Nat}{I:bv}(c:Cls K C)(M:Meth K C m fad)(F:iZ X.prog X.w X.K X.mg X.base CX0 k fad fd ps (spF K ro (cn nN n g) n))(d:jr k X.A)(e:Binds X.K fd ps [])(c2:Cls K C2)(h:Meth K C2 m fad2)(F2:iZ X.prog X.w X.K X.mg X.base CX0 k2 fad2 fd2 I (spF K ro (cn nN2 n2 g2) n2))(J:jr k2 X.A)(Y:Binds X.K fd2 I [])(b:DE K Hh b_ X o fo)(f: ~~~(X.K=K))(a: ~~~(Gs X o m apos [] pos pl)):
  DE K Hh ro X (.Call (.Attribute o m apos) [] [] pos) (mV C C2 m (cn nN n g) (cn nN2 n2 g2) fo aB):=by
 subst f;exact(PE.or (sD c M F d e b a) (sD c2 h F2 J Y b a)).imp λ_ _ _=>rd_meth2
end
def spI1(K:Pn)(C:f_)(g:List A'->M A'):Sp:=λvs H Q _=>∃p dx v F d,vs=[.ref p,v]/\H p=a_ (.ins C dx [])/\F p=c_/\aS F H/\aR K F d v/\(match g [d]with
 |.ok r=>∀w F' H',aS F F'->aS F' H'->F' p=c_->(∀b o,F' b=a_ o->F b=a_ o\/H b=c_)->(∀c o,H c=a_ o->c≠p->H' c=a_ o)->H' p=a_ (.ins C dx [("gaps",w)])->aR K F' r w->Q .non H'|.error e=>Hh.p e F H)
def spI2(K:Pn)(C:f_)(g:List A'->M A'):Sp:=λvs H Q _=>∃p dx v J F d Y,vs=[.ref p,v,J]/\H p=a_ (.ins C dx [])/\F p=c_/\aS F H/\aR K F d v/\aR K F Y J/\(match (g [d]).bind λr=>(g [Y]).bind λr2=>if twoL r r2=d_ then .ok (r,r2)else stk with
 |.ok (r,r2)=>∀w I F' H',aS F F'->aS F' H'->F' p=c_->(∀b o,F' b=a_ o->F b=a_ o\/H b=c_)->(∀c o,H c=a_ o->c≠p->H' c=a_ o)->H' p=a_ (.ins C dx [("gaps",w),("beside",I)])->aR K F' r w->aR K F' r2 I->Q .non H'|.error e=>Hh.p e F H)
theorem C6.born{x:f_}{fs:List (i_×V)}(s:aS F H)(d:H x=c_)(J:H dx=c_)(I:dx≠x)(h1:aS F F')(h2:aS F' H')(a:F' x=c_)(h:∀b o,F' b=a_ o->F b=a_ o\/upd (upd H dx (.own x)) x (.ins C dx []) b=c_)(g:∀c o,upd (upd H dx (.own x)) x (.ins C dx []) c=a_ o->c≠x->H' c=a_ o)(f:H' x=a_ (.ins C dx fs)):C6 F H (upd F' x (.ins C dx fs)) H' where
 ff:=h1.trans (aS.upd a)
 hh:=λc o e=>by grind[ao]
 fh:=λc o e=>by
  by_cases Y:c=x
  .simp_all[aj]
  .rw[ao Y]at e;exact h2 _ _ e
 nw:=λc o e=>by grind[ao]
theorem de_newR{g:List A'->M A'}(n:Mk X.K C fI)(T:iZ X.prog X.w X.K X.mg X.base CX0 k fI fdI ps (spI1 K C g))(A:jr (k+1) X.A)(D:X.mg x=a_ (.ref C))(L:Binds X.K fdI ps [])(N:DA K Hh X [e] fr)(E: ~~~(Gl X x))(l:((x==("__debug__":i_))=b_)⁻¹)(f: ~~~(h_ [e] X.env=(b_,GI e X.env)::h_ [] X.env))(i: ~~~((He pos (h_ [] X.env)).any (·.1)=b_)):
  DE K Hh b_ X (.Call (.Name x p) [e] [] pos) (fL (newR C g) fr):=by
 refine PE.imp (vW n T A E D L .nil qQ N l f i) λσ H Q h=>?_;obtain⟨F,ρ,r,s,p⟩:=rd_L h;refine⟨F,ρ,r,s,?_⟩
 cases e1:fr ρ with
 |error z=>simp_all|ok ds=>
  rw[e1]at p;intro vs F1 H1 st q;obtain⟨F2,m,I,y,z⟩:=p vs F1 H1 st q;rcases m with _|⟨d,_|⟨_,_⟩⟩
  .exact aH.stuck z
  rotate_left
  .exact aH.stuck z
  .obtain⟨v,a,rfl,u,B⟩:=y;cases(show a=[]from B);intro x dx b Y j;refine⟨x,dx,v,F2,d,rfl,aj,I.free b,λc o e=>?_,u,?_⟩
   .have G:c≠x:=λh=>by rw[h,I.free b]at e;cases e
    have hd:c≠dx:=λh=>by rw[h,I.free Y]at e;cases e
    rw[ao G,ao hd];exact I _ _ e
   .have z:aH K Hh b_ F2 H1 ((g [d]).bind λr=>.ok (.ins C [("gaps",r)])) Q:=z;cases J:g [d]with
    |error e=>rw[J]at z;exact Hi z|ok r=>
     rw[J]at z;intro w F' H' h1 h2 t S R P O;refine⟨rfl,z (.ref x) (upd F' x (.ins C dx [("gaps",w)])) H' (C6.born I b Y j h1 h2 t S R P) ?_⟩
     exact⟨x,dx,_,rfl,aj,w,[],rfl,aR.mono (aS.upd t) O,rfl⟩
theorem de_newP{g:List A'->M A'}(D:Mk X.K C fI)(FI:iZ X.prog X.w X.K X.mg X.base CX0 k fI fdI ps (spI2 K C g))(P:jr (k+1) X.A)(S:X.mg x=a_ (.ref C))(W:Binds X.K fdI ps [])(Z:DA K Hh X [e,a] fr)(T: ~~~(Gl X x))(u:((x==("__debug__":i_))=b_)⁻¹)(m: ~~~(h_ [e,a] X.env=(b_,GI e X.env)::h_ [a] X.env))(n: ~~~((He pos (h_ [a] X.env)).any (·.1)=b_)):
  DE K Hh b_ X (.Call (.Name x p) [e,a] [] pos) (fL (newP C g) fr):=by
 refine PE.imp (vW D FI P T S W .nil qQ Z u m n) λσ H Q h=>?_;obtain⟨F,ρ,r,s,p⟩:=rd_L h;refine⟨F,ρ,r,s,?_⟩
 cases e1:fr ρ with
 |error z=>simp_all|ok ds=>
  rw[e1]at p;intro vs F1 H1 st q;obtain⟨F2,A,J,O,z⟩:=p vs F1 H1 st q;rcases A with _|⟨d,_|⟨B,_|⟨_,_⟩⟩⟩
  .exact aH.stuck z
  .exact aH.stuck z
  rotate_left
  .exact aH.stuck z
  .obtain⟨v,G,rfl,N,L,f,rfl,i,R⟩:=O;cases(show f=[]from R);intro x dx j b t;refine⟨x,dx,v,L,F2,d,B,rfl,aj,J.free j,λc o e=>?_,N,i,?_⟩
   .have U:c≠x:=λh=>by rw[h,J.free j]at e;cases e
    have hd:c≠dx:=λh=>by rw[h,J.free b]at e;cases e
    rw[ao U,ao hd];exact J _ _ e
   .have z:aH K Hh b_ F2 H1 ((g [d]).bind λr=>(g [B]).bind λr2=>if twoL r r2=d_ then .ok (.ins C [("gaps",r),("beside",r2)])else stk) Q:=z;cases Y:g [d]with
    |error e=>rw[Y]at z;exact Hi z|ok r=>
     rw[Y,aq]at z;cases I:g [B]with
     |error e=>rw[I]at z;exact Hi z|ok r2=>
      rw[I,aq]at z;by_cases l:twoL r r2=d_
      .rw[g_ l]at z;rw[aq,aq,g_ l];intro w E F' H' h1 h2 y h4 h5 h6 h7 h8;refine⟨rfl,z (.ref x) (upd F' x (.ins C dx [("gaps",w),("beside",E)])) H' (C6.born J j b t h1 h2 y h4 h5 h6) ?_⟩
       exact⟨x,dx,_,rfl,aj,w,_,rfl,aR.mono (aS.upd y) h7,E,[],rfl,aR.mono (aS.upd y) h8,rfl⟩
      .rw[k_ l]at z;exact aH.stuck z
end
def Itz(K:Pn)(a b:f_):It:=
 ⟨λi H=>∃xs ys x y,SqL K H a xs/\SqL K H b ys/\xs[i]?=a_ x/\ys[i]?=a_ y,λi H v H'=>∃T x y,H T=c_/\v=.ref T/\H'=upd H T (.tup [x,y])/\(∀xs,SqL K H a xs->xs[i]?=a_ x)/\∀ys,SqL K H b ys->ys[i]?=a_ y,λi H=>∃xs ys,SqL K H a xs/\SqL K H b ys/\(xs.length<=i\/ys.length<=i)⟩
theorem turn_zip{w:GW}{z f l j g N L:f_}(D:ZipApart z f l j g N L):
  Turn P w K (.Tuple elts k pos) (Itz K N L) [z,f,l,j,g] z (λi h=>IsZip h z f l .none/\IsPair h f (.ref j) (.ref g)/\(∃a b,IsPair h l a b)/\h.IsListIter j N i/\h.IsListIter g L i) where
 mem:=by simp
 obj:=λi h st b J=>by obtain⟨n,Y,⟨a,c,d⟩,⟨o1,e1,c1,d1⟩,⟨o2,e2,c2,d2⟩⟩:=st;grind
 keep:=λi h h' st t=>by obtain⟨n,Y,⟨a,c,d⟩,h1,h2⟩:=st;exact⟨t z a8 _ n,t f a8 _ Y,⟨a,c,t l a8 _ d⟩,h1.at λo x=>t j a8 o x,h2.at λo x=>t g a8 o x⟩
 item:=by
  intro X T hw U hc i B' s σ H E I C st R;subst T hw U;obtain⟨n,Y,⟨a,c,d⟩,h1,h2⟩:=st;obtain⟨xs,ys,x,y,B,A,gx,gy⟩:=R;obtain⟨G',F,p,_⟩:=I.list B;obtain⟨v,m,p2,_⟩:=I.list A;obtain⟨u,hu,ru⟩:=F.get gx;obtain⟨Z,O,G⟩:=m.get gy;refine wpAny_pyNext_zip_item D n Y d h1 h2 p.isList p2.isList (x:=u) (y:=Z) (by simpa using hu) (by simpa using O) λh' a1 a2 a3 a4 a5 a6 a7=>?_;refine⟨_,rfl,wpAny_letOwnedTupleGo_zip a1 λW b1 r=>?_⟩
  have lz:z<s.z:=t_ n;have lTI:f<s.z:=t_ Y;have lTO:l<s.z:=t_ d;have li1:j<s.z:=by obtain⟨o,e,_⟩:=h1;exact t_ e
  have li2:g<s.z:=by obtain⟨o,e,_⟩:=h2;exact t_ e
  have I1:Cv X B' σ (upd H s.z (.tup [x,y])) {s with heap:=W,toks:=s.toks}:=I.DY (ch:=[z,f,l,j,g]) C (λb o J q=>by simp only[q_,GQ,Iw,not_or]at J;exact(r.2 b J.1).trans (a7 b o J.1 J.2.2.1 J.2.2.2.1 J.2.2.2.2 q)) (z_ _) ⟨by show 2<=j_;decide,[u,Z],.cons ru (.cons G .nil),⟨_,(r.2 _ (J0 lz)).trans a5,rfl,0,rfl⟩⟩
  refine⟨.ref s.z,_,I1,rfl,⟨s.z,x,y,I.hok.fresh (z_ _),rfl,rfl,λzs Q=>by rw[I.rA Q B];exact gx,λzs Q=>by rw[I.rA Q A];exact gy⟩,
   ⟨b1,(r.2 _ D.TIz).trans (a7 f _ D.TIz D.TITO D.TIi1 D.TIi2 Y),⟨_,_,(r.2 _ D.TOz).trans a2⟩,a3.at λo q=>(r.2 _ D.i1z).trans q,a4.at λo q=>(r.2 _ D.i2z).trans q⟩,λb J=>?_⟩
  have S:=(C b J).1;have:b≠s.z:=by simp only[q_,GQ,Iw]at J;rcases J with rfl|rfl|rfl|rfl|rfl<;>exact GS (by assumption)
  rw[ao this];exact S
 done:=by
  intro X T hw U hc i B' s σ H E I C st R;subst T hw U;obtain⟨n,Y,⟨a,c,d⟩,h1,h2⟩:=st;obtain⟨xs,ys,B,A,hend⟩:=R;obtain⟨G',F,p,_⟩:=I.list B;obtain⟨v,m,p2,_⟩:=I.list A;have e1:=F.length;have e2:=m.length;refine wpAny_pyNext_zip_end (I.ok.hd hc) D n Y d h1 h2 p.isList p2.isList ?_ λh' hk=>⟨rfl,I.DZ (t':=s.toks) (ch:=[z,f,l,j,g]) C λb o J q=>?_⟩
  .simp_all
  .simp only[q_,GQ,Iw,not_or]at J;exact hk b o J.1 J.2.2.1 J.2.2.2.1 J.2.2.2.2 q
 self:=λ_ _ _ _ _ st h=>Oz st.1 h
theorem AL:∀(ds es:List A') (i:Nat),(qN ds es)[i]?=(ds[i]?).bind λd=>(es[i]?).map λe=>.tup [d,e]
 |[],es,i=>by rfl|d::ds,[],i=>by simp[qN]|d::ds,e::es,0=>by rfl|d::ds,e::es,i+1=>by rw[qN,Jw,AL ds es i,Jw,Jw]
theorem vv:∀(ds es:List A'),(qN ds es).length=min ds.length es.length
 |[],es=>by rfl|d::ds,[]=>by rfl|d::ds,e::es=>by rw[qN,Gy,vv ds es,Gy,Gy];lia
theorem iter_zip{xs ys:b'}{ds es:List A'}(t:SqL K F a xs)(z:az K F ds xs)(t2:SqL K F b ys)(e:az K F es ys):za K F (Itz K a b) (qN ds es) where
 go:=λi F' H' J I hi=>by rw[vv]at hi;exact⟨xs,ys,xs[i]'(by rw[z.length];lia),ys[i]'(by rw[e.length];lia),I.lst (J.lst t),I.lst (J.lst t2),G_ _,G_ _⟩
 yl:=λi F' H' x H2 d J I hd k=>by
  obtain⟨T,h,f,g,ex,l,h1,h2⟩:=k;subst ex l;rw[AL]at hd;cases c:ds[i]? with
  |none=>simp_all|some o=>
   cases Y:es[i]? with
   |none=>simp_all|some n=>
    rw[c,Y]at hd;simp at hd;subst hd;obtain⟨v,e1,q⟩:=z.get c;obtain⟨m,e2,j⟩:=e.get Y;have e3:=h1 xs (I.lst (J.lst t));have e4:=h2 ys (I.lst (J.lst t2));rw[e1]at e3;rw[e2]at e4;cases e3;cases e4;refine⟨upd F' T (.tup [h,f]),C6.lay I g,T,_,rfl,SqT.of aj,?_⟩
    exact⟨h,[f],rfl,(q.mono J).mono (aS.upd (I.free g)),f,[],rfl,(j.mono J).mono (aS.upd (I.free g)),rfl⟩
 st:=λF' H' J I=>⟨xs,ys,I.lst (J.lst t),I.lst (J.lst t2),by rw[z.length,e.length,vv];lia⟩
section
variable{W:gf}{a b:HG}{x:i_}
def iZip(K:Pn)(ta tb:TE):TI:=λσ H R=>ta σ H λx H1=>tb σ H1 λy H2=>∃a b,x=.ref a/\y=.ref b/\(∃xs,SqL K H2 a xs)/\(∃ys,SqL K H2 b ys)/\R (Itz K a b) H2
def pi_zip(K:Gl X "zip")(F:X.mg "zip"=c_)(L:PE X a ta)(i:PE X b tb)(z:h_ [a,b] X.env=[(b_,GI a X.env),(b_,GI b X.env)])(Y:h_ [b] X.env=[(b_,GI b X.env)]):
  PI X (.Tuple elts k q) (.Call (.Name "zip" p) [a,b] [] pos) (iZip X.K ta tb):=by
 intro B' s σ H R I h;have N:PA X [a,b] (aP ta (aP tb fw)):=au L (au i aQ Y) (by rw[z,Y]);refine Call_ (uX I K F boot_zip (JE (H9 (N pos B' s σ H (λvs H1=>match vs with
  |[x,y]=>∃a b,x=.ref a/\y=.ref b/\(∃xs,SqL X.K H1 a xs)/\(∃ys,SqL X.K H1 b ys)/\R (Itz X.K a b) H1
  |_=>False) I h) λus J ⟨vs,H1,f,C,g⟩=>?_) (by rw[z,Y]) (by rw[Y];rfl)))
 rcases vs with _|⟨x,_|⟨y,_|⟨_,_⟩⟩⟩
 .exact Hi g
 .exact Hi g
 rotate_left
 .exact Hi g
 .obtain⟨l,D,e1,e2,⟨xs,E⟩,⟨ys,m⟩,q⟩:=g;subst e1 e2;obtain⟨u,S,rfl,B,j⟩:=C.two;cases B;cases j;obtain⟨G',T,pl,_⟩:=f.list E;obtain⟨v,A,c,_⟩:=f.list m;have P:l<J.z:=by obtain⟨_,e,_⟩:=pl.isList;exact t_ e
  have O:D<J.z:=by obtain⟨_,e,_⟩:=c.isList;exact t_ e
  refine call_zip_2 pl.isList c.isList λh' w t r o n hsz G=>?_;have Q:Cv X B' σ H1 {J with heap:=h'}:=f.kept (t':=J.toks) G;refine Oz w ?_;refine⟨J.z+4,[J.z+4,J.z+2,J.z+3,J.z,J.z+1],_,_,H1,rfl,Q,turn_zip (zipApart_new P O),⟨w,t,⟨_,_,r⟩,o,n⟩,λb i=>?_,q⟩
  have d:J.z<=b:=by
   simp only[q_,GQ,Iw]at i;rcases i with rfl|rfl|rfl|rfl|rfl
   .simp
   .simp
   .simp
   .simp
   .simp
  exact f.fpOk d (f.hok.fresh d)
theorem ri_zip{R:It->Hp->Prop}(h:iD K W (By fa fb) σ H R):iZip K (tD K W b_ fa) (tD K W b_ fb) σ H R:=by
 obtain⟨F,ρ,r,s,p⟩:=h;refine ba r s (λe c=>?_) λd hd v F1 H1 J j=>?_
 .simp_all[By]
 .refine ba (r.mono J.ff) J.fh (λe c=>?_) λf a l F2 H2 I i=>?_
  .have z:By fa fb ρ=.error e:=by unfold By;rw[hd,aq,c];rfl
   rw[z]at p;exact W.mono p J
  .have z:By fa fb ρ=(mS d).bind λds=>(mS f).bind λes=>.ok (qN ds es):=by unfold By;rw[hd,aq,a,aq]
   rw[z]at p;cases d with
   |lst ds=>
    cases f with
    |lst es=>obtain⟨b,xs,e,t,g⟩:=j;obtain⟨k,ys,e2,t2,Y⟩:=i;have t':=I.ff.lst t;exact⟨b,k,e,e2,⟨xs,I.fh.lst t'⟩,⟨ys,I.fh.lst t2⟩,p _ F2 H2 (J.trans I) (iter_zip t' (g.mono I.ff) t2 Y)⟩
    |_=>exact(W.ns p).elim
   |_=>exact(W.ns p).elim
def BG(Y:X.mg "zip"=c_)(e:DE K W b_ X a fa)(d:DE K W b_ X b fb)(c: ~~~(Gl X "zip"))(J: ~~~(h_ [a,b] X.env=[(b_,GI a X.env),(b_,GI b X.env)]))(I: ~~~(h_ [b] X.env=[(b_,GI b X.env)]))(f: ~~~(X.K=K)):
  DI K W X (.Tuple elts k q) (.Call (.Name "zip" p) [a,b] [] pos) (By fa fb):=by
 subst f;exact(pi_zip c Y e d J I).imp λ_ _ _=>ri_zip
end
theorem Bd{n:Nat}:∀{ds:List A'} {d:A'},nh ds n=d_->d∈ds->okE d n=d_
 |[],d,_,h=>by simp at h|a::ds,d,h,hd=>by
  unfold nh at h;simp only[l_]at h;rcases q_.mp hd with e|e
  .simp_all
  .exact Bd h.2 e
section
variable{W:gf}{own:Bool}
open Classical in
def has_D(I:Cv X B' σ H s)(hF:aS F H){ds:List A'}{xs:b'}{G':List Value}{a:A'}{x:V}(od:nh ds 40=true)(oa:okE a 40=true)(qs:az X.K F ds xs)(rv:Gr xs G')(qa:aR X.K F a x)(ra:Gq x u)(hu:A.units+40<cLine):
  ∃e:Value->Bool,(∀y,y∈G'.toArray->SeqAt.EqAt A s y u (e y))/\G'.toArray.any e=ds.any λd=>eqD d a:=by
 have each:∀(i:Nat) (y:Value),G'[i]?=some y->∃d,ds[i]?=some d/\SeqAt.EqAt A s y u (eqD d a):=λi y hy=>by
  have hi:i<G'.length:=(List.getElem?_eq_some_iff.mp hy).1;have h1:i<xs.length:=by rw[rv.length];exact hi
  have h2:i<ds.length:=by rw[<- qs.length];exact h1
  obtain⟨v,e1,q1⟩:=qs.get (List.getElem?_eq_getElem h2);obtain⟨w,e2,r2⟩:=rv.get e1;rw[hy]at e2;cases e2;exact⟨_,List.getElem?_eq_getElem h2,FP I hF _ a (Bd od (List.getElem_mem h2)) oa q1 qa r2 ra hu⟩
 refine⟨λy=>decide (∃(i:Nat) (d:A'),G'[i]?=some y/\ds[i]?=some d/\eqD d a=true),λy hy=>?_,?_⟩
 .by_cases h:∃(i:Nat) (d:A'),G'[i]?=some y/\ds[i]?=some d/\eqD d a=true
  .obtain⟨i,d,h1,h2,h3⟩:=h;obtain⟨d',h4,h5⟩:=each i y h1;rw[h2]at h4;cases h4;rw[h3]at h5;have:decide (∃(i:Nat) (d:A'),G'[i]?=some y/\ds[i]?=some d/\eqD d a=true)=true:=decide_eq_true ⟨i,d,h1,h2,h3⟩;show SeqAt.EqAt A s y u (decide _);rw[this];exact h5
  .have hm:y∈G':=by simpa using hy
   obtain⟨i,hi⟩:=List.getElem?_of_mem hm;obtain⟨d,h4,h5⟩:=each i y hi;have h6:eqD d a=false:=by
    cases hq:eqD d a with
    |false=>rfl|true=>exact absurd ⟨i,d,hi,h4,hq⟩ h
   rw[h6]at h5;show SeqAt.EqAt A s y u (decide _);rw[decide_eq_false h];exact h5
 .rw[Bool.eq_iff_iff];simp only[List.any_toArray,List.any_eq_true,decide_eq_true_eq];constructor
  .rintro⟨y,hy,i,d,h1,h2,h3⟩;exact⟨d,List.mem_of_getElem? h2,h3⟩
  .rintro⟨d,hd,h3⟩;obtain⟨i,hi⟩:=List.getElem?_of_mem hd;have h2:i<ds.length:=(List.getElem?_eq_some_iff.mp hi).1;have h4:i<G'.length:=by rw[<- rv.length,qs.length];exact h2
   exact⟨G'[i],List.getElem_mem h4,i,d,List.getElem?_eq_getElem h4,hi,h3⟩
theorem o_in(r:X.A.units+64<IL)(q: ~~~(X.K=K)):Op2 K W own X (GL .In) inM:=by
 subst q;intro B' s σ H x y v u Q I m k h;obtain⟨F,a,b,c,o,n,p⟩:=h;have f:X.A.in1.units+40<IL:=by show X.A.units+1+40<IL;lia
 cases b with
 |lst ds=>
  obtain⟨l,xs,e,t,z⟩:=n;subst e;cases k;have Y:aH X.K W own F H (if (okE a 40&&nh ds 40)=d_ then .ok (.bl (ds.any λd=>eqD d a))else stk) Q:=p;by_cases J:(okE a 40&&nh ds 40)=d_
  .rw[g_ J]at Y;simp only[l_]at J;obtain⟨G',g,pl,_⟩:=I.list (c.lst t);obtain⟨e,i,j⟩:=has_D (A:=X.A.in1) I c J.2 J.1 z g o m f;refine SeqAt.in_listAt e pl.isList i ?_;rw[j];exact Y.blS c I
  .rw[k_ J]at Y;exact Y.stuck
 |tup ds=>
  obtain⟨l,xs,e,t,z⟩:=n;subst e;cases k;have Y:aH X.K W own F H (if (okE a 40&&nh ds 40)=d_ then .ok (.bl (ds.any λd=>eqD d a))else stk) Q:=p;by_cases J:(okE a 40&&nh ds 40)=d_
  .rw[g_ J]at Y;simp only[l_]at J;obtain⟨G',g,pl,_⟩:=I.tuple (c.tup t);obtain⟨e,i,j⟩:=has_D (A:=X.A.in1) I c J.2 J.1 z g o m f;refine SeqAt.in_tupleAt e (show s.heap.IsTuple l G'.toArray from pl) i ?_;rw[j];exact Y.blS c I
  .rw[k_ J]at Y;exact Y.stuck
 |_=>exact aH.stuck p
theorem lQ(r:X.A.units+64<IL)(q: ~~~(X.K=K)):Op2 K W own X (GL .NotIn) ke:=by
 subst q;intro B' s σ H x y v u Q I m k h;obtain⟨F,a,b,c,o,n,p⟩:=h;have f:X.A.in1.units+40<IL:=by show X.A.units+1+40<IL;lia
 cases b with
 |lst ds=>
  obtain⟨l,xs,e,t,z⟩:=n;subst e;cases k;have Y:aH X.K W own F H (if (okE a 40&&nh ds 40)=d_ then .ok (.bl (!ds.any λd=>eqD d a))else stk) Q:=p;by_cases J:(okE a 40&&nh ds 40)=d_
  .rw[g_ J]at Y;simp only[l_]at J;obtain⟨G',g,pl,_⟩:=I.list (c.lst t);obtain⟨e,i,j⟩:=has_D (A:=X.A.in1) I c J.2 J.1 z g o m f;refine SeqAt.notIn_listAt e pl.isList i ?_;rw[j];exact Y.blS c I
  .rw[k_ J]at Y;exact Y.stuck
 |tup ds=>
  obtain⟨l,xs,e,t,z⟩:=n;subst e;cases k;have Y:aH X.K W own F H (if (okE a 40&&nh ds 40)=d_ then .ok (.bl (!ds.any λd=>eqD d a))else stk) Q:=p;by_cases J:(okE a 40&&nh ds 40)=d_
  .rw[g_ J]at Y;simp only[l_]at J;obtain⟨G',g,pl,_⟩:=I.tuple (c.tup t);obtain⟨e,i,j⟩:=has_D (A:=X.A.in1) I c J.2 J.1 z g o m f;refine SeqAt.notIn_tupleAt e (show s.heap.IsTuple l G'.toArray from pl) i ?_;rw[j];exact Y.blS c I
  .rw[k_ J]at Y;exact Y.stuck
 |_=>exact aH.stuck p
end
abbrev ZRec(h:Hq)(z p q:f_)(m k:m_):Prop:=h.get? z=a_ {cls:=.type "zip",dict:=c_,data:=.fields #[m,k,.bool b_,.ref p,.ref q],slots:=#[]}
structure Zs(z p q u v l m:f_)(r k a b:m_)(i j:Nat)(xs ys:Array m_)(h:Hq):Prop where
 me:ZRec h z p q r k
 G':IsPair h p (.ref u) (.ref v)
 own:IsPair h q a b
 one:h.IsListIter u l i
 two:h.IsListIter v m j
 xl:h.IsList l xs
 yl:h.IsList m ys
def Off(z q u v:f_)(h h':Hq):Prop:=∀c o,c≠z->c≠q->c≠u->c≠v->h.get? c=a_ o->h'.get? c=a_ o
section
variable{z q u v:f_}{a b:m_}{g:Hq}
def Off.then(A:Off z q u v h h')(B:Off z q u v h' g):Off z q u v h g:=λc o a b d e x=>B c o a b d e (A c o a b d e x)
end
theorem C6.stays(s:C6 F H F' H')(n:F a=c_)(h:H a=a_ o):F' a=c_:=by
 cases e:F' a with
 |none=>rfl|some u=>
  rcases s.nw a u e with z|z
  .simp_all
  simp_all
structure AJ(K:Pn)(F G H:Hp)(ds:List A')(vs:b'):Prop where
 len:vs.length=ds.length
 get:∀(k:Nat) (d:A'),ds[k]?=a_ d->∃a xs es,vs[k]?=a_ (.ref a)/\d=.lst es/\H a=a_ (.lst xs)/\F a=c_/\G a=c_/\az K F es xs
 ap:∀(j k:Nat) (a:f_),vs[j]?=a_ (.ref a)->vs[k]?=a_ (.ref a)->j=k
section
variable{ds:List A'}{vs:List V}
def AJ.step(o:AJ K F G H ds vs)(s:C6 F H F' H'):AJ K F' G H' ds vs where
 len:=o.len
 get:=λk d e=>by obtain⟨a,xs,es,h1,h2,I,b,Y,J⟩:=o.get k d e;exact⟨a,xs,es,h1,h2,s.hh _ _ I,s.stays b I,Y,J.mono s.ff⟩
 ap:=o.ap
theorem AJ.at(o:AJ K F G H ds vs){k:Nat}{a:f_}(h:vs[k]?=a_ (.ref a)):∃xs es,ds[k]?=a_ (.lst es)/\H a=a_ (.lst xs)/\F a=c_/\G a=c_/\az K F es xs:=by
 have I:k<ds.length:=by rw[<- o.len];exact(A_.mp h).1
 obtain⟨b,xs,es,h1,h2,d,c,Y,J⟩:=o.get k ds[k] a8;rw[h]at h1;cases h1;exact⟨xs,es,by rw[<- h2];simp[I],d,c,Y,J⟩
end
def lstOf:A'->M (List A')
 |.lst ds=>.ok ds|_=>.error .stuck
def rowAt(rs:List A')(a:Int):M (Nat×List A'):=match ixN rs.length a with
 |some j=>(match rs[j]? with
  |some (.lst es)=>.ok (j,es)|_=>.error .stuck)
 |none=>.error .stuck
def setRow(rs:List A')(I:Nat×List A')(b:Int)(x:A'):M (List A'):=match ixN I.2.length b with
 |some k=>.ok (rs.set I.1 (.lst (I.2.set k x)))|none=>.error .stuck
def rows3(i:Nat)(rs:List A')(x:A')(J:Nat×List A')(Y:ah->M A')(ρ:ah):M Gp:=(Y (ρ.set i c_)).bind λb=>(asI b).bind λb=>(setRow rs J b x).bind λI=>.ok (.nx (ρ.set i (a_ (.lst I))))
def rows2(i:Nat)(rs:List A')(x:A')(Y J:ah->M A')(ρ:ah):M Gp:=(Y (ρ.set i c_)).bind λa=>(asI a).bind λa=>(rowAt rs a).bind λI=>rows3 i rs x I J ρ
structure RepR(K:Pn)(F0 H0 FB:Hp)(i:Nat)(a:f_)(ys:b')(rs:List A')(F H:Hp)(σ:St)(ρ:ah):Prop where
 r:Rep K F0 H0 FB [] F H σ ρ
 sl:σ[i]?=a_ (a_ (.ref a))
 hp:H a=a_ (.lst ys)
 fa:F a=c_
 ha:H0 a=c_
 nm:∀m:Nat,ys[m]?≠a_ (.ref a)
 ow:AJ K F H0 H rs ys
section
variable{ys:List V}{rs:List A'}
theorem RepR.step(h:RepR K F0 H0 FB i a ys rs F H σ ρ)(s:C6 F H F1 H1):RepR K F0 H0 FB i a ys rs F1 H1 σ ρ:=
 ⟨h.r.step s,h.sl,s.hh _ _ h.hp,s.stays h.fa h.hp,h.ha,h.nm,h.ow.step s⟩
theorem RepR.base{I:Hp}(h:RepR K F0 H0 FB i a ys rs F H σ ρ)(s:aS I FB):RepR K F0 H0 I i a ys rs F H σ ρ:=⟨h.r.base s,h.sl,h.hp,h.fa,h.ha,h.nm,h.ow⟩
end
section
variable[L3 κ]
noncomputable def dropK(I:List (κ×V))(k:κ):List (κ×V):=I.filter λJ=>o_ (J.1≠k)
def xf.FA{o:Option V}{u:Option m_}(r:xf o u):o.isSome=u.isSome:=by
 cases o with
 |none=>cases u with
  |none=>rfl|some _=>exact(show False from r).elim
 |some _=>cases u with
  |none=>exact(show False from r).elim|some _=>rfl
theorem xf.getD{o:Option V}{u:Option m_}{d:V}{d':m_}(r:xf o u)(I:Gq d d'):Gq (o.getD d) (u.getD d'):=by
 cases o with
 |none=>cases u with
  |none=>exact I|some _=>exact(show False from r).elim
 |some _=>cases u with
  |none=>exact(show False from r).elim|some _=>exact r
def KV.drop{I:List (κ×V)}{vs:List (κ×m_)}(r:KV I vs)(k:κ):KV (dropK I k) (without vs k):=by
 unfold KV at r ⊢;unfold dropK without
 induction r with
 |nil=>exact .nil|@cons p q ps c h t J=>
  obtain⟨h1,h2⟩:=h;rw[Kn,Kn];by_cases e:p.1=k
  .have a:¬o_ (p.1≠k)=d_:=by simp[e]
   have b:¬o_ (q.1≠k)=d_:=by simp[h1.symm.trans e]
   rw[k_ a,k_ b];exact J
  .have Y:¬q.1=k:=λz=>e (h1.trans z);have a:o_ (p.1≠k)=d_:=by simp[e]
   have b:o_ (q.1≠k)=d_:=by simp[Y]
   rw[g_ a,g_ b];exact .cons ⟨h1,h2⟩ J
theorem KV.length{I:List (κ×V)}{vs:List (κ×m_)}(r:KV I vs):I.length=vs.length:=KP r
end
abbrev KT(H:Hp):List (List Key×V)->List (List Key×f_×m_)->Prop:=JT λp q=>p.1=q.1/\H q.2.1=a_ (.tup (p.1.map kV))/\Gq p.2 q.2.2
def KT.keeps{I:List (List Key×V)}{xs:List (List Key×f_×m_)}(r:KT H I xs)(J:∀b ys,H b=a_ (.tup ys)->H' b=a_ (.tup ys)):KT H' I xs:=
 Paired.mapP r λ_ _ z=>⟨z.1,J _ _ z.2.1,z.2.2⟩
def Cv.big(I:Cv X B' σ H s):Jn<s.heap.objs.size:=by have h:GY<s.z:=(I.mod.glob.keeps I.bk).lt;exact KC a' h
structure M2(X:Cx)(o:HG)(m:i_)(apos:OE)(e f:HG)(cpos:OE):Prop where
 base:HA o m X.env (GI o X.env)=GI o X.env
 few:((He cpos (h_ [e,f] X.env)).all (λx=> !x.1)&&(Ic cpos (Hs [] X.env)).all (λx=>x.1.isSome)
  &&o_ (([e,f]:List HG).length+([]:List Ie).length+(if ([]:List Ie).isEmpty then 0 else 1)<30))=d_
 line:(apos.endLine==cpos.line)=d_
 trees:He cpos (h_ [e,f] X.env)=[(b_,GI e X.env),(b_,GI f X.env)]
noncomputable def keysI(ks:ca):List (Key×V):=ks.map λk=>(LM k,.bl d_)
structure RepK(K:Pn)(F0 H0 FB:Hp)(i:Nat)(a:f_)(ks:ca)(F H:Hp)(σ:St)(ρ:ah):Prop where
 r:Rep K F0 H0 FB [] F H σ ρ
 sl:σ[i]?=a_ (a_ (.ref a))
 hp:H a=a_ (.dK (keysI ks))
 fa:F a=c_
 ha:H0 a=c_
section
variable{ks:List Int}
theorem RepK.step(h:RepK K F0 H0 FB i a ks F H σ ρ)(s:C6 F H F1 H1):RepK K F0 H0 FB i a ks F1 H1 σ ρ:=
 ⟨h.r.step s,h.sl,s.hh _ _ h.hp,s.stays h.fa h.hp,h.ha⟩
end
structure ExA(h:Hq)(e:f_)(C:m_)(dx hd:Option f_):Prop where
 ob:∃oe vs,h.get? e=a_ oe/\oe.cls=C/\oe.dict=dx/\oe.data=.fields vs/\vs[1]?=a_ (hd.elim Je GP)
 tb:∀T,hd=a_ T->T≠e/\∃oT ts,h.get? T=a_ oT/\oT.data=.fields ts/\ts[3]?=a_ .none
def dictMapF(f:Array m_->Array m_)(o:K1):(o.mapFields f).dict=o.dict:=by obtain⟨c,d,I,J⟩:=o;cases I<;>rfl
theorem size3{l:ce}(h:3<l.length):3<l.toArray.size:=by simp_all
section
variable{M:LI}{E:Mq}
def mkEntry{Y I:m_}{pl:ce}{Q:Mq}(J:IsPlace pl)(h:∀(o:K1) (ts:Array m_),o.data=.fields ts->3<ts.size->o.isFreed=b_->Q (.ref s.heap.objs.size) {s with heap:=s.heap.push o}):
  D_ M A (Kw hv Y .none I .none pl) Q E s:=by
 unfold Kw newFields;refine Kt (h _ _ rfl (size3 ?_) ?_) (J.sizeOk5 _ _ _ _ _)
 .simp
 rfl
structure Left(fs:List f_)(e:f_)(hd:Option f_)(h h':Hq):Prop where
 keep:∀b o,h.get? b=a_ o->b∉fs->b≠e->(∀T,hd=a_ T->b≠T)->h'.get? b=a_ o
 slot:∀b o,h.get? b=a_ o->b∈fs->∃sl,h'.get? b=a_ {o with slots:=sl}
 size:h.objs.size<=h'.objs.size
theorem entry_at{base:Hq}{e:f_}{C:m_}{dx:Option f_}{vs:Array m_}{Q:Unit->u_->Prop}(k:A.frames=a_ (env::outer))(y:s.heap.FunFrames base (env::outer))(P:env.frame=a_ L)(B:s.heap.get? e=a_ oe)(R:oe.cls=C)(m:oe.dict=dx)(hd:oe.data=.fields vs)(i:1<vs.size)(h:∀h' T,ExA h' e C dx (a_ T)->s.heap.objs.size<=T->Left (frs (env::outer)) e c_ s.heap h'->Q () {s with heap:=h'}):
  D_ M A (frameOf env >>=λa=>entryPlaceOf L bn >>=λpl=>Kw hv a .none (Lv L) .none pl >>=λb=>setField (.ref e) 1 b) (λ_ s'=>D_ M A (Lc (.ref e) c_) Q E s') E s:=by
 have Y:∀b o,b∈frs (env::outer)->s.heap.get? b=a_ o->∀vs,o.data≠.fields vs:=λb o j q=>by obtain⟨_,o',O,n⟩:=y.mem j;simp_all
 have J:e∉frs (env::outer):=λj=>Y e oe j B vs hd;refine n_ (wpAny_frameOf_fun k y P λh1 H=>?_);obtain⟨U,u,G⟩:=H;refine n_ (wpAny_entryPlaceOf λpl N=>?_);refine n_ (mkEntry N λo ts w D l=>?_);have e1:h1.get? e=a_ oe:=by rw[u e J];exact B
 have g:h1.objs.size≠e:=λz=>Gw (t_ e1) (by rw[z];exact HE _);have e2:(h1.push o).get? e=a_ oe:=r_ o e1;have t2:(h1.push o).get? h1.objs.size=a_ o:=GC h1 l;refine K3 e2 hd i ?_;have t:=K_ hd (·.setIfInBounds 1 (GP h1.objs.size));have e3:=JG (h:=h1.push o) (K0 (·.setIfInBounds 1 (GP h1.objs.size))) e2 (KH t);have v:((h1.push o).update e (K0 (·.setIfInBounds 1 (GP h1.objs.size)))).get? h1.objs.size=a_ o:=by rw[Hd _ _ (HI g)];exact t2
 unfold Lc;refine n_ (JC e3 t (x:=.ref h1.objs.size) (by simp[i]) ?_);rw[g_ a8];refine K3 v w D ?_;have F:=K_ w (·.setIfInBounds 3 ((c_:Option f_).elim Je λf=>Lv f));refine h _ h1.objs.size ⟨⟨_,_,by rw[Hd _ _ g];exact e3,by rw[Obj.cls_mapFields];exact R,by rw[dictMapF];exact m,t,by simp[i]⟩,λT S=>?_⟩ bt ⟨λb o' q r p _=>?_,λb o' q r=>?_,?_⟩
 .cases S;exact⟨g,_,_,JG _ v (KH F),F,by simp[D]⟩
 .have I:h1.get? b=a_ o':=by rw[u b r];exact q
  have d:h1.objs.size≠b:=λz=>Gw (t_ I) (by rw[z];exact HE _);rw[Hd _ _ d,Hd _ _ (HI p)];exact r_ o I
 .obtain⟨K,I⟩:=G b o' q;have d:h1.objs.size≠b:=λz=>Gw (t_ I) (by rw[z];exact HE _);have c:e≠b:=λz=>J (z▸r);refine⟨K,?_⟩
  rw[Hd _ _ d,Hd _ _ c];exact r_ o I
 simp_all
theorem leave2{base:Hq}{e:f_}{C:m_}{dx:Option f_}{Q:Unit->u_->Prop}(g:A.frames=a_ (env::outer))(p:s.heap.FunFrames base (env::outer))(r:env.frame=a_ L)(x:ExA s.heap e C dx hd)(h:∀h' T,ExA h' e C dx (a_ T)->s.heap.objs.size<=T->Left (frs (env::outer)) e hd s.heap h'->Q () {s with heap:=h'}):D_ M A (M6 (.ref e) env) (λ_ s'=>D_ M A (Lc (.ref e) c_) Q E s') E s:=by
 obtain⟨oe,vs,k,y,i,J,h1⟩:=x.ob;have w:1<vs.size:=(J5.mp h1).1;unfold M6;simp only[r];cases hd with
 |none=>refine n_ (JC k J h1 ?_);rw[k_ a'];exact entry_at g p r k y i J w λh' T a b c=>h h' T a b c
 |some T=>
  obtain⟨l,G,ts,B,j,D⟩:=x.tb T rfl;have m:3<ts.size:=(J5.mp D).1;refine n_ (JC k J h1 ?_);rw[g_ a8];refine n_ (JC (x:=.none) B j D ?_);rw[k_ (by simp[Lv])];refine n_ (K3 B j m ?_);have I:∀b,b≠T->(s.heap.update T (K0 (·.setIfInBounds 3 Je))).get? b=s.heap.get? b:=λb Y=>Hd _ _ (HI Y);have v:∀b o,s.heap.get? b=a_ o->(∀vs,o.data≠.fields vs)->b≠T:=λb o q n z=>by simp_all
  refine entry_at g (p.of_keeps λb o q n=>⟨o,by rw[I b (v b o q n)];exact q,rfl⟩) r (by rw[I e (HI l)];exact k) y i J w λh' F a b c=>?_;refine h h' F a bt ⟨λd o q Y t u=>c.keep d o (by rw[I d (u T rfl)];exact q) Y t (λ_ z=>nomatch z),λd o q Y=>?_,?_⟩
  .obtain⟨_,o',f,n⟩:=p.mem Y;rw[q]at f;cases f;exact c.slot d o (by rw[I d (v d o q n)];exact q) Y
  .have:=c.size;simp_all
def leave_at{base:Hq}{e:f_}{C:m_}{dx:Option f_}{Q:Unit->u_->Prop}(I:A.frames=a_ (env::outer))(J:s.heap.FunFrames base (env::outer))(Y:env.frame=a_ L)(x:ExA s.heap e C dx hd)(h:∀h' T,ExA h' e C dx (a_ T)->s.heap.objs.size<=T->Left (frs (env::outer)) e hd s.heap h'->Q () {s with heap:=h'}):D_ M A (Oi env (.ref e)) Q E s:=by unfold Oi;exact n_ (leave2 I J Y x h)
end
structure CXs(P:HP)(w:GW)(outer:List LP)(H:Hp)(s:u_)(E:XK)(a T:f_)(C:m_)(dx:Option f_)(H':Hp)(s':u_):Prop where
 ex:ExA s'.heap a C dx (a_ T)
 na:s.heap.get? a=c_
 nT:s.heap.get? T=c_
 fa:H' a=c_
 fT:H' T=c_
 os:s'.os=s.os
 bare:Kx s'.gens
 un:Un (frs outer) [] H H' s.heap s'.heap
 hok:HOk P w H' s'.heap
 want:E C dx H'
def CXd(P:HP)(w:GW):CXT:=λouter H s E e s'=>∃(a T:f_) (C:m_) (dx:Option f_) (H':Hp),e=.ref a/\CXs P w outer H s E a T C dx H' s'
def get_none(z:h.objs.size<=a):h.get? a=c_:=by
 cases e:h.get? a with
 |none=>rfl|some o=>exact Gw (t_ e) (L1.mpr z)
theorem Cv.nQ(I:Cv X B' σ H s)(J:X.ex=[])(e:s.heap.get? a=c_):X.s₀.heap.get? a=c_:=by
 cases q:X.s₀.heap.get? a with
 |none=>rfl|some o=>obtain⟨o',z⟩:=I.base.there a o q bt;simp_all
def iA.is{w:GW}(x:iA P w H h a o):∃u,h.get? a=a_ u:=by
 cases o with
 |lst xs=>obtain⟨_,_,_,_,e⟩:=x;exact⟨_,e⟩
 |tup xs=>obtain⟨_,_,_,J,e,_⟩:=x;exact⟨_,e⟩
 |dK I=>obtain⟨_,_,_,_,o,_,_,e,_⟩:=x;exact⟨_,e⟩
 |dT I=>obtain⟨_,_,_,_,o,_,_,e,_⟩:=x;exact⟨_,e⟩
 |set S n=>obtain⟨o,_,_,_,e,_⟩:=x;exact⟨_,e⟩
 |ins C dx fs=>obtain⟨_,_,_,e,_⟩:=x;exact⟨_,e⟩
 |own y=>exact x|xd fs=>obtain⟨_,⟨_,_,_,e,_⟩,_⟩:=x;exact⟨_,e⟩
 |rng lo hi=>obtain⟨_,_,_,e⟩:=x;exact⟨_,e⟩
 |frz J u=>obtain⟨e,_⟩:=x;exact⟨_,e⟩
 |tbl ps=>exact⟨_,show h.get? a=a_ _ from x⟩|met f y=>exact⟨_,show h.get? a=a_ _ from x⟩|ext Y=>obtain⟨_,e,_⟩:=x;exact e
theorem HOk.off{w:GW}(x:HOk P w H h)(e:h.get? a=c_):H a=c_:=by
 cases q:H a with
 |none=>rfl|some o=>obtain⟨u,z⟩:=(x a o q).is;simp_all
section
variable{w:GW}{base:Hq}
theorem xe_of{s':u_}{C:m_}{dx:Option f_}(J:Cv (x4 (CXd P w) P w K mg base N qual scope f cd A outer s H E) B' σ H' s')(x:ExA s'.heap a C dx hd)(r:s.heap.get? a=c_)(F:∀T,hd=a_ T->s.heap.get? T=c_/\H' T=c_)(fa:H' a=c_)(q:E C dx H'):(x4 (CXd P w) P w K mg base N qual scope f cd A outer s H E).xe (.ref a) s':=by
 have e0:=J.env0;have y:∀b∈frs (IS qual scope s.z f cd::outer),H' b=c_:=e0.frf;have p:∀b o,s.heap.get? b=a_ o->b≠a/\(∀T,hd=a_ T->b≠T)/\b<s.z:=λb o e=>by have Y:=t_ e;exact⟨λz=>(by subst z;rw[e]at r;cases r),λT i z=>(by subst z;have:=(F _ i).1;rw[e]at this;cases this),Y⟩
 have j:∀b,b<s.z->b∈frs (IS qual scope s.z f cd::outer)->b∈frs outer:=λb Y t=>by
  rcases IX.mp t with⟨v,hv,e⟩
  rcases q_.mp hv with z|z
  .simp_all[IS]
  .exact IX.mpr ⟨v,z,e⟩
 have d:∀b,b∈frs outer->b∈frs (IS qual scope s.z f cd::outer):=λb t=>by
  rcases IX.mp t with⟨v,hv,e⟩
  exact IX.mpr ⟨v,Gv _ hv,e⟩
 have I:Un (frs outer) [] H H' s.heap s'.heap:=J.base;show D_ (GD P w) (A.deeper (IS qual scope s.z f cd)) (Oi (IS qual scope s.z f cd) (.ref a)) (λ_ g=>CXd P w outer H s E (.ref a) g) (λB g=>CXd P w outer H s E B g) s';refine leave_at (base:=base) e0.frames e0.yA rfl x λh' T Q i l=>⟨a,T,C,dx,H',rfl,Q,r,get_none (Ha (show s.z<=s'.z from J.sz) i),fa,?_,J.os,J.bare,?_,?_,q⟩
 .exact J.hok.fresh i
 .have D:∀b o,s.heap.get? b=a_ o->∀o',s'.heap.get? b=a_ o'->b∉frs outer->h'.get? b=a_ o':=λb o e o' B Y=>by
   obtain⟨O,L,G⟩:=p b o e;exact l.keep b o' B (λz=>Y (j b G z)) O L
  refine⟨λb o e n Y k=>D b o e o (I.keep b o e n Y k) Y,λb o e n Y k=>?_,I.free,λb o e k=>?_,I.tups,I.frzs,I.tbls⟩
  .obtain⟨R,e1⟩:=I.slot b o e n Y k;obtain⟨m,e2⟩:=l.slot b _ e1 (d b Y);exact⟨m,e2⟩
  .obtain⟨o',e1⟩:=I.there b o e k;by_cases Y:b∈frs outer
   .obtain⟨R,e2⟩:=l.slot b o' e1 (d b Y);exact⟨_,e2⟩
   .exact⟨o',D b o e o' e1 Y⟩
 .intro b o e;refine(J.hok b o e).zy (λc u S e1=>?_) (λ_ z=>z) λ_ _ z=>z;have h:H' c≠c_:=by
   rcases S with z|z
   .simp_all
   .simp_all
  exact l.keep c u e1 (λz=>h (y c z)) (λz=>h (by rw[z];exact fa)) λT i z=>h (by rw[z];exact(F T i).2)
def CG:Passes (CXd P w) (x4 (CXd P w) P w K mg base N qual scope f cd A outer s H E) E:=by rintro B' σ H1 b e s' I ⟨a,T,C,dx,H',rfl,z⟩;have J:=I.call' z.os z.un z.hok z.bare (λ_ h=>nomatch h);exact xe_of J z.ex (I.nQ rfl z.na) (λc Y=>by cases Y;exact⟨I.nQ rfl z.nT,z.fT⟩) z.fa z.want
end
theorem exc_obj(X:K.In h)(q:JD K C bmB newId=d_):
  ∃tl N nm d bs hdct sn sub ab col dd k0 k1 k2 k3 k5 mN,h.get? C=a_ (Ku nm d C N bs tl hdct sn sub ab col dd k0 k1 k2 k3 k5 newId)/\h.Ns N mN/\mN "__init__"=c_/\Np h bmB tl:=by
 unfold JD at q;split at q
 next dd cd c f=>
  split at q
  next b tl k0 k1 k2 k3 n k5 g e=>
   obtain⟨c1,c2,J,o,m,k,c7,j,i,Y,I⟩:=cd;obtain⟨l⟩:=c;simp only[l_]at q;obtain⟨⟨⟨⟨⟨y,x⟩,z⟩,w⟩,a⟩,v⟩:=q;have u:b=C:=Jm.mp y;have t:n=newId:=Jm.mp x;have s:I=b_:=by cases I<;>first|rfl|lia
   have r:J=GP b::tl:=g;have p:l=[k0,k1,k2,k3,a_ (.builtin n),k5]:=e;subst u t s r p;exact⟨tl,o,c1,m,c2,k,c7,j,i,Y,dd,k0,k1,k2,k3,k5,_,X _ _ f,.of_isNs (KO X a),PySem.W.nsMap_none_of_in X a (Jm.mp v),Mu X w⟩
  simp_all
 simp_all
def XEq(X:Cx)(E:XK)(C:f_):Prop:=∀(B':Vp) (σ:St) (H:Hp) (s':u_) (a:f_),Cv X B' σ H s'->ExA s'.heap a (.ref C) c_ c_->X.s₀.heap.get? a=c_->H a=c_->E (.ref C) c_ H->X.xe (.ref a) s'
noncomputable def tRaise(te:TE)(C:f_)(E:XK):TS:=λ_ σ H=>te σ H λ_ H1=>E (.ref C) c_ H1
section
variable{x:i_}
def Ba(FB:JL B newId initId bmB)(o:XEq X E C)(u:PE X e te)(r:Gl X x)(Y:X.mg x=a_ (.ref C))(z:JD X.K C bmB newId=d_)(hh:X.A.handled=c_)(c: ~~~(X.ex=[]))(d:((x==("__debug__":i_))=b_)⁻¹)(b: ~~~(h_ [e] X.env=[(b_,GI e X.env)])):PS X (.Raise (a_ (.Call (.Name x np) [e] [] cpos)) c_ pos) (tRaise te C E):=by
 intro B' s σ H D I h;obtain⟨tl,N,nm,j,bs,hdct,sn,sub,ab,col,dd,k0,k1,k2,k3,k5,mN,n,m,l,g⟩:=exc_obj I.mod.kin z;refine wpAny_Raise_call_subT FB (C:=C) (nm:=nm) (q:=j) (N:=N) (bs:=bs) (bm:=tl) (hdct:=hdct) (sn:=sn) (sub:=sub) (ab:=ab) (col:=col) (dd:=dd) (k0:=k0) (k1:=k1) (k2:=k2) (k3:=k3) (k5:=k5) (mN:=mN)
  (g.hasType FB.hasBase) hh (by rw[b];rfl) l (lS I r Y ⟨rfl,?_⟩ d)
 rw[b];refine Jg (Ir (H9 (u B' s σ H _ I h) λv f p=>?_));obtain⟨y,H1,a,G,k⟩:=p;refine Jz ⟨rfl,?_,a.bk _ _ n,m.keeps a.bk,g.keeps a.bk,λh' e Y=>?_⟩
 .simp
 .obtain⟨t,i,F,A⟩:=Y.there;have J:Cv X B' σ H1 {f with heap:=h'}:=a.kept (t':=f.toks) Y.keeps;exact o B' σ H1 _ e J ⟨⟨_,_,i,rfl,rfl,rfl,rfl⟩,λT w=>nomatch w⟩ (a.nQ c Y.new) (a.hok.off Y.new) k
end
section
variable{w:GW}{base:Hq}
def xeqD:XEq (x4 (CXd P w) P w K mg base N qual scope f cd A outer s H E) E C:=λ_ _ _ _ _ J x I fa q=>xe_of J x I (λT Y=>nomatch Y) fa q
end
def WE(K:Pn)(E:XK):gf where
 p:=λe F H=>match e with
  |.stuck=>False|.exc C fs=>∀F' H',C6 F H F' H'->match fs with
   |[]=>E (.ref C) c_ H'|fs=>∀d I,F' d=a_ (.xd I)->jI K F' fs I->E (.ref C) (a_ d) H'
 mono:=λ{e F H F' H'} h s=>by
  cases e with
  |stuck=>exact h|exc C fs=>exact λF2 H2 J=>h F2 H2 (s.trans J)
 ns:=λh=>h
def noX{α:Type}:M α->M α
 |.ok d=>.ok d|.error _=>.error .stuck
@[simp]def qq{α:Type}(d:α):noX (.ok d:M α)=.ok d:=id rfl
def D8{α:Type}(f:ah->M α):ah->M α:=λρ=>noX (f ρ)
@[simp]def e_fNoX{α:Type}(f:ah->M α)(ρ:ah):D8 f ρ=noX (f ρ):=id rfl
section
variable{W:gf}
def oK{st:List Hm}{g:ah->M Gp}(h:DSs K Hh ro X.nox OL O O' st g):DSs K W ro X OL O O' st (D8 g):=λF0 H0=>PSs.imp (PSs.nox (h F0 H0)) λD σ H ⟨FB,F,ρ,r,p⟩=>by
 refine⟨FB,F,ρ,r,?_⟩
 have p:kN K W ro F0 H0 FB OL O' D (noX (g ρ)):=p;unfold kN at p ⊢;cases e:g ρ with
 |ok fl=>rw[e]at p;cases fl<;>exact p
 |error x=>rw[e]at p;exact(W.ns p).elim
end
noncomputable def sExc(C:f_):ah->M Gp:=λ_=>.error (.exc C [])
@[simp]def e_sExc(C:f_)(ρ:ah):sExc C ρ=.error (.exc C []):=id rfl
section
variable{x:i_}{t:i_}{j1:Nat}
def oM{j1}(FB:JL B newId initId bmB)(a:XEq X E C)(b:X.mg x=a_ (.ref C))(d:JD X.K C bmB newId=d_)(hh:X.A.handled=c_)(c: ~~~(Gl X x))(J: ~~~(X.ex=[]))(Y:((x==("__debug__":i_))=b_)⁻¹)(I: ~~~(h_ [.Constant (.str t) j1 p1] X.env=[(b_,GI (.Constant (.str t) j1 p1) X.env)])):
  DS K (WE K E) ro X OL O O' (.Raise (a_ (.Call (.Name x np) [.Constant (.str t) j1 p1] [] cpos)) c_ pos) (sExc C):=λF0 H0=>PS.imp (Ba FB a EV c b d hh J Y I) λD σ H ⟨e,F,ρ,r,p⟩=>by
 have q:(WE K E).p (.exc C []) F0 H0:=p;exact q F H r.st
end
def spX(K:Pn)(ro:Bool)(g:List A'->M A')(n:Nat):Sp:=λvs H Q E=>∃F ds,aS F H/\az K F ds vs/\ds.length=n/\aH K (WE K E) ro F H (g ds) Q
section
variable{x:i_}{fr:ah->M (List A')}
theorem wR{g:ah->M Gp}(F:iZ X.prog X.w X.K X.mg X.base CX k fad fd ps (spX K ro (cn nN n g) n))(f:Passes CX X E)(i:jr k X.A)(j:X.mg x=a_ (.ref fad))(l:Ja X.K (.ref fad)=d_)(o:Binds X.K fd ps [])(t:DA K (WE K E) X (e::es) fr)(m: ~~~(Gl X x))(a:((x==("__debug__":i_))=b_)⁻¹)(J: ~~~(h_ (e::es) X.env=(b_,GI e X.env)::h_ es X.env))(Y: ~~~((He pos (h_ es X.env)).any (·.1)=b_)):
  DE K (WE K E) ro X (.Call (.Name x p) (e::es) [] pos) (fL (cn nN n g) fr):=by
 refine PE.imp (kx F i m j l o .nil f t a J Y) λσ H Q h=>?_;obtain⟨F,ρ,r,s,p⟩:=rd_L h;refine⟨F,ρ,r,s,?_⟩
 cases e1:fr ρ with
 |error z=>simp_all|ok ds=>
  rw[e1]at p;intro vs F' H' st q;obtain⟨F1,I,c,d,z⟩:=p vs F' H' st q;show spX K ro (cn nN n g) n (vs++[]) H' Q E;rw[Ia];by_cases b:I.length=n
  .exact⟨F1,I,c,d,b,z⟩
  .rw[vR b]at z;exact aH.stuck z
end
section
variable{w:GW}{base:Hq}
theorem fn_X{x:i_}(F:Fun K x qual st f fd)(S:gB N ps (aA st))(ro:Bool)(g:ah->M Gp)(m:∀(cdv:m_) (A:IY) (outer:List LP) (s:u_) (H:Hp) (E:XK),jr k (A.deeper (IS qual (aA st) s.heap.objs.size f cdv)) ->
   DSs K (WE K E) ro (x4 (CXd P w) P w K mg base N qual (aA st) f cdv A outer s H E) [] [] O' (bT st) g):iZ P w K mg base (CXd P w) (k+1) f fd ps (spX K ro (cn N.length ps.length g) ps.length):=by
 obtain⟨oc,od,kV,doc,pm,an,cdv,ct,osl,rfl,Y,I⟩:=F.ex;refine fn_of Y I S (λvs H Q E ⟨F,ds,s,q,l,p⟩=>by rw[q.length,l]) λA outer s H vs Q E b c=>?_;obtain⟨F1,ds,J,q,l,p⟩:=c;refine⟨_,m cdv A outer s H E b F1 H,F1,F1,ds.map a_++C_ (N.length-ds.length) c_,?_,?_⟩
 .refine⟨C6.refl J,aS.refl _,?_,λi d e _=>nV q e,(λi d e h=>nomatch h),(λi j ds es a h=>nomatch h)⟩
  unfold start;rw[Gx,Gx,w_,w_,HS,HS,q.length]
 .have e1:cn N.length ps.length g ds=(g (ds.map a_++C_ (N.length-ds.length) c_)).bind λfl=>match fl with
   |.nx _=>.ok .non|.rt d=>.ok d|_=>stk:=by unfold cn;exact g_ l
  rw[e1]at p;cases e2:g (ds.map a_++C_ (N.length-ds.length) c_)with
  |error z=>rw[e2]at p;exact p|ok fl=>
   rw[e2]at p;cases fl with
   |nx ρ=>exact λσ F H r=>p .non F H r.st (by cases ro<;>rfl)
   |rt d=>exact λv F H st q=>p v F H st q|bk ρ=>exact aH.stuck p|ct ρ=>exact aH.stuck p
end
section
variable{C:m_}{dx:Option f_}
structure Apart(X:Cx)(B':Vp)(H:Hp)(s:u_)(a:f_)(hd:Option f_):Prop where
 na:X.s₀.heap.get? a=c_
 fa:H a=c_
 pa:∀p∈X.pn++B',p.1≠a
 nT:∀T,hd=a_ T->X.s₀.heap.get? T=c_/\H T=c_/\∀p∈X.pn++B',p.1≠T
theorem Cv.left(I:Cv X B' σ H s)(hx:X.ex=[])(x:ExA s.heap a C dx hd)(h:Apart X B' H s a hd)(d:Left (frs X.stack) a hd s.heap h'):Cv X B' σ H {s with heap:=h'}:=by
 have e0:=I.env0;obtain⟨oe,vs,he,_,_,S,_⟩:=x.ob;have D:∀b o,s.heap.get? b=a_ o->(∀vs,o.data≠.fields vs)->b≠a/\∀T,hd=a_ T->b≠T:=λb o e n=>by
  refine⟨λz=>?_,λT g z=>?_⟩
  .simp_all
  .subst z;obtain⟨_,Z,ts,h1,h2,_⟩:=x.tb _ g;simp_all
 have B:∀b∈frs X.stack,H b=c_:=e0.frf;have A:∀b o,s.heap.get? b=a_ o->(∀vs,o.data≠.fields vs)->∃t,h'.get? b=a_ {o with slots:=t}:=λb o e n=>by
  obtain⟨k,j⟩:=D b o e n;by_cases Y:b∈frs X.stack
  .exact d.slot b o e Y
  .exact⟨o.slots,d.keep b o e Y k j⟩
 have w:∀b o,X.s₀.heap.get? b=a_ o->b≠a/\∀T,hd=a_ T->b≠T:=λb o e=>⟨λz=>(by subst z;rw[h.na]at e;cases e),λT g z=>(by subst z;rw[(h.nT _ g).1]at e;cases e)⟩
 have N:s.heap.UpToSlots h':=A;have G:X.s₀.heap.get? X.env.locals=c_:=get_none I.ok.above;have out:∀b,b≠X.env.locals->b∉X.fs->b∉frs X.stack:=λb h1 h2 W=>by
  rcases q_.mp (I.uN b W)with z|z
  .exact h1 z
  .exact h2 z
 have y:∀c v,s.heap.IsCell c v->h'.IsCell c v:=λc v ⟨o,h1,h2⟩=>by obtain⟨t,z⟩:=A c o h1 (λvs q=>by simp_all);exact⟨_,z,h2⟩
 refine⟨I.ok,I.os,I.bare,?_,?_,λx c e=>?_,I.free,I.freeC,λp E=>?_,?_,I.len⟩
 .have K:∀b o,X.s₀.heap.get? b=a_ o->∀o',s.heap.get? b=a_ o'->∃t,h'.get? b=a_ {o' with slots:=t}:=λb o e o' L=>by
   obtain⟨k,j⟩:=w b o e;by_cases Y:b∈frs X.stack
   .exact d.slot b o' L Y
   .exact⟨o'.slots,d.keep b o' L Y k j⟩
  refine⟨λb o e n Y J=>?_,λb o e n Y J=>?_,I.base.free,λb o e J=>?_,I.base.tups,I.base.frzs,I.base.tbls⟩
  .obtain⟨k,j⟩:=w b o e;exact d.keep b o (I.base.keep b o e n Y J) (out b (λz=>by simp_all) Y) k j
  .obtain⟨t,e1⟩:=I.base.slot b o e n Y J;obtain⟨l,e2⟩:=K b o e _ e1;exact⟨l,e2⟩
  .obtain⟨o',e1⟩:=I.base.there b o e J;obtain⟨l,e2⟩:=K b o e _ e1;exact⟨_,e2⟩
 .obtain⟨m,Q,R⟩:=I.loc;refine⟨m,N.ns Q,λi x v e1 e2 e3=>?_⟩
  obtain⟨u,r,P⟩:=R i x v e1 e2 e3;refine⟨u,r,?_⟩
  rcases P with z|⟨z,c,c1,c2⟩
  .exact .inl z
  .exact .inr ⟨z,c,c1,y c _ c2⟩
 .obtain⟨v,z⟩:=I.cell x c e;exact⟨v,y c v z⟩
 .obtain⟨p1,p2,p3,F,O⟩:=I.pin p E;exact⟨d.keep p.1 p.2 p1 (out p.1 p3 F) (h.pa p E) λT g=>(h.nT T g).2.2 p E,p2,p3,F,O⟩
 .intro b o e;refine(I.hok b o e).zy (λc u U e1=>?_) (λ_ z=>z) λ_ _ z=>z;have f:H c≠c_:=by
   rcases U with z|z
   .simp_all
   .simp_all
  exact d.keep c u e1 (λz=>f (B c z)) (λz=>f (by rw[z];exact h.fa)) λT g z=>f (by rw[z];exact(h.nT T g).2.1)
end
def PEat(X:Cx)(B':Vp)(σ:St)(e:HG)(t:TE):Prop:=∀(s:u_) (H:Hp) (Q:VK),Cv X B' σ H s->t σ H Q->D_ (GD X.prog X.w) X.A (GI e X.env) (EP X B' σ Q) X.xe s
def PSat(X:Cx)(B':Vp)(σ:St)(st:Hm)(t:TS):Prop:=∀(s:u_) (H:Hp) (D:Ends),Cv X B' σ H s->t D σ H->D_ (GD X.prog X.w) X.A (exec st X.env) (SP X B' D) X.xe s
def PSsAt(X:Cx)(B':Vp)(σ:St)(st:List Hm)(t:TS):Prop:=∀(s:u_) (H:Hp) (D:Ends),Cv X B' σ H s->t D σ H->D_ (GD X.prog X.w) X.A (execs st X.env) (SP X B' D) X.xe s
def xh(CX:CXT)(X:Cx)(B':Vp)(σ:St)(E:XK):Prop:=∀(H:Hp) (s:u_) (e:m_) (s':u_),Cv X B' σ H s->CX X.stack H s E e s'->X.xe e s'
section
variable{t:TS}
def at_one(h:PSat X B' σ st t):PSsAt X B' σ [st] t:=λs H D I q=>by
 refine LS (H9 (h s H D I q) λf J z=>?_);cases f with
 |next=>exact JA z|_=>exact z
def at_expr(a:PEat X B' σ e te)(Y: ~~~(II e c_ pos.line X.env=Ig b_)):PSat X B' σ (.Expr e pos) (uh te):=λs H D I q=>wpAny_Expr_any (H9 (a s H _ I q) λv c ⟨x,H1,b,d,J⟩=>⟨σ,H1,b,J⟩) I.quiet Y
end
section
variable{ds:List m_}
theorem at_run{vs:b'}(F:iZ X.prog X.w X.K X.mg X.base CX k f fd ps sp)(b:jr k X.A)(c:Binds X.K fd ps ds)(hd:Gr dvs ds)(a:xh CX X B' σ E)(I:Cv X B' σ H s)(r:Gr vs us)(h:sp (vs++dvs) H Q E):D_ (GD X.prog X.w) X.A (JR (.ref f) us) (EP X B' σ Q) X.xe s:=by
 have Y:=r.append hd;refine KJ (IK (F.run _ _ s H ⟨us,[]⟩ _ _ Q E b I.env0 (c s us I.kIn (Y.length.symm.trans (F.len _ _ _ _ h))) Y h) λz s' J=>?_);cases z with
 |error e=>exact a H s e s' I J|ok fl=>
  cases fl with
  |ret u=>exact I.after J|_=>exact Hi J
end
def Cv.names{m:Ld}(I:Cv X B' σ H s)(q:h'.Ns X.env.locals m)(Y:Kv X.env.locals s.heap h')(t:σ'.length=X.N.length)(hv:∀(i:Nat) (x:i_) (v:V),X.N[i]?=a_ x->σ'[i]?=a_ (a_ v)->Vis X.env.scope x->∃u,Gq v u/\Look X.env s.heap m x u):Cv X B' σ' H {s with heap:=h'}:=by
 have J:∀b o,X.s₀.heap.get? b=a_ o->b≠X.env.locals:=λb o e z=>by subst z;exact Gw (t_ e) (L1.mpr I.ok.above)
 have d:∀x c v,X.env.cells.lookup x=a_ c->s.heap.IsCell c v->h'.IsCell c v:=λx c v e z=>z.sameBut Y (I.cne x c e);refine⟨I.ok,I.os,I.bare,⟨λb o e n f a=>?_,λb o e n f a=>?_,I.base.free,λb o e a=>?_,I.base.tups,I.base.frzs,I.base.tbls⟩,⟨m,q,λi x v e1 e2 e3=>?_⟩,λx c e=>?_,I.free,I.freeC,λp l=>?_,λb o e=>?_,t⟩
 .show h'.get? b=_;rw[Y.2 b (J b o e)];exact I.base.keep b o e n f a
 .obtain⟨g,z⟩:=I.base.slot b o e n f a;refine⟨g,?_⟩
  show h'.get? b=_;rw[Y.2 b (J b o e)];exact z
 .obtain⟨o',z⟩:=I.base.there b o e a;refine⟨o',?_⟩
  show h'.get? b=_;rw[Y.2 b (J b o e)];exact z
 .obtain⟨u,r,k⟩:=hv i x v e1 e2 e3;refine⟨u,r,?_⟩
  rcases k with z|⟨z,c,c1,c2⟩
  .exact .inl z
  .exact .inr ⟨z,c,c1,d x c _ c1 c2⟩
 .obtain⟨v,z⟩:=I.cell x c e;exact⟨v,d x c v e z⟩
 .obtain⟨p1,p2,p3,j,h⟩:=I.pin p l;refine⟨?_,p2,p3,j,h⟩
  show h'.get? p.1=_;rw[Y.2 p.1 p3];exact p1
 .refine(I.hok b o e).zy (λc u w e1=>?_) (λ_ z=>z) λ_ _ z=>z;show h'.get? c=_;rw[Y.2 c λz=>?_]
  .exact e1
  .rcases w with y|y
   .rw[<- y,z,I.free]at e;cases e
   .rw[z,I.free]at y;cases y
def XNamed(K:Pn)(C:f_)(bmB:ce):Prop:=∀h:Hq,K.In h->∃tl N nm I bs hdct sn sub ab col dd k0 k1 k2 k3 k5 newId,h.get? C=a_ (Ku nm I C N bs tl hdct sn sub ab col dd k0 k1 k2 k3 k5 newId)/\Np h bmB tl
noncomputable abbrev Cx.hand(X:Cx)(a:f_)(oe:K1):Cx:={X with A:=X.A.mark (a_ (.ref a)),calm:=b_,xe:=λ_ _=>False,pn:=(a,oe)::X.pn}
section
variable{T:f_}{C:m_}{dx:Option f_}
theorem Cv.hand{vs:Array m_}(I:Cv X B' σ H s)(c:s.heap.get? a=a_ oe)(hd:oe.data=.fields vs)(d:X.s₀.heap.get? a=c_)(fa:H a=c_):Cv (X.hand a oe) B' σ H s:=by
 have J:=I.ok;refine⟨⟨J.mod,J.kind,J.glob,J.blt,J.above,J.inj,J.has,J.cab,(λz=>nomatch z),J.frames,J.stk,J.exf,J.bs,J.bsz,J.noex,J.exfs,J.yA,J.frf⟩,I.os,I.bare,I.base,I.loc,I.cell,I.free,I.freeC,λp Y=>?_,I.hok,I.len⟩
 rcases q_.mp (show p∈(a,oe)::(X.pn++B')from Y)with z|z
 .subst z;refine⟨c,fa,λz=>?_,λb=>?_,λv z=>?_⟩
  .obtain⟨m,⟨o,es,ep,h1,h2,_⟩,_⟩:=I.loc;simp_all
  .obtain⟨_,o,h1,_⟩:=J.yA.mem b;simp_all
  simp_all
 .exact I.pin p z
def Cv.unhand(J:Cv (X.hand a oe) B' σ H s)(I:X.Ok):Cv X B' σ H s:=
 ⟨I,J.os,J.bare,J.base,J.loc,J.cell,J.free,J.freeC,λp Y=>J.pin p (Gv _ Y),J.hok,J.len⟩
theorem FN{M:LI}{E:Mq}{base:Hq}{l:List LP}{Q:Unit->u_->Prop}(t:s.heap.FunFrames base l)(x:ExA s.heap a C dx (a_ T))(h:∀h',ExA h' a C dx (a_ T)->Left (frs l) a (a_ T) s.heap h'->h'.get? a=s.heap.get? a->Q () {s with heap:=h'}):D_ M A (Lc (.ref a) c_) Q E s:=by
 obtain⟨o,vs,k,u,g,J,h1⟩:=x.ob;obtain⟨d,w,ts,m,Y,v⟩:=x.tb T rfl;have e:3<ts.size:=(J5.mp v).1;unfold Lc;refine n_ (JC k J (x:=.ref T) h1 ?_);rw[g_ a8];refine K3 m Y e ?_;have I:∀b,b≠T->(s.heap.update T (K0 (·.setIfInBounds 3 ((c_:Option f_).elim Je λf=>Lv f)))).get? b=s.heap.get? b:=λb c=>Hd _ _ (HI c);have p:=K_ Y (·.setIfInBounds 3 ((c_:Option f_).elim Je λf=>Lv f));refine h _ ⟨⟨o,vs,by rw[I a (HI d)];exact k,u,g,J,h1⟩,λB j=>?_⟩ ⟨λb o' q _ _ c=>by rw[I b (c T rfl)];exact q,λb o' q c=>?_,?_⟩ (I a (HI d))
 .cases j;exact⟨d,_,_,JG _ m (KH p),p,bt⟩
 .obtain⟨_,y,r,n⟩:=t.mem c;have i:b≠T:=λz=>by
   simp_all
  exact⟨o'.slots,by rw[I b i];exact q⟩
 simp
end
section
variable{ds:List m_}{m:i_}{o:HG}
def at_meth(B:PE X o ta)(c:Cls X.K C)(g:Meth X.K C m f)(F:iZ X.prog X.w X.K X.mg X.base CX k f fd ps sp)(w:xh CX X B' σ E)(A:jr k X.A)(D:Binds X.K fd ps ds)(hd:Gr dvs ds)(G:PA X (e::es) t)(J: ~~~(h_ (e::es) X.env=(b_,GI e X.env)::h_ es X.env))(Y: ~~~((He pos (h_ es X.env)).any (·.1)=b_))(x: ~~~(GI (.Call (.Attribute o m apos) (e::es) [] pos) X.env=(GI o X.env >>=λd=>Mi apos.atName >>=λ_=>Mj [d] (Lf d m pl) >>=λz=>LC pos z.1 z.2 (He pos (h_ (e::es) X.env)) (Ic pos (Hs [] X.env))))):
  PEat X B' σ (.Call (.Attribute o m apos) (e::es) [] pos) (vC C m sp dvs E ta t):=λs H Q I h=>by
 refine Kp (pl:=pl) (H9 (B B' s σ H _ I h) λu n b=>?_) x;obtain⟨y,H1,j,p,a,dx,fs,ex,K,l,q⟩:=b;subst ex;cases(show u=GP a from p);refine v8 j K c g l (Lw (first:=[.ref a]) (h₀:=X.base) I.ok.mod.kin g.kp (H9 (G pos B' n σ H1 _ j q) λus L b=>?_) J Y);obtain⟨vs,H2,i,r,v⟩:=b;exact⟨i.kIn,at_run (us:=.ref a::us) (vs:=.ref a::vs) F A D hd w i (.cons rfl r) v⟩
end
section
open PySem.W
variable{K:N3}
structure XIsi(K:N3)(C:f_):Prop where
 ga:GG K (.ref C) "__getattribute__"=a_ (a_ (.builtin "BaseException.__getattribute__"))
 cl:GG K (.ref C) "__class__"=a_ (a_ (.builtin "object.__class__"))
 gt:GG K (.ref C) "__getattr__"=a_ c_
 bs:HY K C (.type "BaseException")=a_ d_
 ob:HY K C (.type "object")=a_ d_
 is:∃cd,Ml K C=a_ cd
end
abbrev xArgs(vs:ce):K1:={cls:=.type "tuple",data:=.seq vs.toArray}
noncomputable abbrev DR(C t:f_):K1:={cls:=.ref C,data:=.fields #[.ref t,.none,.none,.none,.bool b_,.none]}
abbrev vx(h:Hq)(C:f_)(vs:ce):Hq:=(h.push (xArgs vs)).push (DR C h.objs.size)
section
variable{w:GW}{E:Mq}
variable{g:Array GenState}{d:Drawn}{t:Nat}
variable{nm q:i_}{N:f_}{bs:List m_}{k1:Option m_}{mN:Ld}{oI:K1}
def rL{o:K1}(e:h.get? b=a_ o):(vx h C us).get? b=a_ o:=r_ _ (r_ _ e)
def xn:(vx h C us).get? (h.objs.size+1)=a_ (DR C h.objs.size):=by
 have z:=GC (h.push (xArgs us)) (o:=DR C h.objs.size) rfl
 rwa [Ii]at z
theorem x_type(F:JL B newId initId bmB)(T:Np h bmB tl)(I:h.get? C=a_ (Ku nm q C N bs tl hdct sn sub ab col dd k0 k1 k2 k3 k5 newId))(a:h.Ns N mN)(hi:mN "__init__"=a_ (.ref fI))(i:h.get? fI=a_ oI)(J:oI.cls=.type "function")(j:us.length<=j_){Q:Fin->u_->Prop}(z:D_ (GD prog w) A (JR (.ref fI) (.ref (h.objs.size+1)::us)) (λr s'=>r=.none/\Q (.done (.ret (.ref (h.objs.size+1)))) s') E ⟨vx h C us,g,d,t,os⟩):
  D_ (GD prog w) A (Builtin.«type.__call__» ⟨.ref C::us,[]⟩) Q E ⟨h,g,d,t,os⟩:=by
 have k:∀b o,h.get? b=a_ o->(vx h C us).get? b=a_ o:=λb o e=>rL e;have Y:=k _ _ I;have f:(GP C::tl).contains (.ref C)=d_:=by simp
 have c:(vx h C us).get? (h.objs.size+1)=a_ (DR C h.objs.size):=xn
 repeat (first|with_reducible refine wpAny_madeBy_exc I ?_|with_reducible refine IJ I ?_|wp_step)
 refine codeAny_call_builtin_code (K2 _ F.quiet) (wpAny_check_new_subT F T I (codeAny_exc_new_subT F T I ?_ j));show D_ _ _ _ _ _ (⟨vx h C us,g,d,t,os⟩:u_);unfold isInstance
 repeat (first|(with_reducible refine NV Y ?_;rw[f])|with_reducible refine IJ c ?_|wp_step)
 refine wpAny_typeLookup_tail Y (a.keeps k) (T.keeps k) F.mroIs F.init.lookup ?_;rw[hi];unfold bindSpecial;refine KA (n_ (n_ (wpAny_typeOf (T:="function") ⟨_,k _ _ i,J⟩ ?_)));rw[g_ a'];refine F_ (n_ (H9 z λr s' y=>?_));obtain⟨e,y⟩:=y;subst e
 wp_walk
 exact y
def x_call(F:JL B newId initId bmB)(T:Np h bmB tl)(I:h.get? C=a_ (Ku nm q C N bs tl hdct sn sub ab col dd k0 k1 k2 k3 k5 newId))(Y:h.Ns N mN)(hi:mN "__init__"=a_ (.ref fI))(a:h.get? fI=a_ oI)(J:oI.cls=.type "function")(b:us.length<=j_){Q:Mq}(z:D_ (GD prog w) (A.under (.builtin "type.__call__" ⟨.ref C::us,[]⟩)) (JR (.ref fI) (.ref (h.objs.size+1)::us)) (λr s'=>r=.none/\Q (.ref (h.objs.size+1)) s') E ⟨vx h C us,g,d,t,os⟩):
  D_ (GD prog w) A (JR (.ref C) us) Q E ⟨h,g,d,t,os⟩:=by
 have e:=tc_lookup;have c:=tc_bind (.ref C);have ty:(⟨h,g,d,t,os⟩:u_).TypeIs (.ref C) "type":=⟨_,I,rfl⟩
 refine KJ (codeAny_of_tree ?_);show D_ _ _ (callAny (.ref C) _) _ _ _
 (repeat (any_goals (first|assumption|with_reducible refine IJ I ?_|wp_step)));exact⟨rfl,codeAny_call_builtin_at (K2 _ dkK) entry_typeCall (wpAny_check_type_call_sub I (x_type F T I Y hi a J b z))⟩
end
theorem ns_some{N:f_}{m:Ld}{n:i_}{v:m_}(X:K.In h)(G:h.Ns N m)(e:Nj K N n=a_ (a_ v)):m n=a_ v:=by
 obtain⟨o,es,ep,g1,g2,_,g3⟩:=G;unfold Nj at e;cases q:K.lookup N with
 |none=>simp_all|some Y=>
  have z:=X _ _ q;rw[g1]at z;cases z;obtain⟨c,d,I,J⟩:=o;cases(show I=.dict es ep from g2);rw[q]at e;dsimp only at e;cases f:es.toList.find? (·.key.isStr n)with
  |none=>rw[f]at e;dsimp only at e;split at e<;>cases e
  |some a=>rw[f]at e;cases e;rw[<- g3];unfold nsFind findBy;rw[<- M4,f];rfl
noncomputable def Kzc:Data->Option ClassData
 |.cls c=>a_ c|_=>c_
def Kzd{d:Data}{c:ClassData}(h:Kzc d=a_ c):d=.cls c:=by cases d<;>cases h;rfl
def qH(K:Pn)(C:f_)(bmB:ce)(newId:String)(f:f_):Bool:=(K.lookup C).any λo=>(Kzc o.data).any λc=>c.mro.head? ==a_ (.ref C)&&(o.cls==.type "type"&&(!c.hasDel&&(PySem.W.nsOkIn K c.ns&&(PySem.W.tailIn K bmB c.mro.tail&&(Nj K c.ns "__init__"==a_ (a_ (.ref f))&&(o.slots.toList.length==6&&o.slots.toList[4]?==a_ (a_ (.builtin newId))))))))
def Kz6{l:List α}{x:α}(h:l.length=6)(I:l[4]?=a_ x):∃a b c d e,l=[a,b,c,d,x,e]:=by obtain⟨k0,l,rfl⟩:=Ht (n:=5) h;obtain⟨k1,l,rfl⟩:=Ht (n:=4) (HR h);obtain⟨k2,l,rfl⟩:=Ht (n:=3) (HR (HR h));obtain⟨k3,l,rfl⟩:=Ht (n:=2) (HR (HR (HR h)));have b:=HR (HR (HR (HR h)));obtain⟨J,l,rfl⟩:=Ht (n:=1) b;obtain⟨k5,l,rfl⟩:=Ht (n:=0) (HR b);cases I;rw[List.eq_nil_of_length_eq_zero (HR (HR b))];exact⟨_,_,_,_,_,rfl⟩
def wH(X:K.In h)(q:qH K C bmB newId f=d_):
  ∃tl N nm Y bs hdct sn sub ab col dd k0 k1 k2 k3 k5 mN,h.get? C=a_ (Ku nm Y C N bs tl hdct sn sub ab col dd k0 k1 k2 k3 k5 newId)/\h.Ns N mN/\mN "__init__"=a_ (.ref f)/\Np h bmB tl:=by
 obtain⟨⟨oc,dd,s,⟨l⟩⟩,d,q⟩:=(MI _ _).mp q;obtain⟨⟨c1,c2,a,k,j,i,c7,g,c,I,b⟩,e,q⟩:=(MI _ _).mp q;cases Kzd e;simp only[l_,Jm,IG]at q;obtain⟨r,rfl,rfl,J,p,o,n,m⟩:=q;obtain⟨tl,rfl⟩:=List.head?_eq_some_iff.mp r;obtain⟨k0,k1,k2,k3,k5,rfl⟩:=Kz6 n m;exact⟨tl,k,c1,j,c2,i,c7,g,c,I,dd,k0,k1,k2,k3,k5,_,X _ _ d,.of_isNs (KO X J),ns_some X (.of_isNs (KO X J)) o,Mu X p⟩
def xnamed2(q:qH K C bmB newId f=d_):XNamed K C bmB:=λ_ X=>by obtain⟨tl,N,nm,I,bs,hdct,sn,sub,ab,col,dd,k0,k1,k2,k3,k5,mN,Y,b,a,J⟩:=wH X q;exact⟨tl,N,nm,I,bs,hdct,sn,sub,ab,col,dd,k0,k1,k2,k3,k5,newId,Y,J⟩
noncomputable def Ozi:m_->Bool
 |.ref _=>d_|_=>b_
def xq(l:ce):Bool:=l.dropWhile Ozi==[.type "ValueError",.type "Exception",.type "BaseException",.type "object"]
def Ozj{P:ce->Prop}(J:P [.type "ValueError",.type "Exception",.type "BaseException",.type "object"])(h1:∀a l,P l->P (.ref a::l)):∀l:ce,xq l=d_->P l:=λl=>by
 induction l with
 |nil=>exact λe=>nomatch (Jm.mp e:([]:ce)=_)
 |cons v r I=>
  intro e;unfold xq at e;rw[List.dropWhile_cons]at e;cases v with
  |ref a=>exact h1 a r (I e)|_=>rw[show(_::r)=_ from Jm.mp e];exact J
def ve_pass(I:m_){l:ce}:xq l=d_->refuseLoop I "__setattr__" l=Ig ():=Ozj (P:=λl=>refuseLoop I "__setattr__" l=Ig ()) (PySem.F.store_ValueError.passes I) (λ_ _ h=>by rw[refuseLoop_ref];exact h) l
def ve_obj{l:ce}:xq l=d_->l.contains (.type "object")=d_:=Ozj (P:=λl=>l.contains (.type "object")=d_) (by rfl) (λ_ _ h=>by rw[Nc,h,Mr]) l
structure XFld(K:Pn)(C:f_)(f:i_):Prop where
 sa:GG K (.ref C) "__setattr__"
   =a_ (a_ (.builtin "object.__setattr__"))
 no:GG K (.ref C) f=a_ c_
 cd:((Ml K C).any λcd=>xq cd.mro&&cd.hasDict)=d_
section
open PySem.W
variable{w:GW}{E:Mq}{od:Option K1}{K:N3}{f:i_}{v:m_}
def x_open{c:Tok}{R:Result->u_->Prop}(X:K.In s.heap)(I:Nn s.heap a oe C od)(Z:XFld K C f)(z:∀b,D_ (GD prog w) A.in1 (Nz (.ref a) (.ref C) (.str f c) f v b)
   (λd s'=>match d with|.done y=>R (.ok y) s'|.again h=>h.quiet=d_/\Kb (GD prog w) A h R s') (λe s'=>R (.error e) s') s):
  Kb (GD prog w) A (.call (.builtin "object.__setattr__") ⟨[.ref a,.str f c,v],[]⟩) R s:=by
 have Y:=PySem.F.store_object;obtain⟨cd,g,J⟩:=Nl Z.cd;rw[l_]at J;have j:cd.mro.isEmpty=b_:=by cases q:cd.mro with|nil=>rw[q]at J;cases J.1|cons _ _=>rfl
 have i:Looks (GD prog w) s.heap (isInstance (.ref a) (.type "object")) d_:=I.type.andThen (NL X (by unfold HY;rw[g,Option.bind_some,k_ (by rw[j];decide),ve_obj J.1]));refine K5 Y.slot.plain Y.entry (@check_slot (GD prog w) _ _ s "object.__setattr__" "object" "__setattr__" (.ref a) [.str f c,v] [] _ Y.kind Y.split i (Y.args (.ref a) (.str f c) v) ?_);rw[osa_eq,refuse_eq];have k:Looks (GD prog w) s.heap (mroOf (.ref C)) cd.mro:=(Md X g).andThen .now;refine n_ (n_ (I.type.here (n_ (k.here ?_))));rw[ve_pass _ J.1];exact F_ (n_ (I.type.here (n_ ((NM X Z.no).here (n_ (F_ (z _)))))))
def x_set1{vs:Array m_}{Q:Unit->u_->Prop}(X:K.In s.heap)(Z:XFld K C f)(J:s.heap.get? a=a_ ⟨.ref C,c_,.fields vs,#[]⟩)(z:∀h',h'.get? a=a_ ⟨.ref C,a_ s.heap.objs.size,.fields vs,#[]⟩->h'.Ns1 s.heap.objs.size (λy=>if y=f then a_ v else c_)->(∀b o,b≠a->s.heap.get? b=a_ o->h'.get? b=a_ o)->Q () {s with heap:=h',toks:=s.toks+2}):
  D_ (GD prog w) A (Oh (.ref a) f v) Q E s:=by
 have I:Nn s.heap a ⟨.ref C,c_,.fields vs,#[]⟩ C c_:=⟨J,rfl,rfl,trivial⟩
 refine Ol X I Z.sa (x_open (s:={s with toks:=s.toks+1}) X I Z λb=>?_);obtain⟨cd,h,g⟩:=Nl Z.cd;rw[l_]at g;refine n_ (F_ (n_ (n_ (wpAny_loadPart J (n_ (MX (s:={s with toks:=s.toks+1}) (Md X h) ?_))))));rw[g.2];have c:a≠s.z:=GS (t_ J);have h1:(s.heap.push HB).get? a=a_ ⟨.ref C,c_,.fields vs,#[]⟩:=r_ _ J;refine n_ (wpAny_alloc' (n_ (wpAny_update' h1 (F_ ?_))));have h2:((s.heap.push HB).update a λo=>{o with dict:=a_ s.z}).get? s.z=a_ HB:=by rw[Hd _ _ c];exact GC s.heap rfl
 have j:((s.heap.push HB).update a λo=>{o with dict:=a_ s.z}).get? a=a_ ⟨.ref C,a_ s.z,.fields vs,#[]⟩:=JG _ h1 rfl;refine n_ (F_ (n_ (wpAny_nsSet1 (m:=λ_=>c_) (Mx ⟨HB,#[],_,h2,rfl,(λe J=>Gw J a8),λ_=>rfl⟩) λh' d Y=>?_)));obtain⟨p,k,l,c1,c2,n⟩:=d.count (MS f v Within.nil);refine n_ (OA c1 (by rw[c2];exact OD (Ha n a8)) (F_ ?_));exact z h' ((Y.2 a c).trans j) d λb o i q=>(Y.2 b (GS (t_ q))).trans (by rw[Hd _ _ (HI i)];exact r_ _ q)
end
section
open PySem.W
end
def XO(a C:f_)(dx:Option f_):HO:=.ext λh=>∃vs:Array m_,vs[1]?=a_ .none/\h.get? a=a_ ⟨.ref C,dx,.fields vs,#[]⟩
def XD(d:f_)(fs:List (i_×V)):HO:=.ext λh=>∃mA,h.Ns1 d mA/\(∀f,xf (fs.lookup f) (mA f))/\JS mA (fs.map (·.1))
section
variable{w:GW}{d:f_}{dx:Option f_}{fs:List (i_×V)}
def xo_ok{vs:Array m_}(h1:vs[1]?=a_ .none)(e:h.get? a=a_ ⟨.ref C,dx,.fields vs,#[]⟩):iA P w H h a (XO a C dx):=⟨⟨vs,h1,e⟩,⟨_,e⟩,λ_ _ ⟨vs,q,e⟩ k=>⟨vs,q,k _ e⟩⟩
def xd_ok{mA:Ld}(n:h.Ns1 d mA)(r:∀f,xf (fs.lookup f) (mA f))(wi:JS mA (fs.map (·.1))):iA P w H h d (XD d fs):=
 ⟨⟨mA,n,r,wi⟩,(let ⟨o,_,_,e,_⟩:=n;⟨o,e⟩),λ_ _ ⟨m,q,z⟩ k=>⟨m,q.at k,z⟩⟩
def xo_get(x:iA P w H h a (XO a C dx)):∃vs:Array m_,vs[1]?=a_ .none/\h.get? a=a_ ⟨.ref C,dx,.fields vs,#[]⟩:=x.1
def xd_get(x:iA P w H h d (XD d fs)):∃mA,h.Ns1 d mA/\(∀f,xf (fs.lookup f) (mA f))/\JS mA (fs.map (·.1)):=x.1
end
theorem Cv.turn{t':Nat}(I:Cv X B' σ H s)(S:f_->Prop)(k:∀b o,¬S b->s.heap.get? b=a_ o->h'.get? b=a_ o)(J:∀b,¬S b->H' b=H b)(Y:∀b,S b->(∃f,H b=a_ (.ext f))\/s.heap.get? b=c_)(a:∀b o,S b->s.heap.get? b=a_ o->∃o',h'.get? b=a_ o')(g:∀b o,S b->H' b=a_ o->iA X.prog X.w H' h' b o):
  Cv X B' σ H' {s with heap:=h',toks:=t'}:=by
 have out:∀b u,H b=a_ u->(∀f,u≠.ext f)->¬S b:=λb u e n z=>by
  rcases Y b z with⟨f,q⟩|q
  .grind
  .obtain⟨o,r⟩:=(I.hok b u e).is;simp_all
 have d:∀b o,s.heap.get? b=a_ o->H b=c_->¬S b:=λb o e n z=>by
  rcases Y b z with⟨f,q⟩|q
  .rw[n]at q;cases q
  .rw[e]at q;cases q
 refine I.un ⟨λb o e n _ _=>k b o (d b o e n) e,λb o e n _ _=>⟨o.slots,k b o (d b o e n) e⟩,λb o e n _=>by rw[J b (d b o e n)];exact n,λb o e _=>?_,λb xs e=>?_,λb o u e=>?_,λb ps e=>?_⟩ λb u e=>?_
 .by_cases z:S b
  .exact a b o z e
  .exact⟨o,k b o z e⟩
 .simp_all
 .simp_all
 .simp_all
 .by_cases z:S b
  .exact g b u z e
  .rw[J b z]at e;refine(I.hok b u e).zy (λc v h q=>k c v ?_ q) (λc q=>?_) λc xs q=>?_
   .rcases h with rfl|h
    .exact z
    .exact out c _ h λ_ z=>nomatch z
   .simp_all
   simp_all
section
variable{E:Mq}{d:f_}{f:i_}{y:V}
theorem xset1_ok{Q:Unit->u_->Prop}(I:Cv X B' σ H s)(e:H a=a_ (XO a C c_))(Z:XFld X.K C f)(i:Gq y u)(z:∀d s',H d=c_->d≠a->Cv X B' σ (upd (upd H d (XD d [(f,y)])) a (XO a C (a_ d))) s'->Q () s'):D_ (GD X.prog X.w) A (Oh (.ref a) f u) Q E s:=by
 obtain⟨vs,v1,l⟩:=xo_get (I.hok a _ e);have fr:=I.hok.fresh (z_ s.z);have c:s.z≠a:=λq=>by simp_all
 refine x_set1 I.kIn Z l λh' e1 j k=>z s.z _ fr c ?_;refine I.turn (λb=>b=a\/b=s.z) (λb o h q=>k b o (λr=>h (.inl r)) q) (λb h=>by simp_all[ao]) (λb Y=>?_) (λb o Y q=>?_) λb o Y q=>?_
 .rcases Y with rfl|rfl
  .exact .inl ⟨_,e⟩
  .exact .inr (get_none (z_ _))
 .grind
 .rcases Y with rfl|rfl
  .rw[aj]at q;cases q;exact xo_ok v1 e1
  .rw[ao c,aj]at q;cases q;refine xd_ok j (λg=>?_) λg m=>?_
   .show xf (H_ g [(f,y)]) (if g=f then a_ u else c_);rw[y_];by_cases J:g=f
    .rw[g_ J,show(g==f)=d_ from Jm.mpr J];exact i
    .rw[k_ J,show(g==f)=b_ from Mb.mpr J];trivial
   simp_all
end
def sX1(C:f_)(ta tv:TE)(f:i_):TS:=λD σ H=>tv σ H λy H1=>ta σ H1 λx H2=>∃a,x=.ref a/\H2 a=a_ (XO a C c_)/\∀d,H2 d=c_->d≠a->D.nx σ (upd (upd H2 d (XD d [(f,y)])) a (XO a C (a_ d)))
section
variable{o:HG}{f:i_}
def ps_x1(j:PE X o ta)(hv:PE X value tv)(Z:XFld X.K C f)(i: ~~~(II value (a_ (.Attribute o f pos')) pos.line X.env=Ig b_)):PS X (.Assign [.Attribute o f pos'] value pos) (sX1 C ta tv f):=by intro B' s σ H D I h;refine LN (H9 (hv B' s σ H _ I h) λu Y J=>?_) i;obtain⟨y,H1,n,b,q⟩:=J;refine H9 (j B' Y σ H1 _ n q) λg r J=>?_;obtain⟨x,H2,m,c,a,ex,k,e⟩:=J;subst ex;cases(show g=GP a from c);exact xset1_ok m k Z b λd p h1 h2 l=>⟨σ,_,l,e d h1 h2⟩
end
def upd_low{d:f_}{x y z:HO}:upd (upd (upd H a x) d y) a z=upd (upd H d y) a z:=by
 funext b
 by_cases I:b=a
 .subst I;rw[aj,aj]
 .rw[ao I,ao I];by_cases hd:b=d
  .subst hd;rw[aj,aj]
  .rw[ao hd,ao hd,ao I]
theorem fn_at(X:K.In h)(e:Iy K (.ref f)=a_ (.type "function")):∃o,h.get? f=a_ o/\o.cls=.type "function":=by
 unfold Iy at e;cases q:K.lookup f with
 |none=>simp_all|some o=>simp only[q]at e;exact⟨o,X _ _ q,by simpa using e⟩
def zo{M:LI}{E:Mq}{nm q:i_}{N:f_}{bs:ce}{k1:Option m_}{x:Oq m_}{Q:Flow->u_->Prop}(j:tl.contains (.type "BaseException")=d_)(hh:A.handled=c_)(z:D_ M A x (λv I=>∃e oe,v=.ref e/\I.heap.get? C=a_ (Ku nm q C N bs tl hdct sn sub ab col dd k0 k1 k2 k3 k5 newId)/\I.heap.get? e=a_ oe/\oe.cls=.ref C/\(∃vs,oe.data=.fields vs/\vs[1]?=a_ .none)/\E (.ref e) I) E s):
  D_ M A
    (raiseStmt env (a_ x) c_) Q E s:=by
 have k:(GP C::tl).contains (.type "BaseException")=d_:=by rw[Nc,j,Mr]
 unfold raiseStmt;refine n_ (H9 z λv I J=>?_);obtain⟨e,oe,rfl,b,h,a,⟨vs,hd,Y⟩,i⟩:=J;obtain⟨oc,c,f,osl⟩:=oe;dsimp only at a hd;subst a hd;obtain⟨m,g,d,l,os⟩:=I;repeat (first|(with_reducible refine NV b ?_;rw[k])|with_reducible refine IJ h ?_|with_reducible refine IJ b ?_|wp_step)
 rw[Y];refine F_ ?_;rw[k_ a'];exact F_ (wpAny_raiseNew_none hh i)
def XEq2(X:Cx)(E:XK)(C:f_):Prop:=∀(B':Vp) (σ:St) (H:Hp) (s':u_) (a d:f_),Cv X B' σ H s'->ExA s'.heap a (.ref C) (a_ d) c_->X.s₀.heap.get? a=c_->H a=c_->E (.ref C) (a_ d) H->X.xe (.ref a) s'
section
variable{w:GW}{base:Hq}
def xeqD2:XEq2 (x4 (CXd P w) P w K mg base N qual scope f cd A outer s H E) E C:=λ_ _ _ _ _ _ J x I fa q=>xe_of J x I (λT Y=>nomatch Y) fa q
end
def passN:Passes (CXd X.prog X.w) X (λ_ _ _=>False):=by rintro B' σ H1 J e s' I ⟨a,T,C,dx,H',rfl,z⟩;exact z.want.elim
section
variable{W:gf}
def ps_nox{t:TS}(h:PS X.nox st t):PS X st t:=λB' s σ H D I z=>HC (h B' s σ H D (I.AM _) z) (λ_ _ q=>q.lq) λ_ _ y=>(show False from y).elim
def oN{g:ah->M Gp}(h:DS K Hh ro X.nox OL O O' st g):DS K W ro X OL O O' st (D8 g):=λF0 H0=>PS.imp (ps_nox (h F0 H0)) λD σ H ⟨FB,F,ρ,r,p⟩=>by
 refine⟨FB,F,ρ,r,?_⟩
 have p:kN K W ro F0 H0 FB OL O' D (noX (g ρ)):=p;unfold kN at p ⊢;cases e:g ρ with
 |ok fl=>rw[e]at p;cases fl<;>exact p
 |error x=>rw[e]at p;exact(W.ns p).elim
end
structure XMk(K:Pn)(mg:Ld)(x:i_)(C f:f_):Prop where
 mg:mg x=a_ (.ref C)
 ex:qH K C [.type "ValueError",.type "Exception",.type "BaseException",.type "object"] "ValueError.__new__" f=d_
 fn:Iy K (.ref f)=a_ (.type "function")
 kp:Ja K (.ref C)
   =d_
structure XTry(K:Pn)(mg:Ld)(x:i_)(C:f_):Prop where
 mg:mg x=a_ (.ref C)
 nm:XNamed K C [.type "ValueError",.type "Exception",.type "BaseException",.type "object"]
 isi:XIsi K C
def rB:A'->M A'
 |.str _=>.ok (.bl d_)|.ins _ _=>stk|.dic _=>stk|.dil _=>stk|_=>.ok (.bl b_)
section
variable{W:gf}{own:Bool}{a:HG}
theorem Gi(J:Kit K)(i: ~~~(X.K=K)):j0 X (.builtin "isinstance") (λxs H Q=>∃v,xs=[v,.ty "str"]/\rD1 K W own rB v H Q):=by
 subst i;intro B' s σ H xs us Q I r h;obtain⟨v,rfl,F,d,b,q,p⟩:=h;obtain⟨u,w,rfl,f,Y⟩:=r.two;cases(show w=JY "str" from Y);by_cases hi:(∃C fs,d=.ins C fs)\/(∃ks,d=.dic ks)\/∃ks,d=.dil ks
 .rcases hi with⟨C,fs,rfl⟩|⟨ks,rfl⟩|⟨ks,rfl⟩<;>exact aH.stuck p
 .refine isi_D I b q f J.EL J.Cz J.Cr J.zP J.EJ J.uq (λk c g=>⟨.bl k,H,I.tok c,rfl,?_⟩) (λC fs e=>hi (.inl ⟨C,fs,e⟩)) (λks e=>hi (.inr (.inl ⟨ks,e⟩))) (λks e=>hi (.inr (.inr ⟨ks,e⟩)));cases d<;>first|(have a:k=_:=g;subst a;exact aH.bl (own:=own) p b)|exact Gw (.inl ⟨_,_,rfl⟩) hi|exact Gw (.inr (.inl ⟨_,rfl⟩)) hi|simp_all
def Df(J:Kit K)(e:X.mg "isinstance"=c_)(c:X.mg "str"=c_)(g:DE K W b_ X a fa)(h: ~~~(X.K=K))(f: ~~~(Gl X "isinstance"))(d: ~~~(Gl X "str"))(Y: ~~~(h_ [a,.Name "str" p2] X.env=[(b_,GI a X.env),(b_,GI (.Name "str" p2) X.env)]))(I: ~~~(h_ [.Name "str" p2] X.env=[(b_,GI (.Name "str" p2) X.env)]))(b: ~~~((He pos (h_ [.Name "str" p2] X.env)).any (·.1)=b_)):
  DE K W own X (.Call (.Name "isinstance" p) [a,.Name "str" p2] [] pos) (f1 rB fa):=BH (Gi J h) e c (by rfl) g f d a' a' Y I b
end
structure Yd(P:HP)(w:GW)(K:Pn)(mg:Ld)(base:Hq)(CX:CXT)(k:Nat)(x:i_)(st:Hm)(ps:bv)(sp:Sp)(f:f_)(fd:Iq):Prop where
 d:Def K mg x st ps f fd
 o:iZ P w K mg base CX k f fd ps sp
section
open PySem.W
end
structure XBase(K:Pn)(mg:Ld)(x:i_)(Cb:f_):Prop where
 mg:mg x=a_ (.ref Cb)
 ty:Iy K (.ref Cb)=a_ (.type "type")
 bs:HY K Cb (.type "BaseException")=a_ d_
structure XTxt(K:Pn)(mg:Ld)(x:i_)(C:f_):Prop where
 mg:mg x=a_ (.ref C)
 ex:JD K C [.type "ValueError",.type "Exception",.type "BaseException",.type "object"] "ValueError.__new__"=d_
section
open PySem.W
variable{M:LI}{E:Mq}{g:Array GenState}{d:Drawn}{t:Nat}{K:N3}
theorem x_match{b:Bool}{Q:Bool->u_->Prop}(Y:K.In h)(r:h.get? a=a_ oe)(s:oe.cls=.ref C)(i:Iy K (.ref Cb)=a_ (.type "type"))(I:HY K Cb (.type "BaseException")=a_ d_)(u:HY K C (.ref Cb)=a_ b)(p:Q b ⟨h,g,d,t,os⟩):
  D_ M A (excMatches (.ref a) (.ref Cb)) Q E ⟨h,g,d,t,os⟩:=by
 have f:=tc_notTuple;have n:=NL (M:=M) Y I;have m:=NL (M:=M) Y u;have l:=looks_typeIn (M:=M) Y i;obtain⟨J,j,e⟩:∃J,h.get? Cb=a_ J/\J.cls=.type "type":=by
  unfold Iy at i;cases q:K.lookup Cb with
  |none=>simp_all|some o=>simp only[q]at i;exact⟨o,Y _ _ q,by simpa using i⟩
 have v:∃cd,J.data=.cls cd:=by
  unfold HY Ml at I;cases q:K.lookup Cb with
  |none=>simp only[q]at I;cases I|some o=>
   have:=Y _ _ q;rw[j]at this;cases this;simp only[q]at I;split at I
   .next z=>cases z;exact⟨_,rfl⟩
   .cases I
 obtain⟨cd,c⟩:=v;obtain⟨oc,od,k,osl⟩:=J;dsimp only at e c;subst e c;unfold excMatches;cases b<;>(repeat (first|(with_reducible refine IJ r ?_;rw[s])|with_reducible refine IJ j ?_|with_reducible refine n.at ?_|with_reducible refine m.at ?_|with_reducible refine l.at ?_|wp_step))<;>exact p
end
section
variable{T:f_}{dx:Option f_}{c:i_}{ts:TS}{D:Ends}{rest:List ExceptHandler}
def at_bare(I:Cv X B' σ H s)(x:ExA s.heap a (.ref C) dx (a_ T))(b:Apart X B' H s a (a_ T))(g:X.ex=[])(y:HY X.K C (.ref Cb)=a_ d_)(k:XBase X.K X.mg c Cb)(t:Gl X c)(p:∀oe:K1,PSs (X.hand a oe) (b₀::suite) ts)(q:ts D σ H)(i:((c==("__debug__":i_))=b_)⁻¹):
  D_ (GD X.prog X.w) X.A (handleBy (.ref a) X.env (.ExceptHandler (a_ (.Name c np)) c_ (b₀::suite) pos::rest)) (SP X B' D) X.xe s:=by
 obtain⟨oe,vs,h,j,w,Y,h1⟩:=x.ob;have J:=I.hand h Y b.na b.fa;refine wpAny_handleBy_cons (codeAny_handlers_test (lS (X:=X.hand a oe) J t k.mg ?_ i)) (by intro z;cases z);have e0:=I.env0;have o:=I.kIn;obtain⟨hh,gg,d,G,os⟩:=s;refine x_match o h j k.ty k.bs y (codeAny_handlers_suite (FN (base:=X.base) (l:=X.stack) e0.yA x λh' F n A=>?_));have E:=I.left g x b n;have B:=E.hand (by rw[A];exact h) Y b.na b.fa;refine HC (p oe B' _ _ H D B q) (λf K z=>?_) λ_ _ z=>z.elim;cases f with
 |ret u=>obtain⟨v,σ',H',m,r,e⟩:=z;exact⟨v,σ',H',m.unhand I.ok,r,e⟩
 |_=>obtain⟨σ',H',m,e⟩:=z;exact⟨σ',H',m.unhand I.ok,e⟩
end
section
open PySem.SetTable
end
section
open PySem
end
section
open PySem.W
end
section
variable{w:GW}{base:Hq}
theorem Fun.okE{x:i_}(F:Fun K x qual st f fd)(S:gB N ps (aA st))(J:∀vs H Q E,sp vs H Q E->vs.length=ps.length)(I:∀(cdv:m_) (A:IY) (outer:List LP) (s:u_) (H:Hp) (vs:b') (Q:VK) (E:XK),jr k (A.deeper (IS qual (aA st) s.heap.objs.size f cdv))->sp vs H Q E ->
   ∃t,PSs (x4 CX P w K mg base N qual (aA st) f cdv A outer s H E) (bT st) t/\t {nx:=λ_ H'=>Q .non H',rt:=Q} (start N vs) H):iZ P w K mg base CX (k+1) f fd ps sp:=by
 obtain⟨oc,od,kV,doc,pm,an,cdv,ct,osl,rfl,a,Y⟩:=F.ex;exact fn_of a Y S J (I cdv)
end
structure Abt(p:f_)(F H F' H':Hp):Prop where
 ff:aS F F'
 fh:aS F' H'
 fp:F' p=c_
 nw:∀b o,F' b=a_ o->F b=a_ o\/H b=c_
 hh:∀c o,H c=a_ o->c≠p->H' c=a_ o
theorem Abt.step{x:f_}(Y:H x=c_)(J:H dx=c_)(z:Abt x F (upd (upd H dx (.own x)) x (.ins C dx [])) F' H'):C6 F H F' H' where
 ff:=z.ff
 hh:=λc o e=>by
  have I:c≠x:=λh=>by simp_all
  have hd:c≠dx:=λh=>by simp_all
  exact z.hh c o (by rw[ao I,ao hd];exact e) I
 fh:=z.fh
 nw:=λc o e=>by
  rcases z.nw c o e with q|q
  .exact .inl q
  grind[ao]
def isiC(tb:List (f_×Bool)):A'->M A'
 |.ins C _=>match tb.lookup C with
  |some b=>.ok (.bl b)|none=>stk
 |_=>stk
section
variable{W:gf}{own:Bool}{a:HG}{D:f_}{tb:List (f_×Bool)}
def c_isiC(i:∀C b,tb.lookup C=a_ b->(∃x,Kls K X.mg x C)/\HD K (.ref C) (.ref D)=a_ b)(j: ~~~(X.K=K)):j0 X (.builtin "isinstance") (λxs H Q=>∃v,xs=[v,.ref D]/\rD1 K W own (isiC tb) v H Q):=by
 subst j;intro B' s σ H xs us Q I r h;obtain⟨v,rfl,F,d,a,q,p⟩:=h;obtain⟨u,w,rfl,e,J⟩:=r.two;cases(show w=GP D from J);cases d with
 |ins C fs=>
  cases Y:tb.lookup C with
  |none=>
   have p:aH X.K W own F H (match tb.lookup C with
    |some b=>.ok (.bl b)|none=>stk) Q:=p
   rw[Y]at p;exact aH.stuck p
  |some b=>
   have p:aH X.K W own F H (match tb.lookup C with
    |some b=>.ok (.bl b)|none=>stk) Q:=p
   rw[Y]at p;obtain⟨⟨x,f⟩,g⟩:=i C b Y;obtain⟨l,dx,m,e1,k,n⟩:=q;subst e1;exact Fz I e (f.ty (a _ _ k)) g λc=>⟨.bl b,H,I.tok c,rfl,aH.bl (own:=own) p a⟩
 |_=>exact aH.stuck p
def de_isiC(i:∀C b,tb.lookup C=a_ b->(∃x,Kls K X.mg x C)/\HD K (.ref C) (.ref D)=a_ b)(e:X.mg "isinstance"=c_)(k:X.mg y=a_ (.ref D))(g:DE K W b_ X a fa)(j: ~~~(X.K=K))(f: ~~~(Gl X "isinstance"))(c: ~~~(Gl X y))(hd:((y==("__debug__":i_))=b_)⁻¹)(J: ~~~(h_ [a,.Name y p2] X.env=[(b_,GI a X.env),(b_,GI (.Name y p2) X.env)]))(I: ~~~(h_ [.Name y p2] X.env=[(b_,GI (.Name y p2) X.env)]))(Y: ~~~((He pos (h_ [.Name y p2] X.env)).any (·.1)=b_)):
  DE K W own X (.Call (.Name "isinstance" p) [a,.Name y p2] [] pos) (f1 (isiC tb) fa):=
 (o8 (c_isiC i j) f e boot_isinstance (au g (au (zX (v:=.ref D) (pos:=p2) c k rfl hd) aQ I) (by rw[J,I])) a' a' (by rw[J,I]) Y).imp λσ H Q h=>by
  obtain⟨F,ρ,r,s,q⟩:=rd_1 h;refine⟨F,ρ,r,s,?_⟩
  cases e1:fa ρ with
  |error z=>rw[e1]at q;exact q|ok d=>rw[e1]at q;exact λv F' H' st z=>⟨v,rfl,q v F' H' st z⟩
theorem isi2{P:f_->Bool->Prop}{Y:f_}{J I:Bool}(h1:P Y J)(h2:P C2 I):∀C b,H_ C [(Y,J),(C2,I)]=a_ b->P C b:=λC b h=>by grind
end
def EHN(C:f_)(t2:TS)(D:Ends)(σ:St):XK:=λI _ H'=>I=.ref C/\t2 D σ H'
section
variable{c:i_}{hpos:OE}{t2:TS}{tb:XK->TS}
theorem ps_bare(N:∀(B':Vp) (σ:St) (E:XK) (y:Mq),xh (CXd X.prog X.w) (X.AM y) B' σ E->PSsAt (X.AM y) B' σ body (tb E))(K:∀(a:f_) (oe:K1),PSs (X.hand a oe) (b₀::suite) t2)(Z:XBase X.K X.mg c C)(O:HY X.K C (.ref C)=a_ d_)(L: ~~~(Gl X c))(Y: ~~~(X.ex=[]))(d: ~~~(X.stack=X.env::X.outer))(r: ~~~(X.env.frame=a_ X.env.locals))(t:((c==("__debug__":i_))=b_)⁻¹):
  PS X (.Try body [.ExceptHandler (a_ (.Name c np)) c_ (b₀::suite) hpos] [] [] pos) (λD σ H=>tb (EHN C t2 D σ) D σ H):=by
 intro B' s σ H D I h;refine wpAny_Try_except (H9 (N B' σ (EHN C t2 D σ) (λe j=>D_ (GD X.prog X.w) X.A (M6 e X.env) (λ_ i=>D_ (GD X.prog X.w) X.A (Lc e c_) (λ_ g=>D_ (GD X.prog X.w) X.A (handleBy e X.env [.ExceptHandler (a_ (.Name c np)) c_ (b₀::suite) hpos]) (SP X B' D) X.xe g) X.xe i) X.xe j) ?_ s H D (I.AM _) h) λf A z=>?_)
 .rintro H1 A e s' x ⟨a,T,U,dx,H',rfl,z⟩;have n:=x.lq;have J:Cv X B' σ H' s':=n.call' z.os z.un z.hok z.bare (λ_ h=>nomatch h);have k:∀b,A.heap.get? b=c_->∀p∈X.pn++B',p.1≠b:=λb e p o w=>by
   have:=(n.pin p o).1;simp_all
  have m:Apart X B' H' s' a (a_ T):=⟨n.nQ Y z.na,z.fa,k a z.na,λR l=>by cases l;exact⟨n.nQ Y z.nT,z.fT,k T z.nT⟩⟩
  have e0:=J.env0;have f1:=e0.frames;have F:=e0.yA;rw[d]at f1 F;refine leave2 (base:=X.base) f1 F r z.ex λh' Q G l B=>?_;rw[<- d]at B;have S:=J.left Y z.ex m B;have v:Apart X B' H' {s' with heap:=h'} a (a_ Q):=⟨m.na,m.fa,m.pa,λR u=>by
   cases u;refine⟨get_none (Ha J.sz l),J.hok.fresh l,λp o w=>?_⟩
   have:=t_ (J.pin p o).1;rw[w]at this;exact Gw this (L1.mpr l)⟩
  obtain⟨P,q⟩:=z.want;subst P;exact at_bare S G v Y O Z L (K a) q t
 .have z:=SP.lq z;cases f with
  |next=>exact JA z|_=>exact z
end
noncomputable abbrev tKind(P:HP)(w:GW):HeapKind P w ca:=tupleKind (Nh P w)
theorem xw{P:HP}{w:GW}:∀{k:ca} {us:ce},Gr (k.map V.int) us->ItemsAre (Nh P w) k us
 |[],_,.nil=>.nil|i::k,_,.cons r t=>by
  obtain⟨t',rfl⟩:=(show ∃t,_=Kj i t from r)
  exact .cons (by simp[Nh,Om]) (xw t)
def qj.at{xs:List oU}(z:qj h a xs ep)(e:∀o,h.get? a=a_ o->h'.get? a=a_ o):qj h' a xs ep:=
 let ⟨vs,r,hd,J,I,o,es,h1,h2⟩:=z;⟨vs,r,hd,J,I,o,es,e o h1,h2⟩
def FZ{w:GW}{xs:List oU}(z:qj h a xs ep):iA P w H h a (zb a xs ep):=
 ⟨z,let ⟨_,_,_,_,_,o,_,e,_⟩:=z;⟨o,e⟩,λ_ _ z e=>z.at e⟩
def ua(K:Pn)(H:Hp)(xs:List oU):Prop:=∀x∈xs,SqT K H x.2.1 (x.1.map V.int)
def ua.mono{xs:List oU}(z:ua K H xs)(s:aS H H'):ua K H' xs:=λx I=>s.tup (z x I)
theorem dU.key{K:Pn}{F:Hp}:∀{ks:List (ca×A')} {xs:List oU},dU K F ks xs->ua K F xs
 |[],_,h,x,I=>by rw[show _=[]from h]at I;cases I|(k,d)::ks,_,⟨b,v,r,e,t,q,z⟩,x,I=>by
  subst e;rcases q_.mp I with rfl|I
  .exact t
  .exact dU.key z x I
theorem dU.length{K:Pn}{F:Hp}:∀{ks:List (ca×A')} {xs:List oU},dU K F ks xs->xs.length=ks.length
 |[],_,h=>by rw[show _=[]from h];rfl|(k,d)::ks,_,⟨b,v,r,e,t,q,z⟩=>by rw[e,Gy,Gy,dU.length z]
noncomputable def DK(ks:List (ca×A'))(k:ca):Option A':=(ks.find? λp=>o_ (p.1=k)).map (·.2)
def FH(xs:List oU)(k:ca):Option V:=(xs.find? λp=>o_ (p.1=k)).map (·.2.2)
def CB(ks:List (ca×A'))(k:ca)(d:A'):List (ca×A'):=if (DK ks k).isSome=d_ then ks.map (λp=>if p.1=k then(p.1,d)else p)else ks++[(k,d)]
def putR(xs:List oU)(k:ca)(b:f_)(v:V):List oU:=if (FH xs k).isSome=d_ then xs.map (λx=>if x.1=k then(x.1,x.2.1,v)else x)else xs++[(k,b,v)]
theorem Aa(xs:List oU)(k:ca)(b:f_)(v:V):(putR xs k b v).length<=xs.length+1:=by
 unfold putR;split
 .rw[w_];lia
 .rw[Gx];exact z_ _
theorem vS{k:ca}:∀{xs:List oU} {vs:List (ca×f_×m_)},JT oS xs vs->xf (FH xs k) ((atKey vs k).map (·.2))
 |_,_,.nil=>Iv|x::xs,q::vs,.cons h t=>by
  obtain⟨h1,h2,J⟩:=h;by_cases e:x.1=k
  .have I:q.1=k:=h1.symm.trans e;simp only[FH,atKey,Jr,e,I,decide_true,Ln];exact J
  .have I:¬q.1=k:=λz=>e (h1.trans z);have:=vS (k:=k) t;simpa only[FH,atKey,Jr,e,I,decide_false] using this
theorem dU.at{K:Pn}{F:Hp}{k:ca}:∀{ks:List (ca×A')} {xs:List oU},dU K F ks xs->(DK ks k=c_/\FH xs k=c_)\/∃d v,DK ks k=a_ d/\FH xs k=a_ v/\aR K F d v
 |[],_,h=>by rw[show _=[]from h];exact .inl ⟨rfl,rfl⟩|(k',d)::ks,_,⟨b,v,r,e,t,q,z⟩=>by
  subst e;by_cases e:k'=k
  .exact .inr ⟨d,v,by simp[DK,e],by simp[FH,e],q⟩
  .have:=dU.at (k:=k) z;simpa only[DK,FH,Jr,e,decide_false] using this
theorem dU.isSome{K:Pn}{F:Hp}{k:ca}{ks:List (ca×A')}{xs:List oU}(z:dU K F ks xs):(FH xs k).isSome=(DK ks k).isSome:=by rcases z.at (k:=k)with⟨e1,e2⟩|⟨d,v,e1,e2,_⟩<;>rw[e1,e2]<;>rfl
theorem dU.repl{K:Pn}{F:Hp}{k:ca}{d:A'}{v:V}(q:aR K F d v):∀{ks:List (ca×A')} {xs:List oU},dU K F ks xs->dU K F (ks.map λp=>if p.1=k then(p.1,d)else p) (xs.map λx=>if x.1=k then(x.1,x.2.1,v)else x)
 |[],_,h=>by rw[show _=[]from h];rfl|(k',d')::ks,_,⟨b,v',r,e,t,I,z⟩=>by
  subst e;rw[GJ,GJ];by_cases e:k'=k
  .rw[g_ e,g_ e];exact⟨b,v,_,rfl,t,q,dU.repl q z⟩
  .rw[k_ e,k_ e];exact⟨b,v',_,rfl,t,I,dU.repl q z⟩
theorem dU.snoc{K:Pn}{F:Hp}{k:ca}{b:f_}{d:A'}{v:V}(t:SqT K F b (k.map V.int))(q:aR K F d v):∀{ks:List (ca×A')} {xs:List oU},dU K F ks xs->dU K F (ks++[(k,d)]) (xs++[(k,b,v)])
 |[],_,h=>by rw[show _=[]from h];exact⟨b,v,[],rfl,t,q,rfl⟩|(k',d')::ks,_,⟨J,v',r,e,t',I,z⟩=>by subst e;exact⟨J,v',_,rfl,t',I,dU.snoc t q z⟩
def dU.put{k:ca}{d:A'}{xs:List oU}(z:dU K F ks xs)(t:SqT K F b (k.map V.int))(q:aR K F d v):dU K F (CB ks k d) (putR xs k b v):=by
 unfold CB putR;rw[z.isSome];by_cases h:(DK ks k).isSome=d_
 .rw[g_ h,g_ h];exact z.repl q
 .rw[k_ h,k_ h];exact z.snoc t q
theorem xU{k:ca}{v:V}{u:m_}(I:Gq v u):∀{xs:List oU} {vs:List (ca×f_×m_)},JT oS xs vs->JT oS (xs.map λx=>if x.1=k then(x.1,x.2.1,v)else x) (vs.map (putAt k u))
 |_,_,.nil=>.nil|x::xs,q::vs,.cons h t=>by
  rw[GJ,GJ];refine .cons ?_ (xU I t);obtain⟨h1,h2,J⟩:=h;unfold putAt;by_cases e:x.1=k
  .rw[g_ e,g_ (h1.symm.trans e)];exact⟨h1,h2,I⟩
  .rw[k_ e,k_ (λz=>e (h1.trans z))];exact⟨h1,h2,J⟩
def rows_put{k:ca}(I:Gq v u){xs:List oU}{vs:List (ca×f_×m_)}(r:JT oS xs vs):JT oS (putR xs k b v) (storedH vs k b u):=by
 have e:(FH xs k).isSome=(atKey vs k).isSome:=by rw[(vS r).FA,MZ]
 unfold putR storedH;rw[e];by_cases h:(atKey vs k).isSome=d_
 .rw[g_ h,g_ h];exact xU I r
 .rw[k_ h,k_ h];exact Paired.snoc r ⟨rfl,rfl,I⟩
theorem B3:∀{xs:List oU} {vs:List (ca×f_×m_)},JT oS xs vs->∀q∈vs,∃x∈xs,x.1=q.1/\x.2.1=q.2.1
 |_,_,.nil,_,h=>nomatch h
 |x::xs,q::vs,.cons h t,y,I=>by
  rcases q_.mp I with rfl|I
  .exact⟨x,a8,h.1,h.2.1⟩
  .obtain⟨J,h1,h2⟩:=B3 t y I;exact⟨J,by simp[h1],h2⟩
section
variable{xs:List oU}{k:List Int}
def zq(I:Cv X B' σ H s)(h:SqT X.K H b (k.map V.int)):(tKind X.prog X.w).is s.heap k b:=by obtain⟨G',r,⟨o,h1,h2,n,J⟩,_⟩:=I.tuple h;exact⟨o,G'.toArray,n,h1,h2,J,by simpa using xw r⟩
def BF(I:Cv X B' σ H s)(e:H a=a_ (zb a xs ep)):qj s.heap a xs ep:=(show qj s.heap a xs ep/\_ from I.hok a _ e).1
def dic_at(I:Cv X B' σ H s)(e:H a=a_ (zb a xs ep))(z:ua X.K H xs):∃vs,JT oS xs vs/\(a==Jn)=b_/\xs.length<=j_/\s.heap.DictOfH (tKind X.prog X.w) a vs:=by
 obtain⟨vs,r,hd,c,b,o,es,h1,h2,f,d⟩:=BF I e;refine⟨vs,r,hd,c,o,es,ep,h1,h2,f,d,λq Y=>?_,b⟩
 obtain⟨x,J,e1,e2⟩:=B3 r q Y;rw[<- e1,<- e2];exact zq I (z x J)
def dic_ty(I:Cv X B' σ H s)(e:H a=a_ (zb a xs ep)):s.TypeIs (.ref a) "dict"/\(∀b,GP a=.ref b->∃J,s.heap.get? b=a_ J/\J.dict=c_):=by obtain⟨_,_,_,_,_,o,_,h1,h2,_⟩:=BF I e;exact⟨⟨o,h1,h2.1⟩,λc q=>by cases q;exact⟨o,h1,h2.2.1⟩⟩
def dicOk_of{w:GW}{vs:List (ca×f_×m_)}(dd:h.DictOfH (tKind P w) a vs)(r:JT oS xs vs)(hd:(a==Jn)=b_)(I:xs.length<=j_):∃ep,qj h a xs ep:=by obtain⟨o,es,ep,h1,h2,b,Y,_,J⟩:=dd;exact⟨ep,vs,r,hd,I,J,o,es,h1,h2,b,Y⟩
end
def sPut(K:Pn)(td ty tv:TE):TS:=λD σ H=>tv σ H λv H1=>td σ H1 λx H2=>ty σ H2 λy I=>∃a b k xs ep,x=.ref a/\y=.ref b/\I a=a_ (zb a xs ep)/\ua K I xs/\SqT K I b (k.map V.int)/\xs.length<j_/\∀ep',D.nx σ (upd I a (zb a (putR xs k b v) ep'))
def tGet2(K:Pn)(td ty tx:TE):TE:=λσ H Q=>td σ H λx H1=>∃a xs ep,x=.ref a/\H1 a=a_ (zb a xs ep)/\ty σ H1 λy H2=>tx σ H2 λz I=>∃b k,y=.ref b/\I a=a_ (zb a xs ep)/\ua K I xs/\SqT K I b (k.map V.int)/\Q ((FH xs k).getD z) I
def tNewK:TE:=λ_ H Q=>∀p,H p=c_->Q (.ref p) (upd H p (zb p [] 0))
section
variable{o i f:HG}{ty tx:TE}
def G1(h:Hq)(I:Jn<h.objs.size):qj (h.push {cls:=.type "dict",data:=.dict #[]}) h.objs.size [] 0:=
 ⟨[],.nil,Mb.mpr (HI (GS I)),Ib _,NY,_,#[],GC _ rfl,⟨rfl,rfl,rfl⟩,rfl,rfl⟩
def zW:PE X (.Dict [] [] pos) tNewK:=λB' s σ H Q I h=>wpAny_Dict_empty ⟨.ref s.heap.objs.size,_,I.laid (a:=s.heap.objs.size) (o:=zb s.heap.objs.size [] 0) (t':=s.toks) (λ_ _ q=>r_ _ q) (z_ _) (FZ (G1 s.heap I.big)),rfl,h _ (I.hok.fresh (z_ _))⟩
def Cv.dic{xs ys:List oU}{t':Nat}(I:Cv X B' σ H s)(e:H a=a_ (zb a xs ep))(J:Kv a s.heap h')(z:qj h' a ys ep'):Cv X B' σ (upd H a (zb a ys ep')) {s with heap:=h',toks:=t'}:=
 I.write (x:=a) (e:=a) (by rw[e];exact Iv) (.inl rfl) (λc q Y w=>(J.2 c Y).trans w) (let ⟨_,_,_,_,_,o,_,w,_⟩:=z;⟨o,w⟩) (FZ z)
theorem ps_put(E:X.A.units+1<IL)(G:PE X o td)(hi:PE X i ty)(hv:PE X value tv)(F:II value (a_ (.Subscript o i pos')) pos.line X.env=Ig b_):PS X (.Assign [.Subscript o i pos'] value pos) (sPut X.K td ty tv):=by
 intro B' s σ H D I h;refine wpAny_Assign_Subscript (H9 (hv B' s σ H _ I h) λr l J=>?_) F;obtain⟨v,H1,N,p,A⟩:=J;refine H9 (G B' l σ H1 _ N A) λu j J=>?_;obtain⟨x,H2,L,n,w⟩:=J;refine H9 (hi B' j σ H2 _ L w) λB O J=>?_;obtain⟨y,Q,e,m,a,b,k,xs,ep,ex,ey,g,K,t,P,q⟩:=J;subst ex ey;cases(show u=GP a from n);cases(show B=GP b from m);obtain⟨vs,f,hd,C,dd⟩:=dic_at e g K;have Y:vs.length<=j_:=by rw[<- KP f];exact C
 refine wpAny_setItem_heap (hsz:=Y) (N0 E) (zq e t) dd λh' d c=>?_;obtain⟨ep',z⟩:=dicOk_of d (rows_put p f) hd (by have:=Aa xs k b v;lia);exact⟨σ,_,e.dic g c z,q ep'⟩
def pe_get2(w:X.A.units+1<IL)(B:PE X o td)(E:PE X e ty)(D:PE X f tx)(m:M2 X o "get" apos e f cpos):PE X (.Call (.Attribute o "get" apos) [e,f] [] cpos) (tGet2 X.K td ty tx):=by
 intro B' s σ H Q I h;refine wpAny_Call_method m.base m.few m.line PySem.F.plainAttrs_dict L8 PySem.F.type_dict_get (H9 (B B' s σ H _ I h) λu g A=>?_);obtain⟨x,H1,c,l,a,xs,ep,ex,G,r⟩:=A;subst ex;cases(show u=GP a from l);obtain⟨t1,t2⟩:=dic_ty c G;refine⟨t1,t2,?_⟩
 rw[m.trees];refine IV rfl (Jg (Ir (H9 (E B' g σ H1 _ c r) λv d ⟨y,H2,K,j,q⟩=>Ir (H9 (D B' d σ H2 _ K q) λF N ⟨z,L,Y,i,b,k,ey,J,C,t,p⟩=>Jz ?_))))
 subst ey;cases(show v=GP b from j);obtain⟨vs,n,hd,O,dd⟩:=dic_at Y J C;exact call_meetsIn L8 dd.typeIs PySem.F.entry_dict_get (PySem.F.args_dict_get_3 _ _ _) (meetsH_dict_get_default (tKind X.prog X.w) a b hd F) ⟨N0 w,k,vs,zq Y t,dd,_,L,Y.tok _,(vS n).getD i,p⟩
end
def keyD:A'->M ca
 |.tup ds=>pH ds|_=>stk
noncomputable def isDic:A'->Bool
 |.dic _=>d_|_=>b_
def FK:A'->A'->A'->M A'
 |.dic ks,I,x=>(keyD I).bind λk=>.ok ((DK ks k).getD x)|_,_,_=>stk
def yC(fd fk fx:ah->M A'):ah->M A':=λρ=>(fd ρ).bind λd=>if isDic d=d_ then(fk ρ).bind λk=>(fx ρ).bind λx=>FK d k x else stk
def keyD_err{d:A'}{e:Err}(h:keyD d=.error e):e=.stuck:=by
 cases d with
 |tup ds=>exact ti h|_=>cases h;rfl
def keyD_at{d:A'}{k:ca}(h:keyD d=.ok k)(q:aR K F d v):∃b,v=.ref b/\SqT K F b (k.map V.int):=by
 cases d with
 |tup ds=>obtain⟨b,xs,e,t,z⟩:=q;have:=tf z h;subst this;exact⟨b,e,t⟩
 |_=>cases h
section
variable{W:gf}{fd:ah->M A'}
theorem rd_getD(h:tD K W b_ (yC fd fk fx) σ H Q):tGet2 K (tD K W b_ fd) (tD K W b_ fk) (tD K W b_ fx) σ H Q:=by
 obtain⟨F,ρ,r,s,p⟩:=h;refine ba r s (λe i=>p.err (by unfold yC;rw[i];rfl)) λd hd x F1 H1 f B=>?_;have E:yC fd fk fx ρ=if isDic d=d_ then(fk ρ).bind λk=>(fx ρ).bind λx=>FK d k x else stk:=by unfold yC;rw[hd];rfl
 rw[E]at p;cases d with
 |dic ks=>
  have p:aH K W b_ F H ((fk ρ).bind λk=>(fx ρ).bind λx=>FK (.dic ks) k x) Q:=p;obtain⟨a,xs,e,⟨ep,n⟩,z⟩:=B;refine⟨a,xs,ep,e,f.fh _ _ n,?_⟩
  refine ba (r.mono f.ff) f.fh (λe i=>(p.step f).err (by rw[i];rfl)) λl C y F2 H2 j A=>?_;rw[C]at p;have p:aH K W b_ F H ((fx ρ).bind λx=>FK (.dic ks) l x) Q:=p;have I:=f.trans j;refine ba (r.mono I.ff) I.fh (λe i=>(p.step I).err (by rw[i];rfl)) λc D w o G Y u=>?_;rw[D]at p;have p:aH K W b_ F H ((keyD l).bind λk=>.ok ((DK ks k).getD c)) Q:=p;cases J:keyD l with
  |error e=>rw[J]at p;have:=keyD_err J;subst this;exact aH.stuck p|ok k=>
   rw[J]at p;obtain⟨b,rfl,t⟩:=keyD_at J A;have g:=I.trans Y;have m:=(z.mono j.ff).mono Y.ff;refine⟨b,k,rfl,Y.hh _ _ (j.hh _ _ (f.fh _ _ n)),m.key.mono Y.fh,Y.fh.tup (Y.ff.tup t),p _ o G g ?_⟩
   show aR K o _ _;rcases m.at (k:=k)with⟨e1,e2⟩|⟨d,v,e1,e2,q⟩
   .rw[e1,e2];exact u
   simp_all
 |_=>exact aH.stuck p
end
section
variable{W:gf}{o ek ex:HG}{x:i_}{fd:ah->M A'}
def de_newK:DE K W d_ X (.Dict [] [] pos) (fC (.dic [])):=zW.imp λσ H Q h=>by obtain⟨F,ρ,r,s,q⟩:=h;exact λa I=>q (.ref a) F _ (C6.grow s I) ⟨a,[],rfl,⟨0,aj⟩,s.free I,I,rfl⟩
theorem de_getD(e:X.A.units+64<IL)(J:DE K W b_ X o fd)(b:DE K W b_ X ek fk)(a:DE K W b_ X ex fx)(d: ~~~(X.K=K))(c: ~~~(HA o "get" X.env (GI o X.env)=GI o X.env))(hw: ~~~(((He cpos (h_ [ek,ex] X.env)).all (λx=> !x.1)&&(Ic cpos (Hs [] X.env)).all (λx=>x.1.isSome)&&o_ (([ek,ex]:List HG).length+([]:List Ie).length+(if ([]:List Ie).isEmpty then 0 else 1)<30))=d_))(Y: ~~~((apos.endLine==cpos.line)=d_))(I: ~~~(He cpos (h_ [ek,ex] X.env)=[(b_,GI ek X.env),(b_,GI ex X.env)])):DE K W b_ X (.Call (.Attribute o "get" apos) [ek,ex] [] cpos) (yC fd fk fx):=by subst d;exact(pe_get2 am J b a ⟨c,hw,Y,I⟩).imp λ_ _ _=>rd_getD
end
section
open PySem
variable[L3 κ]
end
section
open PySem
variable[L3 κ]
end
def G0{w:GW}(z:qj h l [] ep):(l==Jn)=b_/\h.DictOf (Nh P w) l []:=by obtain⟨vs,r,hd,a,Y,o,es,h1,h2,J,I⟩:=z;cases r;obtain⟨es⟩:=es;cases(show es=[]from I);exact⟨hd,o,_,ep,h1,h2,J,λi hi=>Gw hi a8,.nil,.nil⟩
section
open PySem.W hiding kindOf
variable{key:Nat->Int}
def Srt(key:Nat->Int)(l:cc):Prop:=l.Pairwise λx y=>key x<=key y
def vp(st I:Mz):Prop:=∃g,I=SortSt.mk' (kindOf st) (arrOf st) (JU st) g (failedOf st)
def vp.trans{a b c:Mz}(h:vp a b)(k:vp b c):vp a c:=by obtain⟨g,rfl⟩:=h;obtain⟨g',rfl⟩:=k;exact⟨g',rfl⟩
def vp.kind{a b:Mz}(h:vp a b):kindOf b=kindOf a:=by obtain⟨g,rfl⟩:=h;rfl
end
section
open PySem.W hiding kindOf
variable{κ:NO}{f:Nat->Keyed}
structure SS(κ:NO)(f:Nat->Keyed)(n:Nat)(st:Mz)(p:cc):Prop where
 kind:kindOf st=κ
 ok:failedOf st=c_
 arr:arrOf st=(p.map f).toArray
 perm:p.Perm (HF n)
end
section
open PySem.W hiding kindOf
variable{key:Nat->Int}
noncomputable def kG(key:Nat->Int)(p:cc)(i:Nat):Int:=key (p.getD i 0)
def Sg(key:Nat->Int)(p:cc)(lo hi:Nat):Prop:=∀i j,lo<=i->i<=j->j<hi->kG key p i<=kG key p j
def Dg(key:Nat->Int)(p:cc)(lo hi:Nat):Prop:=∀i j,lo<=i->i<=j->j<hi->kG key p j<=kG key p i
def Fx(lo:Nat)(p I:cc):Prop:=∀i,i<lo->I.getD i 0=p.getD i 0
theorem Fx.trans{lo:Nat}{p q r:cc}(h:Fx lo p q)(k:Fx lo q r):Fx lo p r:=λi hi=>(k i hi).trans (h i hi)
theorem Sg.step{p:cc}{m:Nat}(h:Sg key p lo (lo+m))(h1:1<=m)(b:¬kG key p (lo+m)<kG key p (lo+m-1)):Sg key p lo (lo+(m+1)):=λi j hi J c=>by
 by_cases I:j<lo+m
 .exact h i j hi J I
 .have a:j=lo+m:=am
  subst a;by_cases Y:i=lo+m
  .simp_all
  .have:=h i (lo+m-1) hi am am;lia
theorem Dg.step{p:cc}{m:Nat}(h:Dg key p lo (lo+m))(h1:1<=m)(b:kG key p (lo+m)<=kG key p (lo+m-1)):Dg key p lo (lo+(m+1)):=λi j hi J c=>by
 by_cases I:j<lo+m
 .exact h i j hi J I
 .have a:j=lo+m:=am
  subst a;by_cases Y:i=lo+m
  .simp_all
  .have:=h i (lo+m-1) hi am am;lia
end
section
open PySem.W hiding kindOf
variable{w:GW}{κ:NO}{f:Nat->Keyed}{key:Nat->Int}
noncomputable def mkP:Nat->List (cc×Nat)->List (Nat×Nat×Nat)
 |_,[]=>[]|a,(l,w)::r=>(a,l.length,w)::mkP (a+l.length) r
noncomputable def flt(I:List (cc×Nat)):cc:=(I.map Prod.fst).flatten
def flt_cons(g:cc×Nat)(y:List (cc×Nat)):flt (g::y)=g.1++flt y:=by rfl
theorem A8:∀(x:List (cc×Nat)) (a:Nat) (y:List (cc×Nat)),mkP a (x++y)=mkP a x++mkP (a+(flt x).length) y
 |[],a,y=>by rfl|(l,w)::x,a,y=>by
  show(a,l.length,w)::mkP (a+l.length) (x++y)=(a,l.length,w)::(mkP (a+l.length) x++_)
  rw[A8 x,flt_cons,Gx,Oy]
theorem A7:∀(x:List (cc×Nat)) (a:Nat),(mkP a x).length=x.length
 |[],_=>rfl|(l,w)::x,a=>by simp[mkP,A7 x]
structure RI(κ:NO)(f:Nat->Keyed)(key:Nat->Int)(n:Nat)(st:Mz)(gs:List (cc×Nat))(rest:cc):Prop where
 ss:SS κ f n st (flt gs++rest)
 pd:JU st=(mkP 0 gs).toArray
 ok:∀g∈gs,Srt key g.1/\0<g.1.length
theorem RI.size{st:Mz}{I:List (cc×Nat)}{rest:cc}(h:RI κ f key n st I rest):(JU st).size=I.length:=by rw[h.pd];simp[A7]
noncomputable def rePw(I:Nat):Nat×Nat×Nat->Nat×Nat×Nat
 |(s,l,_)=>(s,l,I)
theorem RI.last{st:Mz}{Y:List (cc×Nat)}{rest:cc}{a:Nat}(h:RI κ f key n st Y rest):∃J,J.length=Y.length/\flt J=flt Y/\RI κ f key n (setPending st ((JU st).modify ((JU st).size-1) (rePw a))) J rest:=by
 by_cases e:Y=[]
 .subst e;refine⟨[],rfl,rfl,⟨h.ss.kind,h.ss.ok,h.ss.arr,h.ss.perm⟩,?_,h.ok⟩
  show(JU st).modify ((JU st).size-1) (rePw a)=_;rw[h.pd];rfl
 .obtain⟨I,b,o⟩:∃I b,Y=I++[b]:=⟨Y.dropLast,Y.getLast e,(List.dropLast_concat_getLast e).symm⟩
  subst o;obtain⟨b,k⟩:=b;have j:flt (I++[(b,a)])=flt (I++[(b,k)]):=by simp[flt]
  refine⟨I++[(b,a)],a8,j,⟨h.ss.kind,h.ss.ok,?_,?_⟩,?_,λg m=>?_⟩
  .rw[j];exact h.ss.arr
  .rw[j];exact h.ss.perm
  .show(JU st).modify ((JU st).size-1) (rePw a)=_;rw[h.size,h.pd,A8,A8];have l:=A7 I 0;apply Array.ext_getElem?;intro i;rw[Array.getElem?_modify];simp only[Gx,MA,Nat.add_sub_cancel,MB,mkP];by_cases c:I.length=i
   .subst c;rw[g_ rfl,<- l,Ji (z_ _),Ji (z_ _),Nat.sub_self];rfl
   .rw[k_ c];rcases Nat.lt_or_ge i I.length with d|d
    .rw[IC am,IC am]
    .rw[JI (by simp;lia),JI (by simp;lia)]
  .rcases GO.mp m with e|e
   .exact h.ok g (KI _ e)
   .have:=GK.mp e;subst this;exact h.ok (b,k) a8
end
section
open PySem.W hiding kindOf
end
section
open PySem SetTable
end
section
open PySem
end
section
open PySem SetTable
end
section
open PySem.W
end
section
open PySem
variable{μ:Type}[L3 κ][L3 μ]
end
section
open PySem
end
section
open PySem.W
end
section
open PySem PySem.W
end
mutual
noncomputable def sA:A'->Bool
 |.tup ds=>sx ds|.lst ds=>sx ds|.ins _ _=>b_|.dic _=>b_|.dil _=>b_|_=>d_
noncomputable def sx:List A'->Bool
 |[]=>d_|d::ds=>sA d&&sx ds
end
mutual
theorem aR.plain{K:Pn}{F F':Hp}(s:∀a xs,SqT K F a xs->SqT K F' a xs)(t:∀a xs,SqL K F a xs->SqL K F' a xs):∀{d:A'} {v:V},sA d=d_->aR K F d v->aR K F' d v
 |.non,_,_,h=>h|.bl _,_,_,h=>h|.int _,_,_,h=>h|.str _,_,_,h=>h|.tup ds,_,f,⟨a,xs,e,q,r⟩=>⟨a,xs,e,s _ _ q,az.plain s t (by simpa[sA] using f) r⟩|.lst ds,_,f,⟨a,xs,e,q,r⟩=>⟨a,xs,e,t _ _ q,az.plain s t (by simpa[sA] using f) r⟩|.ins _ _,_,f,_=>by simp_all[sA]|.dic _,_,f,_=>by simp_all[sA]|.dil _,_,f,_=>by simp_all[sA]
theorem az.plain{K:Pn}{F F':Hp}(s:∀a xs,SqT K F a xs->SqT K F' a xs)(t:∀a xs,SqL K F a xs->SqL K F' a xs):∀{ds:List A'} {xs:b'},sx ds=d_->az K F ds xs->az K F' ds xs
 |[],_,_,h=>h|d::ds,_,f,⟨v,vs,e,q,r⟩=>by simp only[sx,l_]at f;exact⟨v,vs,e,aR.plain s t f.1 q,az.plain s t f.2 r⟩
end
section
open PySem PySem.W
end
structure B7 where
 f:f_
 c:m_
 A:IY
 o:List LP
 s:u_
 H:Hp
 E:XK
section
variable{w:GW}{base:Hq}{x q:i_}{g:ah->M Gp}
def YO(_:∃f fd,Def K mg x st ps f fd)(P:HP)(w:GW)(base:Hq)(k:Nat)(ro:Bool)(m:List A'->M A'):Prop:=∃f fd,Yd P w K mg base CX0 k x st ps (spF K ro m ps.length) f fd
def YX(_:∃f fd,Def K mg x st ps f fd)(P:HP)(w:GW)(base:Hq)(k:Nat)(ro:Bool)(m:List A'->M A'):Prop:=∃f fd,Yd P w K mg base (CXd P w) k x st ps (spX K ro m ps.length) f fd
def YM(_:∃f fd,Mth K C x q st ps f fd)(P:HP)(w:GW)(mg:Ld)(base:Hq)(k:Nat)(ro:Bool)(m:List A'->M A'):Prop:=∃f fd,Mth K C x q st ps f fd/\iZ P w K mg base CX0 k f fd ps (spF K ro m ps.length)
def fY(N:bv){h:∃f fd,Def K mg x st ps f fd}(J:∀z:B7,N.Nodup->jr k (z.A.deeper (IS x (aA st) z.s.heap.objs.size z.f z.c))->DSs K Hh ro (x4 CX0 P w K mg base N x (aA st) z.f z.c z.A z.o z.s z.H z.E).nox [] [] [] (bT st) g)(S:autoParam (gB N ps (aA st)) Jq9):YO h P w base (k+1) ro (cn N.length ps.length g):=
 let ⟨f,fd,D⟩:=h
 ⟨f,fd,D,fn_D D.fn S ro g λc A o s H E I=>J ⟨f,c,A,o,s,H,E⟩ S.nd I⟩
def fX(N:bv){h:∃f fd,Def K mg x st ps f fd}(J:∀z:B7,N.Nodup->jr k (z.A.deeper (IS x (aA st) z.s.heap.objs.size z.f z.c))->DSs K (WE K z.E) ro (x4 (CXd P w) P w K mg base N x (aA st) z.f z.c z.A z.o z.s z.H z.E) [] [] [] (bT st) g)(S:autoParam (gB N ps (aA st)) Jq9):YX h P w base (k+1) ro (cn N.length ps.length g):=
 let ⟨f,fd,D⟩:=h
 ⟨f,fd,D,fn_X D.fn S ro g λc A o s H E I=>J ⟨f,c,A,o,s,H,E⟩ S.nd I⟩
def fM(N:bv){h:∃f fd,Mth K C x q st ps f fd}(J:∀z:B7,N.Nodup->jr k (z.A.deeper (IS q (aA st) z.s.heap.objs.size z.f z.c))->DSs K Hh ro (x4 CX0 P w K mg base N q (aA st) z.f z.c z.A z.o z.s z.H z.E).nox [] [] [] (bT st) g)(S:autoParam (gB N ps (aA st)) Jq9):YM h P w mg base (k+1) ro (cn N.length ps.length g):=
 let ⟨f,fd,D⟩:=h
 ⟨f,fd,D,fn_D D.fn S ro g λc A o s H E I=>J ⟨f,c,A,o,s,H,E⟩ S.nd I⟩
end
section
variable{W:gf}{a b d:HG}{x:i_}{f:ah->M A'}{fr:ah->M (List A')}
def dY{g:ah->M Gp}(Y:∃f fd,Yd X.prog X.w X.K X.mg X.base CX0 k x st ps (spF K ro (cn nN n g) n) f fd)(b:jr j X.A)(h:DA K Hh X (e::es) fr)(c:(k<=j)⁻¹)(d: ~~~(Gl X x))(a:((x==("__debug__":i_))=b_)⁻¹)(I: ~~~(h_ (e::es) X.env=(b_,GI e X.env)::h_ es X.env))(J: ~~~((He pos (h_ es X.env)).any (·.1)=b_)):
  DE K Hh ro X (.Call (.Name x p) (e::es) [] pos) (fL (cn nN n g) fr):=let ⟨_,_,Y⟩:=Y;de_call Y.o (b.mono c) Y.d.mg Y.d.fn.kp Y.d.bd h d a I J
def da1(J:DE K W b_ X a fa)(I: ~~~(h_ [a] X.env=[(b_,GI a X.env)])):DA K W X [a] (a9 fa aB):=cS J km I
def da2(c:DE K W b_ X a fa)(Y:DE K W b_ X b fb)(J: ~~~(h_ [a,b] X.env=[(b_,GI a X.env),(b_,GI b X.env)]))(I: ~~~(h_ [b] X.env=[(b_,GI b X.env)])):DA K W X [a,b] (a9 fa (a9 fb aB)):=cS c (da1 Y I) (by rw[J,I])
def da3{f1 I:ah->M A'}(h1:DE K W b_ X e1 f1)(h2:DE K W b_ X e2 I)(b:DE K W b_ X e3 f3)(a: ~~~(h_ [e1,e2,e3] X.env=(b_,GI e1 X.env)::h_ [e2,e3] X.env))(Y: ~~~(h_ [e2,e3] X.env=(b_,GI e2 X.env)::h_ [e3] X.env))(J: ~~~(h_ [e3] X.env=(b_,GI e3 X.env)::h_ [] X.env)):DA K W X [e1,e2,e3] (a9 f1 (a9 I (a9 f3 aB))):=(cS h1 (cS h2 (cS b km J) Y) a)
def da4{f1 I:ah->M A'}(h1:DE K W b_ X e1 f1)(h2:DE K W b_ X e2 I)(d:DE K W b_ X e3 f3)(c:DE K W b_ X e4 f4)(b: ~~~(h_ [e1,e2,e3,e4] X.env=(b_,GI e1 X.env)::h_ [e2,e3,e4] X.env))(a: ~~~(h_ [e2,e3,e4] X.env=(b_,GI e2 X.env)::h_ [e3,e4] X.env))(Y: ~~~(h_ [e3,e4] X.env=(b_,GI e3 X.env)::h_ [e4] X.env))(J: ~~~(h_ [e4] X.env=(b_,GI e4 X.env)::h_ [] X.env)):DA K W X [e1,e2,e3,e4] (a9 f1 (a9 I (a9 f3 (a9 f4 aB)))):=(cS h1 (cS h2 (cS d (cS c km J) Y) a) b)
def da5{f1 I:ah->M A'}(h1:DE K W b_ X e1 f1)(h2:DE K W b_ X e2 I)(f:DE K W b_ X e3 f3)(e:DE K W b_ X e4 f4)(d:DE K W b_ X e5 f5)(c: ~~~(h_ [e1,e2,e3,e4,e5] X.env=(b_,GI e1 X.env)::h_ [e2,e3,e4,e5] X.env))(b: ~~~(h_ [e2,e3,e4,e5] X.env=(b_,GI e2 X.env)::h_ [e3,e4,e5] X.env))(a: ~~~(h_ [e3,e4,e5] X.env=(b_,GI e3 X.env)::h_ [e4,e5] X.env))(Y: ~~~(h_ [e4,e5] X.env=(b_,GI e4 X.env)::h_ [e5] X.env))(J: ~~~(h_ [e5] X.env=(b_,GI e5 X.env)::h_ [] X.env)):DA K W X [e1,e2,e3,e4,e5] (a9 f1 (a9 I (a9 f3 (a9 f4 (a9 f5 aB))))):=(cS h1 (cS h2 (cS f (cS e (cS d km J) Y) a) b) c)
def da6{I:HG}{f1 Y J:ah->M A'}(h1:DE K W b_ X e1 f1)(h2:DE K W b_ X e2 Y)(j:DE K W b_ X e3 f3)(i:DE K W b_ X e4 f4)(h:DE K W b_ X e5 f5)(g:DE K W b_ X I J)(f: ~~~(h_ [e1,e2,e3,e4,e5,I] X.env=(b_,GI e1 X.env)::h_ [e2,e3,e4,e5,I] X.env))(e: ~~~(h_ [e2,e3,e4,e5,I] X.env=(b_,GI e2 X.env)::h_ [e3,e4,e5,I] X.env))(d: ~~~(h_ [e3,e4,e5,I] X.env=(b_,GI e3 X.env)::h_ [e4,e5,I] X.env))(c: ~~~(h_ [e4,e5,I] X.env=(b_,GI e4 X.env)::h_ [e5,I] X.env))(b: ~~~(h_ [e5,I] X.env=(b_,GI e5 X.env)::h_ [I] X.env))(a: ~~~(h_ [I] X.env=(b_,GI I X.env)::h_ [] X.env)):DA K W X [e1,e2,e3,e4,e5,I] (a9 f1 (a9 Y (a9 f3 (a9 f4 (a9 f5 (a9 J aB)))))):=(cS h1 (cS h2 (cS j (cS i (cS h (cS g km a) b) c) d) e) f)
def hI(b:X.N.Nodup)(a:DE K W b_ X e f)(hi: ~~~(X.N[i]?=a_ x))(I:autoParam (Loc X.env.scope x) Jq6)(J: ~~~(II e (a_ (.Name x pos')) pos.line X.env=Ig b_))(Y:autoParam (X.fn x=d_\/X.env.scope.names.lookup x=a_ .local) Jq3):
  DS K W ro X OL O (aft b_ i O) (.Assign [.Name x pos'] e pos) (bE O i f):=jU b a hi I J Y
def ds_sT(b:X.N.Nodup)(a:DE K W d_ X e f)(hi: ~~~(X.N[i]?=a_ x))(I:autoParam (Loc X.env.scope x) Jq6)(J: ~~~(II e (a_ (.Name x pos')) pos.line X.env=Ig b_))(Y:autoParam (X.fn x=d_\/X.env.scope.names.lookup x=a_ .local) Jq3):
  DS K W ro X OL O (aft d_ i O) (.Assign [.Name x pos'] e pos) (bE O i f):=jU b a hi I J Y
end
section
variable{x q:i_}{kV:m_}
def dF(J:K.In h)(G:h.Ns GY mg)(a:autoParam (Nj K GY x=a_ (a_ (.ref f))) Jq2)(l:autoParam (K.lookup f=a_ ⟨oc,od,.func (Lk x x (fW st) (bT st) (aA st) .none kV doc pm an cdv ct),osl⟩) Jq2)(c:autoParam (LW K cdv x=d_) Jq2)(k:autoParam (Ja K (.ref f)=d_) Jq2)(I:autoParam (∀(kV doc pm:m_) (an:Option f_) (cdv ct:m_) (us:ce),us.length=ps.length->K6 (Lk x x (fW st) (bT st) (aA st) .none kV doc pm an cdv ct) ⟨us,[]⟩=Ig (ps.zip us)) Jq12):∃f fd,Def K mg x st ps f fd:=⟨_,_,def_of J G a l c k I⟩
def mF(a:autoParam (GG K (.ref C) x=a_ (a_ (.ref f))) Jq2)(i:autoParam (isFn K (.ref f)=d_) Jq2)(l:autoParam (K.lookup f=a_ ⟨oc,od,.func (Lk x q (fW st) (bT st) (aA st) .none kV doc pm an cdv ct),osl⟩) Jq2)(c:autoParam (LW K cdv q=d_) Jq2)(k:autoParam (Ja K (.ref f)=d_) Jq2)(I:autoParam (∀(kV doc pm:m_) (an:Option f_) (cdv ct:m_) (us:ce),us.length=ps.length->K6 (Lk x q (fW st) (bT st) (aA st) .none kV doc pm an cdv ct) ⟨us,[]⟩=Ig (ps.zip us)) Jq12):∃f fd,Mth K C x q st ps f fd:=⟨_,_,mth_of a i l c k I⟩
def kF(e:K.In h)(G:h.Ns GY mg)(a:autoParam (Nj K GY x=a_ (a_ (.ref C))) Jq2)(Y:autoParam (LF K C Ip=d_) Jq2)(hd:autoParam (LV K C=d_) Jq2)(J:autoParam (M_ K C=d_) Jq2)(I:autoParam (GG K (.ref C) "__setattr__"=a_ (a_ (.builtin "object.__setattr__"))) Jq2)(mk:autoParam (Nk K C=d_) Jq2)(b:autoParam (Ja K (.ref C)=d_) Jq2)(c1:autoParam (GG K (.ref C) "__class__"=a_ (a_ (.builtin "object.__class__"))) Jq2)(c2:autoParam (Lg K (.builtin "object.__class__") "__get__"=a_ (a_ (.builtin "getset_descriptor.__get__"))) Jq2)(d:autoParam (Oj K (.builtin "object.__class__")=a_ d_) Jq2)(c:autoParam (HY K C (.type "object")=a_ d_) Jq2):Kls K mg x C:=kls_of e G a Y hd J I mk b c1 c2 d c
def xF(c:K.In h)(G:h.Ns GY mg)(a:autoParam (Nj K GY x=a_ (a_ (.ref C))) Jq2)(i:autoParam (GG K (.ref C) "__init__"=a_ (a_ (.ref f))) Jq2)(ex:autoParam (qH K C [.type "ValueError",.type "Exception",.type "BaseException",.type "object"] "ValueError.__new__" f=d_) Jq7)(Y:autoParam (GG K (.ref C) "__getattribute__"=a_ (a_ (.builtin "BaseException.__getattribute__"))) Jq2)(b:autoParam (GG K (.ref C) "__class__"=a_ (a_ (.builtin "object.__class__"))) Jq2)(J:autoParam (GG K (.ref C) "__getattr__"=a_ c_) Jq2)(bs:autoParam (HY K C (.type "BaseException")=a_ d_) Jq2)(I:autoParam (HY K C (.type "object")=a_ d_) Jq2)(is:autoParam ((Ml K C).isSome=d_) Jq7):XTry K mg x C:=
 ⟨mg_of c G a,xnamed2 ex,⟨Y,b,J,bs,I,IF.mp is⟩⟩
def xM(Y:K.In h)(G:h.Ns GY mg)(N:∃f fd,Mth K C "__init__" q st ps f fd)(a:autoParam (Nj K GY x=a_ (a_ (.ref C))) Jq2)(i:autoParam (GG K (.ref C) "__init__"=a_ (a_ (.ref f))) Jq2)(ex:autoParam (qH K C [.type "ValueError",.type "Exception",.type "BaseException",.type "object"] "ValueError.__new__" f=d_) Jq7)(J:autoParam (isFn K (.ref f)=d_) Jq2)(I:autoParam (Ja K (.ref C)=d_) Jq2):∃f fd,Mth K C "__init__" q st ps f fd/\XMk K mg x C f:=by obtain⟨b,fd,M⟩:=N;have e:=M.mt.1.symm.trans i;cases e;exact⟨_,fd,M,mg_of Y G a,ex,Jm.mp J,I⟩
def lF(Y:K.In h)(G:h.Ns GY mg)(a:autoParam (Nj K GY x=a_ (a_ (.ref f))) Jq2)(l:autoParam (K.lookup f=a_ ⟨oc,od,.func (Lk x x (fW st) (bT st) (aA st) .none kV doc pm an cdv ct),osl⟩) Jq2)(c:autoParam (LW K cdv x=d_) Jq2)(k:autoParam (Ja K (.ref f)=d_) Jq2)(I:autoParam (∀(kV doc pm:m_) (an:Option f_) (cdv ct:m_) (v:m_),K6 (Lk x x (fW st) (bT st) (aA st) .none kV doc pm an cdv ct) ⟨[v],[]⟩=Ig [(y,v)]) Jq13):∃f fd,Def K mg x st [y] f fd/\∀(s:u_) (v:m_),Lh s fd ⟨[v],[]⟩ [(y,v)]:=
 ⟨_,_,def_of Y G a l c k λ_ _ _ _ _ _ us J=>match us,J with|[_],_=>I ..,λ_ _=>.of_eq (I ..)⟩
theorem Fun.uniq{fd':Iq}(a:Fun K x q st f fd)(b:Fun K x q st f fd'):fd=fd':=by obtain⟨oc,od,kV,doc,pm,an,cdv,ct,osl,rfl,k,_⟩:=a.ex;obtain⟨e,d,h,J,c,j,Y,i,I,rfl,g,_⟩:=b.ex;lia
def rS(N:∃f fd,Mth K C x q st ps f fd)(a:autoParam (GG K (.ref C) x=a_ (a_ (.ref f))) Jq2)(b:autoParam (Lg K (.ref C) "__getattribute__"=a_ (a_ (.builtin "type.__getattribute__"))) Jq7)(Y:autoParam (M9 K C mc=d_) Jq7)(J:autoParam (Na K (.ref C) mc x=a_ (.val (.ref f))) Jq7)(I:autoParam (Ja K (.ref f)=d_) Jq2):∃f fd,Mth K C x q st ps f fd/\Stat K C mc x f:=by obtain⟨c,fd,M⟩:=N;have e:=M.mt.1.symm.trans a;cases e;exact⟨_,fd,M,b,Y,J,I⟩
end
def k8:List A'->M bv
 |[]=>.ok []|.str x::ds=>(k8 ds).bind λr=>.ok (x::r)|_::_=>stk
@[simp]def e_strs0:k8 []=.ok []:=id rfl
@[simp]def e_strs1(x:i_)(ds:List A'):k8 (.str x::ds)=(k8 ds).bind λr=>.ok (x::r):=id rfl
noncomputable def isS:A'->Bool
 |.str _=>d_|_=>b_
def t7:A'->A'->M A'
 |.str I,.lst ds=>(k8 ds).bind λxs=>if (xs.map (·.length)).sum+xs.length*I.length<=j_ then .ok (.str (Gz I xs))else stk
 |_,_=>stk
@[simp]def e_joinD(I:i_)(ds:List A'):t7 (.str I) (.lst ds)=(k8 ds).bind λxs=>if (xs.map (·.length)).sum+xs.length*I.length<=j_ then .ok (.str (Gz I xs))else stk:=id rfl
def fSM(g:A'->A'->M A')(fo fe:ah->M A'):ah->M A':=λρ=>(fo ρ).bind λa=>if isS a=d_ then(fe ρ).bind λb=>g a b else stk
@[simp]def e_fSM(g:A'->A'->M A')(fo fe:ah->M A')(ρ:ah):fSM g fo fe ρ=(fo ρ).bind λa=>if isS a=d_ then(fe ρ).bind λb=>g a b else stk:=id rfl
@[simp]def e_isS(x:i_):isS (.str x)=d_:=id rfl
def rSM(K:Pn)(W:gf)(own:Bool)(g:A'->A'->M A'):V->b'->Hp->VK->Prop:=λx vs H Q=>∃F z b y,aS F H/\x=.str z/\vs=[y]/\aR K F b y/\aH K W own F H (g (.str z) b) Q
theorem uY{M:LI}{A:IY}{E:Mq}{Q R:i_->u_->Prop}:∀{ps:List (Oq m_)} {I:i_} {s:u_},Joins M A E ps I Q s->(∀z s,Q z s->R z s)->Joins M A E ps I R s
 |[],I,s,h,k=>k _ _ h|x::ps,I,s,h,k=>HC h (λv J ⟨y,t,e,l,q⟩=>⟨y,t,e,l,uY q k⟩) λ_ _ z=>z
section
variable{W:gf}{own:Bool}{o:HG}{id:String}
def wN(t:MtR X id (rSM X.K W own g))(c:Slot "str" name id)(j:typeOf (.builtin id)=Ig (.type "method_descriptor"))(q:DE K W b_ X o fo)(f:DE K W b_ X e fe)(w: ~~~(X.K=K))(Y: ~~~(HA o name X.env (GI o X.env)=GI o X.env))(d: ~~~(((He cpos (h_ [e] X.env)).all (λx=> !x.1)&&(Ic cpos (Hs [] X.env)).all (λx=>x.1.isSome)&&o_ ([e].length+([]:List Ie).length+(if ([]:List Ie).isEmpty then 0 else 1)<30))=d_))(J: ~~~((apos.endLine==cpos.line)=d_))(l: ~~~(h_ [e] X.env=(b_,GI e X.env)::h_ [] X.env))(I: ~~~((He cpos (h_ [] X.env)).any (·.1)=b_)):
  DE K W own X (.Call (.Attribute o name apos) [e] [] cpos) (fSM g fo fe):=by
 subst w;refine PE.imp (pC LZ c j t q (au f aQ (by rw[l])) Y d J l I) λσ H Q h=>?_;obtain⟨F,ρ,r,s,p⟩:=h;refine ba r s (λe f=>p.err (by unfold fSM;rw[f];rfl)) λa v x F1 H1 i n=>?_;have A:fSM g fo fe ρ=if isS a=d_ then(fe ρ).bind λb=>g a b else stk:=by unfold fSM;rw[v];rfl
 rw[A]at p;have p:=p.step i;cases a with
 |str z=>
  have p:aH X.K W own F1 H1 ((fe ρ).bind λb=>g (.str z) b) Q:=p;cases(show x=V.str z from n);refine⟨rfl,?_⟩
  refine ba (r.mono i.ff) i.fh (λe f=>p.err (by rw[f];rfl)) λb u y F2 H2 k m=>?_;rw[u]at p;exact⟨F2,z,b,y,k.fh,rfl,rfl,m,p.step k⟩
 |_=>exact aH.stuck p
theorem rP{F:Hp}:∀{ds:List A'} {xs:b'} {I:bv},az K F ds xs->k8 ds=.ok I->xs=I.map V.str
 |[],_,_,q,e=>by cases e;exact q|d::ds,_,I,⟨v,vs,e1,q,r⟩,e=>by
  cases d with
  |str z=>
   cases e2:k8 ds with
   |error x=>simp_all[k8]|ok r2=>rw[k8,e2]at e;cases e;rw[e1,rP r e2,show v=.str z from q];rfl
  |_=>cases e
theorem rQ:∀{ds:List A'} {e:Err},k8 ds=.error e->e=.stuck
 |[],_,h=>by cases h|d::ds,e,h=>by
  cases d with
  |str z=>
   cases e2:k8 ds with
   |error x=>rw[k8,e2]at h;cases h;exact rQ e2|ok r2=>simp_all[k8]
  |_=>cases h;rfl
theorem rN:∀{I:bv} {us:ce},Gr (I.map V.str) us->∃l:List (i_×Tok),us=Jp l/\l.map (·.1)=I
 |[],_,.nil=>⟨[],rfl,rfl⟩|x::I,_,.cons r rs=>by
  obtain⟨t,rfl⟩:=(show ∃t,_=Ij x t from r)
  obtain⟨l,rfl,e⟩:=rN rs;exact⟨(x,t)::l,rfl,bt⟩
theorem pG:MtR X "str.join" (rSM X.K W own t7):=by
 intro B' s σ H x vs v us Q I g i h;obtain⟨F,J,b,y,f,rfl,rfl,k,p⟩:=h;obtain⟨u,rfl,j⟩:=i.one;obtain⟨t,rfl⟩:=(show ∃t,v=Ij J t from g)
 cases b with
 |lst ds=>
  obtain⟨l,xs,rfl,q,z⟩:=k;cases j;cases e1:k8 ds with
  |error e=>rw[t7,e1]at p;rw[rQ e1]at p;exact aH.stuck p|ok c=>
   rw[t7,e1]at p;have p:aH X.K W own F H (if (c.map (·.length)).sum+c.length*J.length<=j_ then .ok (.str (Gz J c))else stk) Q:=p;have m:=rP z e1;subst m;obtain⟨G',r,pl,n⟩:=I.list (f.lst q);obtain⟨L,rfl,rfl⟩:=rN r;by_cases d:((L.map (·.1)).map (·.length)).sum+(L.map (·.1)).length*J.length<=j_
   .rw[g_ d]at p;have Y:=p.str f;refine Kh HZ (Kg _ _ _) PySem.F.entry_str_join (PySem.F.args_str_join_2 _ _) (meets_str_join_list J t l L (by rw[StrLaws.joinTotal];exact v_ (L1.mpr d))) ⟨pl.isList,?_⟩;have a:(Builtin.Str.glued J (L.map (·.1))).length<=j_:=by
     rw[size_glued];have:=Nat.mul_le_mul_right J.length (Nat.sub_le (L.map (·.1)).length 1);lia
    have e:=L6 J (L.map (·.1))
    match L,Y,a,e with
    |[],Y,a,e=>exact⟨a,.str _,H,I.tok _,⟨_,rfl⟩,by rw[e];exact Y⟩|[p],Y,_,_=>exact⟨.str _,H,I,⟨_,rfl⟩,Y⟩|p1::p2::L,Y,a,e=>exact⟨a,.str _,H,I.tok _,⟨_,rfl⟩,by rw[e];exact Y⟩
   .rw[k_ d]at p;exact aH.stuck p
 |_=>exact aH.stuck p
noncomputable def aL(i:Int):i_:=toString i
def ud:List A'->M A'
 |[.int i]=>if i.natAbs.log2<1920 then .ok (.str (aL i))else stk
 |_=>stk
@[simp] theorem e_strD(i:Int):ud [.int i]=if i.natAbs.log2<1920 then .ok (.str (aL i))else stk:=id rfl
def qe:uL K W own X (.type "str") ud:=yR.imp λxs H Q h=>by
 obtain⟨F,d,x,s,e,q,p⟩:=pD (λds=>by match ds with|[d]=>exact .inl ⟨d,rfl⟩|[]=>exact .inr rfl|a::b::c=>exact .inr (by cases a<;>rfl)) h;cases d with
 |int i=>
  have p:aH K W own F H (if i.natAbs.log2<1920 then .ok (.str (aL i))else stk) Q:=p;by_cases I:i.natAbs.log2<1920
  .rw[g_ I]at p;exact⟨i,by rw[e,show x=.int i from q],I,p.str s⟩
  .rw[k_ I]at p;exact aH.stuck p
 |_=>exact aH.stuck p
def ixSD:A'->A'->M A'
 |.str z,.int i=>if z.length<=j_ then(match atI z.cps.toList i with
  |some c=>.ok (.str ⟨#[c]⟩)|none=>stk)else stk
 |_,_=>stk
def x_ixS:IxR X (rD2 K W own ixSD):=ix_str.imp λx y H Q h=>by
 obtain⟨F,a,b,s,d,Y,p⟩:=h;cases a with
 |str z=>cases b with
  |int i=>
   have p:aH K W own F H (if z.length<=j_ then(match atI z.cps.toList i with
    |some c=>.ok (.str ⟨#[c]⟩)|none=>stk)else stk) Q:=p
   by_cases I:z.length<=j_
   .rw[g_ I]at p;cases J:atI z.cps.toList i with
    |none=>rw[J]at p;exact aH.stuck p|some c=>rw[J]at p;exact⟨z,i,c,d,Y,I,J,p.str s⟩
   .rw[k_ I]at p;exact aH.stuck p
  |_=>exact aH.stuck p
 |_=>exact aH.stuck p
def pN:A'->M A'
 |.int i=>if i.natAbs.log2<1920 then .ok (.str (aL i))else stk
 |.str z=>if z.length<=j_ then .ok (.str z)else stk
 |_=>stk
@[simp] theorem e_fmtI(i:Int):pN (.int i)=if i.natAbs.log2<1920 then .ok (.str (aL i))else stk:=id rfl
@[simp] theorem e_fmtS(z:i_):pN (.str z)=if z.length<=j_ then .ok (.str z)else stk:=id rfl
def tT(Y:DE K W b_ X e fe):DE K W own X (.FormattedValue e (-1) c_ pos) (f1 pN fe):=by
 intro B' s σ H Q I h;obtain⟨F,ρ,r,j,p⟩:=h;refine wpAny_FormattedValue_plain (H9 (Y B' s σ H (λv H1=>∃a F1,fe ρ=.ok a/\C6 F H F1 H1/\aR K F1 a v) I (ba r j (λe Y=>p.err (by show(fe ρ).bind pN=_;rw[Y];rfl)) λa b v F1 H1 d k=>⟨a,F1,b,d,k⟩)) λv d l=>?_);obtain⟨x,H1,c,f,a,F1,b,st,q⟩:=l;have p:aH K W own F H (pN a) Q:=by have p:aH K W own F H ((fe ρ).bind pN) Q:=p;rw[b]at p;exact p
 have p:=p.step st;cases a with
 |int i=>
  have p:aH K W own F1 H1 (if i.natAbs.log2<1920 then .ok (.str (aL i))else stk) Q:=p;cases(show x=V.int i from q);obtain⟨t,rfl⟩:=(show ∃t,v=Kj i t from f)
  by_cases J:i.natAbs.log2<1920
  .rw[g_ J]at p;exact wpAny_formatField_int J ⟨.str (aL i),H1,(c.tok _).tok _,⟨_,rfl⟩,p.str st.fh⟩
  .rw[k_ J]at p;exact aH.stuck p
 |str z=>
  have p:aH K W own F1 H1 (if z.length<=j_ then .ok (.str z)else stk) Q:=p;cases(show x=V.str z from q);obtain⟨t,rfl⟩:=(show ∃t,v=Ij z t from f)
  by_cases J:z.length<=j_
  .rw[g_ J]at p;have g:=p.str st.fh;exact wpAny_formatField_str ⟨.str z,H1,c,⟨_,rfl⟩,g⟩ ⟨.str z,H1,c.tok _,⟨_,rfl⟩,g⟩ J
  .rw[k_ J]at p;exact aH.stuck p
 |_=>exact aH.stuck p
def qV(fs:List (ah->M A'))(ρ:ah):i_->M i_:=match fs with
 |[]=>λI=>.ok I|f::fs=>λI=>(f ρ).bind λd=>match d with
  |.str z=>if (I++z).length<=j_ then qV fs ρ (I++z)else stk
  |_=>stk
def fJ(fs:List (ah->M A')):ah->M A':=λρ=>(qV fs ρ Ip).bind λz=>.ok (.str z)
def tJ(K:Pn)(W:gf)(fs:List (ah->M A'))(I:i_)(σ:St)(H:Hp)(Q:i_->Hp->Prop):Prop:=∃F ρ,hR K F σ ρ/\aS F H/\(match qV fs ρ I with
 |.ok z=>∀F' H',C6 F H F' H'->Q z H'|.error e=>W.p e F H)
def DJ(K:Pn)(W:gf)(X:Cx)(es:List HG)(fs:List (ah->M A')):Prop:=∀(B':Vp) (s:u_) (σ:St) (H:Hp) (I:i_) (Q:i_->Hp->Prop),I.length<=j_->Cv X B' σ H s->tJ K W fs I σ H Q ->
 Joins (GD X.prog X.w) X.A X.xe (NI es X.env) I (λout J=>out.length<=j_/\∃H1,Cv X B' σ H1 J/\Q out H1) s
def FY(Y: ~~~(NI [] X.env=[])):DJ K W X [] []:=λB' s σ H b Q a I ⟨F,ρ,r,J,p⟩=>by rw[Y];exact⟨a,H,I,p F H (C6.refl J)⟩
def iw{fs:List (ah->M A')}(c:DE K W b_ X e fe)(k:DJ K W X es fs)(j: ~~~(NI (e::es) X.env=GI e X.env::NI es X.env)):DJ K W X (e::es) (fe::fs):=λB' s σ H J Q f I ⟨F,ρ,r,g,p⟩=>by
 rw[j];have p:(match (fe ρ).bind (λd=>match d with
  |.str z=>if (J++z).length<=j_ then qV fs ρ (J++z)else stk
  |_=>stk)with
  |.ok z=>∀F' H',C6 F H F' H'->Q z H'|.error e=>W.p e F H):=p
 refine H9 (c B' s σ H (λv H1=>∃a F1,fe ρ=.ok a/\C6 F H F1 H1/\aR K F1 a v) I (ba r g (λe c=>by rw[c]at p;exact p) λa f v F1 H1 b i=>⟨a,F1,f,b,i⟩)) λv b l=>?_;obtain⟨x,H1,n,h,a,F1,m,st,q⟩:=l;rw[m]at p;cases a with
 |str z=>
  cases(show x=V.str z from q);obtain⟨t,rfl⟩:=(show ∃t,v=Ij z t from h)
  have p:(match (if (J++z).length<=j_ then qV fs ρ (J++z)else stk)with
   |.ok z=>∀F' H',C6 F H F' H'->Q z H'|.error e=>W.p e F H):=p
  by_cases Y:(J++z).length<=j_
  .rw[g_ Y]at p;refine⟨z,t,rfl,Y,k B' b σ H1 (J++z) Q Y n ⟨F1,ρ,r.mono st.ff,st.fh,?_⟩⟩
   cases e1:qV fs ρ (J++z)with
   |ok y=>rw[e1]at p;exact λF' H' s'=>p F' H' (st.trans s')|error e=>rw[e1]at p;exact W.mono p st
  .rw[k_ Y]at p;exact(W.ns p).elim
 |_=>exact(W.ns p).elim
def Ar{fs:List (ah->M A')}(h:DJ K W X (e1::e2::es) fs):DE K W own X (.JoinedStr (e1::e2::es) pos) (fJ fs):=by
 intro B' s σ H Q I ⟨F,ρ,r,J,p⟩;have p:aH K W own F H ((qV fs ρ Ip).bind λz=>.ok (.str z)) Q:=p;refine wpAny_JoinedStr ?_;refine uY (h B' s σ H Ip (λz H1=>Q (.str z) H1) a' I ⟨F,ρ,r,J,?_⟩) λout b ⟨Y,H1,a,q⟩=>⟨Y,.str out,H1,a.tok _,⟨_,rfl⟩,q⟩
 cases e1:qV fs ρ Ip with
 |ok z=>rw[e1]at p;exact λF' H' s'=>(p.step s').str s'.fh|error e=>rw[e1]at p;exact p
end
def newS(C:f_)(g:List A'->M A'):List A'->M A'
 |[.lst b,I,.lst a,.lst Y,.lst J]=>(g [.lst b,I,.lst a,.lst Y,.lst J]).bind λt=>match t with
  |.str z=>.ok (.ins C [("kinds",.lst b),("rules",I),("names",.lst a),("flights",.lst Y),("closed",.lst J),("text",.str z)])|_=>stk
 |_=>stk
def spIS(K:Pn)(C:f_)(g:List A'->M A'):Sp:=λvs H Q _=>∃(p dx s r q n:f_) (b:V) (a Y J I:b') (F:Hp) (m l k j:List A') (i:A') (z:i_),
 vs=[.ref p,.ref s,b,.ref r,.ref q,.ref n]/\H p=a_ (.ins C dx [])/\F p=c_/\aS F H/\(SqL K F s a/\az K F m a)/\aR K F i b/\(SqL K F r Y/\az K F l Y)/\(SqL K F q J/\az K F k J)/\(SqL K F n I/\az K F j I) /\
 g [.lst m,i,.lst l,.lst k,.lst j]=.ok (.str z)/\∀(h f e d:f_) (H':Hp),(∀c o,H c=a_ o->c≠p->H' c=a_ o)->H h=c_->H f=c_->H e=c_->H d=c_->H' h=a_ (.lst a)->H' f=a_ (.lst Y)->H' e=a_ (.lst J)->H' d=a_ (.lst I) ->
  H' p=a_ (.ins C dx [("kinds",.ref h),("rules",b),("names",.ref f),("flights",.ref e),("closed",.ref d),("text",.str z)])->Q .non H'
theorem C6.own(s:C6 F H F1 H1)(J:H l=c_)(h1:H1 l=a_ o):C6 F H (upd F1 l o) H1 where
 ff:=λb u e=>by
  by_cases I:b=l
  .subst I;rw[aj,<- h1,s.fh _ _ (s.ff _ _ e)]
  .rw[ao I];exact s.ff _ _ e
 hh:=s.hh
 fh:=λb u e=>by
  by_cases I:b=l
  .simp_all[aj]
  .rw[ao I]at e;exact s.fh _ _ e
 nw:=λb u e=>by
  by_cases I:b=l
  .subst I;exact .inr J
  .rw[ao I]at e;exact s.nw _ _ e
def C6.sI(s:C6 F H F1 H1)(h1:H1 l=a_ o):aS F1 (upd F1 l o):=λb u e=>by
 by_cases I:b=l
 .subst I;rw[aj,<- h1,s.fh _ _ e]
 .rw[ao I];exact e
theorem born_S{x d b a Y:f_}{p:V}{k j i g:b'}{w v u s:List A'}{r:A'}{t:i_}(A:aS F H1)(P:H1 x=c_)(Q:H1 dx=c_)(S:az K F w k)(H:aR K F r p)(c1:az K F v j)(c2:az K F u i)(R:az K F s g)(k0:∀c o,upd (upd H1 dx (.own x)) x (.ins C dx []) c=a_ o->c≠x->H' c=a_ o)(O:upd (upd H1 dx (.own x)) x (.ins C dx []) d=c_)(N:upd (upd H1 dx (.own x)) x (.ins C dx []) b=c_)(n2:upd (upd H1 dx (.own x)) x (.ins C dx []) a=c_)(L:upd (upd H1 dx (.own x)) x (.ins C dx []) Y=c_)(k1:H' d=a_ (.lst k))(k2:H' b=a_ (.lst j))(k3:H' a=a_ (.lst i))(m:H' Y=a_ (.lst g))(k5:H' x=a_ (.ins C dx [("kinds",.ref d),("rules",p),("names",.ref b),("flights",.ref a),("closed",.ref Y),("text",.str t)])):
  ∃G,C6 F H1 G H'/\aR K G (.ins C [("kinds",.lst w),("rules",r),("names",.lst v),("flights",.lst u),("closed",.lst s),("text",.str t)]) (.ref x):=by
 have I:∀{c:f_},upd (upd H1 dx (.own x)) x (.ins C dx []) c=c_->H1 c=c_:=λ{c} h=>by grind[ao]
 have g1:aS H1 H':=λc o e=>by grind[ao]
 have T:C6 F H1 F H':=⟨aS.refl _,g1,A.trans g1,λ_ _ h=>.inl h⟩
 have z:=T.own (I O) k1;have q:=z.own (I N) k2;have n:=q.own (I n2) k3;have y:=n.own (I L) m;have f:=y.own P k5;have J:∀{l:f_} {o:HO},upd (upd (upd (upd F d (.lst k)) b (.lst j)) a (.lst i)) Y (.lst g) l=a_ o->upd (upd (upd (upd (upd F d (.lst k)) b (.lst j)) a (.lst i)) Y (.lst g)) x (.ins C dx [("kinds",.ref d),("rules",p),("names",.ref b),("flights",.ref a),("closed",.ref Y),("text",.str t)]) l=a_ o:=λ{l o} h=>y.sI k5 l o h;have E:=J (n.sI m _ _ (q.sI k3 _ _ (z.sI k2 d _ aj)));have D:=J (n.sI m _ _ (q.sI k3 b _ aj));have r2:=J (n.sI m a _ aj);have B:=J (l:=Y) aj;exact⟨_,f,x,dx,_,rfl,aj,_,_,rfl,⟨d,k,rfl,SqL.of E,az.mono f.ff S⟩,_,_,rfl,aR.mono f.ff H,_,_,rfl,⟨b,j,rfl,SqL.of D,az.mono f.ff c1⟩,_,_,rfl,⟨a,i,rfl,SqL.of r2,az.mono f.ff c2⟩,_,_,rfl,⟨Y,g,rfl,SqL.of B,az.mono f.ff R⟩,_,_,rfl,rfl,rfl⟩
section
variable{e0:HG}{x:i_}{fr:ah->M (List A')}
theorem Ao{g:List A'->M A'}(u:Mk X.K C fI)(FI:iZ X.prog X.w X.K X.mg X.base CX0 k fI fdI ps (spIS K C g))(hr:jr (k+1) X.A)(hm:X.mg x=a_ (.ref C))(hb:Binds X.K fdI ps [])(ha:DA K Hh X [e0,e1,e2,e3,e4] fr)(hg: ~~~(Gl X x))(n:((x==("__debug__":i_))=b_)⁻¹)(l: ~~~(h_ [e0,e1,e2,e3,e4] X.env=(b_,GI e0 X.env)::h_ [e1,e2,e3,e4] X.env))(m: ~~~((He pos (h_ [e1,e2,e3,e4] X.env)).any (·.1)=b_)):
  DE K Hh b_ X (.Call (.Name x p) [e0,e1,e2,e3,e4] [] pos) (fL (newS C g) fr):=by
 refine PE.imp (vW u FI hr hg hm hb .nil qQ ha n l m) λσ H Q h=>?_;obtain⟨F,ρ,r,s,p⟩:=rd_L h;refine⟨F,ρ,r,s,?_⟩
 cases e1:fr ρ with
 |error z=>simp_all|ok ds=>
  rw[e1]at p;intro vs F1 H1 st q;obtain⟨F2,es1,J,N,z⟩:=p vs F1 H1 st q;unfold newS at z;split at z
  .rename_i i a f d b;obtain⟨_,_,rfl,⟨b0,E,rfl,Z,y⟩,L,_,rfl,v,_,_,rfl,⟨b1,D,rfl,W,c1⟩,_,_,rfl,⟨b2,B,rfl,U,c2⟩,_,_,rfl,⟨b3,A,rfl,T,w⟩,hn⟩:=N;cases hn;have z:aH K Hh b_ F2 H1 ((g [.lst i,a,.lst f,.lst d,.lst b]).bind λt=>match t with
    |.str z=>.ok (.ins C [("kinds",.lst i),("rules",a),("names",.lst f),("flights",.lst d),("closed",.lst b),("text",.str z)])|_=>stk) Q:=z
   cases I:g [.lst i,a,.lst f,.lst d,.lst b]with
   |error e=>rw[I]at z;exact Hi z|ok t=>
    rw[I]at z;cases t with
    |str t=>
     intro x dx j Y hne;refine⟨x,dx,b0,b1,b2,b3,L,E,D,B,A,F2,i,f,d,b,a,t,rfl,aj,J.free j,λc o e=>?_,⟨Z,y⟩,v,⟨W,c1⟩,⟨U,c2⟩,⟨T,w⟩,I,?_⟩
     .have hc:c≠x:=λh=>by rw[h,J.free j]at e;cases e
      have hd:c≠dx:=λh=>by rw[h,J.free Y]at e;cases e
      rw[ao hc,ao hd];exact J _ _ e
     .intro m0 m1 m2 m3 H' k0 R P n2 O k1 k2 k3 k4 k5;obtain⟨G,S,q⟩:=born_S J j Y y v c1 c2 w k0 R P n2 O k1 k2 k3 k4 k5;exact⟨rfl,z (.ref x) G H' S q⟩
    |_=>exact aH.stuck z
  .exact aH.stuck z
end
def RLst(K:Pn):b'->Hp->VK->Prop:=λxs H Q=>∃p ys,xs=[.ref p]/\(SqL K H p ys\/SqT K H p ys)/\∀l,H l=c_->Q (.ref l) (upd H l (.lst ys))
theorem mn(f:i_)(v:V):∀fs:List (i_×V),f∉fs.map (·.1)->su f v fs=fs++[(f,v)]
 |[],_=>rfl|(g,x)::r,h=>by have h1:¬g=f:=λe=>h (by grind);have h2:f∉r.map (·.1):=λe=>h bt;show(if g=f then _ else _)=_;rw[k_ h1,mn f v r h2];rfl
structure Cu(F H Hc:Hp)(p C dx:f_)(fs:List (i_×V)):Prop where
 f0:F p=c_
 sf:aS F Hc
 kp:∀c o,H c=a_ o->c≠p->Hc c=a_ o
 ob:Hc p=a_ (.ins C dx fs)
section
variable{p:f_}{fs:List (i_×V)}{f:i_}{D:Ends}
def Cu.put(c:Cu F H Hc p C dx fs)(f:i_)(v:V):Cu F H (upd Hc p (.ins C dx (fs++[(f,v)]))) p C dx (fs++[(f,v)]) where
 f0:=c.f0
 sf:=λb u e=>by
  have:b≠p:=λz=>by rw[z,c.f0]at e;cases e
  rw[ao this];exact c.sf _ _ e
 kp:=λb o e I=>by rw[ao I];exact c.kp b o e I
 ob:=aj
theorem Cu.lay(c:Cu F H Hc p C dx fs)(I:Hc l=c_):Cu F H (upd Hc l o) p C dx fs where
 f0:=c.f0
 sf:=λb u e=>by
  have:b≠l:=λz=>by rw[z,c.sf.free I]at e;cases e
  rw[ao this];exact c.sf _ _ e
 kp:=λb u e J=>by have h1:=c.kp b u e J;grind[ao]
 ob:=by
  have:p≠l:=λz=>by have h:=c.ob;simp_all
  rw[ao this];exact c.ob
theorem Cu.new(c:Cu F H Hc p C dx fs)(I:Hc l=c_):H l=c_:=by
 cases h:H l with
 |none=>rfl|some o=>
  have:l≠p:=λz=>by have h:=c.ob;simp_all
  rw[c.kp l o h this]at I;lia
theorem Cu.list(c:Cu F H Hc p C dx fs)(r:Cls K C)(d:bp K C f)(g:f∉fs.map (·.1))(k:fs.length<1000)(n:σ[0]?=a_ (a_ (.ref p))){y:b'}(hi:σ[i]?=a_ (a_ (.ref b)))(q:SqL K F b y)(I:∀l Y,H l=c_->Cu F H Y p C dx (fs++[(f,.ref l)])->Y l=a_ (.lst y)->(∀m o,Hc m=a_ o->m≠p->Y m=a_ o)->D.nx σ Y):xk K (bB 0) (tCB (RLst K) (aP (bB i) fw)) f D σ Hc:=by
 refine⟨.ref b,hi,b,y,rfl,.inl (c.sf.lst q),λl J=>⟨.ref p,n,p,C,dx,fs,rfl,(c.lay J).ob,r,d,k,?_⟩⟩
 rw[mn f _ fs g];have a:l≠p:=λz=>by have h:=c.ob;simp_all
 refine I l _ (c.new J) ((c.lay J).put f (.ref l)) (by rw[ao a,aj]) λm o e j=>?_
 have:m≠l:=λz=>by rw[z,J]at e;cases e
 rw[ao j,ao this];exact e
end
theorem rs_initS{g:List A'->M A'}{vs:b'}(b:Cls K C)(Y:∀y∈(["kinds","rules","names","flights","closed","text"]:bv),bp K C y)(h:spIS K C g vs H Q E):
  j5 (xk K (bB 0) (tCB (RLst K) (aP (bB 1) fw)) "kinds") (j5 (xk K (bB 0) (bB 2) "rules") (j5 (xk K (bB 0) (tCB (RLst K) (aP (bB 3) fw)) "names") (j5 (xk K (bB 0) (tCB (RLst K) (aP (bB 4) fw)) "flights")
   (j5 (xk K (bB 0) (tCB (RLst K) (aP (bB 5) fw)) "closed") (xk K (bB 0) (gG (spF K b_ g 5) [] E' (aP (bB 1) (aP (bB 2) (aP (bB 3) (aP (bB 4) (aP (bB 5) fw)))))) "text")))))
   {nx:=λ_ H'=>Q .non H',rt:=Q} (start ["self","kinds","rules","names","flights","closed"] vs) H:=by
 obtain⟨p,dx,N,L,G,D,J,T,S,R,P,F,d0,d1,d2,d3,dr,z,rfl,Z,hF,U,⟨s,c0⟩,W,⟨r,c1⟩,⟨n,c2⟩,⟨k,c3⟩,X,q⟩:=h;have C0:Cu F H H p C dx []:=⟨hF,U,λ_ _ e _=>e,Z⟩
 refine C0.list b (Y _ a8) a8 a' rfl rfl s λf H1 a O a0 k1=>?_;refine⟨J,rfl,.ref p,rfl,p,C,dx,_,rfl,O.ob,b,Y _ a8,a8,?_⟩
 rw[mn _ J _ (by show("rules":i_)∉(["kinds"]:bv);decide +kernel)];have C2:=O.put "rules" J;have e0:∀{l:f_},H l=c_->l≠p:=λ{l} h z=>by simp_all
 have k2:∀m o,H1 m=a_ o->m≠p->upd H1 p (.ins C dx ((([]:List (i_×V))++[(("kinds":i_),V.ref f)])++[(("rules":i_),J)])) m=a_ o:=λm o e i=>by rw[ao i];exact e
 refine C2.list b (Y _ a8) (by show("names":i_)∉(["kinds","rules"]:bv);decide +kernel) a8 rfl rfl r λx H3 d C3 a1 k3=>?_;refine C3.list b (Y _ a8) (by show("flights":i_)∉(["kinds","rules","names"]:bv);decide +kernel) a8 rfl rfl n λw H4 n2 C4 a2 A=>?_;refine C4.list b (Y _ a8) (by show("closed":i_)∉(["kinds","rules","names","flights"]:bv);decide +kernel) a8 rfl rfl k λu H5 t j a3 k5=>?_;refine⟨.ref N,rfl,J,rfl,.ref L,rfl,.ref G,rfl,.ref D,rfl,F,[.lst d0,dr,.lst d1,.lst d2,.lst d3],j.sf,⟨_,_,rfl,⟨N,T,rfl,s,c0⟩,_,_,rfl,W,_,_,rfl,⟨L,S,rfl,r,c1⟩,_,_,rfl,⟨G,R,rfl,n,c2⟩,_,_,rfl,⟨D,P,rfl,k,c3⟩,rfl⟩,rfl,?_⟩
 rw[X];intro v F' H' st hv;cases(show v=.str z from hv);refine⟨.ref p,rfl,p,C,dx,_,rfl,st.hh _ _ j.ob,b,Y _ a8,a8,?_⟩
 rw[mn _ _ _ (by show("text":i_)∉(["kinds","rules","names","flights","closed"]:bv);decide +kernel)];have I:∀m o,H5 m=a_ o->m≠p->upd H' p (.ins C dx (((((([]:List (i_×V))++[(("kinds":i_),V.ref f)])++[(("rules":i_),J)])++[(("names":i_),V.ref x)])++[(("flights":i_),V.ref w)])++[(("closed":i_),V.ref u)]++[(("text":i_),V.str z)])) m=a_ o:=λm o e i=>by rw[ao i];exact st.hh _ _ e
 exact q f x w u _ (λc o e B=>I c o (j.kp c o e B) B) a d n2 t (I _ _ (k5 _ _ (A _ _ (k3 _ _ (k2 _ _ a0 (e0 a)) (e0 a)) (e0 a)) (e0 a)) (e0 a)) (I _ _ (k5 _ _ (A _ _ a1 (e0 d)) (e0 d)) (e0 d)) (I _ _ (k5 _ _ a2 (e0 n2)) (e0 n2)) (I _ _ a3 (e0 t)) aj
structure Lent(K:Pn)(H0 G H:Hp)(hh:f_)(bs:List f_)(ys:List b')(ds:List (List A')):Prop where
 sg:aS G H
 s0:aS H0 H
 top:H hh=a_ (.lst (bs.map .ref))
 gh:G hh=c_
 h0:H0 hh=c_
 nt:hh∉bs
 own:∀(j:Nat) (b:f_),bs[j]?=a_ b->G b=c_/\H0 b=c_/\∃y d,ys[j]?=a_ y/\ds[j]?=a_ d/\H b=a_ (.lst y)/\az K G d y
section
variable{hh:f_}{bs:List f_}{ys:List (List V)}{ds:List (List A')}
theorem Lent.step{I:Hp}(l:Lent K H0 G H hh bs ys ds)(s:C6 G H I H'):Lent K H0 I H' hh bs ys ds where
 sg:=s.fh
 s0:=l.s0.trans s.hh
 top:=s.hh _ _ l.top
 gh:=by
  cases e:I hh with
  |none=>rfl|some o=>
   rcases s.nw _ _ e with z|z
   .rw[l.gh]at z;cases z
   .rw[l.top]at z;cases z
 h0:=l.h0
 nt:=l.nt
 own:=λj b e=>by
  obtain⟨h1,h2,y,d,c,a,Y,J⟩:=l.own j b e;refine⟨?_,h2,y,d,c,a,s.hh _ _ Y,az.mono s.ff J⟩
  cases e:I b with
  |none=>rfl|some o=>
   rcases s.nw _ _ e with z|z
   .simp_all
   simp_all
open Classical in
end
theorem hR.hide(r:hR K F σ ρ)(i:Nat)(v:Option V):hR K F (σ.set i v) (ρ.set i c_):=
 ⟨by rw[GB,GB,r.len],λj d e=>by
  by_cases I:i=j
  .subst I;by_cases hi:i<ρ.length
   .rw[x_ hi]at e;cases e
   .rw[JI (by rw[GB];lia)]at e;cases e
  .rw[p_ I]at e;obtain⟨v,h1,h2⟩:=r.sl j d e;simp_all⟩
theorem hR.tell(r:hR K F σ ρ){d:A'}(e:σ[i]?=a_ (a_ v))(q:aR K F d v):hR K F σ (ρ.set i (a_ d)):=
 ⟨by rw[GB,r.len],λj d' I=>by
  by_cases J:i=j
  .subst J;by_cases hi:i<ρ.length
   .rw[x_ hi]at I;cases I;exact⟨v,e,q⟩
   .rw[JI (by rw[GB];lia)]at I;cases I
  .rw[p_ J]at I;exact r.sl j d' I⟩
noncomputable def unF:HO->HO
 |.frz _ u=>u|o=>o
open Classical in
def Rep.ofE(r:hR K F σ ρ)(st:C6 F0 H0 F H)(fb:aS FB F):Rep K F0 H0 FB [] F H σ ρ:=
 ⟨st,fb,r.len,λi d e _=>r.sl i d e,(λ_ _ _ h=>nomatch h),(λ_ _ _ _ _ h=>nomatch h)⟩
def uO:A'->A'->M A'
 |.str x,.str y=>if (o_ (y.length=1)&&o_ (x.length+2<=j_))=d_ then .ok (.lst ((IE x y).map .str))else stk
 |_,_=>stk
@[simp]def e_splitD(x y:i_):uO (.str x) (.str y)=if (o_ (y.length=1)&&o_ (x.length+2<=j_))=d_ then .ok (.lst ((IE x y).map .str))else stk:=id rfl
def oY:A'->A'->M A'
 |.str x,.str y=>.ok (.bl (Hx x y))|_,_=>stk
@[simp]def e_startsD(x y:i_):oY (.str x) (.str y)=.ok (.bl (Hx x y)):=id rfl
noncomputable def AY:A'->M (List A')
 |.str x=>.ok (x.cps.toList.map λc=>.str ⟨#[c]⟩)|_=>.error .stuck
def fItS(fa:ah->M A'):ah->M (List A'):=λρ=>(fa ρ).bind AY
@[simp]def e_fItS(fa:ah->M A')(ρ:ah):fItS fa ρ=(fa ρ).bind AY:=id rfl
@[simp]def e_signsD(x:i_):AY (.str x)=.ok (x.cps.toList.map λc=>.str ⟨#[c]⟩):=id rfl
def DH:A'->A'->M A'
 |.str a,.str b=>.ok (.bl (!(GU b a 0 b.length 1).isEmpty))|_,_=>stk
def A3:A'->A'->M A'
 |.str a,.str b=>.ok (.bl (!(!(GU b a 0 b.length 1).isEmpty)))|_,_=>stk
@[simp]def e_inSD(c:Nat)(b:i_):DH (.str ⟨#[c]⟩) (.str b)=.ok (.bl (o_ (c∈b.cps.toList))):=by show Hb (A'.bl (!(GU b ⟨#[c]⟩ 0 b.length 1).isEmpty))=_;rw[MG]
@[simp]def e_notInSD(c:Nat)(b:i_):A3 (.str ⟨#[c]⟩) (.str b)=.ok (.bl (!decide (c∈b.cps.toList))):=by show Hb (A'.bl (!(!(GU b ⟨#[c]⟩ 0 b.length 1).isEmpty)))=_;rw[MG]
def intSD:List A'->M A'
 |[.str x]=>if x.length<=640 then(match Jd x with
  |some n=>.ok (.int n)|none=>stk)else stk
 |_=>stk
@[simp]def e_intSD(x:i_):intSD [.str x]=if x.length<=640 then(match Jd x with
  |some n=>.ok (.int n)|none=>stk)else stk:=id rfl
def CY:List A'->M A'
 |[.str z]=>if z.length<=j_ then .ok (.int z.length)else stk
 |_=>stk
@[simp]def e_lenSD(z:i_):CY [.str z]=if z.length<=j_ then .ok (.int z.length)else stk:=id rfl
noncomputable def Its(x:i_):It:=⟨λi _=>i<x.cps.size,λi H v H'=>H'=H/\∃c,x.cps[i]?=a_ c/\v=.str ⟨#[c]⟩,λi _=>i=x.cps.size⟩
def turn_str{w:GW}{nm:String}(l:nm="str_ascii_iterator"\/nm="str_iterator")(x:i_)(t:Tok)(it:f_):Turn P w K tg (Its x) [it] it (λi h=>h.IsStrIter it nm x t i):=by
 have W:∀A:IY,A.handled=c_->Walks P w A it [it] [it] x.cps.size (SignAt x) (λi h=>h.IsStrIter it nm x t i):=λA y=>by
  rcases l with rfl|rfl
  .exact Walks.strAscii y it x t
  .exact Walks.strWide y it x t
 have B:["enumerate","zip","dict_itemiterator","dict_reverseitemiterator","odict_iterator","itertools.zip_longest","itertools.pairwise"].contains nm=b_:=by rcases l with rfl|rfl<;>decide
 refine⟨a8,λi h st b J=>?_,λi h h' st k=>?_,?_,?_,λA i s Q E st h=>?_⟩
 .obtain rfl:b=it:=by simpa using J
  obtain⟨o,e,c,d⟩:=st;exact⟨o,e,λv z=>by rw[d]at z;cases z⟩
 .obtain⟨o,e,r⟩:=st;exact⟨o,k it a8 o e,r⟩
 .intro X n hw p m i B' s σ H E I f st a;subst n hw p;obtain⟨q,f1,_,f3,f4,f5⟩:=f it a8;refine(W X.A (I.ok.hd m)).item i s _ _ a st λv h' g D Y j=>?_;obtain⟨c,u,C,F⟩:=D;have L:Cv X B' σ H {s with heap:=h',toks:=g}:=I.turned (λb o J e=>j b o (by simpa using J) e) q f1 f3 f4 f5;obtain⟨o,e,G,d⟩:=id Y;exact⟨v,rfl,go_of (s:={s with heap:=h',toks:=g}) e G d B ⟨.str ⟨#[c]⟩,H,L,⟨u,F⟩,⟨rfl,c,C,rfl⟩,Y,λb J=>(f b J).1⟩⟩
 .intro X n hw p m i B' s σ H E I f st a;subst n hw p;obtain⟨q,f1,_,f3,f4,f5⟩:=f it a8;have a:i=x.cps.size:=a;subst a;exact(W X.A (I.ok.hd m)).done s _ _ st λh' g j=>⟨rfl,I.turned (λb o J e=>j b o (by simpa using J) e) q f1 f3 f4 f5⟩
 .rcases l with rfl|rfl
  .exact wpAny_pyIter_striter_ascii st h
  .exact wpAny_pyIter_striter_wide st h
theorem iter_str(x:i_):za K F (Its x) (x.cps.toList.map λc=>.str ⟨#[c]⟩) where
 go:=λi F' H' _ _ hi=>by show i<x.cps.size;simp_all
 yl:=λi F' H' v H2 d b J hd Y=>by
  obtain⟨rfl,c,a,rfl⟩:=Y;have I:x.cps.toList[i]?=a_ c:=by simpa using a
  rw[HQ,I]at hd;cases hd;exact⟨F',C6.refl J,rfl⟩
 st:=λF' H' _ _=>by show _=_;simp
section
variable{W:gf}{own:Bool}{x:i_}
def di_str(l:DE K W b_ X e fa)(u: ~~~(X.K=K)):DI K W X tg e (fItS fa):=by
 subst u;intro B' s σ H R I ⟨F,ρ,r,g,p⟩;have p:(match (fa ρ).bind AY with
  |.ok ds=>∀J F1 H1,C6 F H F1 H1->za X.K F1 J ds->R J H1|.error e=>W.p e F H):=p
 refine H9 (l B' s σ H (λv H1=>∃a F1,fa ρ=.ok a/\C6 F H F1 H1/\aR X.K F1 a v) I (ba r g (λe m=>by rw[m]at p;exact p) λa d v F1 H1 Y i=>⟨a,F1,d,Y,i⟩)) λv Y j=>?_;obtain⟨y,H1,f,h,a,F1,w,st,q⟩:=j;rw[w]at p;cases a with
 |str z=>
  cases(show y=V.str z from q);obtain⟨t,rfl⟩:=(show ∃t,v=Ij z t from h)
  have c:∀nm,(nm="str_ascii_iterator"\/nm="str_iterator")->PIE X B' σ tg R (.ref Y.z) {Y with heap:=Y.heap.push {cls:=.type nm,data:=.fields #[.str z t,.int 0 0]}}:=λnm k=>by
   refine⟨Y.z,[Y.z],_,_,H1,rfl,f.kept (t':=Y.toks) λb o e=>r_ _ e,turn_str k z t _,⟨_,GC _ rfl,rfl,rfl⟩,λb n=>?_,p (Its z) F1 H1 st (iter_str z)⟩
   obtain rfl:b=Y.z:=by simpa using n
   exact f.fpOk (z_ _) (f.hok.fresh (z_ _))
  cases d:z.cps.all (·<128)
  .exact wpAny_pyIter_wide d (c _ (.inr rfl))
  .exact wpAny_pyIter_ascii d (c _ (.inl rfl))
 |_=>exact(W.ns p).elim
theorem Bk:MtR X "str.split" (rSM X.K W d_ uO):=by
 intro B' s σ H x vs v us Q I r w h;obtain⟨F,z,b,y,j,rfl,rfl,B,p⟩:=h;obtain⟨u,rfl,A⟩:=w.one;obtain⟨t,rfl⟩:=(show ∃t,v=Ij z t from r)
 cases b with
 |str J=>
  cases(show y=V.str J from B);obtain⟨t2,rfl⟩:=(show ∃t,u=Ij J t from A)
  have p:aH X.K W d_ F H (if (o_ (J.length=1)&&o_ (z.length+2<=j_))=d_ then .ok (.lst ((IE z J).map .str))else stk) Q:=p;by_cases e:(o_ (J.length=1)&&o_ (z.length+2<=j_))=d_
  .rw[g_ e]at p;rw[l_,GH,GH]at e;have G:=split_le z J;have i:∀l:bv,az X.K F (l.map .str) (l.map V.str):=λl=>by
    induction l with
    |nil=>rfl|cons a l f=>exact⟨.str a,_,rfl,rfl,f⟩
   have vs:∀l:List (i_×Tok),Gr ((l.map (·.1)).map V.str) (Jp l):=λl=>by
    induction l with
    |nil=>exact .nil|cons a l f=>exact .cons ⟨a.2,rfl⟩ f
   have c:∀(l:List (i_×Tok)) (k:Nat),l.map (·.1)=IE z J->EP X B' σ Q (.ref s.z) {s with toks:=k,heap:=s.heap.push {cls:=.type "list",data:=.seq (Jp l).toArray}}:=λl k D=>by
    have d:((IE z J).map V.str).length<=j_:=by rw[w_];lia
    refine⟨.ref s.z,_,I.laid (t':=k) (o:=.lst ((IE z J).map V.str)) (λ_ _ q=>r_ _ q) (z_ _) ⟨d,Jp l,0,by rw[<- D];exact vs l,GC _ rfl⟩,rfl,?_⟩
    have Y:=I.hok.fresh (z_ s.z);exact p (.ref s.z) F _ (C6.grow j Y) ⟨_,_,rfl,aj,j.free Y,Y,i _⟩
   have n:(J.length==0)=b_:=by rw[e.1];rfl
   have C:(Ll z (GU z J 0 z.length (z.length+1)) J.length).length<=j_:=by have:=StrLaws.occ_length_le z J 0 z.length (z.length+1);rw[length_partsBetween];lia
   have g:∀{S:PySem.Spec},Meets (Builtin.«str.split» ⟨[.str z t,.str J t2],[]⟩) S->S X.A (wants (EP X B' σ Q) X.xe) s->D_ (GD X.prog X.w) X.A (JR (.builtin "str.split") [.str z t,.str J t2]) (EP X B' σ Q) X.xe s:=λm E=>Kh Kl (Kg _ _ _) PySem.F.entry_str_split (PySem.F.args_str_split_2 _ _) m E;cases h1:(o_ (z.length<J.length)||o_ (LQ z<LQ J))
   .cases Y:(GU z J 0 z.length (z.length+1)).isEmpty
    .refine g (meets_str_split_sep z J t t2 h1 n Y am C) ?_;show wants _ _ _ {s with toks:=_,heap:=s.heap.push {cls:=.type "list",data:=.seq (strsFrom s.toks (Ll z (GU z J 0 z.length (z.length+1)) J.length)).toArray}};rw[strsFrom_eq];exact c (numbered s.toks _) _ ((numbered_texts _ _).trans ((k_ (by rw[h1];decide)).trans (k_ bt)).symm)
    .exact g (meets_str_split_not_found z J t t2 h1 n Y) (c [(z,t)] s.toks ((k_ (by rw[h1];decide)).trans (g_ Y)).symm)
   .exact g (meets_str_split_cannot_occur z J t t2 h1) (c [(z,t)] s.toks (g_ h1).symm)
  .rw[k_ e]at p;exact aH.stuck p
 |_=>exact aH.stuck p
def Fg:MtR X "str.startswith" (rSM X.K W own oY):=by
 intro B' s σ H x vs v us Q I a c h;obtain⟨F,z,b,y,Y,rfl,rfl,e,p⟩:=h;obtain⟨u,rfl,d⟩:=c.one;obtain⟨t,rfl⟩:=(show ∃t,v=Ij z t from a)
 cases b with
 |str J=>
  cases(show y=V.str J from e);obtain⟨t2,rfl⟩:=(show ∃t,u=Ij J t from d)
  have p:aH X.K W own F H (.ok (.bl (Hx z J))) Q:=p;exact call_gives Lm (Kg _ _ _) PySem.F.entry_str_startswith (PySem.F.args_str_startswith_2 _ _) (gives_str_startswith z J t t2) ⟨.bl _,H,I,rfl,p (.bl _) F H (C6.refl Y) (by cases own<;>rfl)⟩
 |_=>exact aH.stuck p
def o_inS:Op2 K W own X (GL .In) DH:=OpR.imp EX λx y H Q ⟨F,a,b,s,J,I,p⟩=>by
 cases a with
 |str i=>cases b with
  |str j=>have p:aH K W own F H (.ok (.bl (!(GU j i 0 j.length 1).isEmpty))) Q:=p;exact⟨i,j,J,I,p (.bl _) F H (C6.refl s) (by cases own<;>rfl)⟩
  |_=>exact aH.stuck p
 |_=>exact aH.stuck p
def o_notInS:Op2 K W own X (GL .NotIn) A3:=OpR.imp yg λx y H Q ⟨F,a,b,s,J,I,p⟩=>by
 cases a with
 |str i=>cases b with
  |str j=>have p:aH K W own F H (.ok (.bl (!(!(GU j i 0 j.length 1).isEmpty)))) Q:=p;exact⟨i,j,J,I,p (.bl _) F H (C6.refl s) (by cases own<;>rfl)⟩
  |_=>exact aH.stuck p
 |_=>exact aH.stuck p
def Gh:uL K W own X (.builtin "len") CY:=yS.imp λxs H Q h=>by
 obtain⟨F,d,x,s,e,q,p⟩:=pD (λds=>by match ds with|[d]=>exact .inl ⟨d,rfl⟩|[]=>exact .inr rfl|a::b::c=>exact .inr (by cases a<;>rfl)) h;cases d with
 |str z=>
  have p:aH K W own F H (if z.length<=j_ then .ok (.int z.length)else stk) Q:=p;by_cases I:z.length<=j_
  .rw[g_ I]at p;exact⟨z,by rw[e,show x=.str z from q],I,p (.int _) F H (C6.refl s) (by cases own<;>rfl)⟩
  .rw[k_ I]at p;exact aH.stuck p
 |_=>exact aH.stuck p
def Gf:j0 X (.type "int") (λxs H Q=>∃z n,xs=[.str z]/\z.length<=640/\Jd z=a_ n/\Q (.int n) H):=by
 intro B' s σ H xs us Q I r ⟨z,n,e,a,Y,q⟩;subst e;obtain⟨u,rfl,J⟩:=vals1 r;obtain⟨t,rfl⟩:=(show ∃t,u=Ij z t from J)
 exact PySem.W.KIN.call_text Y a ⟨.int n,H,I.tok _,⟨_,rfl⟩,q⟩
def c_intS:uL K W own X (.type "int") intSD:=Gf.imp λxs H Q h=>by
 obtain⟨F,d,x,s,e,q,p⟩:=pD (λds=>by match ds with|[d]=>exact .inl ⟨d,rfl⟩|[]=>exact .inr rfl|a::b::c=>exact .inr (by cases a<;>rfl)) h;cases d with
 |str z=>
  have p:aH K W own F H (if z.length<=640 then(match Jd z with
   |some n=>.ok (.int n)|none=>stk)else stk) Q:=p
  by_cases J:z.length<=640
  .rw[g_ J]at p;cases I:Jd z with
   |none=>rw[I]at p;exact aH.stuck p|some n=>rw[I]at p;exact⟨z,n,by rw[e,show x=.str z from q],J,I,p (.int _) F H (C6.refl s) (by cases own<;>rfl)⟩
  .rw[k_ J]at p;exact aH.stuck p
 |_=>exact aH.stuck p
def wQ(I:∃t,X.mg x=a_ (.str z t))(J: ~~~(Gl X x))(hd:((x==("__debug__":i_))=b_)⁻¹):DE K W b_ X (.Name x pos) (fC (.str z)):=by obtain⟨t,e⟩:=I;exact(zX (v:=.str z) J e ⟨t,rfl⟩ hd).imp λ_ _ _=>rd_c λ_=>rfl
end
def Bp(xs:bv)(k:i_):Option Nat:=xs.findIdx? (·==k)
def pI:A'->A'->M A'
 |.lst ds,.str k=>(k8 ds).bind λxs=>match Bp xs k with
  |some j=>.ok (.int j)|none=>stk
 |_,_=>stk
@[simp]def e_indexS(ds:List A')(k:i_):pI (.lst ds) (.str k)=(k8 ds).bind λxs=>match Bp xs k with
  |some j=>.ok (.int j)|none=>stk:=id rfl
def iu(fo fe:ah->M A'):ah->M A':=λρ=>(fo ρ).bind λa=>if isL a=d_ then(fe ρ).bind λb=>pI a b else stk
@[simp]def e_fIndexS(fo fe:ah->M A')(ρ:ah):iu fo fe ρ=(fo ρ).bind λa=>if isL a=d_ then(fe ρ).bind λb=>pI a b else stk:=id rfl
def rIndexS(K:Pn):V->b'->Hp->VK->Prop:=λx vs H Q=>∃l is k j,x=.ref l/\vs=[.str k]/\SqL K H l (is.map V.str)/\Bp is k=a_ j/\Q (.int j) H
noncomputable def isKS(k:i_):m_->Bool
 |.str i _=>i==k|_=>b_
section
variable{W:gf}
theorem Fh(P:X.A.units+64<IL):MtR X "list.index" (rIndexS X.K):=by
 intro B' s σ H x vs v us Q I i o ⟨l,is,k,j,ex,N,K,G,q⟩;subst ex N;cases i;obtain⟨u,rfl,p⟩:=o.one;obtain⟨G',r,pl,C⟩:=I.list K;obtain⟨⟨oc,a,B,osl⟩,n,e,J,f,g⟩:=id pl;obtain⟨t,rfl⟩:=(show ∃t,u=Ij k t from p)
 obtain⟨c,d,D⟩:=Jx.mp G;obtain⟨L,rfl,rfl⟩:=rN r;have hsz:=Hr;have h:(Jp L).length=L.length:=by unfold Jp;rw[w_]
 have Y:∀m (E:m<(Jp L).length),(Jp L)[m]=.str ((L.map (·.1))[m]' bt) (L[m]'(by omega)).2:=λm E=>by simp[Jp]
 rw[w_]at c;refine Kh LO ⟨_,e,J⟩ PySem.F.entry_list_index (PySem.F.args_list_index_2 _ _) (SeqAt.list_indexAt l (Jp L).toArray n a osl (.str k t) (isKS k) j bt (by have:=C;rw[w_,w_]at this;lia) ?_ ?_) ⟨?_,λy O=>?_,⟨.int j,H,I.tok _,⟨_,rfl⟩,q⟩⟩
 .rw[MM,Y j am];exact d
 .simp_all[Hy,MM,isKS]
 .simp_all
 .obtain⟨m,b,rfl⟩:=M0 (show y∈Jp L by simp_all);rw[Y m b];generalize (L.map (·.1))[m]'(by rw[w_];lia)=z;have w:=FP (F:=H) (x:=.str z) (y:=.str k) (A:=X.A.in1) I (aS.refl H) (.str z) (.str k) rfl rfl rfl rfl ⟨(L[m]'(by omega)).2,rfl⟩ ⟨t,rfl⟩ (by show X.A.units+1+40<IL;lia);simp_all[eqD,isKS]
variable{o:HG}
def md(u:X.A.units+64<IL)(w:DE K W b_ X o fo)(d:DE K W b_ X e fe)(C: ~~~(X.K=K))(Y: ~~~(HA o "index" X.env (GI o X.env)=GI o X.env))(c: ~~~(((He cpos (h_ [e] X.env)).all (λx=> !x.1)&&(Ic cpos (Hs [] X.env)).all (λx=>x.1.isSome)&&o_ ([e].length+([]:List Ie).length+(if ([]:List Ie).isEmpty then 0 else 1)<30))=d_))(J: ~~~((apos.endLine==cpos.line)=d_))(i: ~~~(h_ [e] X.env=(b_,GI e X.env)::h_ [] X.env))(I: ~~~((He cpos (h_ [] X.env)).any (·.1)=b_)):
  DE K W b_ X (.Call (.Attribute o "index" apos) [e] [] cpos) (iu fo fe):=by
 subst C;refine PE.imp (pC GN LO PySem.F.type_list_index (Fh u) w (au d aQ (by rw[i])) Y c J i I) λσ H Q v=>?_;obtain⟨F,ρ,r,s,p⟩:=v;refine ba r s (λe d=>p.err (by unfold iu;rw[d];rfl)) λa B x F1 H1 g n=>?_;rw[show iu fo fe ρ=if isL a=d_ then(fe ρ).bind λb=>pI a b else stk by unfold iu;rw[B];rfl]at p;have p:=p.step g;cases a with
 |lst ds=>
  have p:aH X.K W b_ F1 H1 ((fe ρ).bind λb=>pI (.lst ds) b) Q:=p;obtain⟨l,xs,rfl,t,z⟩:=id n;refine⟨.inl ⟨rfl,_,g.fh.lst t⟩,ba (r.mono g.ff) g.fh (λe d=>p.err (by rw[d];rfl)) λb A y F2 H2 f m=>?_⟩
  rw[A]at p;have p:aH X.K W b_ F1 H1 (pI (.lst ds) b) Q:=p;have p:=p.step f;cases b with
  |str k=>
   have p:aH X.K W b_ F2 H2 ((k8 ds).bind λxs=>match Bp xs k with
    |some j=>.ok (.int j)|none=>stk) Q:=p
   cases hi:k8 ds with
   |error e=>rw[hi]at p;rw[rQ hi]at p;exact aH.stuck p|ok is=>
    rw[hi]at p;have p:aH X.K W b_ F2 H2 (match Bp is k with
     |some j=>.ok (.int j)|none=>stk) Q:=p
    have q:=rP z hi;subst q;cases h:Bp is k with
    |none=>rw[h]at p;exact aH.stuck p|some j=>rw[h]at p;cases(show y=V.str k from m);exact⟨l,is,k,j,rfl,rfl,f.fh.lst (f.ff.lst t),h,p (.int j) F2 H2 (C6.refl f.fh) rfl⟩
  |_=>exact aH.stuck p
 |_=>exact aH.stuck p
end
abbrev k1(t:Tok):List (i_×m_):=[(e_ "start",.int 1 t)]
def lst_it(h:Hq)(l:f_):(h.push {cls:=.type "list_iterator",data:=.fields #[.ref l,.int 0 0]}).objs.size=h.objs.size+1:=Ii ..
def Fe(l:f_)(items:Array m_)(n:Nat)(t:Tok)(J:Option f_)(e:Array (Option m_)):
  Meets (Builtin.«enumerate.__new__» ⟨[.type "enumerate",.ref l],k1 t⟩) (λ_ R s=>s.heap.get? l=a_ {cls:=.type "list",dict:=J,data:=.seq items n,slots:=e} /\
   R (.ok (.ret (.ref (s.heap.objs.size+1)))) {s with heap:=(s.heap.push {cls:=.type "list_iterator",data:=.fields #[.ref l,.int 0 0]}).push {cls:=.type "enumerate",data:=.fields #[.none,.bool b_,.ref s.heap.objs.size,Lv 1,.none,.none]}}):=
 Ot λP w A R s ⟨I,h⟩=>by
  obtain⟨Y,g,d,b,os⟩:=s;rw[<- lst_it Y l]at h;have z:=sub_enumerate;have a:Heap.IsList (Shared.heap ⟨Y,g,d,b,os⟩) l items:=⟨_,I,rfl,n,rfl⟩
  wp_walk using J7 I
  refine wpAny_stack_any λst=>F_ ?_;split
  .rename_i c _ _ _ _ _;cases(c==JY "enumerate")<;>(wp_walk using J7 I,Ks a)<;>exact⟨_,rfl,h⟩
  .wp_walk using J7 I,Ks a
   exact⟨_,rfl,h⟩
def ini_k1{I a:m_}{t:Tok}(c:typeLookup (.type "enumerate") "__init__"=Ig (a_ (.builtin "object.__init__")))(b:Bind.madeBy (.type "enumerate")=Ig (a_ "enumerate.__new__")):
  Meets (Builtin.«object.__init__» ⟨[I,a],k1 t⟩) (λ_ R s=>s.TypeIs I "enumerate"/\R (.ok (.ret .none)) s):=Ot λP w A R s ⟨d,J⟩=>by
 have Y:(a_ "enumerate.__new__" != a_ "object.__new__")=d_:=by decide
 repeat (any_goals (first|assumption|wp_step))
 exact⟨_,rfl,J⟩
section
variable{w:GW}{E:Mq}{Q:Mq}
theorem Dt{items:Array m_}{t:Tok}(L:s.heap.IsList l items)(h:∀h',IsEnum h' (s.heap.objs.size+1) s.heap.objs.size 1 .none->h'.IsListIter s.heap.objs.size l 0->(∀b o,s.heap.get? b=a_ o->h'.get? b=a_ o)->Q (.ref (s.heap.objs.size+1)) {s with heap:=h'}):
  D_ (GD prog w) A (JR (.type "enumerate") [.ref l] (k1 t)) Q E s:=by
 obtain⟨⟨c,k,N,y⟩,D,H,n,hd⟩:=L;cases(show c=.type "list" from H);cases(show N=.seq items n from hd);have ft:=F.called_enumerate;obtain⟨c,tl,u⟩:=ft.mro;have Y:=ft.made;have q:=ft.sub;have h1:=ft.notType;have h2:=ft.canCreate;have G:checkTypeCall "enumerate" ⟨[.ref l],k1 t⟩=Ig ():=by kernel_rfl
 have j:checkBuiltinCall "enumerate.__new__" ⟨[.type "enumerate",.ref l],k1 t⟩=Ig ():=by kernel_rfl
 have f:∀J,argsOk "object.__init__" ⟨[J,.ref l],k1 t⟩:=λJ=>by unfold argsOk;kernel_rfl
 have C:=lst_it s.heap l;have i:IsEnum ((s.heap.push {cls:=.type "list_iterator",data:=.fields #[.ref l,.int 0 0]}).push {cls:=.type "enumerate",data:=.fields #[.none,.bool b_,.ref s.z,Lv 1,.none,.none]}) (s.z+1) s.z 1 .none:=by rw[<- C];exact GC _ rfl
 refine KJ (codeAny_of_tree (show D_ _ _ (callAny (.type "enumerate") _) _ _ _ from F_ ⟨K2 _ dkK,codeAny_builtin F.entry_type_call ?_⟩));rw[Around.under_plain (weight_type_call_type "enumerate" [.ref l] (k1 t)) (units_type_call_type "enumerate" [.ref l] (k1 t))]
 repeat (any_goals (first|assumption|wp_step))
 refine IK (K5 ft.plain F.entry_enumerate_new (wpAny_of_eq j (Fe l items n t k y prog w A.in1 (wants (λv B=>v=.ref (s.z+1)/\B={s with heap:=(s.heap.push {cls:=.type "list_iterator",data:=.fields #[.ref l,.int 0 0]}).push {cls:=.type "enumerate",data:=.fields #[.none,.bool b_,.ref s.z,Lv 1,.none,.none]}}) E) s ⟨D,rfl,rfl⟩))) λr p d=>?_
 match r,d with
 |.error e,d=>exact d|.ok (.ret J),d=>
  obtain⟨rfl,rfl⟩:=d;have g:=ft.init.lookup;have K:=ft.init.bind (.ref (s.z+1))
  repeat (any_goals (first|assumption|wp_step))
  refine IK (K5 ft.init.plain F.entry_object_init (ft.init.check _ _ _ _ _ _ _ _ ⟨_,i,rfl⟩ (f _) (ini_k1 g Y prog w A.in1 (wants (λr z=>r=.none/\z=_) E) _ ⟨⟨_,i,rfl⟩,rfl,rfl⟩))) λa m I=>?_
  match a,I with
  |.error e,I=>simp_all|.ok (.ret r),I=>
   obtain⟨rfl,rfl⟩:=I
   repeat (any_goals (first|assumption|wp_step))
   exact h _ i ⟨_,r_ _ (GC _ rfl),rfl,rfl⟩ λb o x=>r_ _ (r_ _ x)
end
theorem draws1{w:GW}(hh:A.handled=c_)(J:l≠it)(items:Array m_):Draws prog w A it [it,l] (items.size+1) (λk v=>∃j,k=j+1/\items[j]?=a_ v) (λk h=>∃j,k=j+1/\h.IsListIter it l j/\h.IsList l items) where
 live:=λi h ⟨j,_,⟨o,e,_⟩,_⟩=>⟨o,e⟩
 frame:=λi h h' ⟨j,e,⟨o,p,n⟩,⟨I,c,Y⟩⟩ k=>⟨j,e,⟨o,k it a8 _ p,n⟩,⟨I,k l a8 _ c,Y⟩⟩
 item:=λi s Q E hi ⟨j,e,a,b⟩ g=>by
  subst e;have f:j<items.size:=am
  refine wpAny_nextOf_list_item a b (x:=items[j]) a8 λh' q d=>g _ h' s.toks ⟨j,rfl,a8⟩ ⟨j+1,rfl,q,?_⟩ d;obtain⟨I,c,Y⟩:=b;exact⟨I,(d.2 l J).trans c,Y⟩
 done:=λs Q E ⟨j,e,a,b⟩ m=>by
  have f:j=items.size:=am
  subst f;exact wpAny_nextOf_list_end hh a b a8 m
def Ite1(K:Pn)(a:f_):It:=
 ⟨λi H=>∃xs x,SqL K H a xs/\xs[i]?=a_ x,λi H x H'=>∃T y,H T=c_/\x=.ref T/\H'=upd H T (.tup [.int (i+1:Nat),y])/\∀xs,SqL K H a xs->xs[i]?=a_ y,λi H=>∃xs,SqL K H a xs/\xs.length=i⟩
theorem BY{w:GW}(a e it:f_)(t:e≠it):Turn P w K (.Tuple elts k pos) (Ite1 K a) [e,it] e (λi h=>(∃J,IsEnum h e it (i+1:Nat) J)/\h.IsListIter it a i):=by
 have l:∀{i:Nat} {h:Hq} {J:m_} {G':Array m_},IsEnum h e it (i+1:Nat) J->h.IsListIter it a i->h.IsList a G'->a≠it/\e∉[it,a]:=λ{i h J G'} g Y ⟨ol,h1,F,_⟩=>by obtain⟨o,h2,hc2,_⟩:=Y;grind
 refine⟨a8,λi h ⟨⟨J,g⟩,o,e1,c,d⟩ b f=>?_,λi h h' ⟨⟨J,g⟩,Y⟩ W=>⟨⟨J,W e a8 _ g⟩,Y.at λo x=>W it a8 o x⟩,?_,?_,λ_ _ _ _ _ ⟨⟨J,g⟩,_⟩ h=>Oc g h⟩
 .rcases q_.mp f with rfl|f
  .exact⟨_,g,λv z=>by cases z⟩
  .obtain rfl:b=it:=by simpa using f
   exact⟨o,e1,λv z=>by rw[d]at z;cases z⟩
 .intro X n hw T F i B' s σ H E I D ⟨⟨J,g⟩,Y⟩ ⟨xs,x,C,N⟩;subst n hw T;obtain⟨G',G,p,hz⟩:=I.list C;obtain⟨u,Z,ru⟩:=G.get N;obtain⟨L,n2⟩:=l g Y p.isList;have hil:i<G'.length:=(A_.mp Z).1;refine wpAny_pyNext_enum_itemD (i:=i+1) (draws1 (A:=X.A.in1) (I.ok.hd F) L G'.toArray) g ⟨i,rfl,Y,p.isList⟩ (by simp;lia) t n2 λv h1 U Q ho O hT hsz hk=>?_;obtain⟨j,ej,n⟩:=Q;obtain⟨j2,ej2,r,_⟩:=O;obtain rfl:j=i:=am
  obtain rfl:j2=j+1:=am
  obtain rfl:v=u:=by rw[MB,Z]at n;exact(GR n).symm
  refine⟨_,rfl,wpAny_letOwnedTupleGo_enum ho λh2 S m=>?_⟩
  have R:e<s.z:=t_ g;have B:s.z≠e:=J0 R;have I1:Cv X B' σ (upd H s.z (.tup [.int (j+1:Nat),x])) {s with heap:=h2,toks:=U+1}:=I.DY (ch:=[e,it]) D (λb o f q=>by have h3:=hk b o (λz=>f (by simp[z])) (λz=>f (by simp[z])) q;exact(m.2 b (λz=>f (by simp[z]))).trans h3) (z_ _) ⟨by show 2<=j_;decide,[.int (j+1:Nat) U,v],.cons ⟨_,rfl⟩ (.cons ru .nil),⟨_,(m.2 _ B).trans hT,rfl,0,rfl⟩⟩
  refine⟨.ref s.z,_,I1,rfl,⟨s.z,x,I.hok.fresh (z_ _),rfl,rfl,λys hy=>by rw[I.rA hy C];exact N⟩,⟨⟨v,by simpa using S⟩,r.at λo y=>(m.2 it t.symm).trans y⟩,λb f=>?_⟩
  have:b≠s.z:=by
   rcases q_.mp f with rfl|f
   .exact B.symm
   .obtain rfl:b=it:=by simpa using f
    obtain⟨o,e1,_⟩:=Y;exact GS (t_ e1)
  rw[ao this];exact(D b f).1
 .intro X n hw T F i B' s σ H E I D ⟨⟨J,g⟩,Y⟩ ⟨xs,C,N⟩;subst n hw T;obtain⟨G',G,p,hz⟩:=I.list C;obtain⟨L,n2⟩:=l g Y p.isList;have hl:=G.length;refine wpAny_pyNext_enum_endD (draws1 (A:=X.A.in1) (I.ok.hd F) L G'.toArray) g ⟨i,by grind,Y,p.isList⟩ λh2 eb=>⟨rfl,I.DZ (t':=s.toks) (ch:=[e,it]) D λb o f q=>eb b o (λz=>f (by simp[z])) q⟩
section
variable{W:gf}{a:HG}
def yT{M:LI}{E:Mq}{J:List Ie}{Q:Mq}(h:D_ M A (Nf (He pos (h_ [e] env))) (λvs I=>D_ M A (evalAll ((Ic pos (Hs J env)).map (·.2))) (λd Y=>D_ M A (JR (.type T) vs (((Ic pos (Hs J env)).filterMap (·.1)).zip d)) Q E Y) E I) E s)(i:h_ [e] env=[(b_,GI e env)])(c:(Ic pos (Hs J env)).all (·.1.isSome)=d_)(f:(Ic pos (Hs J env)).any (·.1.isNone)=b_):
  D_ M A (LC pos (.type T) [] (He pos (h_ [e] env)) (Ic pos (Hs J env))) Q E s:=by
 have k:(He pos (h_ [e] env)).any (·.1)=b_:=by rw[i];rfl
 have g:∃x,He pos (h_ [e] env)=[(b_,x)]:=by rw[i];exact⟨_,rfl⟩
 obtain⟨x,g⟩:=g;unfold LC;refine n_ (KA (HC (Q:=λa I=>D_ M A (JR (.type T) ([]++a.pos) a.kw) Q E I) ?_ (λa I b=>n_ (Jy ?_)) λ_ _ z=>z))
 .rw[g]at h ⊢;exact PyProof.Rows.evalArgs_kwB c h
 .rw[k,f];exact n_ (F_ (n_ (HC b (λr Y j=>n_ (KA (wpAny_point (F_ j)))) λ_ _ z=>z)))
def FD(K:Pn)(tl:TE):TI:=λσ H R=>tl σ H λx H1=>∃a,x=.ref a/\(∃xs,SqL K H1 a xs)/\R (Ite1 K a) H1
def pi_enum1{A n:OE}{j}{tl:TE}(G:Gl X "enumerate")(D:X.mg "enumerate"=c_)(E:PE X a tl)(g: ~~~(h_ [a] X.env=[(b_,GI a X.env)])):
  PI X (.Tuple elts k q) (.Call (.Name "enumerate" p) [a] [⟨a_ (e_ "start"),.Constant (.int 1) j n,A⟩] pos) (FD X.K tl):=by
 intro B' s σ H R I h;have K:PA X [a] (aP tl fw):=au E aQ g;refine ID (uX I G D boot_enumerate ?_);refine yT (H9 (K pos B' s σ H (λvs H1=>match vs with
  |[x]=>∃a,x=.ref a/\(∃xs,SqL X.K H1 a xs)/\R (Ite1 X.K a) H1
  |_=>False) I h) λus o ⟨vs,H1,N,z,d⟩=>?_) g rfl rfl
 rcases vs with _|⟨x,_|⟨_,_⟩⟩
 .exact Hi d
 rotate_left
 .exact Hi d
 .obtain⟨l,e1,⟨xs,B⟩,q⟩:=d;subst e1;obtain⟨u,rfl,r⟩:=z.one;cases r;refine kws_cons (H9 (lI (X:=X) (i:=1) (j:=j) (pos:=n) B' o σ H1 (λv H2=>v=.int 1/\H2=H1) N ⟨rfl,rfl⟩) λw J C=>?_);obtain⟨y,H2,c,r2,e2,e3⟩:=C;refine kws_nil ?_;subst e2 e3;obtain⟨t,rfl⟩:=(show ∃t,w=Kj 1 t from r2)
  obtain⟨G',O,pl,P⟩:=c.list B;refine Dt pl.isList λh2 m e F=>?_;have L:Cv X B' σ H2 {J with heap:=h2}:=c.kept (t':=J.toks) F;refine Oc m ⟨J.z+1,[J.z+1,J.z],_,_,H2,rfl,L,BY l _ _ (Nat.succ_ne_self _),⟨⟨_,m⟩,e⟩,λb f=>?_,q⟩;have Y:J.z<=b:=by
   rcases q_.mp f with rfl|f
   .simp
   .obtain rfl:b=J.z:=by simpa using f
    simp
  exact c.fpOk Y (c.hok.fresh Y)
end
structure Cells(K:Pn)(F H:Hp)(xs:List f_)(ds:List A'):Prop where
 fh:aS F H
 nd:xs.Nodup
 len:xs.length=ds.length
 own:∀(j:Nat) (x:f_) (d:A'),xs[j]?=a_ x->ds[j]?=a_ d->isO d=d_/\nO K F (λ_=>c_) H d (.ref x)
structure mK(xs:List f_)(F H F' H':Hp):Prop where
 ff:aS F F'
 hh:∀b o,b∉xs->H b=a_ o->H' b=a_ o
 fh:aS F' H'
 nw:∀b o,F' b=a_ o->F b=a_ o\/H b=c_
section
variable{xs:List f_}{ds:List A'}
def C6.toC(s:C6 F H F' H'):mK xs F H F' H':=⟨s.ff,λb o _ h=>s.hh b o h,s.fh,s.nw⟩
theorem mK.trans{F2 H2:Hp}(a:mK xs F H F' H')(b:mK xs F' H' F2 H2)(J:∀x∈xs,∃o,H' x=a_ o):mK xs F H F2 H2:=
 ⟨a.ff.trans b.ff,λc o n h=>b.hh c o n (a.hh c o n h),b.fh,λc o h=>(b.nw c o h).elim (λz=>a.nw c o z) λz=>.inr (by
  cases e:H c with
  |none=>rfl|some u=>
   by_cases I:c∈xs
   .obtain⟨o',Y⟩:=J c I;rw[Y]at z;cases z
   .rw[a.hh c u I e]at z;cases z)⟩
def Cells.at(c:Cells K F H xs ds){x:f_}(J:x∈xs):F x=c_/\∃o,H x=a_ o/\isMu o=d_:=by
 obtain⟨j,I,rfl⟩:=M0 J;have hd:j<ds.length:=by rw[<- c.len];exact I
 obtain⟨h1,h2⟩:=c.own j xs[j] ds[j] (G_ I) (G_ hd);obtain⟨a,o,e,p,m,f,_⟩:=h2.top h1;cases e;exact⟨f,o,p,m⟩
def Cells.step(c:Cells K F H xs ds)(s:C6 F H F' H'):Cells K F' H' xs ds:=⟨s.fh,c.nd,c.len,λj x d e1 e2=>by obtain⟨h1,h2⟩:=c.own j x d e1 e2;obtain⟨a,o,e,p,_,f,_⟩:=h2.top h1;cases e;exact⟨h1,h2.re h1 s.ff (s.stays f p) λo h=>s.hh _ _ h⟩⟩
def Cells.ff(c:Cells K F H xs ds):aS F (plus F H (·∈xs)):=λb o h=>by
 by_cases I:b∈xs
 .rw[(c.at I).1]at h;cases h
 .rw[cG I];exact h
def Cells.zh(c:Cells K F H xs ds):aS (plus F H (·∈xs)) H:=λb o h=>by
 by_cases I:b∈xs
 .rw[i7 I]at h;exact h
 .rw[cG I]at h;exact c.fh b o h
def Cells.deep(c:Cells K F H xs ds){x:f_}{d:A'}(e1:xs[j]?=a_ x)(e2:ds[j]?=a_ d):aR K (plus F H (·∈xs)) d (.ref x):=by obtain⟨h1,h2⟩:=c.own j x d e1 e2;exact h2.give h1 c.ff (i7 (GX e1))
theorem Cells.back(c:Cells K F H xs ds)(s:C6 (plus F H (·∈xs)) H F' H'):C6 F H (minus F' (·∈xs)) H':=by
 refine⟨λb o h=>?_,s.hh,λb o h=>?_,λb o h=>?_⟩
 .by_cases I:b∈xs
  .rw[(c.at I).1]at h;cases h
  .rw[d9 I];exact s.ff b o (by rw[cG I];exact h)
 .by_cases I:b∈xs
  .simp_all[mq]
  .rw[d9 I]at h;exact s.fh b o h
 .by_cases I:b∈xs
  .simp_all[mq]
  .rw[d9 I]at h;exact(s.nw b o h).elim (λz=>by rw[cG I]at z;exact .inl z) .inr
theorem Cells.flat(c:Cells K F H xs ds)(s:C6 (plus F H (·∈xs)) H F' H'){d:A'}{v:V}(f:bS d=d_)(q:aR K F' d v):aR K (minus F' (·∈xs)) d v:=by
 have key:∀{b:f_} {o:HO},F' b=a_ o->isMu o=b_->minus F' (·∈xs) b=a_ o:=λ{b o} h n=>by
  by_cases I:b∈xs
  .obtain⟨_,u,e,m⟩:=c.at I;have:=s.ff b u (by rw[i7 I];exact e);simp_all
  .rw[d9 I];exact h
 refine q.flat (λa ys h=>?_) f;rcases h with(h|⟨o,h⟩)|h
 .exact .inl (.inl (key h rfl))
 .exact .inl (.inr ⟨o,key h rfl⟩)
 .exact .inr h
def Cells.put(c:Cells K F H xs ds){x:f_}{u:HO}(e:xs[j]?=a_ x)(hd:isO d'=d_)(q:F x=c_->nO K F (λ_=>c_) (upd H x u) d' (.ref x)):Cells K F (upd H x u) xs (ds.set j d') where
 fh:=λb o h=>by
  have:b≠x:=λz=>by rw[z,(c.at (GX e)).1]at h;cases h
  rw[ao this];exact c.fh b o h
 nd:=c.nd
 len:=by rw[GB,c.len]
 own:=λi y d e1 e2=>by
  by_cases I:j=i
  .subst I;rw[e]at e1;cases e1;have Y:j<ds.length:=by have:=(A_.mp e2).1;simpa using this
   rw[x_ Y]at e2;cases e2;exact⟨hd,q (c.at (GX e)).1⟩
  .rw[p_ I]at e2;obtain⟨h1,h2⟩:=c.own i y d e1 e2;have J:y≠x:=λz=>I ((Nw (A_.mp e).1 c.nd).mp (by rw[e,e1,z]));obtain⟨a,o,g,p,_,f,_⟩:=h2.top h1;cases g;exact⟨h1,h2.re h1 (aS.refl _) f λo h=>by rw[ao J];exact h⟩
theorem Cells.lst(c:Cells K F H xs ds){j:Nat}{x:f_}{es:List A'}(e1:xs[j]?=a_ x)(e2:ds[j]?=a_ (.lst es)):∃ys,H x=a_ (.lst ys)/\az K F es ys:=by obtain⟨a,ys,I,p,_,_,q⟩:=(c.own j x _ e1 e2).2;simp_all
theorem Cells.dic(c:Cells K F H xs ds){j:Nat}{x:f_}{ks:List (ca×A')}(e1:xs[j]?=a_ x)(e2:ds[j]?=a_ (.dic ks)):∃rs ep,H x=a_ (zb x rs ep)/\dU K F ks rs:=by obtain⟨a,rs,I,⟨ep,p⟩,_,_,q⟩:=(c.own j x _ e1 e2).2;cases I;exact⟨rs,ep,p,q⟩
def Cells.app(c:Cells K F H xs ds){x:f_}{es:List A'}{ys:b'}{d:A'}(e1:xs[j]?=a_ x)(p:H x=a_ (.lst ys))(q:az K F es ys)(I:aR K F d v):Cells K F (upd H x (.lst (ys++[v]))) xs (ds.set j (.lst (es++[d]))):=
 c.put e1 rfl λf=>⟨x,_,rfl,aj,f,rfl,q.append ⟨v,[],rfl,I,rfl⟩⟩
theorem Cells.updC(c:Cells K F H xs ds){x:f_}(u:HO)(I:x∈xs):mK xs F H F (upd H x u):=
 ⟨aS.refl _,λb o n h=>by rw[ao (λz=>n (by rw[z];exact I))];exact h,λb o h=>by
  have:b≠x:=λz=>by rw[z,(c.at I).1]at h;lia
  rw[ao this];exact c.fh b o h,λ_ _ h=>.inl h⟩
end
def gZ(xs:List f_):List (i_×V):=(["kinds","gaps","beside","names","flights","closed"]:bv).zip (xs.map V.ref)
structure Dr(K:Pn)(C:f_)(F H:Hp)(p dx:f_)(xs:List f_)(ds:List A'):Prop where
 c:Cells K F H xs ds
 ob:H p=a_ (.ins C dx (gZ xs))
 fp:F p=c_
 np:p∉xs
section
variable{p:f_}{xs:List f_}{ds:List A'}
theorem Dr.step(d:Dr K C F H p dx xs ds)(s:C6 F H F' H'):Dr K C F' H' p dx xs ds:=⟨d.c.step s,s.hh _ _ d.ob,s.stays d.fp d.ob,d.np⟩
theorem Dr.put(d:Dr K C F H p dx xs ds){x:f_}{u:HO}(I:x∈xs)(c:Cells K F (upd H x u) xs ds'):Dr K C F (upd H x u) p dx xs ds':=
 ⟨c,by rw[ao (λz=>d.np bt)];exact d.ob,d.fp,d.np⟩
end
def nX:Sp:=λvs H Q _=>∃a v,vs=[.ref a,v]/\(v=.non->Q (.bl b_) H)/\(v≠.non->∃ys,H a=a_ (.lst ys)/\ys.length<j_/\Q (.bl d_) (upd H a (.lst (ys++[v]))))
def rs_told{vs:b'}(h:nX vs H Q E):
  j5 (uc (tB (tIsN (bB 1))) (oX (tC (.bl b_))) kr) (j5 (uh (tBM K "list" pz (bB 0) (aP (bB 1) fw))) (oX (tC (.bl d_)))) {nx:=λ_ H'=>Q .non H',rt:=Q} (start ["kept","told"] vs) H:=by
 obtain⟨a,v,rfl,h1,h2⟩:=h;refine⟨v,rfl,_,rfl,?_⟩
 by_cases hv:v=.non
 .rw[E_ hv];exact h1 hv
 .obtain⟨ys,I,J,h2⟩:=h2 hv;rw[v_ hv];exact⟨.ref a,rfl,iB I,v,rfl,a,ys,v,rfl,rfl,I,J,h2⟩
def zA(K:Pn)(mg:List A'->M A'):Sp:=λvs H Q _=>∃(k g:f_) (vw:V) (F:Hp) (xs:List f_) (ds:List A') (a I:Nat) (Y J:A') (ks:List (ca×A')),vs=[.ref k,.ref g,vw]/\Cells K F H xs ds/\xs[a]?=a_ k/\ds[a]?=a_ Y/\xs[I]?=a_ g/\ds[I]?=a_ (.dic ks)/\aR K F J vw /\
 ((mg [Y,J]=.ok .non/\∀F' H',C6 F H F' H'->Q (.bl b_) H')\/∃i j v:Int,mg [Y,J]=.ok (.tup [.int i,.int j,.int v])/\ks.length<j_/\∀F' H' u,C6 F H F' H'->Cells K F' (upd H' g u) xs (ds.set I (.dic (CB ks [i,j] (.int v))))->Q (.bl d_) (upd H' g u))
abbrev fk3:ah->M A':=fL iO (a9 (f2 ixD (ae 3) (fC (.int 0))) (a9 (f2 ixD (ae 3) (fC (.int 1))) aB))
abbrev fv3:ah->M A':=f2 ixD (ae 3) (fC (.int 2))
def hR.only{d:A'}(e:σ[i]?=a_ (a_ v))(q:aR K F d v):hR K F σ ((C_ σ.length c_).set i (a_ d)):=
 ⟨a8,λj d' h=>by
  by_cases I:i=j
  .subst I;rw[x_ (by rw[HS];exact(A_.mp e).1)]at h;cases h;exact⟨v,e,q⟩
  .rw[p_ I,Jv]at h;split at h<;>cases h⟩
def rs_gap{mg:List A'->M A'}{vs:b'}(h:zA K mg vs H Q E):
  j5 (uM (gG (spF K b_ mg 2) [] E' (aP (bB 0) (aP (bB 2) fw))) (hG 3)) (j5 (uc (tB (tIsN (bB 3))) (oX (tC (.bl b_))) kr) (j5 (sPut K (bB 1) (tD K Hh b_ fk3) (tD K Hh b_ fv3)) (oX (tC (.bl d_))))) {nx:=λ_ H'=>Q .non H',rt:=Q} (start ["kinds","gaps","words","told"] vs) H:=by
 obtain⟨k,g,vw,F,xs,ds,R,S,N,L,ks,rfl,c,ek,B,o,hd,x,h⟩:=h;refine⟨.ref k,rfl,vw,rfl,plus F H (·∈xs),[N,L],c.zh,⟨_,_,rfl,c.deep ek B,vw,_,rfl,x.mono c.ff,rfl⟩,rfl,?_⟩
 rcases h with⟨e,h⟩|⟨i,j,v,e,A,h⟩
 .rw[e];intro w F1 H1 I a;cases(show w=V.non from a);exact⟨.non,rfl,_,rfl,h _ H1 (c.back I)⟩
 .rw[e];intro w F1 H1 l a;have I:=c.back l;have n:aR K (minus F1 (·∈xs)) (.tup [.int i,.int j,.int v]) w:=c.flat l rfl a;obtain⟨b,ys,rfl,_⟩:=id n;refine⟨.ref b,rfl,_,rfl,?_⟩
  have m:hR K (minus F1 (·∈xs)) ([a_ (.ref k),a_ (.ref g),a_ vw,a_ (.ref b)]:St) [c_,c_,c_,a_ (.tup [.int i,.int j,.int v])]:=hR.only (i:=3) rfl n;refine⟨_,_,m,I.fh,?_⟩
  show aH K Hh b_ _ H1 (.ok (.int v)) _;intro t F2 H2 J z;cases(show t=V.int v from z);refine⟨.ref g,rfl,F2,_,m.mono J.ff,J.fh,?_⟩
  have D:fk3 [c_,c_,c_,a_ (.tup [.int i,.int j,.int v])]=.ok (.tup [.int i,.int j]):=by show iO [.int i,.int j]=_;unfold iO;rw[g_ a8]
  rw[D];intro s q P u y;obtain⟨O,r,rfl,d,_,_,rfl,e4,_,_,rfl,e5,G⟩:=(show aR K q (.tup [.int i,.int j]) s from y)
  cases e4;cases e5;cases G;have st:=(I.trans J).trans u;have p:=c.step st;obtain⟨rs,ep,C,Y⟩:=p.dic o hd;exact⟨g,O,[i,j],rs,ep,rfl,rfl,C,Y.key.mono st.fh,st.fh.tup d,by rw[Y.length];exact A,λep'=>h q P _ st (p.put o rfl λf=>⟨g,_,rfl,⟨ep',aj⟩,f,rfl,Y.put (k:=[i,j]) d rfl⟩)⟩
def tTr(K:Pn)(ta:TE):TT:=λσ H Q=>ta σ H λx H'=>∃k,TruV K x H' k/\Q k H'
def ue(j:Nat)(ds:List A')(t:A'):M (Bool×List A'):=match t with
 |.non=>.ok (b_,ds)|t=>match ds[j]? with
  |some (.lst es)=>if (bS t&&o_ (es.length<j_))=d_ then .ok (d_,ds.set j (.lst (es++[t])))else stk
  |_=>stk
def DF(j:Nat)(ds:List A')(t:A'):M (Bool×List A'):=match t with
 |.non=>.ok (b_,ds)|.tup [.int a,.int b,.int v]=>match ds[j]? with
  |some (.dic ks)=>if ks.length<j_ then .ok (d_,ds.set j (.dic (CB ks [a,b] (.int v))))else stk
  |_=>stk
 |_=>stk
def nS(mf:List A'->M A')(ds ws:List A'):M (Bool×List A'):=match ds with
 |[.lst J,.dic Y,.dic c,.lst I,.lst a,.lst b]=>(mf [.lst J,.lst I,.lst ws]).bind λt=>(ue 4 ds t).bind λr=>if r.1=d_ then(ixD (.lst ws) (.int 1)).bind λnm=>match nm with
  |.non=>stk|nm=>ue 3 r.2 nm
  else .ok r
 |_=>stk
def oV(t1 t2 c a Y:ah->M Bool)(J:ah->M A')(mk mg ms mf:List A'->M A')(ds ws:List A'):M (Bool×List A'):=match ds with
 |[.lst I,.dic g,.dic i,.lst f,.lst h,.lst e]=>
  (t1 [c_,a_ (.lst ws)]).bind λb=>if b=d_ then .ok (d_,ds)else
  (t2 [c_,a_ (.lst ws)]).bind λb=>if b=d_ then(mk [.lst I,.lst ws]).bind (ue 0 ds)else
  (c [c_,a_ (.lst ws)]).bind λb=>if b=d_ then(mg [.lst I,.lst ws]).bind (DF 1 ds)else
  (a [c_,a_ (.lst ws)]).bind λb=>if b=d_ then(mg [.lst I,.lst ws]).bind (DF 2 ds)else
  (Y [c_,a_ (.lst ws)]).bind λb=>if b=d_ then(ms [.lst e,.lst ws]).bind (ue 5 ds)else
  (J [c_,a_ (.lst ws)]).bind λd=>match d with
   |.bl d_=>nS mf ds ws|.bl b_=>.ok (b_,ds)|_=>stk
 |_=>stk
def bind_eq{β:Type}{x:M α}{f:α->M β}{r:β}(h:x.bind f=.ok r):∃a,x=.ok a/\f a=.ok r:=by
 cases x with
 |error e=>cases h|ok a=>exact⟨a,rfl,h⟩
def aR.nn{t:A'}(q:aR K F t v):v=.non↔t=.non:=by
 cases t with
 |non=>exact⟨λ_=>rfl,λ_=>q⟩|bl b=>cases(show v=.bl b from q);simp|int b=>cases(show v=.int b from q);simp|str b=>cases(show v=.str b from q);simp|tup _=>obtain⟨a,_,rfl,_⟩:=q;simp
 |lst _=>obtain⟨a,_,rfl,_⟩:=q;simp
 |ins _ _=>obtain⟨a,_,_,rfl,_⟩:=q;simp
 |dic _=>obtain⟨a,_,rfl,_⟩:=q;simp
 |dil _=>obtain⟨a,_,rfl,_⟩:=q;simp
def oR{ds:List A'}{t:A'}(n:t≠.non)(h:ue j ds t=.ok r):∃es,ds[j]?=a_ (.lst es)/\bS t=d_/\es.length<j_/\r=(d_,ds.set j (.lst (es++[t]))):=by
 have h:(match ds[j]? with
  |some (.lst es)=>if (bS t&&o_ (es.length<j_))=d_ then .ok (d_,ds.set j (.lst (es++[t])))else stk
  |_=>stk:M (Bool×List A'))=.ok r:=by
  cases t<;>first|exact Gw rfl n|exact h
 split at h
 .rename_i es J;split at h
  .rename_i I;rw[l_,GH]at I;cases h;exact⟨es,J,I.1,I.2,rfl⟩
  .cases h
 .cases h
def dF0{k g n:f_}:(gZ [k,g,b,n,f,c]).lookup ("kinds":i_)=a_ (V.ref k):=by rfl
def dF1{k g n:f_}:(gZ [k,g,b,n,f,c]).lookup ("gaps":i_)=a_ (V.ref g):=by rfl
def dF2{k g n:f_}:(gZ [k,g,b,n,f,c]).lookup ("beside":i_)=a_ (V.ref b):=by rfl
def dF3{k g n:f_}:(gZ [k,g,b,n,f,c]).lookup ("names":i_)=a_ (V.ref n):=by rfl
def dF4{k g n:f_}:(gZ [k,g,b,n,f,c]).lookup ("flights":i_)=a_ (V.ref f):=by rfl
def dF5{k g n:f_}:(gZ [k,g,b,n,f,c]).lookup ("closed":i_)=a_ (V.ref c):=by rfl
section
variable{p:f_}{xs:List f_}{ds:List A'}
def Gu(K:Pn)(C:f_)(F H:Hp)(p dx:f_)(xs:List f_)(r:Bool×List A')(Q:VK):Prop:=∀F' H',mK xs F H F' H'->Dr K C F' H' p dx xs r.2->Q (.bl r.1) H'
def Dr.ex(d:Dr K C F H p dx xs ds):∀x∈xs,∃o,H x=a_ o:=λ_ I=>let ⟨_,o,h,_⟩:=d.c.at I;⟨o,h⟩
theorem Gu.step{r:Bool×List A'}(f:Gu K C F H p dx xs r Q)(d:Dr K C F H p dx xs ds)(s:C6 F H F' H'):Gu K C F' H' p dx xs r Q:=λF2 H2 I J=>f F2 H2 (s.toC.trans I (d.step s).ex) J
def Dr.tell(d:Dr K C F H p dx xs ds){x:f_}{t:A'}(E:XK)(ex:xs[j]?=a_ x)(q:aR K F t v)(e:ue j ds t=.ok r)(I:Gu K C F H p dx xs r Q):nX [.ref x,v] H Q E:=by
 refine⟨x,v,rfl,λhv=>?_,λhv=>?_⟩
 .cases q.nn.mp hv;cases e;exact I F H ⟨aS.refl _,λ_ _ _ h=>h,d.c.fh,λ_ _ h=>.inl h⟩ d
 .obtain⟨es,c,f,b,rfl⟩:=oR (λz=>hv (q.nn.mpr z)) e;obtain⟨ys,Y,J⟩:=d.c.lst ex c;have a:=GX ex;exact⟨ys,Y,by rw[J.length];exact b,I F _ (d.c.updC _ a) (d.put a (d.c.app ex Y J q))⟩
variable{mg:List A'->M A'}{vw:V}
def lenC{r:List α}(h:r.length=n+1):∃x t,r=x::t/\t.length=n:=by
 cases r with
 |nil=>cases h|cons x t=>exact⟨x,t,rfl,HR h⟩
theorem Dr.len6{e a i j:List A'}{h l:List (ca×A')}(d:Dr K C F H p dx xs [.lst e,.dic h,.dic l,.lst a,.lst i,.lst j]):∃k g b n f c,xs=[k,g,b,n,f,c]:=by obtain⟨k,t,rfl,h1⟩:=lenC d.c.len;obtain⟨g,t,rfl,h2⟩:=lenC h1;obtain⟨b,t,rfl,Y⟩:=lenC h2;obtain⟨n,t,rfl,J⟩:=lenC Y;obtain⟨f,t,rfl,I⟩:=lenC J;obtain⟨c,t,rfl,m⟩:=lenC I;grind
def B1{fx I:i_}{jy:Nat}{x y:f_}{Y:A'}(d:Dr K C F H p dx xs ds)(f:Cls K C)(l:bp K C fx)(k:bp K C I)(c:σ[0]?=a_ (a_ (.ref p)))(h1:σ[1]?=a_ (a_ vw))(g:aR K F (.lst ws) vw)(n:(gZ xs).lookup fx=a_ (.ref x))(m:(gZ xs).lookup I=a_ (.ref y))(ex:xs[j]?=a_ x)(ey:xs[jy]?=a_ y)(o:ds[jy]?=a_ Y)(e:(mk [Y,.lst ws]).bind (ue j ds)=.ok r)(J:Gu K C F H p dx xs r Q):
  gG nX [] E1 (aP (ug K (bB 0) fx) (aP (gG (spF K b_ mk 2) [] E2 (aP (ug K (bB 0) I) (aP (bB 1) fw))) fw)) σ H Q:=by
 obtain⟨t,q,e⟩:=bind_eq e;refine⟨.ref p,c,p,C,dx,_,_,rfl,d.ob,f,l,n,?_⟩
 refine⟨.ref p,c,p,C,dx,_,_,rfl,d.ob,f,k,m,?_⟩
 refine⟨vw,h1,plus F H (·∈xs),[Y,.lst ws],d.c.zh,⟨_,_,rfl,d.c.deep ey o,_,_,rfl,g.mono d.c.ff,rfl⟩,rfl,?_⟩
 rw[q];intro v F1 H1 a i;have S:=d.c.back a;have h:aR K (minus F1 (·∈xs)) t v:=d.c.flat a (by
  by_cases b:t=.non
  .rw[b];rfl
  .exact(oR b e).choose_spec.2.1) i
 exact(d.step S).tell E1 ex h e (J.step d S)
theorem rs_putD2{fx:i_}{x k:f_}{J:A'}(d:Dr K C F H p dx xs ds)(g:Cls K C)(i:bp K C fx)(m:bp K C "kinds")(c:σ[0]?=a_ (a_ (.ref p)))(h1:σ[1]?=a_ (a_ vw))(h:aR K F (.lst ws) vw)(o:(gZ xs).lookup ("kinds":i_)=a_ (V.ref k))(n:(gZ xs).lookup fx=a_ (.ref x))(ek:xs[0]?=a_ k)(w:ds[0]?=a_ J)(ex:xs[j]?=a_ x)(hd:ds[j]?=a_ (.dic ks))(e:(mg [J,.lst ws]).bind (DF j ds)=.ok r)(I:Gu K C F H p dx xs r Q):
  gG (zA K mg) [] E1 (aP (ug K (bB 0) "kinds") (aP (ug K (bB 0) fx) (aP (bB 1) fw))) σ H Q:=by
 obtain⟨t,f,e⟩:=bind_eq e;refine⟨.ref p,c,p,C,dx,_,_,rfl,d.ob,g,m,o,?_⟩
 refine⟨.ref p,c,p,C,dx,_,_,rfl,d.ob,g,i,n,?_⟩
 refine⟨vw,h1,k,x,vw,F,xs,ds,0,j,J,.lst ws,ks,rfl,d.c,ek,w,ex,hd,h,?_⟩
 have Y:=GX ex;cases t with
 |non=>cases e;exact .inl ⟨f,λF1 H1 s=>I _ H1 s.toC (d.step s)⟩|tup l=>
  unfold DF at e;split at e
  .simp_all
  .rename_i a b v hh;cases hh;rw[hd]at e;dsimp only at e;split at e
   rotate_left
   .cases e
   rename_i q;cases e;exact .inr ⟨a,b,v,f,q,λF1 H1 u S y=>I _ _ (S.toC.trans ((d.step S).c.updC u Y) (d.step S).ex) ((d.step S).put Y y)⟩
  .cases e
 |_=>cases e
def vF(K:Pn)(C:f_)(mr:List A'->List A'->M (Bool×List A')):Sp:=λvs H Q _=>∃(p dx:f_) (xs:List f_) (F:Hp) (ds ws:List A') (vw:V) (r:Bool×List A'),vs=[.ref p,vw]/\Dr K C F H p dx xs ds/\aR K F (.lst ws) vw/\mr ds ws=.ok r/\Gu K C F H p dx xs r Q
def Ey{vs:b'}(q:Cls K C)(m:∀y∈(["kinds","gaps","beside","names","flights","closed"]:bv),bp K C y)(h:vF K C (nS mf) vs H Q E):
  j5 (uc (tNot (tTr K (gG nX [] E1 (aP (ug K (bB 0) "flights") (aP (gG (spF K b_ mf 3) [] E2 (aP (ug K (bB 0) "kinds") (aP (ug K (bB 0) "names") (aP (bB 1) fw)))) fw))))) (oX (tC (.bl b_))) kr)
   (j5 (uh (tBM K "list" pz (ug K (bB 0) "names") (aP (tD K Hh b_ (f2 ixD (ae 1) (fC (.int 1)))) fw))) (oX (tC (.bl d_)))) {nx:=λ_ H'=>Q .non H',rt:=Q} (start ["draft","words"] vs) H:=by
 obtain⟨p,dx,xs,F,ds,ws,vw,r,rfl,d,O,e,l⟩:=h;unfold nS at e;split at e
 rotate_left
 .cases e
 rename_i dk dg db dn df dc;obtain⟨k,g,b,n,f,c,rfl⟩:=d.len6;obtain⟨t,Z,e⟩:=bind_eq e;obtain⟨s,e1,e⟩:=bind_eq e;refine⟨.ref p,rfl,p,C,dx,_,_,rfl,d.ob,q,(m _ a8),dF4,?_⟩
 refine⟨.ref p,rfl,p,C,dx,_,_,rfl,d.ob,q,(m _ a8),dF0,?_⟩
 refine⟨.ref p,rfl,p,C,dx,_,_,rfl,d.ob,q,(m _ a8),dF3,?_⟩
 refine⟨vw,rfl,plus F H (·∈[k,g,b,n,f,c]),[.lst dk,.lst dn,.lst ws],d.c.zh,⟨_,_,rfl,d.c.deep (j:=0) rfl rfl,_,_,rfl,d.c.deep (j:=3) rfl rfl,_,_,rfl,O.mono d.c.ff,rfl⟩,rfl,?_⟩
 rw[Z];intro v F1 H1 N W;have S:=d.c.back N;have U:aR K (minus F1 (·∈[k,g,b,n,f,c])) t v:=d.c.flat N (by
  by_cases I:t=.non
  .rw[I];rfl
  .exact(oR I e1).choose_spec.2.1) W
 have G:=d.step S;unfold fw;dsimp only[];show nX [V.ref f,v] H1 _ E1;refine G.tell E1 (j:=4) rfl U e1 (λF2 H2 L J=>?_);refine⟨s.1,rfl,?_⟩
 cases A:s.1 with
 |false=>rw[A,k_ a']at e;cases e;have:=l F2 H2 (S.toC.trans L G.ex) J;rw[A]at this;exact this|true=>
  rw[A,g_ rfl]at e;obtain⟨nm,en,e⟩:=bind_eq e;have a:nm≠.non:=λz=>by rw[z]at e;cases e
  have e:ue 3 s.2 nm=.ok r:=by cases nm<;>first|exact Gw rfl a|exact e
  obtain⟨es3,D,X,B,rfl⟩:=oR a e;obtain⟨ys,I,P⟩:=J.c.lst (j:=3) (x:=n) rfl D;refine⟨.ref p,rfl,p,C,dx,_,_,rfl,J.ob,q,(m _ a8),dF3,?_⟩
  have u:=(O.mono S.ff).mono L.ff;refine⟨iB I,F2,[c_,a_ (.lst ws)],hR.only (σ:=[a_ (.ref p),a_ vw]) (i:=1) rfl u,J.c.fh,?_⟩
  rw[show f2 ixD (ae 1) (fC (.int 1)) [c_,a_ (.lst ws)]=.ok nm from en];intro w F3 H3 Y T;have o:=J.step Y;have R:n∈[k,g,b,n,f,c]:=by simp
  refine⟨n,ys,w,rfl,rfl,Y.hh _ _ I,by rw[P.length];exact B,?_⟩
  exact l F3 _ (((S.toC.trans L G.ex).trans Y.toC J.ex).trans (o.c.updC _ R) o.ex) (o.put R (o.c.app (j:=3) rfl (Y.hh _ _ I) (P.mono Y.ff) T))
end
section
variable{p:f_}{xs:List f_}{ds:List A'}{mg:List A'->M A'}{vw:V}{E4 E5 E6 E7:XK}
def Dr.ask(d:Dr K C F H p dx xs ds)(c:aR K F (.lst ws) vw){t:ah->M Bool}{f:Bool->M (Bool×List A')}(e:(t [c_,a_ (.lst ws)]).bind f=.ok r)(J:Gu K C F H p dx xs r Q){T:TS}{D:Ends}(a:∀F1 H1,Dr K C F1 H1 p dx xs ds->aR K F1 (.lst ws) vw->Gu K C F1 H1 p dx xs r Q->f d_=.ok r->T D [a_ (.ref p),a_ vw] H1)(j:∀F1 H1,Dr K C F1 H1 p dx xs ds->aR K F1 (.lst ws) vw->Gu K C F1 H1 p dx xs r Q->f b_=.ok r->U D [a_ (.ref p),a_ vw] H1):uc (tDT K Hh t) T U D [a_ (.ref p),a_ vw] H:=by
 obtain⟨b,g,e⟩:=bind_eq e;refine iV (hR.only (σ:=[a_ (.ref p),a_ vw]) (i:=1) rfl c) d.c.fh (λk h=>?_) λl Y F1 H1 I=>?_
 .have h:t [c_,a_ (.lst ws)]=.error k:=h;rw[g]at h;cases h
 .have Y:t [c_,a_ (.lst ws)]=.ok l:=Y;rw[g]at Y;cases Y;cases b with
  |true=>exact a F1 H1 (d.step I) (c.mono I.ff) (J.step d I) e|false=>exact j F1 H1 (d.step I) (c.mono I.ff) (J.step d I) e
def rs_row{B A z:ah->M Bool}{a:ah->M A'}{vs:b'}(w:Cls K C)(J:∀y∈(["kinds","gaps","beside","names","flights","closed"]:bv),bp K C y)(h:vF K C (oV t1 t2 B A z a mk mg ms mf) vs H Q E):
  j5 (uc (tDT K Hh t1) (oX (tC (.bl d_))) kr)
  (j5 (uc (tDT K Hh t2) (oX (gG nX [] E1 (aP (ug K (bB 0) "kinds") (aP (gG (spF K b_ mk 2) [] E2 (aP (ug K (bB 0) "kinds") (aP (bB 1) fw))) fw)))) kr)
  (j5 (uc (tDT K Hh B) (oX (gG (zA K mg) [] E3 (aP (ug K (bB 0) "kinds") (aP (ug K (bB 0) "gaps") (aP (bB 1) fw))))) kr)
  (j5 (uc (tDT K Hh A) (oX (gG (zA K mg) [] E4 (aP (ug K (bB 0) "kinds") (aP (ug K (bB 0) "beside") (aP (bB 1) fw))))) kr)
  (j5 (uc (tDT K Hh z) (oX (gG nX [] E5 (aP (ug K (bB 0) "closed") (aP (gG (spF K b_ ms 2) [] E6 (aP (ug K (bB 0) "closed") (aP (bB 1) fw))) fw)))) kr)
   (oX (tAndV (tD K Hh b_ a) (gG (vF K C (nS mf)) [] E7 (aP (bB 0) (aP (bB 1) fw))))))))) {nx:=λ_ H'=>Q .non H',rt:=Q} (start ["draft","words"] vs) H:=by
 obtain⟨p,dx,xs,F,ds,ws,vw,r,rfl,d,N,e,I⟩:=h;unfold oV at e;split at e
 rotate_left
 .cases e
 rename_i l o u m s t;obtain⟨k,g,b,n,f,c,rfl⟩:=d.len6;refine d.ask N e I (λF1 H1 d q I e=>?_) (λF1 H1 d q I e=>?_)
 .cases e;exact I F1 H1 ⟨aS.refl _,λ_ _ _ h=>h,d.c.fh,λ_ _ h=>.inl h⟩ d
 refine d.ask q e I (λF1 H1 d q I e=>?_) (λF1 H1 d q I e=>?_)
 .exact B1 d w (J _ a8) (J _ a8) rfl rfl q dF0 dF0 (j:=0) rfl (jy:=0) rfl rfl e I
 have G:∀{j:Nat} {fx:i_} {x:f_} {ks:List (ca×A')} {E':XK} {F1 H1:Hp},Dr K C F1 H1 p dx [k,g,b,n,f,c] [.lst l,.dic o,.dic u,.lst m,.lst s,.lst t]->aR K F1 (.lst ws) vw->Gu K C F1 H1 p dx [k,g,b,n,f,c] r Q->(mg [.lst l,.lst ws]).bind (DF j [.lst l,.dic o,.dic u,.lst m,.lst s,.lst t])=.ok r->bp K C fx->(gZ [k,g,b,n,f,c]).lookup fx=a_ (V.ref x)->[k,g,b,n,f,c][j]?=a_ x->([.lst l,.dic o,.dic u,.lst m,.lst s,.lst t]:List A')[j]?=a_ (.dic ks) ->
   gG (zA K mg) [] E' (aP (ug K (bB 0) "kinds") (aP (ug K (bB 0) fx) (aP (bB 1) fw))) [a_ (.ref p),a_ vw] H1 Q:=λ{j fx x ks E' F1 H1} d q I e nx O ex hd=>rs_putD2 d w nx (J _ a8) rfl rfl q dF0 O rfl rfl ex hd e I
 refine d.ask q e I (λF1 H1 d q I e=>?_) (λF1 H1 d q I e=>?_)
 .exact G (j:=1) d q I e (J _ a8) dF1 rfl rfl
 refine d.ask q e I (λF1 H1 d q I e=>?_) (λF1 H1 d q I e=>?_)
 .exact G (j:=2) d q I e (J _ a8) dF2 rfl rfl
 refine d.ask q e I (λF1 H1 d q I e=>?_) (λF1 H1 d q I e=>?_)
 .exact B1 d w (J _ a8) (J _ a8) rfl rfl q dF5 dF5 (j:=5) rfl (jy:=5) rfl rfl e I
 obtain⟨dd,L,e⟩:=bind_eq e;refine ba (hR.only (σ:=[a_ (.ref p),a_ vw]) (i:=1) rfl q) d.c.fh (λP h=>?_) λd' hd v F1 H1 Y D=>?_
 .have h:a [c_,a_ (.lst ws)]=.error P:=h;rw[L]at h;cases h
 .have hd:a [c_,a_ (.lst ws)]=.ok d':=hd;rw[L]at hd;cases hd;cases dd with
  |bl c=>
   cases c with
   |true=>cases(show v=V.bl d_ from D);exact⟨d_,rfl,.ref p,rfl,vw,rfl,p,dx,_,F1,_,ws,vw,r,rfl,d.step Y,q.mono Y.ff,e,I.step d Y⟩|false=>cases(show v=V.bl b_ from D);cases e;exact⟨b_,rfl,I F1 H1 Y.toC (d.step Y)⟩
  |_=>cases e
end
def spID(C:f_):Sp:=λvs H Q _=>∃(p dx:f_),vs=[.ref p]/\H p=a_ (.ins C dx [])/\∀(k g b n f c:f_) (H':Hp),(∀m o,H m=a_ o->m≠p->H' m=a_ o)->(∀x∈[k,g,b,n,f,c],H x=c_)->[k,g,b,n,f,c].Nodup ->
 H' k=a_ (.lst [])->H' g=a_ (zb g [] 0)->H' b=a_ (zb b [] 0)->H' n=a_ (.lst [])->H' f=a_ (.lst [])->H' c=a_ (.lst [])->H' p=a_ (.ins C dx (gZ [k,g,b,n,f,c]))->Q .non H'
section
variable{p:f_}{fs:List (i_×V)}{f:i_}{D:Ends}
theorem Cu.cell(c:Cu F H Hc p C dx fs)(n:Cls K C)(d:bp K C f)(g:f∉fs.map (·.1))(j:fs.length<1000)(k:σ[0]?=a_ (a_ (.ref p)))(J:Hc l=c_)(I:∀Y,Cu F H Y p C dx (fs++[(f,.ref l)])->H l=c_->Y l=a_ o->(∀m u,Hc m=a_ u->m≠p->Y m=a_ u)->D.nx σ Y):(bB 0) σ (upd Hc l o) λx H2=>∃a C dx fs,x=.ref a/\H2 a=a_ (.ins C dx fs)/\Cls K C/\bp K C f/\fs.length<1000/\D.nx σ (upd H2 a (.ins C dx (su f (.ref l) fs))):=by
 refine⟨.ref p,k,p,C,dx,fs,rfl,(c.lay J).ob,n,d,j,?_⟩
 rw[mn f _ fs g];have b:l≠p:=λz=>by have h:=c.ob;simp_all
 refine I _ ((c.lay J).put f (.ref l)) (c.new J) (by rw[ao b,aj]) λm u e i=>?_
 have:m≠l:=λz=>by rw[z,J]at e;cases e
 rw[ao i,ao this];exact e
end
theorem rs_initD{vs:b'}(a:Cls K C)(Y:∀y∈(["kinds","gaps","beside","names","flights","closed"]:bv),bp K C y)(h:spID C vs H Q E):
  j5 (xk K (bB 0) (tLst fw) "kinds") (j5 (xk K (bB 0) tNewK "gaps") (j5 (xk K (bB 0) tNewK "beside") (j5 (xk K (bB 0) (tLst fw) "names") (j5 (xk K (bB 0) (tLst fw) "flights") (xk K (bB 0) (tLst fw) "closed"))))) {nx:=λ_ H'=>Q .non H',rt:=Q} (start ["self"] vs) H:=by
 obtain⟨p,dx,rfl,hp,q⟩:=h;have C0:Cu (λ_=>c_) H H p C dx []:=⟨rfl,λ_ _ h=>(nomatch h),λ_ _ e _=>e,hp⟩
 have j:(0:Nat)<=j_:=Ib _;refine⟨j,λk Z=>C0.cell a (Y _ a8) a8 a8 rfl Z λH1 C1 d U k1=>?_⟩
 refine λg w=>C1.cell a (Y _ a8) (by show("gaps":i_)∉(["kinds"]:bv);decide +kernel) a8 rfl w λH2 C2 l T k2=>?_;refine λb s=>C2.cell a (Y _ a8) (by show("beside":i_)∉(["kinds","gaps"]:bv);decide +kernel) a8 rfl s λH3 C3 r S k3=>?_;refine⟨j,λn m=>C3.cell a (Y _ a8) (by show("names":i_)∉(["kinds","gaps","beside"]:bv);decide +kernel) a8 rfl m λH4 C4 v R t=>?_⟩
 refine⟨j,λf nf=>C4.cell a (Y _ a8) (by show("flights":i_)∉(["kinds","gaps","beside","names"]:bv);decide +kernel) a8 rfl nf λH5 C5 X P k5=>?_⟩
 refine⟨j,λc J=>C5.cell a (Y _ a8) (by show("closed":i_)∉(["kinds","gaps","beside","names","flights"]:bv);decide +kernel) a8 rfl J λH6 W o6 a6 i=>?_⟩
 have np:∀{x:f_},H x=c_->x≠p:=λ{x} h z=>by lia
 have O:=k2 _ _ U (np d);have N:=k3 _ _ O (np d);have L:=t _ _ N (np d);have G:=k5 _ _ L (np d);have g2:=k3 _ _ T (np l);have g3:=t _ _ g2 (np l);have A:=k5 _ _ g3 (np l);have F:=t _ _ S (np r);have D:=k5 _ _ F (np r);have B:=k5 _ _ R (np v);have I:∀{x y:f_} {u:Hp} {o:HO},u x=a_ o->u y=c_->x≠y:=λ{x y u o} h1 h2 z=>by lia
 refine q k g b n f c H6 W.kp (λx hx=>?_) ?_ (i _ _ G (np d)) (i _ _ A (np l)) (i _ _ D (np r)) (i _ _ B (np v)) (i _ _ P (np X)) a6 W.ob
 .grind
 .simp only[JO,q_,GQ,Iw,not_or,not_false_eq_true,NY,and_true];exact⟨⟨I U w,I O s,I N m,I L nf,I G J⟩,⟨I T s,I g2 m,I g3 nf,I A J⟩,⟨I S m,I F nf,I D J⟩,⟨I R nf,I B J⟩,I P J⟩
def drD(C:f_)(ds:List A'):A':=.ins C ((["kinds","gaps","beside","names","flights","closed"]:bv).zip ds)
noncomputable def ds0:List A':=[.lst [],.dic [],.dic [],.lst [],.lst [],.lst []]
section
variable{p:f_}{xs:List f_}{ds:List A'}
def Dr.frz(d:Dr K C F H p dx xs ds)(n:xs.length=6)(st:C6 F0 H0 F H)(l:∀x∈p::xs,H0 x=c_):∃G,C6 F0 H0 G H/\aS F G/\aR K G (drD C ds) (.ref p):=by
 have J:∀b,(b=p\/b∈xs)->F b=c_:=λb h=>h.elim (λz=>by rw[z];exact d.fp) λz=>(d.c.at z).1;have c:aS F (plus F H λb=>b=p\/b∈xs):=λb o h=>by
  by_cases I:b=p\/b∈xs
  .rw[J b I]at h;cases h
  .rw[cG I];exact h
 refine⟨plus F H λb=>b=p\/b∈xs,⟨st.ff.trans c,st.hh,λb o h=>?_,λb o h=>?_⟩,c,p,dx,gZ xs,rfl,by rw[i7 (.inl rfl)];exact d.ob,?_⟩
 .by_cases I:b=p\/b∈xs
  .rw[i7 I]at h;exact h
  .rw[cG I]at h;exact st.fh b o h
 .by_cases I:b=p\/b∈xs
  .exact .inr (l b (I.elim (λz=>by rw[z];exact Hg ..) λz=>Gv _ z))
  .rw[cG I]at h;exact st.nw b o h
 .have:∀(ns:bv) (ys:List f_) (es:List A'),ys.length=es.length->(∀(j:Nat) y e,ys[j]?=a_ y->es[j]?=a_ e->aR K (plus F H λb=>b=p\/b∈xs) e (.ref y))->jI K (plus F H λb=>b=p\/b∈xs) (ns.zip es) (ns.zip (ys.map V.ref)):=by
   intro ns
   induction ns with
   |nil=>intro _ _ _ _;rfl|cons a ns k=>
    intro ys es Y q
    match ys,es,Y with
    |[],[],_=>rfl|y::ys,e::es,Y=>exact⟨.ref y,_,rfl,q 0 y e rfl rfl,k ys es (by simpa using Y) λj f m h1 h2=>q (j+1) f m (by simpa using h1) (by simpa using h2)⟩
  refine this _ xs ds d.c.len λj y e h1 h2=>?_;obtain⟨i,g⟩:=d.c.own j y e h1 h2;exact g.give i c (i7 (.inr (GX h1)))
end
def eqE:A'->A'->M A'
 |.dic ks,.dic []=>.ok (.bl ks.isEmpty)|a,b=>eqM a b
@[simp]def e_eqE(ks:List (ca×A')):eqE (.dic ks) (.dic [])=.ok (.bl ks.isEmpty):=id rfl
def eq_dicE{w:GW}{E:Mq}{Q:Mq}{xs:List oU}(c:qj s.heap a xs ep)(Y:qj s.heap b [] ep')(J:A.units<IL)(h:Q (.bool xs.isEmpty) s):D_ (GD prog w) A (GL .Eq (.ref a) (.ref b)) Q E s:=by
 cases xs with
 |nil=>obtain⟨k,p⟩:=G0 (P:=prog) (w:=w) c;obtain⟨n2,o⟩:=G0 (P:=prog) (w:=w) Y;exact PySem.W.keq_eq k n2 p o J (λ_=>.nil) h
 |cons x xs=>
  obtain⟨vs,d,j,_,_,g,es,h1,h2,m,l⟩:=c;obtain⟨us,e,i,_,_,f,fs,g1,g2,g3,n⟩:=Y;have ta:s.TypeIs (.ref a) "dict":=⟨g,h1,h2.1⟩
  have tb:s.TypeIs (.ref b) "dict":=⟨f,g1,g2.1⟩
  have I:es.size≠fs.size:=by
   have e1:es.size=vs.length:=by rw[<- Im,l,w_]
   have e2:fs.size=us.length:=by rw[<- Im,n,w_]
   have e3:=d.length;have e4:=e.length;rw[e1,e2,<- e3,<- e4];simp
  refine wpAny_richCompare_same_room (op:=.Eq) ta tb Mg (OB Mg ta PySem.F.entry_dict_eq ?_ (PySem.F.args_dict_eq_2 _ _)) J;refine(show D_ _ _ (La "__eq__" ⟨[.ref a,.ref b],[]⟩ >>= _) _ _ s from n_ (by unfold La;refine n_ (wpAny_notOrdered_dict ta (show D_ _ _ (Ig (GP a,GP b)) _ _ s from F_ (n_ (wpAny_isInstance (T:="dict") tb PySem.F.sub_dict_dict ?_))));simp only[Bool.not_true,Bool.false_eq_true,if_false];refine n_ (F_ (n_ (F_ (n_ ?_))));unfold Builtin.Dict.samePairs Builtin.Dict.showsAll;rw[k_ (by rw[j];decide),k_ (by rw[i];decide)];refine n_ (F_ (n_ (F_ (n_ (Od h1 m (n_ (Od g1 g3 ?_)))))));rw[g_ (by simpa using I)];refine n_ (wpAny_rule (F_ (F_ ⟨_,rfl,(λx=>nomatch x),?_⟩)));simpa using h))
section
variable{W:gf}{own:Bool}
theorem o_eqE(j:X.A.units+64<IL)(k: ~~~(X.K=K)):Op2 K W own X (GL .Eq) eqE:=by
 intro B' s σ H x y v u Q I c Y h;obtain⟨F,a,b,J,f,d,p⟩:=h;by_cases g:∃ks,a=.dic ks/\b=.dic []
 .obtain⟨ks,rfl,rfl⟩:=g;obtain⟨o,xs,rfl,⟨m,h1⟩,i⟩:=f;obtain⟨n,ys,rfl,⟨l,h2⟩,r2⟩:=d;cases c;cases Y;cases(show ys=[]from r2);have e:xs.isEmpty=ks.isEmpty:=by
   have:=i.length;cases xs<;>cases ks<;>simp_all
  refine eq_dicE (BF I (J _ _ h1)) (BF I (J _ _ h2)) am ⟨.bl _,H,I,rfl,?_⟩;rw[e];exact p (.bl _) F H (C6.refl J) (by cases own<;>rfl)
 .have e:eqE a b=eqM a b:=by
   unfold eqE;split
   .rename_i ks;exact Gw ⟨ks,rfl,rfl⟩ g
   .rfl
  rw[e]at p;exact nj j k B' s σ H x y v u Q I c Y ⟨F,a,b,J,f,d,p⟩
end
section
variable{w:GW}{base:Hq}{x:i_}
def YR(_:∃f fd,Def K mg x st ps f fd)(P:HP)(w:GW)(base:Hq)(k:Nat)(sp:Sp):Prop:=∃f fd,Yd P w K mg base CX0 k x st ps sp f fd
def fR(N:bv){h:∃f fd,Def K mg x st ps f fd}(I:∀vs H Q E,sp vs H Q E->vs.length=ps.length)(Y:∀z:B7,N.Nodup->jr k (z.A.deeper (IS x (aA st) z.s.heap.objs.size z.f z.c))->∀(vs:b') (Q:VK),sp vs z.H Q z.E->∃t,PSs (x4 CX0 P w K mg base N x (aA st) z.f z.c z.A z.o z.s z.H z.E).nox (bT st) t/\t {nx:=λ_ H'=>Q .non H',rt:=Q} (start N vs) z.H)(S:autoParam (gB N ps (aA st)) Jq9):YR h P w base (k+1) sp:=
 let ⟨f,fd,D⟩:=h
 ⟨f,fd,D,D.fn.okX S I λc A o s H vs Q E J h=>Y ⟨f,c,A,o,s,H,E⟩ S.nd J vs Q h⟩
end
section
variable{x:i_}
def pY(Y:∃f fd,Yd X.prog X.w X.K X.mg X.base CX0 k x st ps sp f fd)(b:jr j X.A)(g:PA X (e::es) t)(c:(k<=j)⁻¹)(d: ~~~(Gl X x))(a:((x==("__debug__":i_))=b_)⁻¹)(I: ~~~(h_ (e::es) X.env=(b_,GI e X.env)::h_ es X.env))(J: ~~~((He pos (h_ es X.env)).any (·.1)=b_)):PE X (.Call (.Name x p) (e::es) [] pos) (gG sp [] E0 t):=let ⟨_,_,Y⟩:=Y;kx Y.o (b.mono c) d Y.d.mg Y.d.fn.kp Y.d.bd .nil qQ g a I J
theorem hU(h:n+64<IL):n+1<IL:=am
end
def len_told{vs:b'}(h:nX vs H Q E):vs.length=2:=by obtain⟨_,_,rfl,_⟩:=h;rfl
def len_gap{mg:List A'->M A'}{vs:b'}(h:zA K mg vs H Q E):vs.length=3:=by obtain⟨_,_,_,_,_,_,_,_,_,_,_,rfl,_⟩:=h;rfl
def Fq{vs:b'}(h:vF K C mr vs H Q E):vs.length=2:=by obtain⟨_,_,_,_,_,_,_,_,rfl,_⟩:=h;rfl
def len_ID{vs:b'}(h:spID C vs H Q E):vs.length=1:=by obtain⟨_,_,rfl,_⟩:=h;rfl
def p7:A'->Option Int->Option Int->M A'
 |.str z,lo,hi=>if z.length<=j_ then .ok (.str (JK z lo hi))else stk
 |_,_,_=>stk
@[simp]def e_sliceSD(z:i_)(lo hi:Option Int):p7 (.str z) lo hi=if z.length<=j_ then .ok (.str (JK z lo hi))else stk:=id rfl
section
variable{W:gf}{own:Bool}
def x_slS:SlR X (rDS K W own p7):=by
 intro B' s σ H x v b Y lo hi o Q I d j pl f h;obtain⟨F,a,c,e,p⟩:=h;cases a with
 |str z=>
  have p:aH K W own F H (if z.length<=j_ then .ok (.str (JK z lo hi))else stk) Q:=p;cases(show x=V.str z from e);obtain⟨t,rfl⟩:=(show ∃t,v=Ij z t from d)
  by_cases J:z.length<=j_
  .rw[g_ J]at p;obtain⟨l,n,g⟩:∃l,b=partValue l/\lo=l.map (·.1):=by
    cases pl with
    |none=>exact⟨c_,rfl,rfl⟩|int i t=>exact⟨a_ (i,t),rfl,rfl⟩
   obtain⟨r,m,mr⟩:∃l,Y=partValue l/\hi=l.map (·.1):=by
    cases f with
    |none=>exact⟨c_,rfl,rfl⟩|int i t=>exact⟨a_ (i,t),rfl,rfl⟩
   subst n m g mr;refine⟨"str",_,PySem.F.slot_str_getitem.lookup,Kg _ _ _,wpAny_getItem_str_slice (l:=l) (u:=r) (st:=c_) j rfl (post_val_or_str ⟨Ha (Txt.slice_le z _ _) J,λt' k=>?_⟩)⟩
   exact⟨.str _,H,I.tok _,⟨_,rfl⟩,p.str c⟩
  .rw[k_ J]at p;exact aH.stuck p
 |_=>exact aH.stuck p
end
section
variable{ds:List A'}{vs:List V}
theorem AJ.upd{c:f_}{u:HO}(o:AJ K F G H ds vs)(n:∀k:Nat,vs[k]?≠a_ (.ref c)):AJ K F G (Lake.upd H c u) ds vs:=⟨o.len,λk d e=>by obtain⟨a,xs,es,h1,h2,J,I⟩:=o.get k d e;exact⟨a,xs,es,h1,h2,by rw[ao (λz=>n k (by rw[<- z];exact h1))];exact J,I⟩,o.ap⟩
def rF(l:List α)(j k:Nat):(l.eraseIdx j)[k]?=l[if k<j then k else k+1]?:=by rw[List.getElem?_eraseIdx];split<;>rfl
theorem AJ.erase(o:AJ K F G H ds vs)(j:Nat):AJ K F G H (ds.eraseIdx j) (vs.eraseIdx j):=by
 refine⟨by rw[MK,MK,o.len],λk d e=>?_,λi k a e1 e2=>?_⟩
 .rw[rF]at e ⊢;exact o.get _ d e
 .rw[rF]at e1 e2;have:=o.ap _ _ a e1 e2;lia
end
structure MixH(K:Pn)(F0 H0 F:Hp)(ar al:f_)(H:Hp)(xs ys:b')(out rs:List A'):Prop where
 st:C6 F0 H0 F H
 hr:H ar=a_ (.lst xs)
 fr:F ar=c_/\H0 ar=c_
 hl:H al=a_ (.lst ys)
 fl:F al=c_/\H0 al=c_
 na:ar≠al
 nl:∀m:Nat,ys[m]?≠a_ (.ref al)
 nr:∀m:Nat,ys[m]?≠a_ (.ref ar)
 ow:AJ K F H0 H rs ys
 dq:az K F out xs
def mixA(ar al:f_)(ys:b')(c:f_):Prop:=c=ar\/c=al\/∃m:Nat,ys[m]?=a_ (.ref c)
section
variable{ar al:f_}{xs ys:List V}{out rs:List A'}
theorem MixH.same(h:MixH K F0 H0 F ar al H xs ys out rs)(s:aS H H'):MixH K F0 H0 F ar al H' xs ys out rs:=
 have t:=C6.same h.st.fh s
 ⟨h.st.trans t,s _ _ h.hr,h.fr,s _ _ h.hl,h.fl,h.na,h.nl,h.nr,h.ow.step t,h.dq⟩
def C6.put{u:HO}(s:C6 F0 H0 F H)(f:F c=c_/\H0 c=c_):C6 F0 H0 F (upd H c u):=
 ⟨s.ff,λb o e=>by rw[ao (aV e f.2)];exact s.hh b o e,λb o e=>by rw[ao (aV e f.1)];exact s.fh b o e,s.nw⟩
def MixH.drop(h:MixH K F0 H0 F ar al H xs ys out rs)(j:Nat):MixH K F0 H0 F ar al (upd H al (.lst (ys.eraseIdx j))) xs (ys.eraseIdx j) out (rs.eraseIdx j):=
 ⟨h.st.put h.fl,by rw[ao h.na];exact h.hr,h.fr,aj,h.fl,h.na,λm e=>h.nl _ (by rw[rF]at e;exact e),λm e=>h.nr _ (by rw[rF]at e;exact e),(h.ow.upd h.nl).erase j,h.dq⟩
def MixH.none(h:MixH K F0 H0 F ar al H xs ys out rs){c:f_}(I:mixA ar al ys c):F c=c_:=by
 rcases I with rfl|rfl|⟨m,e⟩
 .exact h.fr.1
 .exact h.fl.1
 .obtain⟨_,_,_,_,z,_⟩:=h.ow.at e;exact z
end
def Th(F F':Hp):Prop:=∀b o,F b=a_ o->F' b=a_ (unF o)
def Th.tup(s:Th F F'){xs:b'}(h:SqT K F a xs):SqT K F' a xs:=by
 rcases h with(h|⟨o,h⟩)|h
 .exact .inl (.inl (s _ _ h))
 .exact .inl (.inl (s _ _ h))
 .exact .inr h
def Th.lst(s:Th F F'){xs:b'}(h:SqL K F a xs):SqL K F' a xs:=by
 rcases h with(h|⟨o,h⟩)|h
 .exact .inl (.inl (s _ _ h))
 .exact .inl (.inl (s _ _ h))
 .exact .inr h
mutual
theorem aR.th(s:Th F F'):∀{d:A'} {v:V},aR K F d v->aR K F' d v
 |.non,_,h=>h|.bl _,_,h=>h|.int _,_,h=>h|.str _,_,h=>h|.tup _,_,⟨a,xs,e,q,r⟩=>⟨a,xs,e,s.tup q,az.th s r⟩|.lst _,_,⟨a,xs,e,q,r⟩=>⟨a,xs,e,s.lst q,az.th s r⟩|.ins _ _,_,⟨a,dx,fs,e,q,r⟩=>⟨a,dx,fs,e,s _ _ q,jI.th s r⟩|.dic _,_,⟨a,xs,e,⟨ep,q⟩,r⟩=>⟨a,xs,e,⟨ep,s _ _ q⟩,dU.th s r⟩|.dil _,_,⟨a,xs,e,⟨ep,q⟩,r,z⟩=>⟨a,xs,e,⟨ep,s _ _ q⟩,r,λx f=>let ⟨r,bs,t1,t2,l,Y⟩:=z x f;⟨r,bs,s.tup t1,s.tup t2,l,λj I c e1 e2=>s.tup (Y j I c e1 e2)⟩⟩
theorem az.th(s:Th F F'):∀{ds:List A'} {xs:b'},az K F ds xs->az K F' ds xs
 |[],_,h=>h|_::_,_,⟨v,vs,e,q,r⟩=>⟨v,vs,e,aR.th s q,az.th s r⟩
theorem jI.th(s:Th F F'):∀{J:List (i_×A')} {fs:List (i_×V)},jI K F J fs->jI K F' J fs
 |[],_,h=>h|(_,_)::_,_,⟨v,r,e,q,t⟩=>⟨v,r,e,aR.th s q,jI.th s t⟩
theorem dU.th(s:Th F F'):∀{ks:List (ca×A')} {xs:List oU},dU K F ks xs->dU K F' ks xs
 |[],_,h=>h|(_,_)::_,_,⟨b,v,r,e,t,q,z⟩=>⟨b,v,r,e,s.tup t,aR.th s q,dU.th s z⟩
end
open Classical in
structure Bent(F0 H0 F:Hp)(p C dx:Addr)(fs:List (Str×V))(bk bf be:Addr)(H:Hp):Prop where
 st:C6 F0 H0 F H
 ob:H p=some (.ins C dx fs)
 k:∃y,H bk=some (.lst y)
 f:∃y,H bf=some (.lst y)
 e:∃y,H be=some (.lst y)/\y.length<sizeLine
 nk:F bk=none/\H0 bk=none
 nf:F bf=none/\H0 bf=none
 ne:F be=none/\H0 be=none
section
variable{p:f_}{fs:List (i_×V)}{bk bf be:f_}
theorem Bent.same(b:Bent F0 H0 F p C dx fs bk bf be H)(s:aS H H'):Bent F0 H0 F p C dx fs bk bf be H':=
 ⟨b.st.trans (C6.same b.st.fh s),s _ _ b.ob,b.k.imp λ_ h=>s _ _ h,b.f.imp λ_ h=>s _ _ h,b.e.imp λ_ h=>⟨s _ _ h.1,h.2⟩,b.nk,b.nf,b.ne⟩
end
def spX1(C:f_)(f1:i_):Sp:=λvs H Q _=>∃a v1,vs=[.ref a,v1]/\H a=a_ (XO a C c_)/\∀d,H d=c_->d≠a->Q .non (upd (upd H d (XD d [(f1,v1)])) a (XO a C (a_ d)))
section
variable{f1:i_}{v1:V}
theorem new_x1(FB:JL B newId initId bmB)(E:qH X.K C bmB newId f=d_)(A:Iy X.K (.ref f)=a_ (.type "function"))(F:iZ X.prog X.w X.K X.mg X.base CX0 k f fd ps (spX1 C f1))(x:jr (k+1) X.A)(D:Binds X.K fd ps [])(I:Cv X B' σ H s)(r:Gr [v1] us):D_ (GD X.prog X.w) X.A (JR (.ref C) us) (λv s'=>∃a d,v=.ref a/\s.heap.objs.size<=a/\H a=c_/\H d=c_/\d≠a/\Cv X B' σ (upd (upd H d (XD d [(f1,v1)])) a (XO a C (a_ d))) s') X.xe s:=by
 obtain⟨tl,N,nm,P,bs,hdct,sn,sub,ab,col,dd,k0,k1,k2,k3,k5,mN,m,l,j,i⟩:=wH I.kIn E;obtain⟨oI,t,p⟩:=fn_at I.kIn A;obtain⟨hh,gg,L,c,os⟩:=s;have Q:=Hr;have y:us.length<=j_:=by rw[<- r.length];show 1<=j_;lia
 refine x_call FB i m l j t p y ?_;have o:(vx hh C us).get? (hh.objs.size+1)=a_ (DR C hh.objs.size):=xn;have J:Cv X B' σ (upd H (hh.objs.size+1) (XO (hh.objs.size+1) C c_)) {(⟨hh,gg,L,c,os⟩:u_)with heap:=vx hh C us,toks:=c}:=
  I.laid (λb u q=>rL q) (Hw _) (xo_ok (vs:=#[.ref hh.objs.size,.none,.none,.none,.bool b_,.none]) rfl o)
 have fa:H (hh.objs.size+1)=c_:=I.hok.fresh (Hw _);have w:Gr [V.ref (hh.objs.size+1),v1] (GP (hh.objs.size+1)::us++[]):=by rw[Ia];exact .cons rfl r
 have q:spX1 C f1 [V.ref (hh.objs.size+1),v1] (upd H (hh.objs.size+1) (XO (hh.objs.size+1) C c_)) (λv H2=>v=.non/\∃d,H d=c_/\d≠hh.objs.size+1/\H2=upd (upd H d (XD d [(f1,v1)])) (hh.objs.size+1) (XO (hh.objs.size+1) C (a_ d))) (λ_ _ _=>False):=
  ⟨_,v1,rfl,aj,λd hd g=>⟨rfl,d,by rw[ao g]at hd;exact hd,g,upd_low⟩⟩
 have n:(GP (hh.objs.size+1)::us++[]).length=ps.length:=w.length.symm.trans (F.len _ _ _ _ q);refine KJ (IK (F.run _ X.stack _ _ ⟨.ref (hh.objs.size+1)::us,[]⟩ _ _ _ (λ_ _ _=>False) (x.make C us []) (J.env0.make C us []) (D _ (.ref (hh.objs.size+1)::us) J.kIn n) w q) λz s' Y=>?_);cases z with
 |error e=>exact(show False from Y).elim|ok fl=>
  cases fl with
  |ret u=>obtain⟨v,H',O,h,K,d,h1,h2,G⟩:=J.after Y;subst K G;exact⟨h,_,d,rfl,Hw _,fa,h1,h2,O⟩
  |_=>exact Hi Y
end
def zw(t:TA)(C:f_)(f1:i_)(E:XK):TS:=λ_ σ H=>t σ H λvs H1=>∃v1,vs=[v1]/\∀d,H1 d=c_->E (.ref C) (a_ d) (upd H1 d (.xd [(f1,v1)]))
section
variable{x:i_}{f1:i_}
theorem yb(FB:JL B newId initId bmB)(P:XEq2 X E C)(A:qH X.K C bmB newId f=d_)(W:Iy X.K (.ref f)=a_ (.type "function"))(S:Ja X.K (.ref C)=d_)(F:iZ X.prog X.w X.K X.mg X.base CX0 k f fd ps (spX1 C f1))(y:jr (k+1) X.A)(c:Binds X.K fd ps [])(R:X.mg x=a_ (.ref C))(Z:PA X [e1] t)(U: ~~~(Gl X x))(n:((x==("__debug__":i_))=b_)⁻¹)(l: ~~~(h_ [e1] X.env=[(b_,GI e1 X.env)])):
  PS X (.Raise (a_ (.Call (.Name x np) [e1] [] cpos)) c_ pos) (zw t C f1 E):=by
 intro B' s σ H D I h;obtain⟨tl,N,nm,G,bs,hdct,sn,sub,ab,col,dd,k0,k1,k2,k3,k5,mN,L,o2,o3,K⟩:=wH I.mod.kin A;rw[arm_exec_Raise];refine n_ (Jy (zo (C:=C) (nm:=nm) (q:=G) (N:=N) (bs:=bs) (tl:=tl) (hdct:=hdct) (sn:=sn) (sub:=sub) (ab:=ab) (col:=col) (dd:=dd) (k0:=k0) (k1:=k1) (k2:=k2) (k3:=k3) (k5:=k5) (newId:=newId) (K.hasType FB.hasBase) y.hd (n_ (H9 ?_ λv w Y=>n_ (Jy (F_ Y))))));refine ID (lS I U R (Lw (h₀:=X.base) I.ok.mod.kin S (H9 (Z cpos B' s σ H _ I h) λus s1 m=>?_) l rfl) n);obtain⟨vs,H1,p,r,i⟩:=m;refine⟨p.kIn,?_⟩
 obtain⟨v1,rfl,i⟩:=i;refine H9 (new_x1 FB A W F y c p r) λv g m=>?_;obtain⟨a,d,ev,Q,fa,fd',j,J⟩:=m;subst ev;obtain⟨vs,u,z⟩:=xo_get (J.hok a _ aj);have e:upd (upd H1 d (XD d [(f1,v1)])) a (XO a C (a_ d)) d=a_ (XD d [(f1,v1)]):=by rw[ao j];exact aj
 have J2:Cv X B' σ (upd H1 d (.xd [(f1,v1)])) {g with heap:=g.heap,toks:=g.toks}:=by
  refine J.turn (λb=>b=a\/b=d) (λb o _ q=>q) (λb nb=>?_) (λb c=>?_) (λb o _ q=>⟨o,q⟩) λb o c q=>?_
  .simp_all[ao]
  .rcases c with rfl|rfl
   .exact .inl ⟨_,aj⟩
   .exact .inl ⟨_,e⟩
  .rcases c with rfl|rfl
   .rw[ao (HI j),fa]at q;cases q
   .rw[aj]at q;cases q;obtain⟨mA,O,n2,_⟩:=xd_get (J.hok _ _ e);exact⟨mA,O,n2⟩
 refine⟨a,_,rfl,J.bk _ _ L,z,rfl,⟨vs,rfl,u⟩,P B' σ _ g a d J2 ⟨⟨_,vs,z,rfl,rfl,rfl,u⟩,λT hT=>nomatch hT⟩ (get_none (Ha p.sz Q)) (by rw[ao (HI j)];exact fa) (i d fd')⟩
end
def xRes1(C:f_)(f1:i_):List A'->M Gp
 |[a]=>.error (.exc C [(f1,a)])|_=>.error .stuck
def Ck(C:f_)(f1:i_)(fr:ah->M (List A')):ah->M Gp:=λρ=>(fr ρ).bind (xRes1 C f1)
@[simp]def e_sExc1(C:f_)(f1:i_)(fr:ah->M (List A'))(ρ:ah):Ck C f1 fr ρ=(fr ρ).bind (xRes1 C f1):=id rfl
@[simp]def e_xRes1(C:f_)(f1:i_)(a:A'):xRes1 C f1 [a]=.error (.exc C [(f1,a)]):=id rfl
section
variable{x:i_}{fr:ah->M (List A')}{f1:i_}
def FW(FB:JL B newId initId bmB)(j:XEq2 X E C)(y:qH X.K C bmB newId f=d_)(t:Iy X.K (.ref f)=a_ (.type "function"))(o:Ja X.K (.ref C)=d_)(F:iZ X.prog X.w X.K X.mg X.base CX0 k f fd ps (spX1 C f1))(l:jr (k+1) X.A)(v:Binds X.K fd ps [])(n:X.mg x=a_ (.ref C))(w:DA K (WE K E) X [e1] fr)(s: ~~~(Gl X x))(b:((x==("__debug__":i_))=b_)⁻¹)(Y: ~~~(h_ [e1] X.env=[(b_,GI e1 X.env)])):
  DS K (WE K E) ro X OL O O' (.Raise (a_ (.Call (.Name x np) [e1] [] cpos)) c_ pos) (Ck C f1 fr):=λF0 H0=>PS.imp (yb FB j y t o F l v n w s b Y) λD σ H ⟨A,F,ρ,r,p⟩=>by
 have h:=r.freeze (O2:=[]) a8;refine rO r.xY r.pB (λe u=>p.uF h.st (by unfold Ck;rw[u];rfl)) λds hd vs F1 H1 g q=>?_;have z:Ck C f1 fr ρ=xRes1 C f1 ds:=by unfold Ck;rw[hd];rfl
 rw[z]at p;rcases ds with _|⟨a,_|⟨_,_⟩⟩
 .exact((WE K E).ns p).elim
 rotate_left
 .exact((WE K E).ns p).elim
 .obtain⟨I,J,rfl,i,m⟩:=q;cases(show J=[]from m);refine⟨I,rfl,λd c=>?_⟩
  have st:=h.st.trans g;have st2:C6 F1 H1 (upd F1 d (.xd [(f1,I)])) (upd H1 d (.xd [(f1,I)])):=C6.lay g.fh c;exact p _ _ (st.trans st2) d _ aj ⟨I,[],rfl,aR.mono st2.ff i,rfl⟩
end
def ph(CN:f_)(f1:i_)(mr:List A'->List A'->M (Bool×List A'))(mw:List A'->M A'):Nat->List A'->List A'->M (List A')
 |_,[],ds=>.ok ds|k,I::rows,ds=>(noX (mw [I])).bind λw=>match w with
  |.lst ws=>(noX (mr ds ws)).bind λr=>if r.1=d_ then ph CN f1 mr mw (k+1) rows r.2 else .error (.exc CN [(f1,.int (k:Nat))])
  |_=>stk
def sd(C CN:f_)(f1:i_)(mr:List A'->List A'->M (Bool×List A'))(mw:List A'->M A')(di ni ri:Nat)(fs:ah->M A')(g:ah->M Gp):ah->M Gp:=λρ=>if (o_ (di<ρ.length)&&o_ (ni<ρ.length)&&o_ (ri<ρ.length))=d_ then(noX (fs (ρ.set di c_))).bind λd=>match d with
 |.lst rows=>(ph CN f1 mr mw 1 rows ds0).bind λds=>g ((((ρ.set di c_).set ni c_).set ri c_).set di (a_ (drD C ds)))|_=>stk
 else stk
section
variable{f1:i_}{D:Ends}{fs:ah->M A'}{gg:ah->M Gp}
theorem Ez(L:di≠ni)(B:di≠ri)(hnr:ni≠ri)(t:tS K (WE K E) b_ F0 H0 OL [] O' (sd C CN f1 mr mw di ni ri fs gg) D σ H):
  j5 (uM (C7 C (spID C) [] E1 fw) (hG di)) (j5 (tFor (FD K (tD K Hh b_ fs)) (gTup K 2 (yz (hG ni) (yz (hG ri) gNil)))
   (uc (tNot (tTr K (gG (vF K C mr) [] E2 (aP (bB di) (aP (gG (spF K b_ mw 1) [] E3 (aP (bB ri) fw)) fw))))) (zw (aP (bB ni) fw) CN f1 E) kr)) (tS K (WE K E) b_ F0 H0 OL [] O' gg)) D σ H:=by
 obtain⟨FB,F,ρ,r,q⟩:=t;unfold sd at q;split at q
 rotate_left
 .exact q.stuck rfl
 rename_i hc;simp only[l_,GH]at hc;obtain⟨⟨hd,hn⟩,hr⟩:=hc;have rE:=r.repE;have ls:=rE.len;intro p dx O hdx hne;refine⟨p,dx,rfl,aj,λk g b n f c H1 kp U nd ak ag ab an af ac ap=>⟨rfl,?_⟩⟩
 have old:∀{m:f_},upd (upd H dx (.own p)) p (.ins C dx []) m=c_->H m=c_:=λ{m} h=>by
  cases Y:H m with
  |none=>rfl|some o=>
   have h1:m≠p:=λz=>by rw[z,O]at Y;cases Y
   have h2:m≠dx:=λz=>by rw[z,hdx]at Y;cases Y
   rw[ao h1,ao h2,Y]at h;cases h
 have s1:aS H H1:=λm o e=>by
  have h1:m≠p:=λz=>by rw[z,O]at e;cases e
  have h2:m≠dx:=λz=>by rw[z,hdx]at e;cases e
  exact kp m o (by rw[ao h1,ao h2];exact e) h1
 have S1:C6 F H F H1:=C6.same r.st.fh s1;have N:∀x∈p::[k,g,b,n,f,c],H x=c_:=λx N=>(q_.mp N).elim (λz=>by rw[z];exact O) λz=>old (U x z);have h0:∀x∈p::[k,g,b,n,f,c],H0 x=c_:=λx h=>r.st.hh.free (N x h);have cell:∀(j:Nat) (x:f_) (d:A'),[k,g,b,n,f,c][j]?=a_ x->ds0[j]?=a_ d->isO d=d_/\nO K F (λ_=>c_) H1 d (.ref x):=λj x d e1 e2=>by
  have fx:F x=c_:=r.st.fh.free (N x (Gv _ (GX e1)));rcases j with _|_|_|_|_|_|j
  .cases e1;cases e2;exact⟨rfl,_,[],rfl,ak,fx,rfl,rfl⟩
  .cases e1;cases e2;exact⟨rfl,_,[],rfl,⟨0,ag⟩,fx,rfl,rfl⟩
  .cases e1;cases e2;exact⟨rfl,_,[],rfl,⟨0,ab⟩,fx,rfl,rfl⟩
  .cases e1;cases e2;exact⟨rfl,_,[],rfl,an,fx,rfl,rfl⟩
  .cases e1;cases e2;exact⟨rfl,_,[],rfl,af,fx,rfl,rfl⟩
  .cases e1;cases e2;exact⟨rfl,_,[],rfl,ac,fx,rfl,rfl⟩
  .simp at e1
 have d1:Dr K C F H1 p dx [k,g,b,n,f,c] ds0:=⟨⟨S1.fh,nd,rfl,cell⟩,ap,r.st.fh.free O,λz=>by have:=U p z;rw[aj]at this;cases this⟩
 have hs1:(σ.set di (a_ (.ref p)))[di]?=a_ (a_ (.ref p)):=x_ (by rw[<- ls];exact hd);refine ba (rE.hide di (a_ (.ref p))) S1.fh (λe he=>by rw[he]at q;exact q.stuck rfl) λdl hdl v F2 H2 S q2=>?_;rw[hdl]at q;simp only[qq,aq]at q;cases dl with
 |lst rows=>
  dsimp only at q;obtain⟨a,ys,rfl,sq,qs⟩:=(show aR K F2 (.lst rows) v from q2)
  refine⟨a,rfl,⟨ys,S.fh.lst sq⟩,?_⟩
  have W1:=(r.st.trans S1).trans S;refine⟨λi m σ' H'=>m+i=rows.length/\σ'.length=σ.length/\(∀j,j≠ni->j≠ri->σ'[j]?=(σ.set di (a_ (.ref p)))[j]?)/\∃F' ds',aS F2 F'/\C6 F0 H0 F' H'/\Dr K C F' H' p dx [k,g,b,n,f,c] ds'/\kN K (WE K E) b_ F0 H0 FB OL O' D ((ph CN f1 mr mw (i+1) (rows.drop i) ds').bind λds=>gg ((((ρ.set di c_).set ni c_).set ri c_).set di (a_ (drD C ds)))),
   ⟨rows.length,rfl,GB,λ_ _ _=>rfl,F2,ds0,aS.refl _,W1,d1.step S,q⟩,λi m σ' H' ⟨e1,e2,e3,F',ds',Q,st,d,I⟩=>?_⟩
  have s:SqL K H' a ys:=st.fh.lst (Q.lst sq);by_cases Y:m=0
  .refine .inl ⟨⟨ys,s,by rw[qs.length];lia⟩,?_⟩;rw[Kz am]at I;have q:kN K (WE K E) b_ F0 H0 FB OL O' D (gg ((((ρ.set di c_).set ni c_).set ri c_).set di (a_ (drD C ds')))):=I;obtain⟨G,sG,fG,qG⟩:=d.frz rfl st h0;refine⟨FB,G,_,Rep.ofE (F:=G) ?_ sG (r.fb.trans ((S1.ff.trans S.ff).trans (Q.trans fG))),q⟩
   have a1:=(rE.mono ((S1.ff.trans S.ff).trans (Q.trans fG))).hide di (a_ (.ref p));have a2:hR K G σ' (((ρ.set di c_).set ni c_).set ri c_):=⟨by rw[GB,GB,GB,e2,ls],λj d' h=>by
    have hj1:ri≠j:=λz=>by rw[z,Mh]at h;cases hh:((ρ.set di c_).set ni c_)[j]?<;>rw[hh]at h<;>cases h
    rw[p_ hj1]at h;have hj2:ni≠j:=λz=>by rw[z,Mh]at h;cases hh:(ρ.set di c_)[j]?<;>rw[hh]at h<;>cases h
    rw[p_ hj2]at h;obtain⟨v,h1,h2⟩:=a1.sl j d' h;exact⟨v,by rw[e3 j (HI hj2) (HI hj1)];exact h1,h2⟩⟩
   exact a2.tell (v:=.ref p) (by rw[e3 di L B];exact hs1) qG
  .have hi:i<rows.length:=am
   have A:i<ys.length:=by rw[qs.length];exact hi
   refine .inr ⟨⟨ys,ys[i],s,by simp[A]⟩,_,λσ2 H2 z=>⟨m-1,am,z⟩,λx H3 O=>?_⟩;obtain⟨T,y,hT,ex,eH,hy⟩:=O;subst ex eH;have ey:=hy ys s;rw[G_ A]at ey;cases ey;obtain⟨y',hy',qy⟩:=qs.get (i:=i) (d:=rows[i]) (by simp[hi]);rw[G_ A]at hy';cases hy';have sT:C6 F' H' F' (upd H' T (.tup [.int (i+1:Nat),ys[i]])):=C6.grow st.fh hT;have dT:=d.step sT;rw[Hz hi]at I;cases ew:mw [rows[i]]with
   |error e=>exact I.stuck (by rw[ph,ew];rfl)|ok w=>
   refine⟨T,_,rfl,SqT.of aj,rfl,_,_,rfl,_,_,rfl,rfl,?_⟩
   have Z:((σ'.set ni (a_ (.int (i+1:Nat)))).set ri (a_ ys[i]))[di]?=a_ (a_ (.ref p)):=by rw[p_ (HI B),p_ (HI L),e3 di L B];exact hs1
   have W:((σ'.set ni (a_ (.int (i+1:Nat)))).set ri (a_ ys[i]))[ri]?=a_ (a_ ys[i]):=x_ (by rw[GB,e2,<- ls];exact hr);refine⟨.ref p,Z,ys[i],W,F',[rows[i]],sT.fh,⟨_,_,rfl,qy.mono Q,rfl⟩,rfl,?_⟩
   rw[ew];intro w' F4 H4 s4 q4;cases w with
   |lst ws=>
    cases er:mr ds' ws with
    |error e=>exact I.stuck (by rw[ph,ew];show((noX (mr ds' ws)).bind _).bind _=_;rw[er];rfl)|ok J=>
    have I:kN K (WE K E) b_ F0 H0 FB OL O' D ((if J.1=d_ then ph CN f1 mr mw (i+1+1) (rows.drop (i+1)) J.2 else .error (.exc CN [(f1,.int (i+1:Nat))])).bind λds=>gg ((((ρ.set di c_).set ni c_).set ri c_).set di (a_ (drD C ds)))):=by
     have e:ph CN f1 mr mw (i+1) (rows[i]::rows.drop (i+1)) ds'=if J.1=d_ then ph CN f1 mr mw (i+1+1) (rows.drop (i+1)) J.2 else .error (.exc CN [(f1,.int (i+1:Nat))]):=by rw[ph,ew];show(noX (mr ds' ws)).bind _=_;rw[er];rfl
     rw[<- e];exact I
    have d4:=dT.step s4;unfold fw;dsimp only[];show vF K C mr [V.ref p,w'] H4 _ E2;refine⟨p,dx,_,F4,ds',ws,w',J,rfl,d4,q4,er,λF5 H5 R d5=>⟨J.1,rfl,?_⟩⟩
    have l:C6 F0 H0 F5 H5:=by have z:=(st.trans sT).trans s4;exact⟨z.ff.trans R.ff,λP o h=>R.hh P o (λY=>by rw[h0 P (Gv _ Y)]at h;cases h) (z.hh P o h),R.fh,λP o h=>(R.nw P o h).elim (λu=>z.nw P o u) λu=>.inr (z.hh.free u)⟩
    cases hb:J.1 with
    |true=>rw[hb,g_ rfl]at I;exact⟨am,by rw[GB,GB];exact e2,λj h1 h2=>by rw[p_ (HI h2),p_ (HI h1)];exact e3 j h1 h2,F5,J.2,(Q.trans s4.ff).trans R.ff,l,d5,I⟩|false=>
     rw[hb,k_ a']at I;have X:((σ'.set ni (a_ (.int (i+1:Nat)))).set ri (a_ ys[i]))[ni]?=a_ (a_ (.int (i+1:Nat))):=by rw[p_ (HI hnr)];exact x_ (by rw[e2,<- ls];exact hn)
     refine⟨_,X,_,rfl,λx N=>?_⟩
     have s6:C6 F5 H5 (upd F5 x (.xd [(f1,.int (i+1:Nat))])) (upd H5 x (.xd [(f1,.int (i+1:Nat))])):=C6.lay l.fh N;have I:(WE K E).p (.exc CN [(f1,.int (i+1:Nat))]) F0 H0:=I;exact I _ _ (l.trans s6) x _ aj ⟨_,[],rfl,rfl,rfl⟩
   |_=>exact I.stuck (by rw[ph,ew];rfl)
 |_=>exact q.stuck rfl
end
def FX{f1:i_}{fs:ah->M A'}{g:ah->M Gp}(p1:PS X st1 (uM (C7 C (spID C) [] E1 fw) (hG di)))(p2:PS X st2 (tFor (FD K (tD K Hh b_ fs)) (gTup K 2 (yz (hG ni) (yz (hG ri) gNil))) (uc (tNot (tTr K (gG (vF K C mr) [] E2 (aP (bB di) (aP (gG (spF K b_ mw 1) [] E3 (aP (bB ri) fw)) fw))))) (zw (aP (bB ni) fw) CN f1 E) kr)))(h:DSs K (WE K E) b_ X OL [] O' sts g)(Y:(di≠ni)⁻¹)(J:(di≠ri)⁻¹)(I:(ni≠ri)⁻¹):DSs K (WE K E) b_ X OL [] O' (st1::st2::sts) (sd C CN f1 mr mw di ni ri fs g):=λF0 H0=>PSs.imp (aD p1 (aD p2 (h F0 H0))) λ_ _ _=>Ez Y J I
noncomputable abbrev PKs:=List ((i_×i_)×Int)
noncomputable def kPair(k:i_×i_):List Key:=[.inr k.1,.inr k.2]
def pkV(ks:PKs):List (List Key×V):=ks.map λp=>(kPair p.1,.int p.2)
noncomputable def nz(ks:PKs)(k:i_×i_):Option Int:=(ks.find? λp=>o_ (p.1=k)).map (·.2)
def zd(ks:PKs)(k:i_×i_)(v:Int):PKs:=if (nz ks k).isSome=d_ then ks.map (λp=>if p.1=k then(p.1,v)else p)else ks++[(k,v)]
structure Jst where
 dk:List A'
 dn:List A'
 df:List A'
 dc:List A'
 g:PKs
 b:PKs
noncomputable def Jst.ds(s:Jst):List A':=[.lst s.dk,.lst s.dn,.lst s.df,.lst s.dc]
structure Jad where
 p:f_
 T:f_
 g:f_
 b:f_
 k:f_
 n:f_
 f:f_
 c:f_
noncomputable def Jad.xs(a:Jad):List f_:=[a.k,a.n,a.f,a.c]
def Jad.ys(a:Jad):List f_:=a.g::a.b::a.xs
noncomputable def tabs(a:Jad):List (Key×V):=[(.inr "gap",.ref a.g),(.inr "beside",.ref a.b)]
structure Lj(K:Pn)(F H:Hp)(a:Jad)(s:Jst):Prop where
 c:Cells K F H a.xs s.ds
 tp:H a.p=a_ (.tup [.ref a.k,.ref a.T,.ref a.n,.ref a.f,.ref a.c])
 ot:H a.T=a_ (.dK (tabs a))
 og:H a.g=a_ (.dT (pkV s.g))
 ob:H a.b=a_ (.dT (pkV s.b))
 fg:F a.g=c_
 fb:F a.b=c_
 ng:a.g≠a.b
 xg:a.g∉a.xs
 xb:a.b∉a.xs
section
variable{a:Jad}{s:Jst}
theorem Lj.step(L:Lj K F H a s)(t:C6 F H F' H'):Lj K F' H' a s:=
 ⟨L.c.step t,t.hh _ _ L.tp,t.hh _ _ L.ot,t.hh _ _ L.og,t.hh _ _ L.ob,t.stays L.fg L.og,t.stays L.fb L.ob,L.ng,L.xg,L.xb⟩
def Lj.ex(L:Lj K F H a s):∀x∈a.ys,∃o,H x=a_ o:=λx I=>by
 rcases q_.mp I with rfl|I
 .exact⟨_,L.og⟩
 rcases q_.mp I with rfl|I
 .exact⟨_,L.ob⟩
 .obtain⟨_,o,h,_⟩:=L.c.at I;exact⟨o,h⟩
def FinJ(K:Pn)(F H:Hp)(a:Jad)(r:Bool×Jst)(Q:VK):Prop:=∀F' H',mK a.ys F H F' H'->Lj K F' H' a r.2->Q (.bl r.1) H'
theorem FinJ.step{r:Bool×Jst}(f:FinJ K F H a r Q)(L:Lj K F H a s)(t:C6 F H F' H'):FinJ K F' H' a r Q:=λF2 H2 t2 I=>f F2 H2 (t.toC.trans t2 (L.step t).ex) I
def FinJ.same{r:Bool×Jst}{b:Bool}(f:FinJ K F H a r Q)(L:Lj K F H a s)(e:(.ok (b,s):M (Bool×Jst))=.ok r):Q (.bl b) H:=by cases e;exact f F H ⟨aS.refl _,λ_ _ _ h=>h,L.c.fh,λ_ _ h=>.inl h⟩ L
end
theorem mK.into{xs:List f_}(z:C6 F0 H0 F H)(t:mK xs F H F' H')(J:∀x∈xs,H0 x=c_):C6 F0 H0 F' H':=
 ⟨z.ff.trans t.ff,λb o h=>t.hh b o (λI=>by simp_all) (z.hh b o h),t.fh,λb o h=>(t.nw b o h).elim (λu=>z.nw b o u) λu=>.inr (z.hh.free u)⟩
noncomputable abbrev kFs(v:V)(k:Int):List (i_×V):=[("sheet",v),("shift",.int k)]
structure Dk(K:Pn)(C:f_)(F H:Hp)(p dx:f_)(v:V)(S:A')(k:Int):Prop where
 fh:aS F H
 ob:H p=a_ (.ins C dx (kFs v k))
 fp:F p=c_
 sh:aR K F S v
section
variable{F2:Hp}{p:f_}{v':V}{k:Int}
def Dk.step(d:Dk K C F H p dx v S k)(s:C6 F H F' H'):Dk K C F' H' p dx v S k:=⟨s.fh,s.hh _ _ d.ob,s.stays d.fp d.ob,d.sh.mono s.ff⟩
theorem ji(s:aS F H)(J:F p=c_):aS F (upd H p o):=λc u e=>by
 have I:c≠p:=λz=>by simp_all
 rw[ao I];exact s _ _ e
def Dk.put(d:Dk K C F H p dx v S k)(q:aR K F S' v'):Dk K C F (upd H p (.ins C dx (kFs v' k'))) p dx v' S' k':=⟨ji d.fh d.fp,aj,d.fp,q⟩
def Abt.of(s:C6 F H F' H')(f:F p=c_)(I:H p=a_ o):Abt p F H F' H':=⟨s.ff,s.fh,s.stays f I,s.nw,λc u e _=>s.hh c u e⟩
def Abt.put(a:Abt p F H F' H'):Abt p F H F' (upd H' p o):=⟨a.ff,ji a.fh a.fp,a.fp,a.nw,λc u e I=>by rw[ao I];exact a.hh c u e I⟩
theorem Abt.trans(a:Abt p F H F' H')(b:Abt p F' H' F2 H2):Abt p F H F2 H2:=⟨a.ff.trans b.ff,b.fh,b.fp,λc u e=>(b.nw c u e).elim (a.nw c u) λz=>.inr (by
 cases J:H c with
 |none=>rfl|some o'=>
  have I:c≠p:=λw=>by rw[w,b.fp]at e;cases e
  rw[a.hh c o' J I]at z;lia),λc u e I=>b.hh c u (a.hh c u e I) I⟩
def Abt.from(s:C6 F0 H0 F H)(a:Abt p F H F' H')(I:H0 p=c_):C6 F0 H0 F' H':=⟨s.ff.trans a.ff,λc u e=>a.hh c u (s.hh c u e) (λz=>by rw[z,I]at e;cases e),a.fh,λc u e=>(a.nw c u e).elim (s.nw c u) λz=>.inr (s.hh.free z)⟩
end
def putS2(a b v:V):su ("shift":i_) v [(("sheet":i_),a),(("shift":i_),b)]=[(("sheet":i_),a),(("shift":i_),v)]:=by rfl
def spDI(K:Pn)(C:f_)(g:List A'->M A'):Sp:=λvs H Q E=>∃p dx v F d,vs=[.ref p,v]/\H p=a_ (.ins C dx [])/\F p=c_/\aS F H/\aR K F d v/\(match g [d]with
 |.ok r=>∀w F' H',Abt p F H F' H'->Dk K C F' H' p dx w r 0->Q .non H'|.error e=>∀F' H',Abt p F H F' H'->(WE K E).p e F' H')
def len_DI{g:List A'->M A'}{vs:b'}(h:spDI K C g vs H Q E):vs.length=2:=by obtain⟨_,_,_,_,_,rfl,_⟩:=h;rfl
def rs_initK{g:List A'->M A'}{vs:b'}(c:Cls K C)(Y:∀y∈(["sheet","shift"]:bv),bp K C y)(h:spDI K C g vs H Q E):
  j5 (xk K (bB 0) (gG (spX K b_ g 1) [] E (aP (bB 1) fw)) "sheet") (xk K (bB 0) (tC (.int 0)) "shift") {nx:=λ_ H'=>Q .non H',rt:=Q} (start ["self","text"] vs) H:=by
 obtain⟨p,dx,v,F,d,rfl,I,b,J,i,q⟩:=h;refine⟨v,rfl,F,[d],J,⟨v,[],rfl,i,rfl⟩,rfl,?_⟩
 cases a:g [d]with
 |error e=>rw[a]at q;exact q F H (Abt.of (C6.refl J) b I)|ok r=>
  rw[a]at q;intro u F' H' st f;have ab:=Abt.of st b I;refine⟨_,rfl,p,C,dx,[],rfl,st.hh _ _ I,c,Y _ a8,a8,?_⟩
  refine⟨_,rfl,p,C,dx,_,rfl,aj,c,Y _ a8,(by show 1<1000;decide),?_⟩
  rw[show su ("sheet":i_) u []=[(("sheet":i_),u)]from rfl,mn _ _ _ (by show("shift":i_)∉(["sheet"]:bv);decide +kernel)];exact q u F' _ ab.put.put ⟨ji (ji ab.fh ab.fp) ab.fp,aj,ab.fp,f⟩
def sayD(CE:f_)(t1 t2:ah->M Bool)(mw ms mc:List A'->M A')(S:A')(k:Int)(r:A'):M (A'×Int):=
 (noX (t1 [c_,a_ r,c_])).bind λb=>if b=d_ then .error (.exc CE [])else(noX (mw [r])).bind λw=>(noX (t2 [c_,a_ r,a_ w])).bind λb=>if b=d_ then(ms [w]).bind λd=>(match d with
  |.int j=>.ok (S,j)|_=>stk)else(mc [S,w]).bind λS'=>.ok (S',k)
section
variable(K:Pn)(C p dx:f_)(Q:VK)(E:XK)
def SayQ(m:M (A'×Int))(F H:Hp):Prop:=match m with
 |.ok z=>∀v' F' H',Abt p F H F' H'->Dk K C F' H' p dx v' z.1 z.2->Q .non H'|.error e=>∀F' H',C6 F H F' H'->(WE K E).p e F' H'
end
section
variable{p CE CS:f_}{m:M (A'×Int)}{vs:List V}
def SayQ.step(q:SayQ K C p dx Q E m F H)(s:C6 F H F1 H1)(f:F p=c_)(I:H p=a_ o):SayQ K C p dx Q E m F1 H1:=by
 cases m with
 |error e=>exact λF' H' s'=>q F' H' (s.trans s')|ok z=>exact λv' F' H' ab d=>q v' F' H' ((Abt.of s f I).trans ab) d
theorem SayQ.stuck{P:Prop}(q:SayQ K C p dx Q E m F H)(s:aS F H)(h:m=.error .stuck):P:=by subst h;exact((WE K E).ns (q F H (C6.refl s))).elim
def Ca(K:Pn)(C:f_)(sy:A'->Int->A'->M (A'×Int)):Sp:=λvs H Q E=>∃p dx v F S k r I,vs=[.ref p,I]/\Dk K C F H p dx v S k/\aR K F r I/\SayQ K C p dx Q E (sy S k r) F H
def len_say(h:Ca K C sy vs H Q E):vs.length=2:=by obtain⟨_,_,_,_,_,_,_,_,rfl,_⟩:=h;rfl
def rep3{a b:V}{r w:A'}{x:V}(J:aR K F r b)(I:aR K F w x):hR K F [a_ a,a_ b,a_ x] [c_,a_ r,a_ w]:=⟨rfl,λj d h=>by
 match j,h with
 |0,h=>cases h|1,h=>cases h;exact⟨b,rfl,J⟩|2,h=>cases h;exact⟨x,rfl,I⟩|j+3,h=>simp at h⟩
def rs_say{mc:List A'->M A'}{tx:i_}(A:Cls K C)(x:∀y∈(["sheet","shift"]:bv),bp K C y)(h:Ca K C (sayD CE t1 t2 mw ms mc) vs H Q E):
  j5 (uc (tDT K Hh t1) (tRaise (tC (.str tx)) CE E) kr) (j5 (uM (gG (spF K b_ mw 1) [] E1 (aP (bB 1) fw)) (hG 2)) (uc (tDT K Hh t2) (xk K (bB 0) (gG (spX K b_ ms 1) [] E (aP (bB 2) fw)) "shift") (xk K (bB 0) (gG (spX K b_ mc 2) [] E (aP (ug K (bB 0) "sheet") (aP (bB 2) fw))) "sheet"))) {nx:=λ_ H'=>Q .non H',rt:=Q} (start ["self","row","words"] vs) H:=by
 obtain⟨p,dx,v,F,S,k,r,m,rfl,d,J,q⟩:=h;refine iV (hR.only (σ:=[a_ (.ref p),a_ m,c_]) (i:=1) rfl J) d.fh (λe f=>?_) λb g F1 H1 s=>?_
 .have f:t1 [c_,a_ r,c_]=.error e:=f;exact q.stuck d.fh (by unfold sayD;rw[f];rfl)
 have g:t1 [c_,a_ r,c_]=.ok b:=g;have q:=q.step s d.fp d.ob;have d:=d.step s;have J:=J.mono s.ff;unfold sayD at q;rw[g,qq,aq]at q;cases b with
 |true=>exact q F1 H1 (C6.refl d.fh) F1 H1 (C6.refl d.fh)|false=>
  rw[k_ a']at q;refine⟨m,rfl,F1,[r],d.fh,⟨m,[],rfl,J,rfl⟩,rfl,?_⟩
  cases hw:mw [r]with
  |error e=>exact q.stuck d.fh (by rw[hw];rfl)|ok w=>
   rw[hw,qq,aq]at q;intro u F2 H2 o Y;have q:=q.step o d.fp d.ob;have d:=d.step o;have J:=J.mono o.ff;refine iV (rep3 (a:=.ref p) J Y) d.fh (λe f=>?_) λb g l D n=>?_
   .exact q.stuck d.fh (by rw[f];rfl)
   rw[g,qq,aq]at q;have q:=q.step n d.fp d.ob;have d:=d.step n;have Y:aR K l w u:=aR.mono n.ff Y;cases b with
   |true=>
    rw[g_ rfl]at q;refine⟨u,rfl,l,[w],d.fh,⟨u,[],rfl,Y,rfl⟩,rfl,?_⟩
    cases c:ms [w]with
    |error e=>rw[c]at q;exact q l D (C6.refl d.fh)|ok z=>
     rw[c,aq]at q;intro y B G I t;cases z with
     |int j=>
      cases(show y=V.int j from t);refine⟨.ref p,rfl,p,C,dx,_,rfl,I.hh _ _ d.ob,A,x _ a8,(by show 2<1000;decide),?_⟩
      rw[putS2];exact q v B _ (Abt.of I d.fp d.ob).put ((d.step I).put (d.sh.mono I.ff))
     |_=>exact q.stuck d.fh rfl
   |false=>
    rw[k_ a']at q;refine⟨.ref p,rfl,p,C,dx,_,v,rfl,d.ob,A,x _ a8,rfl,u,rfl,l,[S,w],d.fh,⟨v,[u],rfl,d.sh,u,[],rfl,Y,rfl⟩,rfl,?_⟩
    cases c:mc [S,w]with
    |error e=>rw[c]at q;exact q l D (C6.refl d.fh)|ok z=>
     rw[c,aq]at q;intro y B G I t;refine⟨.ref p,rfl,p,C,dx,_,rfl,I.hh _ _ d.ob,A,x _ a8,(by show 2<1000;decide),?_⟩
     exact q y B _ (Abt.of I d.fp d.ob).put ((d.step I).put t)
def rW(CS:f_)(m:i_)(mt:List A'->M A')(S:A'):M A':=if isC CS m S=d_ then mt [S]else stk
def rV(K:Pn)(C:f_)(f:A'->M A'):Sp:=λvs H Q _=>∃p dx v F S k,vs=[.ref p]/\Dk K C F H p dx v S k/\aH K Hh b_ F H (f S) Q
def len_show{f:A'->M A'}(h:rV K C f vs H Q E):vs.length=1:=by obtain⟨_,_,_,_,_,_,rfl,_⟩:=h;rfl
def rs_show{m:i_}{mt:List A'->M A'}(i:Cls K C)(c:∀y∈(["sheet","shift"]:bv),bp K C y)(h:rV K C (rW CS m mt) vs H Q E):
  oX (vC CS m (spF K b_ mt 1) [] E1 (ug K (bB 0) "sheet") fw) {nx:=λ_ H'=>Q .non H',rt:=Q} (start ["self"] vs) H:=by
 obtain⟨p,dx,v,F,S,k,rfl,d,q⟩:=h;unfold rW at q;by_cases J:isC CS m S=d_
 .rw[g_ J]at q;have ds:=d.sh;cases S with
  |ins D b=>
   obtain⟨l,a,fs,e1,f,g⟩:=id ds;have I:((D==CS)&&(b.lookup m).isNone)=d_:=J;rw[l_]at I;obtain⟨Y,e⟩:=I;have Y:D=CS:=by simpa using Y
   subst Y;exact⟨.ref p,rfl,p,C,dx,_,v,rfl,d.ob,i,c _ a8,rfl,l,a,fs,e1,d.fh _ _ f,g.at.2 (by simpa using e),F,[.ins D b],d.fh,⟨v,[],rfl,ds,rfl⟩,rfl,q⟩
  |_=>cases J
 .rw[k_ J]at q;exact aH.stuck q
theorem hR.F8:hR K F σ (C_ σ.length c_):=⟨a8,λi d h=>by simp_all[Jv]⟩
end
noncomputable def eqT:A'->A'->Bool
 |.str a,.str b=>o_ (a=b)|_,_=>b_
structure Ki(K:Pn)(C:f_)(F0 H0 FB:Hp)(ρ:ah)(di:Nat)(p dx:f_)(F H:Hp)(σ:St)(w:V)(S:A')(k:Int):Prop where
 d:Dk K C F H p dx w S k
 r:hR K F σ ρ
 st:C6 F0 H0 F H
 fb:aS FB F
 sl:σ[di]?=a_ (a_ (.ref p))
 h0:H0 p=c_
noncomputable def EN:XK:=λ_ _ _=>False
section
variable{p:f_}{w:V}{k:Int}{t:TE}{r:A'}
theorem Ki.step(I:Ki K C F0 H0 FB ρ di p dx F H σ w S k)(s:C6 F H F' H'):Ki K C F0 H0 FB ρ di p dx F' H' σ w S k:=⟨I.d.step s,I.r.mono s.ff,I.st.trans s,I.fb.trans s.ff,I.sl,I.h0⟩
def Arg(K:Pn)(t:TE)(r:A')(F H:Hp)(σ:St):Prop:=∀R:VK,(∀F1 H1 v,C6 F H F1 H1->aR K F1 r v->R v H1)->t σ H R
def Ki.text{a:i_}(I:Ki K C F0 H0 FB ρ di p dx F H σ w S k):Arg K (tC (.str a)) (.str a) F H σ:=λ_ h=>h F H _ (C6.refl I.d.fh) rfl
def eqT_str{a b:A'}(h:eqT a b=d_):∃x,a=.str x/\b=.str x:=by
 cases a<;>cases b<;>first|cases h|skip
 exact⟨_,rfl,by rw[HW h]⟩
end
section
variable{w:GW}{base:Hq}{x q:i_}
def YN(_:∃f fd,Mth K C x q st ps f fd)(P:HP)(w:GW)(mg:Ld)(base:Hq)(k:Nat)(sp:Sp):Prop:=∃f fd,Mth K C x q st ps f fd/\iZ P w K mg base (CXd P w) k f fd ps sp
def fN(N:bv){h:∃f fd,Mth K C x q st ps f fd}(I:∀vs H Q E,sp vs H Q E->vs.length=ps.length)(Y:∀z:B7,N.Nodup->jr k (z.A.deeper (IS q (aA st) z.s.heap.objs.size z.f z.c))->∀(vs:b') (Q:VK),sp vs z.H Q z.E->∃t,PSs (x4 (CXd P w) P w K mg base N q (aA st) z.f z.c z.A z.o z.s z.H z.E) (bT st) t/\t {nx:=λ_ H'=>Q .non H',rt:=Q} (start N vs) z.H)(S:autoParam (gB N ps (aA st)) Jq9):YN h P w mg base (k+1) sp:=
 let ⟨f,fd,D⟩:=h
 ⟨f,fd,D,D.fn.okE S I λc A o s H vs Q E J h=>Y ⟨f,c,A,o,s,H,E⟩ S.nd J vs Q h⟩
end
section
variable{x:i_}
def tF(I:K.In h)(G:h.Ns GY mg)(a:autoParam (Nj K GY x=a_ (a_ (.ref C))) Jq2)(e:autoParam (JD K C [.type "ValueError",.type "Exception",.type "BaseException",.type "object"] "ValueError.__new__"=d_) Jq7):XTxt K mg x C:=⟨mg_of I G a,e⟩
end
section
open PySem.W
end
section
open PySem PySem.W
end
section
open PySem.W
end
section
open PySem PySem.W
end
section
open PySem.W
end
structure Ens(K:Pn)(F0 H0 FB:Hp)(i j k:Nat)(a b c:f_)(ys vs ws:b')(rs ds es:List A')(F H:Hp)(σ:St)(ρ:ah):Prop where
 r:hR K F σ ρ
 st:C6 F0 H0 F H
 fz:aS FB F
 si:σ[i]?=a_ (a_ (.ref a))
 sj:σ[j]?=a_ (a_ (.ref b))
 sk:σ[k]?=a_ (a_ (.ref c))
 ha:H a=a_ (.lst ys)
 hb:H b=a_ (.lst vs)
 hc:H c=a_ (.lst ws)
 fa:F a=c_/\H0 a=c_
 fb:F b=c_/\H0 b=c_
 fc:F c=c_/\H0 c=c_
 ow:AJ K F H0 H rs ys
 db:az K F ds vs
 dc:az K F es ws
 ab:a≠b
 ac:a≠c
 bc:b≠c
 na:∀(m:Nat) (x:f_),ys[m]?=a_ (.ref x)->x≠a/\x≠b/\x≠c
section
variable{ys vs ws:List V}{rs ds es:List A'}{d:A'}
theorem Ens.step(h:Ens K F0 H0 FB i j k a b c ys vs ws rs ds es F H σ ρ)(s:C6 F H F1 H1):Ens K F0 H0 FB i j k a b c ys vs ws rs ds es F1 H1 σ ρ:=
 ⟨h.r.mono s.ff,h.st.trans s,h.fz.trans s.ff,h.si,h.sj,h.sk,s.hh _ _ h.ha,s.hh _ _ h.hb,s.hh _ _ h.hc,⟨s.stays h.fa.1 h.ha,h.fa.2⟩,⟨s.stays h.fb.1 h.hb,h.fb.2⟩,⟨s.stays h.fc.1 h.hc,h.fc.2⟩,h.ow.step s,h.db.mono s.ff,h.dc.mono s.ff,h.ab,h.ac,h.bc,h.na⟩
def Ens.mid{x:f_}(h:Ens K F0 H0 FB i j k a b c ys vs ws rs ds es F H σ ρ)(fx:F x=c_/\H0 x=c_)(n:∀(m:Nat) (z:f_),ys[m]?=a_ (.ref z)->z≠x):C6 F0 H0 F (upd H x o)/\AJ K F H0 (upd H x o) rs ys:=
 ⟨⟨h.st.ff,λy o z=>by rw[ao (aV z fx.2)];exact h.st.hh y o z,λy o z=>by rw[ao (aV z fx.1)];exact h.st.fh y o z,h.st.nw⟩,⟨h.ow.len,λm d e=>by obtain⟨y,xs,es,g1,g2,g3,I⟩:=h.ow.get m d e;exact⟨y,xs,es,g1,g2,by rw[ao (n m y g1)];exact g3,I⟩,h.ow.ap⟩⟩
def Ens.ue(h:Ens K F0 H0 FB i j k a b c ys vs ws rs ds es F H σ ρ)(q:aR K F d v):Ens K F0 H0 FB i j k a b c ys vs (ws++[v]) rs ds (es++[d]) F (upd H c (.lst (ws++[v]))) σ ρ:=
 {h with st:=(h.mid h.fc λm z e=>(h.na m z e).2.2).1,ha:=by rw[ao h.ac];exact h.ha,hc:=aj,hb:=by rw[ao h.bc];exact h.hb,ow:=(h.mid h.fc λm z e=>(h.na m z e).2.2).2,dc:=az.append h.dc ⟨v,[],rfl,q,rfl⟩}
open Classical in
end
section
open PySem
end
mutual
noncomputable def noD:A'->Bool
 |.tup ds=>noDs ds|.lst ds=>noDs ds|.ins _ I=>noDF I|.dic _=>b_|.dil _=>b_|_=>d_
noncomputable def noDs:List A'->Bool
 |[]=>d_|d::ds=>noD d&&noDs ds
noncomputable def noDF:List (i_×A')->Bool
 |[]=>d_|(_,d)::I=>noD d&&noDF I
end
noncomputable def isExt:HO->Bool
 |.ext _=>d_|_=>b_
def AK(F F':Hp):Prop:=∀b o,F b=a_ o->isExt o=b_->F' b=a_ o
def AK.tup(s:AK F F'){xs:b'}(h:SqT K F a xs):SqT K F' a xs:=by
 rcases h with(h|⟨o,h⟩)|h
 .exact .inl (.inl (s _ _ h rfl))
 .exact .inl (.inr ⟨o,s _ _ h rfl⟩)
 .exact .inr h
def AK.lst(s:AK F F'){xs:b'}(h:SqL K F a xs):SqL K F' a xs:=by
 rcases h with(h|⟨o,h⟩)|h
 .exact .inl (.inl (s _ _ h rfl))
 .exact .inl (.inr ⟨o,s _ _ h rfl⟩)
 .exact .inr h
mutual
theorem aR.noD{K:Pn}{F F':Hp}(s:AK F F'):∀{d:A'} {v:V},noD d=d_->aR K F d v->aR K F' d v
 |.non,_,_,h=>h|.bl _,_,_,h=>h|.int _,_,_,h=>h|.str _,_,_,h=>h|.tup ds,_,f,⟨a,xs,e,q,r⟩=>⟨a,xs,e,s.tup q,az.noD s (by simpa[Lake.noD] using f) r⟩|.lst ds,_,f,⟨a,xs,e,q,r⟩=>⟨a,xs,e,s.lst q,az.noD s (by simpa[Lake.noD] using f) r⟩|.ins _ I,_,f,⟨a,dx,fs,e,q,r⟩=>⟨a,dx,fs,e,s _ _ q rfl,jI.noD s (by simpa[Lake.noD] using f) r⟩|.dic _,_,f,_=>by simp_all[Lake.noD]|.dil _,_,f,_=>by simp_all[Lake.noD]
theorem az.noD{K:Pn}{F F':Hp}(s:AK F F'):∀{ds:List A'} {xs:b'},noDs ds=d_->az K F ds xs->az K F' ds xs
 |[],_,_,h=>h|d::ds,_,f,⟨v,vs,e,q,r⟩=>by simp only[noDs,l_]at f;exact⟨v,vs,e,aR.noD s f.1 q,az.noD s f.2 r⟩
theorem jI.noD{K:Pn}{F F':Hp}(s:AK F F'):∀{I:List (i_×A')} {fs:List (i_×V)},noDF I=d_->jI K F I fs->jI K F' I fs
 |[],_,_,h=>h|(f,d)::I,_,h,⟨v,r,e,q,t⟩=>by simp only[noDF,l_]at h;exact⟨v,r,e,aR.noD s h.1 q,jI.noD s h.2 t⟩
end
structure Mst where
 k:A'
 g:A'
 b:A'
 c:List A'
 n:List A'
 f:List A'
variable{g2 g1 g3:Mst->List A'->M (A'×Mst)}{s':Mst}{gS:List A'->M Mst}
noncomputable def Mst.ds(s:Mst):List A':=[.lst s.c,.lst s.n,.lst s.f]
noncomputable def Mst.D(s:Mst):A':=.lst [s.k,s.g,s.b,.lst s.c,.lst s.n,.lst s.f]
noncomputable def Mst.get(s:Mst)(j:Nat):List A':=if j=0 then s.c else if j=1 then s.n else s.f
noncomputable def Mst.put(s:Mst)(j:Nat)(es:List A'):Mst:=if j=0 then {s with c:=es}else if j=1 then {s with n:=es}else {s with f:=es}
structure Mad where
 p:f_
 c:f_
 n:f_
 f:f_
 v0:V
 v1:V
 v2:V
noncomputable def Mad.xs(a:Mad):List f_:=[a.c,a.n,a.f]
def Mad.ys(a:Mad):List f_:=a.p::a.xs
noncomputable def Mad.vs(a:Mad):b':=[a.v0,a.v1,a.v2,.ref a.c,.ref a.n,.ref a.f]
noncomputable def Mad.ad(a:Mad)(b:Bool):f_:=if b=d_ then a.p else a.n
def Mst.da(s:Mst)(b:Bool):A':=if b=d_ then s.D else .lst s.n
structure Mo(K:Pn)(F H:Hp)(a:Mad)(s:Mst):Prop where
 c:Cells K F H a.xs s.ds
 op:H a.p=a_ (.lst a.vs)
 fp:F a.p=c_
 np:a.p∉a.xs
 k:aR K F s.k a.v0
 g:aR K F s.g a.v1
 b:aR K F s.b a.v2
noncomputable abbrev Vw:=List (Nat×Bool)
variable{vw vw1 vw2:Vw}
def ju(s:Mst):Vw->ah->ah
 |[],ρ=>ρ|p::vw,ρ=>ju s vw (ρ.set p.1 (a_ (s.da p.2)))
structure zi(K:Pn)(F:Hp)(a:Mad)(σ:St)(ρ:ah)(vw:Vw):Prop where
 r:hR K F σ ρ
 v:∀p∈vw,σ[p.1]?=a_ (a_ (.ref (a.ad p.2)))
section
variable{a:Mad}{s:Mst}
theorem Mo.step(m:Mo K F H a s)(t:C6 F H F' H'):Mo K F' H' a s:=⟨m.c.step t,t.hh _ _ m.op,t.stays m.fp m.op,m.np,m.k.mono t.ff,m.g.mono t.ff,m.b.mono t.ff⟩
theorem Mo.at(m:Mo K F H a s){x:f_}(I:x∈a.ys):F x=c_/\∃o,H x=a_ o/\isMu o=d_:=
 (q_.mp I).elim (λe=>by subst e;exact⟨m.fp,_,m.op,rfl⟩) m.c.at
def Mo.ex(m:Mo K F H a s):∀x∈a.xs,∃o,H x=a_ o:=λ_ I=>let ⟨_,o,h,_⟩:=m.c.at I;⟨o,h⟩
def Mo.ff(m:Mo K F H a s):aS F (plus F H (·∈a.ys)):=λb o h=>by
 by_cases I:b∈a.ys
 .rw[(m.at I).1]at h;cases h
 .rw[cG I];exact h
def Mo.zh(m:Mo K F H a s):aS (plus F H (·∈a.ys)) H:=λb o h=>by
 by_cases I:b∈a.ys
 .rw[i7 I]at h;exact h
 .rw[cG I]at h;exact m.c.fh b o h
def Mo.back(m:Mo K F H a s)(t:C6 (plus F H (·∈a.ys)) H F' H'):C6 F H (minus F' (·∈a.ys)) H':=by
 refine⟨λb o h=>?_,t.hh,λb o h=>?_,λb o h=>?_⟩
 .by_cases I:b∈a.ys
  .rw[(m.at I).1]at h;cases h
  .rw[d9 I];exact t.ff b o (by rw[cG I];exact h)
 .by_cases I:b∈a.ys
  .rw[mq I]at h;cases h
  .rw[d9 I]at h;exact t.fh b o h
 .by_cases I:b∈a.ys
  .rw[mq I]at h;cases h
  .rw[d9 I]at h;exact(t.nw b o h).elim (λz=>by rw[cG I]at z;exact .inl z) .inr
theorem Mo.flat(m:Mo K F H a s)(t:C6 (plus F H (·∈a.ys)) H F' H'){d:A'}{v:V}(f:bS d=d_)(q:aR K F' d v):aR K (minus F' (·∈a.ys)) d v:=by
 have key:∀{b:f_} {o:HO},F' b=a_ o->isMu o=b_->minus F' (·∈a.ys) b=a_ o:=λ{b o} h n=>by
  by_cases I:b∈a.ys
  .obtain⟨_,u,e,i⟩:=m.at I;have:=t.ff b u (by rw[i7 I];exact e);simp_all
  .rw[d9 I];exact h
 refine q.flat (λa ys h=>?_) f;rcases h with(h|⟨o,h⟩)|h
 .exact .inl (.inl (key h rfl))
 .exact .inl (.inr ⟨o,key h rfl⟩)
 .exact .inr h
def Mo.cell(m:Mo K F H a s){x:f_}{d:A'}(e1:a.xs[j]?=a_ x)(e2:s.ds[j]?=a_ d):aR K (plus F H (·∈a.ys)) d (.ref x):=by obtain⟨h1,h2⟩:=m.c.own j x d e1 e2;exact h2.give h1 m.ff (i7 (Gv _ (GX e1)))
def Mo.deep(m:Mo K F H a s)(b:Bool):aR K (plus F H (·∈a.ys)) (s.da b) (.ref (a.ad b)):=by
 cases b with
 |true=>exact⟨a.p,a.vs,rfl,SqL.of ((i7 (A:=(·∈a.ys)) (Hg ..)).trans m.op),_,_,rfl,m.k.mono m.ff,_,_,rfl,m.g.mono m.ff,_,_,rfl,m.b.mono m.ff,_,_,rfl,m.cell (j:=0) rfl rfl,_,_,rfl,m.cell (j:=1) rfl rfl,_,_,rfl,m.cell (j:=2) rfl rfl,rfl⟩|false=>exact m.cell (j:=1) rfl rfl
theorem Mo.see(m:Mo K F H a s):∀{vw:Vw} {ρ:ah},hR K (plus F H (·∈a.ys)) σ ρ->(∀p∈vw,σ[p.1]?=a_ (a_ (.ref (a.ad p.2))))->hR K (plus F H (·∈a.ys)) σ (ju s vw ρ)
 |[],_,r,_=>r|p::vw,_,r,h=>Mo.see m (vw:=vw) (r.tell (h p (Hg ..)) (m.deep p.2)) λq I=>h q (Gv _ I)
theorem zi.mono(r:zi K F a σ ρ vw)(t:aS F F'):zi K F' a σ ρ vw:=⟨r.r.mono t,r.v⟩
def Mo.val(m:Mo K F H a s)(r:zi K F a σ ρ vw){f:ah->M A'}{d:A'}(e:f (ju s vw ρ)=.ok d)(fl:bS d=d_){R:VK}(I:∀v F1 H1,C6 F H F1 H1->aR K F1 d v->R v H1):tD K Hh b_ f σ H R:=
 ba (m.see (r.r.mono m.ff) r.v) m.zh (λJ h=>by rw[e]at h;cases h) λd' hd v F1 H1 t q=>by rw[e]at hd;cases hd;exact I v _ H1 (m.back t) (m.flat t fl q)
theorem Mo.ask(m:Mo K F H a s)(r:zi K F a σ ρ vw){f:ah->M Bool}{b:Bool}(e:f (ju s vw ρ)=.ok b)(I:∀F1 H1,C6 F H F1 H1->R b H1):tDT K Hh f σ H R:=
 iV (m.see (r.r.mono m.ff) r.v) m.zh (λJ h=>by simp_all) λd' hd F1 H1 t=>by rw[e]at hd;cases hd;exact I _ H1 (m.back t)
theorem Mo.put(m:Mo K F H a s){j:Nat}{x:f_}{es:List A'}{zs:b'}(J:j<3)(e:a.xs[j]?=a_ x)(q:az K F es zs):Mo K F (upd H x (.lst zs)) a (s.put j es)/\mK a.xs F H F (upd H x (.lst zs)):=by
 have I:=GX e;refine⟨?_,m.c.updC _ I⟩
 have c:=m.c.put (d':=.lst es) (u:=.lst zs) e rfl λf=>⟨x,zs,rfl,aj,f,rfl,q⟩
 have op:upd H x (.lst zs) a.p=a_ (.lst a.vs):=by rw[ao (λz=>m.np bt)];exact m.op
 obtain rfl|rfl|rfl:j=0\/j=1\/j=2:=am
 all_goals exact⟨c,op,m.fp,m.np,m.k,m.g,m.b⟩
theorem Mo.lst(m:Mo K F H a s){j:Nat}{x:f_}(I:j<3)(e:a.xs[j]?=a_ x):∃zs,H x=a_ (.lst zs)/\az K F (s.get j) zs:=by
 refine m.c.lst e ?_;obtain rfl|rfl|rfl:j=0\/j=1\/j=2:=am
 all_goals rfl
end
inductive Mfl where
 |nx (s:Mst) (ρ:ah)
 |rt (s:Mst) (d:A')
def Gm(K:Pn)(F0 H0:Hp)(a:Mad)(vw:Vw)(D:Ends):M Mfl->Prop
 |.ok (.nx s ρ)=>∀σ F H,mK a.xs F0 H0 F H->Mo K F H a s->zi K F a σ ρ vw->D.nx σ H|.ok (.rt s d)=>∀v F H,mK a.xs F0 H0 F H->Mo K F H a s->aR K F d v->D.rt v H|.error _=>False
def tM(K:Pn)(vw I:Vw)(g:Mst->ah->M Mfl):TS:=λD σ H=>∃F0 H0 F a s ρ,mK a.xs F0 H0 F H/\Mo K F H a s/\zi K F a σ ρ vw/\Gm K F0 H0 a I D (g s ρ)
def jR(g h:Mst->ah->M Mfl):Mst->ah->M Mfl:=λs ρ=>(g s ρ).bind λfl=>match fl with
 |.nx s ρ=>h s ρ|.rt s d=>.ok (.rt s d)
noncomputable def mNx:Mst->ah->M Mfl:=λs ρ=>.ok (.nx s ρ)
def mIf(vw:Vw)(ft:ah->M Bool)(g h:Mst->ah->M Mfl):Mst->ah->M Mfl:=λs ρ=>(ft (ju s vw ρ)).bind λb=>if b=d_ then g s ρ else h s ρ
def ko(vw:Vw)(i:Nat)(f:ah->M A'):Mst->ah->M Mfl:=λs ρ=>(f (ju s vw ρ)).bind λd=>if bS d=d_ then .ok (.nx s (ρ.set i (a_ d)))else stk
def sR(vw:Vw)(f:ah->M A'):Mst->ah->M Mfl:=λs ρ=>(f (ju s vw ρ)).bind λd=>if bS d=d_ then .ok (.rt s d)else stk
def mSee(i:Nat):Mst->ah->M Mfl:=λs ρ=>if i<ρ.length then .ok (.nx s (ρ.set i c_))else stk
def mPar(i j:Nat):Mst->ah->M Mfl:=λs ρ=>if j<ρ.length then .ok (.nx s ((ρ.set i (a_ s.k)).set j c_))else stk
def Fj(vw:Vw)(j:Nat)(f:ah->M A'):Mst->ah->M Mfl:=λs ρ=>(f (ju s vw ρ)).bind λd=>if (bS d&&o_ ((s.get j).length<j_))=d_ then .ok (.nx (s.put j (s.get j++[d])) ρ)else stk
def mPop(j i:Nat):Mst->ah->M Mfl:=λs ρ=>(ae i ρ).bind λk=>(popD (s.get j) k).bind λp=>.ok (.nx (s.put j p.2) ρ)
def mClr(j:Nat):Mst->ah->M Mfl:=λs ρ=>.ok (.nx (s.put j []) ρ)
noncomputable def outside(vw:Vw)(i:Nat):Bool:=vw.all λp=>p.1 != i
section
variable{a:Mad}{s:Mst}{D:Ends}{g h:Mst->ah->M Mfl}{f:ah->M A'}{tL:TE}
theorem zi.set{d:A'}{v:V}(r:zi K F a σ ρ vw)(q:aR K F d v)(h:outside vw i=d_):zi K F a (σ.set i (a_ v)) (ρ.set i (a_ d)) vw:=
 ⟨r.r.set q i,λp I=>by have:=Hk.mp h p I;rw[p_ am];exact r.v p I⟩
theorem zi.hide{v:Option V}(r:zi K F a σ ρ vw)(h:outside vw i=d_):zi K F a (σ.set i v) (ρ.set i c_) vw:=
 ⟨r.r.hide i v,λp I=>by have:=Hk.mp h p I;rw[p_ am];exact r.v p I⟩
def zi.more(r:zi K F a σ ρ vw)(h:outside vw i=d_)(hi:i<σ.length)(b:Bool):zi K F a (σ.set i (a_ (.ref (a.ad b)))) (ρ.set i c_) ((i,b)::vw):=
 ⟨r.r.hide i _,λp I=>(q_.mp I).elim (λe=>by subst e;exact x_ hi) λe=>(r.hide h).v p e⟩
def rm_seq(t:tM K vw vw2 (jR g h) D σ H):j5 (tM K vw vw1 g) (tM K vw1 vw2 h) D σ H:=by
 obtain⟨F0,H0,F,a,s,ρ,st,m,r,p⟩:=t;refine⟨F0,H0,F,a,s,ρ,st,m,r,?_⟩
 unfold jR at p;cases e:g s ρ with
 |error x=>rw[e]at p;exact p|ok fl=>
  rw[e]at p;cases fl with
  |nx J I=>exact λY F1 H1 st1 c b=>⟨F0,H0,F1,a,J,I,st1,c,b,p⟩|rt J d=>exact p
def rm_nx(t:tM K vw vw mNx D σ H):kr D σ H:=let ⟨_,_,_,_,_,_,st,m,r,p⟩:=t;p _ _ _ st m r
def rm_if(t:tM K vw vw1 (mIf vw ft g h) D σ H):uc (tDT K Hh ft) (tM K vw vw1 g) (tM K vw vw1 h) D σ H:=by
 obtain⟨F0,H0,F,a,s,ρ,st,m,r,p⟩:=t;unfold mIf at p;cases e:ft (ju s vw ρ)with
 |error x=>rw[e]at p;exact p.elim|ok b=>
  rw[e]at p;refine m.ask r e λF1 H1 t1=>?_;have st1:=st.trans t1.toC m.ex;have I:=r.mono t1.ff;cases b with
  |true=>exact⟨F0,H0,F1,a,s,ρ,st1,m.step t1,I,p⟩|false=>exact⟨F0,H0,F1,a,s,ρ,st1,m.step t1,I,p⟩
def lH(I:outside vw i=d_)(t:tM K vw vw (ko vw i f) D σ H):uM (tD K Hh b_ f) (hG i) D σ H:=by
 obtain⟨F0,H0,F,a,s,ρ,st,m,r,p⟩:=t;unfold ko at p;cases e:f (ju s vw ρ)with
 |error x=>rw[e]at p;exact p.elim|ok d=>
  rw[e]at p;have p:Gm K F0 H0 a vw D (if bS d=d_ then .ok (.nx s (ρ.set i (a_ d)))else stk):=p;split at p
  .exact m.val r e (by assumption) λv F1 H1 t1 q=>p _ F1 H1 (st.trans t1.toC m.ex) (m.step t1) ((r.mono t1.ff).set q I)
  .exact p.elim
def rm_ret(t:tM K vw vw1 (sR vw f) D σ H):oX (tD K Hh b_ f) D σ H:=by
 obtain⟨F0,H0,F,a,s,ρ,st,m,r,p⟩:=t;unfold sR at p;cases e:f (ju s vw ρ)with
 |error x=>rw[e]at p;exact p.elim|ok d=>
  rw[e]at p;have p:Gm K F0 H0 a vw1 D (if bS d=d_ then .ok (.rt s d)else stk):=p;split at p
  .exact m.val r e (by assumption) λv F1 H1 t1 q=>p v F1 H1 (st.trans t1.toC m.ex) (m.step t1) q
  .exact p.elim
def Mo.ix(m:Mo K F H a s){k:Int}{R:VK}(hv:σ[i0]?=a_ (a_ (.ref a.p)))(e:atI a.vs k=a_ v)(q:R v H):tOp (rIxL K) (bB i0) (tC (.int k)) σ H R:=
 ⟨_,hv,a.p,a.vs,k,v,rfl,rfl,SqL.of m.op,e,q⟩
def Lo(K:Pn)(vw:Vw)(j:Nat)(t:TE):Prop:=j<3/\∀{F H:Hp} {a:Mad} {s:Mst} {σ:St},Mo K F H a s->(∀p∈vw,σ[p.1]?=a_ (a_ (.ref (a.ad p.2))))->∃x,a.xs[j]?=a_ x/\∀R:VK,R (.ref x) H->t σ H R
def lo_n(h:(i,b_)∈vw):Lo K vw 1 (bB i):=⟨a',λm v=>⟨_,rfl,λR q=>⟨_,v _ h,q⟩⟩⟩
def lo_c(h:(i,d_)∈vw):Lo K vw 0 (tOp (rIxL K) (bB i) (tC (.int 3))):=⟨a',λm v=>⟨_,rfl,λR q=>m.ix (v _ h) rfl q⟩⟩
def lo_f(h:(i,d_)∈vw):Lo K vw 2 (tOp (rIxL K) (bB i) (tC (.int 5))):=⟨a',λm v=>⟨_,rfl,λR q=>m.ix (v _ h) rfl q⟩⟩
def EB(L:Lo K vw j tL)(t:tM K vw vw (Fj vw j f) D σ H):uh (tBM K "list" pz tL (aP (tD K Hh b_ f) fw)) D σ H:=by
 obtain⟨F0,H0,F,a,s,ρ,st,m,r,p⟩:=t;obtain⟨Y,L⟩:=L;obtain⟨x,e1,L⟩:=L m r.v;obtain⟨g,J,_⟩:=m.lst Y e1;unfold Fj at p;cases e:f (ju s vw ρ)with
 |error y=>rw[e]at p;exact p.elim|ok d=>
  rw[e]at p;have p:Gm K F0 H0 a vw D (if (bS d&&o_ ((s.get j).length<j_))=d_ then .ok (.nx (s.put j (s.get j++[d])) ρ)else stk):=p;split at p
  .rename_i b;rw[l_]at b;refine L _ ⟨iB J,m.val r e b.1 λv F1 H1 t1 q=>?_⟩;have I:=m.step t1;obtain⟨zs,i,c⟩:=I.lst Y e1;obtain⟨h,t2⟩:=I.put (es:=s.get j++[d]) (zs:=zs++[v]) Y e1 (c.append ⟨v,[],rfl,q,rfl⟩);exact⟨x,zs,v,rfl,rfl,i,by rw[c.length];exact HW b.2,p _ F1 _ ((st.trans t1.toC m.ex).trans t2 I.ex) h (r.mono t1.ff)⟩
  .exact p.elim
def rm_clr(L:Lo K vw j tL)(t:tM K vw vw (mClr j) D σ H):uh (tBM0 K "list" rClear tL) D σ H:=by obtain⟨F0,H0,F,a,s,ρ,st,m,r,p⟩:=t;obtain⟨J,L⟩:=L;obtain⟨x,e1,L⟩:=L m r.v;obtain⟨zs,I,_⟩:=m.lst J e1;obtain⟨Y,t2⟩:=m.put (es:=[]) (zs:=[]) J e1 rfl;exact L _ ⟨iB I,x,zs,rfl,rfl,I,p _ F _ (st.trans t2 m.ex) Y r⟩
theorem rm_pop(L:Lo K vw j tL)(t:tM K vw vw (mPop j i) D σ H):uh (tBM K "list" rPopAt tL (aP (bB i) fw)) D σ H:=by
 obtain⟨F0,H0,F,a,s,ρ,st,m,r,p⟩:=t;obtain⟨c,L⟩:=L;obtain⟨x,e1,L⟩:=L m r.v;obtain⟨zs,b,I⟩:=m.lst c e1;unfold mPop at p;cases e:ae i ρ with
 |error y=>rw[e]at p;exact p.elim|ok k=>
  rw[e]at p;have p:Gm K F0 H0 a vw D ((popD (s.get j) k).bind λp=>.ok (.nx (s.put j p.2) ρ)):=p;cases J:popD (s.get j) k with
  |error y=>rw[J]at p;exact p.elim|ok h=>
   obtain⟨d,es⟩:=h;rw[J]at p;obtain⟨k',Y,rfl,w,q,hd,rfl⟩:=popD_ok J;have hv:∃v,σ[i]?=a_ (a_ v)/\aR K F (.int k') v:=by
    unfold ae at e;split at e
    .rename_i z u;cases e;exact r.r.sl i _ u
    .cases e
   obtain⟨v,hv,g⟩:=hv;cases(show v=V.int k' from g);obtain⟨l,t2⟩:=m.put c e1 (I.eraseIdx Y);obtain⟨y,n,_⟩:=I.get hd;obtain⟨f,_,_,_⟩:=Fv q;have o:=Hr;exact L _ ⟨iB b,_,hv,x,zs,k',Y,y,rfl,rfl,b,am,am,by rw[I.length];exact f,n,p _ F _ (st.trans t2 m.ex) l r⟩
def rm_see(J:(i0,d_)∈vw)(I:outside vw i=d_)(t:tM K vw ((i,b_)::vw) (mSee i) D σ H):uM (tOp (rIxL K) (bB i0) (tC (.int 4))) (hG i) D σ H:=by
 obtain⟨F0,H0,F,a,s,ρ,st,m,r,p⟩:=t;unfold mSee at p;split at p
 .rename_i hi;exact m.ix (v:=.ref a.n) (r.v _ J) rfl (p _ F H st m (r.more I (by rw[<- r.r.len];exact hi) b_))
 .exact p.elim
def rm_par(J:(i0,d_)∈vw)(Y:outside vw i=d_)(I:outside vw j=d_)(t:tM K vw ((j,b_)::vw) (mPar i j) D σ H):tPar i j (aP (tOp (rIxL K) (bB i0) (tC (.int 0))) (aP (tOp (rIxL K) (bB i0) (tC (.int 4))) fw)) D σ H:=by
 obtain⟨F0,H0,F,a,s,ρ,st,m,r,p⟩:=t;unfold mPar at p;split at p
 .rename_i b;exact m.ix (v:=a.v0) (r.v _ J) rfl (m.ix (v:=.ref a.n) (r.v _ J) rfl ⟨_,_,rfl,p _ F H st m ((r.set m.k Y).more I (by rw[GB,<- r.r.len];exact b) b_)⟩)
 .exact p.elim
def spM(K:Pn)(g:Mst->List A'->M (A'×Mst))(n:Nat):Sp:=λvs H Q _=>∃F a s ds us d s',vs=.ref a.p::us/\Mo K F H a s/\az K F ds us/\ds.length=n/\g s ds=.ok (d,s')/\∀v F' H',mK a.xs F H F' H'->Mo K F' H' a s'->aR K F' d v->Q v H'
def runM(nN:Nat)(g:Mst->ah->M Mfl)(s:Mst)(ds:List A'):M (A'×Mst):=(g s (c_::(ds.map a_++C_ (nN-(ds.length+1)) c_))).bind λfl=>match fl with
 |.rt s d=>.ok (d,s)|.nx _ _=>stk
def len_M{g:Mst->List A'->M (A'×Mst)}{vs:b'}(h:spM K g n vs H Q E):vs.length=n+1:=by obtain⟨_,_,_,_,_,_,_,rfl,_,q,l,_⟩:=h;rw[Gy,q.length,l]
def EA{vs:b'}(h:spM K (runM N.length g) n vs H Q E):tM K [(0,d_)] vw g {nx:=λ_ H'=>Q .non H',rt:=Q} (start N vs) H:=by
 obtain⟨F,a,s,ds,us,d,s',rfl,m,q,l,e,I⟩:=h;refine⟨F,H,F,a,s,c_::(ds.map a_++C_ (N.length-(ds.length+1)) c_),⟨aS.refl _,λ_ _ _ h=>h,m.c.fh,λ_ _ h=>.inl h⟩,m,⟨⟨?_,λi d hd=>?_⟩,λp J=>?_⟩,?_⟩
 .simp[start,q.length]
 .cases i with
  |zero=>cases hd|succ i=>
   obtain⟨v,h1,h2⟩:=nV (N:=C_ (N.length-1) (default:i_)) q (i:=i) (d:=d) (by rw[HS,Nat.sub_sub,OT 1];exact hd);refine⟨v,?_,h2⟩
   have:start N (.ref a.p::us)=a_ (.ref a.p)::start (C_ (N.length-1) (default:i_)) us:=by simp[start,Nat.sub_sub,OT 1]
   rw[this];exact h1
 .rw[GK]at J;subst J;rfl
 .unfold runM at e;cases e1:g s (c_::(ds.map a_++C_ (N.length-(ds.length+1)) c_))with
  |error x=>rw[e1]at e;cases e|ok fl=>
   rw[e1]at e;cases fl with
   |nx b Y=>cases e|rt b c=>cases e;exact I
end
section
variable{g h:Mst->ah->M Mfl}{f:ah->M A'}{c:HG}
def cA(h1:PS X st (tM K vw vw1 g))(h2:PSs X sts (tM K vw1 vw2 h)):PSs X (st::sts) (tM K vw vw2 (jR g h)):=(aD h1 h2).imp λ_ _ _=>rm_seq
def qK:PSs X [] (tM K vw vw mNx):=gu.imp λ_ _ _=>rm_nx
def yH{as bs:List Hm}(I:PT X c (tDT K Hh ft))(Y:PSs X as (tM K vw vw1 g))(J:PSs X bs (tM K vw vw1 h)):PS X (.If c as bs pos) (tM K vw vw1 (mIf vw ft g h)):=PS.imp (lg I Y J) λ_ _ _=>rm_if
def tP(I:PE X e (tD K Hh b_ f)):PS X (.Return (a_ e) pos) (tM K vw vw1 (sR vw f)):=PS.imp (g7 I) λ_ _ _=>rm_ret
end
section
variable{o:HG}{to:TE}{id:String}{r:V->List V->Hp->VK->Prop}
def at_bm(m:N5 T)(a:Slot T name id)(c:typeOf (.builtin id)=Ig (.type "method_descriptor"))(q:MtR X id r)(p:PE X o to)(t:PEat X B' σ e te)(Y: ~~~(HA o name X.env (GI o X.env)=GI o X.env))(b: ~~~(((He cpos (h_ [e] X.env)).all (λx=> !x.1)&&(Ic cpos (Hs [] X.env)).all (λx=>x.1.isSome)
   &&o_ ([e].length+([]:List Ie).length+(if ([]:List Ie).isEmpty then 0 else 1)<30))=d_))(J: ~~~((apos.endLine==cpos.line)=d_))(n: ~~~(h_ [e] X.env=[(b_,GI e X.env)])):
  PEat X B' σ (.Call (.Attribute o name apos) [e] [] cpos) (tBM X.K T r to (aP te fw)):=by
 intro s H Q I h;refine KN Y b J rfl (H9 (p B' s σ H _ I h) λv f d=>?_);obtain⟨x,H1,i,g,ty,l⟩:=d;obtain⟨h1,h2⟩:=DX i g ty;refine⟨T,id,m,a,c,h1,h2,?_⟩
 rw[n];refine IV rfl (Jg ?_);show D_ _ _ (Nf ((b_,GI e X.env)::[])) _ _ f;refine Ir (H9 (t f H1 _ i l) λu j d=>?_);obtain⟨y,H2,w,r2,k⟩:=d;exact Jz (q B' j σ H2 x [y] v [u] Q w g (.cons r2 .nil) k)
end
def spSd(K:Pn)(C CE:f_)(sy:A'->Int->A'->M (A'×Int)):Sp:=λvs H Q _=>∃p dx v F S k r I g,vs=[.ref p,I,.bl g]/\Dk K C F H p dx v S k/\aR K F r I /\
 ((∃z,sy S k r=.ok z/\g=d_/\∀v' F' H',Abt p F H F' H'->Dk K C F' H' p dx v' z.1 z.2->Q (.bl d_) H')\/(sy S k r=.error (.exc CE [])/\g=b_/\∀F' H',C6 F H F' H'->Q (.bl d_) H'))
section
variable{CE:f_}{vs:List V}
def len_Sd(h:spSd K C CE sy vs H Q E):vs.length=3:=by obtain⟨_,_,_,_,_,_,_,_,_,rfl,_⟩:=h;rfl
abbrev AS(K:Pn):TE->TS:=λt=>uh (tBM K "list" pz (bB 3) (aP t fw))
def AN{d:A'}{g:Bool}{D:Ends}(c:aS F H)(e:H l=a_ (.lst [v]))(a:∀F,aR K F d v)(e2:σ[2]?=a_ (a_ (.bl g)))(e3:σ[3]?=a_ (a_ (.ref l)))(J:σ.length=4)(I:fe [c_,c_,a_ (.bl g),a_ (.lst [d])]=.ok (.bl d_))(k:∀F' H',C6 F H F' H'->D.rt (.bl d_) H'):oX (tD K Hh b_ fe) D σ H:=by
 have j:hR K (upd (λ_=>c_) l (.lst [v])) σ [c_,c_,a_ (.bl g),a_ (.lst [d])]:=⟨J.symm,λi d' h=>by
  match i,h with
  |0,h=>cases h|1,h=>cases h|2,h=>cases h;exact⟨_,e2,rfl⟩|3,h=>cases h;exact⟨_,e3,l,[v],rfl,SqL.of aj,v,[],rfl,a _,rfl⟩|i+4,h=>simp at h⟩
 have f:aS (upd (λ_=>c_) l (.lst [v])) H:=λb o h=>by
  by_cases Y:b=l
  .subst Y;rw[aj]at h;cases h;exact e
  .rw[ao Y]at h;cases h
 refine ba j f (λm h=>by rw[I]at h;cases h) λd' hd v' F1 H1 t q=>?_;rw[I]at hd;cases hd;cases(show v'=V.bl d_ from q);exact k F H1 (C6.same c t.hh)
theorem rs_said{m:i_}(G:∀v k,(kFs v k).lookup m=c_)(h1:fe [c_,c_,a_ (.bl d_),a_ (.lst [.non])]=.ok (.bl d_))(O:fe [c_,c_,a_ (.bl b_),a_ (.lst [.int 1])]=.ok (.bl d_))(h:spSd K C CE sy vs H Q E):
  j5 (uM (tLst fw) (hG 3)) (j5 (λD σ H=>AS K (vC C m (Ca K C sy) [] (EHN CE (AS K (tC (.int 1))) D σ) (bB 0) (aP (bB 1) fw)) D σ H) (oX (tD K Hh b_ fe))) {nx:=λ_ H'=>Q .non H',rt:=Q} (start ["_law_desk","_law_row","_law_good","_law_told"] vs) H:=by
 obtain⟨p,dx,v,F,S,k,r,x,g,rfl,d,B,h⟩:=h;refine⟨Ib _,λl i=>?_⟩
 have a:C6 F H F (upd H l (.lst [])):=C6.grow d.fh i;have y:=d.step a;refine⟨.ref l,rfl,iB aj,.ref p,rfl,p,dx,_,rfl,y.ob,G _ _,x,rfl,p,dx,v,F,S,k,r,x,rfl,y,B,?_⟩
 have Y:p≠l:=λz=>by have:=d.ob;simp_all
 rcases h with⟨z,e,rfl,q⟩|⟨e,rfl,q⟩
 .rw[e];intro v' F' H' ab d';have f:H' l=a_ (.lst []):=ab.hh l _ aj (HI Y);have fl:F' l=c_:=by
   cases P:F' l with
   |none=>rfl|some o=>exact(ab.nw l o P).elim (λz=>by rw[d.fh.free i]at z;cases z) λz=>by simp_all[aj]
  refine⟨l,[],.non,rfl,rfl,f,a8,?_⟩
  refine AN (d:=.non) (g:=d_) (ji d'.fh fl) aj (λ_=>rfl) rfl rfl rfl h1 λF2 H2 I=>?_;have w:Abt p F H F' (upd H' l (.lst [.non])):=⟨ab.ff,ji ab.fh fl,ab.fp,λc u s=>(ab.nw c u s).elim .inl λz=>.inr (a.hh.free z),λc u s L=>by
   have j:c≠l:=λz=>by simp_all
   rw[ao j];exact ab.hh c u (a.hh c u s) L⟩
  have t:Dk K C F' (upd H' l (.lst [.non])) p dx v' z.1 z.2:=⟨ji d'.fh fl,by rw[ao Y];exact d'.ob,d'.fp,d'.sh⟩
  exact q v' F2 H2 (w.trans (Abt.of I t.fp t.ob)) (t.step I)
 .rw[e];intro F' H' I F2 H2 J;have f:H2 l=a_ (.lst []):=J.hh _ _ (I.hh _ _ aj);have st:=a.trans (I.trans J);have fl:F2 l=c_:=(I.trans J).stays (d.fh.free i) aj;refine⟨rfl,.ref l,rfl,iB f,l,[],.int 1,rfl,rfl,f,a8,?_⟩
  refine AN (d:=.int 1) (g:=b_) (ji J.fh fl) aj (λ_=>rfl) rfl rfl rfl O λT R A=>?_;refine q T R (C6.trans ⟨st.ff,λb o N=>?_,ji J.fh fl,st.nw⟩ A);have n:b≠l:=λz=>by simp_all
  rw[ao n];exact st.hh b o N
end
def gLst(K:Pn)(n:Nat)(t:TGs):TG:=λv σ H Q=>∃a xs,v=.ref a/\SqL K H a xs/\xs.length=n/\t xs σ H Q
theorem pg_lst{t:TGs}(i:X.calm=d_)(h:PGs X es t)(f: ~~~((HU es X.env).length=n))(J: ~~~((HU es X.env).findIdx? (·.1)=c_)):PG X (.Tuple es k pos) (gLst X.K n t):=by intro B' s σ H v u Q I r hw;obtain⟨a,xs,e1,d,g,hw⟩:=hw;subst e1;cases r;obtain⟨G',Y,pl,l⟩:=I.list d;rw[assign_Tuple];refine n_ (Jy ?_);unfold unpack;rw[J,show(HU es X.env).length=G'.toArray.size by rw[f,<- g,Y.length];simp];refine n_ (KA (PySem.W.kun_itemsOf (I.ok.hd i) pl.isList λh' c=>?_));have j:Cv X B' σ H {s with heap:=h'}:=I.kept (t':=s.toks) λb o e=>c b o (GS (t_ e)) e;exact h B' _ σ H xs _ Q j bt hw
def Cj(is:cc)(f:ah->M A'):ah->M Gp:=λρ=>(f ρ).bind λd=>(lstOf d).bind λds=>if ds.length=is.length then .ok (.nx (j6 is ds ρ))else stk
@[simp]def e_unpL(is:cc)(f:ah->M A')(ρ:ah):Cj is f ρ=(f ρ).bind λd=>(lstOf d).bind λds=>if ds.length=is.length then .ok (.nx (j6 is ds ρ))else stk:=id rfl
section
variable{f:ah->M A'}{is:List Nat}{D:Ends}
def rs_unpL(t:tS K Hh ro F0 H0 OL [] [] (Cj is f) D σ H):uM (tD K Hh b_ f) (gLst K is.length (j8 is)) D σ H:=by
 obtain⟨FB,F,ρ,r,p⟩:=t;refine ba r.repE r.st.fh (λe Y=>p.uF r.st (by unfold Cj;rw[Y];rfl)) λd hd v F1 H1 I q=>?_;unfold Cj at p;rw[hd]at p;cases d with
 |lst ds=>
  have p:kN K Hh ro F0 H0 FB OL [] D (if ds.length=is.length then .ok (.nx (j6 is ds ρ))else stk):=p;split at p
  .rename_i J;obtain⟨a,xs,b,t,z⟩:=q;exact⟨a,xs,b,I.fh.lst t,by rw[z.length,J],pL (r.step I) (λ_ _=>by simp) z J λσ' r'=>p σ' F1 H1 r'⟩
  .exact p.stuck rfl
 |_=>exact p.stuck rfl
def ds_unpL(a:DE K Hh b_ X e f)(b:X.calm=d_)(h:PGs X es (j8 is))(Y: ~~~((HU es X.env).length=is.length))(I: ~~~((HU es X.env).findIdx? (·.1)=c_))(J: ~~~(MO [.Tuple es k p] e pos.line X.env=Ig b_))(hw: ~~~(MP [.Tuple es k p] e X.env=Ig c_))(h1: ~~~((HU [.Tuple es k p] X.env).map (·.2)=[K7 (.Tuple es k p) X.env]))(c: ~~~(X.K=K)):
  DS K Hh ro X OL [] [] (.Assign [.Tuple es k p] e pos) (Cj is f):=λF0 H0=>by
 subst c;exact PS.imp (Bb a (pg_lst b h Y I) J hw h1) λ_ _ _=>rs_unpL
end
def PEt(b:Bool)(X:Cx)(e:HG)(t:TE):Prop:=∀(B':Vp) (s:u_) (σ:St) (H:Hp) (Q:VK),(b=d_->s.toks≠0)->Cv X B' σ H s->t σ H Q ->
 D_ (GD X.prog X.w) X.A (GI e X.env) (λv s'=>∃y u x H',v=.str y u/\x=V.str y/\u≠0/\u<s'.toks/\Cv X B' σ H' s'/\Q x H') X.xe s
def PEz(b:Bool)(X:Cx)(e:HG)(t:TE):Prop:=∀(B':Vp) (s:u_) (σ:St) (H:Hp) (Q:VK),(b=d_->s.toks≠0)->Cv X B' σ H s->t σ H Q->D_ (GD X.prog X.w) X.A (GI e X.env) (EP X B' σ Q) X.xe s
noncomputable def rCat1:R2:=λx y H Q=>∃i j,x=.str i/\y=.str j/\i.length≠0/\j.length≠0/\i.length+j.length<=j_/\Q (.str (i++j)) H
noncomputable def tRepl(i:Nat)(ty:TE)(z:i_):TE:=λσ H Q=>∃x,σ[i]?=a_ (a_ (.str x))/\ty σ H λy H1=>∃I,y=.str I/\(I==z)=b_/\x.length+(x.length+1)*z.length<=16777216/\Q (.str (IW x I z)) H1
section
variable{a ey:HG}{ty:TE}{c x:i_}{b:Bool}
def pt_const:PEt d_ X (.Constant (.str c) j pos) (tC (.str c)):=λ_ s _ H _ J I h=>Jq ⟨c,s.toks,_,H,rfl,rfl,J rfl,Iu _,I.tok _,h⟩
def pt_add(d:PE X a ta):PEt b_ X (.BinOp a .Add (.Constant (.str c) j p) pos) (tOp rCat1 ta (tC (.str c))):=by intro B' s σ H Q _ I h;refine NH (H9 (d B' s σ H _ I h) λv g b=>?_);obtain⟨y,H1,f,J,Y⟩:=b;refine Jq ?_;obtain⟨k,l,rfl,e2,h1,h2,e,q⟩:=Y;cases e2;obtain⟨t,rfl⟩:=J;refine PySem.P.add_str ?_;rw[k_ (by simpa using h1),k_ (by simpa using h2)];exact⟨by rw[Str.length_append];exact e,_,_,_,H1,rfl,rfl,NP _,Iu _,(f.tok _).tok _,q⟩
def var_at{R:Mq}(j:X.N[i]?=a_ x)(hv:Vis X.env.scope x)(I:Cv X B' σ H s)(e:σ[i]?=a_ (a_ v))(h:∀u,Gq v u->R u s)(hd:((x==("__debug__":i_))=b_)⁻¹)(a:((x==("__classdict__":i_))=b_)⁻¹):
  D_ (GD X.prog X.w) X.A (GI (.Name x pos) X.env) R X.xe s:=by
 obtain⟨m,d,g⟩:=I.loc;obtain⟨u,r,l⟩:=g i x v j e hv;rcases l with⟨Y,f⟩|⟨Y,c,b,J⟩
 .exact KL (NG I.ok.kind Y d f (h u r)) hd
 .rcases Y with Y|Y
  .exact KL (NU I.ok.kind Y b J (h u r)) hd
  .exact KL (NT I.ok.kind Y b J (h u r) a) hd
def EO(n:PEt b X ey ty)(A:X.N[i]?=a_ x)(hv:Vis X.env.scope x)(hd:(x==("__debug__":i_))=b_)(f:(x==("__classdict__":i_))=b_)(Y:HA (.Name x p0) "replace" X.env (GI (.Name x p0) X.env)=GI (.Name x p0) X.env)(c:((He cpos (h_ [ey,.Constant (.str z) j p1] X.env)).all (λx=> !x.1)&&(Ic cpos (Hs [] X.env)).all (λx=>x.1.isSome)&&o_ ([ey,.Constant (.str z) j p1].length+([]:List Ie).length+(if ([]:List Ie).isEmpty then 0 else 1)<30))=d_)(J:(apos.endLine==cpos.line)=d_)(p:h_ [ey,.Constant (.str z) j p1] X.env=[(b_,GI ey X.env),(b_,GI (.Constant (.str z) j p1) X.env)]):
  PEz b X (.Call (.Attribute (.Name x p0) "replace" apos) [ey,.Constant (.str z) j p1] [] cpos) (tRepl i ty z):=by
 intro B' s σ H Q w I ⟨E,ex,h⟩;refine KN Y c J rfl (var_at A hv I ex (λu l=>?_) hd f);obtain⟨t,rfl⟩:=l;refine⟨"str","str.replace",LZ,PySem.F.slot_str_replace,PySem.F.type_str_replace,Kg _ _ _,(λ_ e=>nomatch e),?_⟩
 rw[p];refine IV rfl (Jg ?_);show D_ _ _ (Nf ((b_,GI ey X.env)::(b_,GI (.Constant (.str z) j p1) X.env)::[])) _ _ s;refine Ir (H9 (n B' s σ H _ w I h) λv F r=>?_);obtain⟨y,u,D,H1,e1,e2,o,a,B,m⟩:=r;refine Ir (Jq (Jz ?_));subst e1 e2;obtain⟨C,e3,d,g,q⟩:=m;cases e3;exact SC.replace o (J0 (Nt (Ib _) a)) (GS a) d g λt' k=>⟨.str _,H1,B.tok _,⟨_,rfl⟩,q⟩
def pz_pe{t:TE}(h:PEz b_ X e t):PE X e t:=λB' s σ H Q I q=>h B' s σ H Q (λz=>nomatch z) I q
def pz_after{r:R2}{t:TE}(b:OpR X (Ih .Add) r)(h:PEz d_ X e t):PE X (.BinOp (.Constant (.str c) j p) .Add e pos) (tOp r (tC (.str c)) t):=by intro B' s σ H Q I q;refine NH (Jq (H9 (h B' _ σ H _ (λ_=>NP _) (I.tok _) q) λu J a=>?_));obtain⟨y,H2,d,r2,Y⟩:=a;exact b B' J σ H2 (.str c) y _ u Q d ⟨_,rfl⟩ r2 Y
end
def Cm(z:i_):A'->A'->M A'
 |.str x,.str y=>if (y==z)=b_/\x.length+(x.length+1)*z.length<=16777216 then .ok (.str (IW x y z))else stk
 |_,_=>stk
@[simp]def e_replD(z x y:i_):Cm z (.str x) (.str y)=if (y==z)=b_/\x.length+(x.length+1)*z.length<=16777216 then .ok (.str (IW x y z))else stk:=id rfl
def cat1D:A'->A'->M A'
 |.str x,.str y=>if x.length≠0/\y.length≠0/\x.length+y.length<=j_ then .ok (.str (x++y))else stk
 |_,_=>stk
@[simp]def e_cat1D(x y:i_):cat1D (.str x) (.str y)=if x.length≠0/\y.length≠0/\x.length+y.length<=j_ then .ok (.str (x++y))else stk:=id rfl
section
variable{own:Bool}{a:HG}{c d x:i_}{j2 j3:Nat}
def EE{I:ah->M A'}(h:tD K Hh own (f2 (Cm z) (ae i) I) σ H Q):tRepl i (tD K Hh b_ I) z σ H Q:=by
 obtain⟨F,ρ,r,s,q⟩:=h;unfold f2 ae at q;split at q
 rotate_left
 .exact aH.stuck q
 rename_i c k;obtain⟨v,hv,f⟩:=r.sl i c k;cases c with
 |str x=>
  cases(show v=V.str x from f);refine⟨x,hv,ba r s (λe j=>by rw[j]at q;exact q) λb g l F1 H1 J d=>?_⟩
  rw[g]at q;cases b with
  |str y=>
   have q:aH K Hh own F H (if (y==z)=b_/\x.length+(x.length+1)*z.length<=16777216 then .ok (.str (IW x y z))else stk) Q:=q;split at q
   .rename_i a;exact⟨y,d,a.1,a.2,(q.step J).str J.fh⟩
   .exact q.stuck
  |_=>exact aH.stuck q
 |_=>exact aH.stuck (by cases Y:I ρ with
  |error e=>rw[Y]at q;exact(show False from q).elim|ok b=>rw[Y]at q;exact q)
def de_replA(n:DE K Hh b_ X a fa)(o: ~~~(X.N[i]?=a_ x))(hv:autoParam (Vis X.env.scope x) Jq4)(hd:((x==("__debug__":i_))=b_)⁻¹)(d:((x==("__classdict__":i_))=b_)⁻¹)(J: ~~~(HA (.Name x p0) "replace" X.env (GI (.Name x p0) X.env)=GI (.Name x p0) X.env))(Y: ~~~(((He cpos (h_ [.BinOp a .Add (.Constant (.str c) j p) pos,.Constant (.str z) j2 p1] X.env)).all (λx=> !x.1)&&(Ic cpos (Hs [] X.env)).all (λx=>x.1.isSome)&&o_ ([Expr.BinOp a .Add (.Constant (.str c) j p) pos,.Constant (.str z) j2 p1].length+([]:List Ie).length+(if ([]:List Ie).isEmpty then 0 else 1)<30))=d_))(I: ~~~((apos.endLine==cpos.line)=d_))(l: ~~~(h_ [.BinOp a .Add (.Constant (.str c) j p) pos,.Constant (.str z) j2 p1] X.env=[(b_,GI (.BinOp a .Add (.Constant (.str c) j p) pos) X.env),(b_,GI (.Constant (.str z) j2 p1) X.env)])):
  DE K Hh own X (.Call (.Attribute (.Name x p0) "replace" apos) [.BinOp a .Add (.Constant (.str c) j p) pos,.Constant (.str z) j2 p1] [] cpos) (f2 (Cm z) (ae i) (f2 cat1D fa (fC (.str c)))):=by
 refine PE.imp (pz_pe (EO (pt_add n) o hv hd d J Y I l)) λσ H Q h=>?_;obtain⟨x,ex,h⟩:=EE h;refine⟨x,ex,?_⟩
 obtain⟨F,ρ,r,s,q⟩:=h;refine ba r s (λe m=>by unfold f2 at q;rw[m]at q;exact q) λt b v F1 H1 g k=>?_;unfold f2 at q;rw[b]at q;cases t with
 |str u=>
  have q:aH K Hh b_ F H (if u.length≠0/\c.length≠0/\u.length+c.length<=j_ then .ok (.str (u++c))else stk) _:=q;split at q
  .rename_i f;exact⟨u,c,k,rfl,f.1,f.2.1,f.2.2,(q.step g).str g.fh⟩
  .exact q.stuck
 |_=>exact aH.stuck q
def de_replC(e: ~~~(X.N[i]?=a_ x))(hv:autoParam (Vis X.env.scope x) Jq4)(hd:((x==("__debug__":i_))=b_)⁻¹)(a:((x==("__classdict__":i_))=b_)⁻¹)(J: ~~~(HA (.Name x p0) "replace" X.env (GI (.Name x p0) X.env)=GI (.Name x p0) X.env))(Y: ~~~(((He cpos (h_ [.Constant (.str c) j p,.Constant (.str z) j2 p1] X.env)).all (λx=> !x.1)&&(Ic cpos (Hs [] X.env)).all (λx=>x.1.isSome)&&o_ ([Expr.Constant (.str c) j p,.Constant (.str z) j2 p1].length+([]:List Ie).length+(if ([]:List Ie).isEmpty then 0 else 1)<30))=d_))(I: ~~~((apos.endLine==cpos.line)=d_))(b: ~~~(h_ [.Constant (.str c) j p,.Constant (.str z) j2 p1] X.env=[(b_,GI (.Constant (.str c) j p) X.env),(b_,GI (.Constant (.str z) j2 p1) X.env)]))(f: ~~~(X.K=K)):
  DE K Hh d_ X (.BinOp (.Constant (.str d) j3 p2) .Add (.Call (.Attribute (.Name x p0) "replace" apos) [.Constant (.str c) j p,.Constant (.str z) j2 p1] [] cpos) pos) (f2 bZ (fC (.str d)) (f2 (Cm z) (ae i) (fC (.str c)))):=by
 refine PE.imp (pz_after (bA (K:=K) (W:=Hh) f) (EO pt_const e hv hd a J Y I b)) λσ H Q h=>?_;obtain⟨x,ex,h⟩:=EE (rd_c (d:=.str d) (v:=.str d) (λ_=>rfl) (rd_2 h));exact⟨x,ex,rd_c (d:=.str c) (v:=.str c) (λ_=>rfl) h⟩
end
def handM(ik ig ib ic jn jf:Nat)(ρ:ah):M Mst:=(ae ik ρ).bind λk=>(ae ig ρ).bind λg=>(ae ib ρ).bind λb=>(jH ρ ic).bind λc=>(jH ρ jn).bind λn=>(jH ρ jf).bind λf=>.ok ⟨k,g,b,c,n,f⟩
def spSt(K:Pn)(g:List A'->M Mst)(n:Nat):Sp:=λvs H Q _=>∃F ds s,aS F H/\az K F ds vs/\ds.length=n/\g ds=.ok s/\∀a F' H',C6 F H F' H'->Mo K F' H' a s->(∀x∈a.ys,H x=c_)->Q (.ref a.p) H'
def runH(nN ik ig ib ic jn jf:Nat)(g:ah->M Gp)(ds:List A'):M Mst:=(g (ds.map a_++C_ (nN-ds.length) c_)).bind λfl=>match fl with
 |.nx ρ=>handM ik ig ib ic jn jf ρ|_=>stk
abbrev tHand(ik ig ib ic jn jf:Nat):TS:=oX (tLst (aP (bB ik) (aP (bB ig) (aP (bB ib) (aP (bB ic) (aP (bB jn) (aP (bB jf) fw)))))))
def wA{d:A'}(h:ae i ρ=.ok d):ρ[i]?=a_ (a_ d):=by
 unfold ae at h;split at h
 .rename_i e;cases h;exact e
 .cases h
section
variable{D:Ends}{s:Mst}{ik ig ib ic jn jf:Nat}{vs:List V}
theorem rs_hand(h1:ik∉O/\ig∉O/\ib∉O)(h2:ic∈O/\jn∈O/\jf∈O)(u:ic≠jn/\ic≠jf/\jn≠jf)(r:Rep K F0 H0 FB O F H σ ρ)(e:handM ik ig ib ic jn jf ρ=.ok s)(q:∀a F' H',C6 F0 H0 F' H'->Mo K F' H' a s->(∀x∈a.ys,H0 x=c_)->D.rt (.ref a.p) H'):tHand ik ig ib ic jn jf D σ H:=by
 unfold handM at e;obtain⟨dk,e1,e⟩:=bind_eq e;obtain⟨dg,e2,e⟩:=bind_eq e;obtain⟨db,e3,e⟩:=bind_eq e;obtain⟨lc,e4,e⟩:=bind_eq e;obtain⟨Z,e5,e⟩:=bind_eq e;obtain⟨lf,I,e⟩:=bind_eq e;cases e;obtain⟨l,L,T⟩:=r.fz ik dk (wA e1) h1.1;obtain⟨v1,G,S⟩:=r.fz ig dg (wA e2) h1.2.1;obtain⟨k,E,R⟩:=r.fz ib db (wA e3) h1.2.2;have e4:=jj e4;have e5:=jj e5;have I:=jj I;obtain⟨v3,i,c,cs,rfl,y,fc,C,Q⟩:=r.ow ic _ e4 h2.1;obtain⟨v4,b,n,ns,rfl,v,fn,A,N⟩:=r.ow jn _ e5 h2.2.1;obtain⟨v5,Y,f,fs,rfl,w,ff,B,P⟩:=r.ow jf _ I h2.2.2;have W:c≠n:=λz=>u.1 (r.ap ic jn _ _ c h2.1 h2.2.1 ⟨e4,rfl⟩ ⟨e5,rfl⟩ i (by rw[b,z]));have X:c≠f:=λz=>u.2.1 (r.ap ic jf _ _ c h2.1 h2.2.2 ⟨e4,rfl⟩ ⟨I,rfl⟩ i (by rw[Y,z]));have U:n≠f:=λz=>u.2.2 (r.ap jn jf _ _ n h2.2.1 h2.2.2 ⟨e5,rfl⟩ ⟨I,rfl⟩ b (by rw[Y,z]));refine⟨l,L,v1,G,k,E,_,i,_,b,_,Y,by rw[Hr];show 6<=16777216;decide,λp t=>?_⟩
 have m:∀{x:f_} {o:HO},H x=a_ o->p≠x:=λh z=>by simp_all
 have g:C6 F H F (upd H p (.lst [l,v1,k,.ref c,.ref n,.ref f])):=C6.grow r.st.fh t;have cl:Cells K F H [c,n,f] [.lst lc,.lst Z,.lst lf]:=⟨r.st.fh,by grind,rfl,λj x d h1 h2=>by
  match j,h1,h2 with
  |0,h1,h2=>cases h1;cases h2;exact⟨rfl,c,cs,rfl,y,fc,rfl,Q⟩|1,h1,h2=>cases h1;cases h2;exact⟨rfl,n,ns,rfl,v,fn,rfl,N⟩|2,h1,h2=>cases h1;cases h2;exact⟨rfl,f,fs,rfl,w,ff,rfl,P⟩|j+3,h1,h2=>simp_all⟩
 refine q ⟨p,c,n,f,l,v1,k⟩ F _ (r.st.trans g) ⟨cl.step g,aj,r.st.fh.free t,?_,T,S,R⟩ λx J=>?_
 .show p∉[c,n,f];simp[m y,m v,m w]
 .have J:x∈[p,c,n,f]:=J;simp only[q_,GQ,Iw]at J;rcases J with rfl|rfl|rfl|rfl
  .exact r.st.hh.free t
  .exact C
  .exact A
  .exact B
def len_St{g:List A'->M Mst}(h:spSt K g n vs H Q E):vs.length=n:=by obtain⟨_,_,_,_,q,l,_⟩:=h;rw[q.length,l]
def rs_start{g:ah->M Gp}(h:spSt K (runH N.length ik ig ib ic jn jf g) n vs H Q E)(h1:(ik∉O/\ig∉O/\ib∉O)⁻¹)(h2:(ic∈O/\jn∈O/\jf∈O)⁻¹)(Y:(ic≠jn/\ic≠jf/\jn≠jf)⁻¹):
  ∃F0 H0,j5 (tS K Hh b_ F0 H0 [] [] O g) (tHand ik ig ib ic jn jf) {nx:=λ_ H'=>Q .non H',rt:=Q} (start N vs) H:=by
 obtain⟨F,ds,s,J,q,l,e,I⟩:=h;refine⟨F,H,F,F,ds.map a_++C_ (N.length-ds.length) c_,⟨C6.refl J,aS.refl _,?_,λi d e _=>nV q e,(λi d e h=>nomatch h),(λi j ds es a h=>nomatch h)⟩,?_⟩
 .unfold start;rw[Gx,Gx,w_,w_,HS,HS,q.length]
 .unfold runH at e;cases e1:g (ds.map a_++C_ (N.length-ds.length) c_)with
  |error x=>rw[e1]at e;cases e|ok fl=>
   rw[e1]at e;cases fl with
   |nx ρ=>exact λσ F1 H1 r=>rs_hand h1 h2 Y r e I|_=>cases e
end
section
variable{O1:List Nat}{g h:ah->M Gp}{W:gf}
def iX(h1:DS K W ro X OL O O1 st g)(h2:PSs X sts (j5 (tS K W ro F0 H0 OL O1 O2 h) U)):PSs X (st::sts) (j5 (tS K W ro F0 H0 OL O O2 (cx g h)) U):=(aD (h1 F0 H0) h2).imp λ_ _ _ z=>rs_seq z
def BE(h1:PSs X sts (j5 (tS K W ro F0 H0 OL O2 O' g) U))(I:(∀i∈O2,i∈O)⁻¹):PSs X sts (j5 (tS K W ro F0 H0 OL O O' g) U):=h1.imp λ_ _ _ z=>tS.enter I z
def dq_last(h:PS X st U):PSs X [st] (j5 (tS K W ro F0 H0 OL O O dN) U):=(aJ h).imp λD σ H z=>let ⟨_,_,_,r,p⟩:=z;p σ _ H r
end
noncomputable abbrev e80:ah:=C_ 8 c_
structure Kd(K:Pn)(C:f_)(F0 H0 F1:Hp)(a:Mad)(q dx:f_)(F H:Hp)(σ:St)(ρ:ah)(s:Mst)(w:V)(S:A')(k:Int):Prop where
 m:Mo K F H a s
 d:Dk K C F H q dx w S k
 r:hR K F σ ρ
 st:C6 F0 H0 F H
 fb:aS F1 F
 qx:q∉a.ys
 z:∀x∈q::a.ys,H0 x=c_
 s1:σ[1]?=a_ (a_ (.ref a.p))
 s2:σ[2]?=a_ (a_ (.ref q))
section
variable{a:Mad}{q:f_}{s:Mst}{w:V}{k:Int}{R:VK}{d:A'}
theorem Kd.step(I:Kd K C F0 H0 F1 a q dx F H σ ρ s w S k)(t:C6 F H F' H'):Kd K C F0 H0 F1 a q dx F' H' σ ρ s w S k:=⟨I.m.step t,I.d.step t,I.r.mono t.ff,I.st.trans t,I.fb.trans t.ff,I.qx,I.z,I.s1,I.s2⟩
def Kd.cells(I:Kd K C F0 H0 F1 a q dx F H σ ρ s w S k)(t:mK a.xs F H F' H')(m:Mo K F' H' a s'):Kd K C F0 H0 F1 a q dx F' H' σ ρ s' w S k:=
 ⟨m,⟨t.fh,t.hh q _ (λh=>I.qx (Gv _ h)) I.d.ob,(by
  cases e:F' q with
  |none=>rfl|some o=>exact(t.nw q o e).elim (λz=>(by rw[I.d.fp]at z;cases z)) λz=>(by rw[I.d.ob]at z;cases z)),I.d.sh.mono t.ff⟩,I.r.mono t.ff,t.into I.st λx J=>I.z x (Gv _ (Gv _ J)),I.fb.trans t.ff,I.qx,I.z,I.s1,I.s2⟩
def Kd.abt(I:Kd K C F0 H0 F1 a q dx F H σ ρ s w S k)(t:Abt q F H F' H')(d:Dk K C F' H' q dx w' S' k'):Kd K C F0 H0 F1 a q dx F' H' σ ρ s w' S' k':=by
 have b:∀x∈a.ys,x≠q:=λx J z=>I.qx (by rw[<- z];exact J);have Y:∀x∈a.ys,F' x=c_:=λx J=>by
  obtain⟨f,o,h,_⟩:=I.m.at J;cases e:F' x with
  |none=>rfl|some u=>exact(t.nw x u e).elim (λz=>by rw[f]at z;cases z) λz=>by rw[h]at z;cases z
 have c:a.p∈a.ys:=Hg ..;refine⟨⟨⟨t.fh,I.m.c.nd,I.m.c.len,λj x d e1 e2=>?_⟩,t.hh _ _ I.m.op (b _ c),Y _ c,I.m.np,I.m.k.mono t.ff,I.m.g.mono t.ff,I.m.b.mono t.ff⟩,d,I.r.mono t.ff,t.from I.st (I.z q (Hg ..)),I.fb.trans t.ff,I.qx,I.z,I.s1,I.s2⟩
 obtain⟨h1,h2⟩:=I.m.c.own j x d e1 e2;have J:x∈a.ys:=Gv _ (GX e1);exact⟨h1,h2.re h1 t.ff (Y x J) λo h=>t.hh x o h (b x J)⟩
theorem Kd.set{v:V}(I:Kd K C F0 H0 F1 a q dx F H σ ρ s w S k)(J:aR K F d v)(hi:3<=i):Kd K C F0 H0 F1 a q dx F H (σ.set i (a_ v)) (ρ.set i (a_ d)) s w S k:=
 ⟨I.m,I.d,I.r.set J i,I.st,I.fb,I.qx,I.z,by rw[p_ am];exact I.s1,by rw[p_ am];exact I.s2⟩
def Kd.less(I:Kd K C F0 H0 F1 a q dx F H σ ρ s w S k)(h:ρ.length=8):Kd K C F0 H0 F1 a q dx F H σ e80 s w S k:=
 ⟨I.m,I.d,by have:=hR.F8 (K:=K) (F:=F) (σ:=σ);rw[<- I.r.len,h]at this;exact this,I.st,I.fb,I.qx,I.z,I.s1,I.s2⟩
theorem Kd.val(I:Kd K C F0 H0 F1 a q dx F H σ ρ s w S k){f:ah->M A'}(e:f ρ=.ok d)(Y:∀v F' H',Kd K C F0 H0 F1 a q dx F' H' σ ρ s w S k->aR K F' d v->R v H'):tD K Hh b_ f σ H R:=
 ba I.r I.st.fh (λx b=>by simp_all) λd' hd v F' H' t J=>by rw[e]at hd;cases hd;exact Y v F' H' (I.step t) J
theorem Kd.ask(I:Kd K C F0 H0 F1 a q dx F H σ ρ s w S k){f:ah->M Bool}{b:Bool}(e:f ρ=.ok b){R:Bool->Hp->Prop}(J:∀F' H',Kd K C F0 H0 F1 a q dx F' H' σ ρ s w S k->R b H'):tDT K Hh f σ H R:=
 iV I.r I.st.fh (λx Y=>by simp_all) λd' hd F' H' t=>by rw[e]at hd;cases hd;exact J F' H' (I.step t)
end
def rgD:A'->M (i_×Bool)
 |.tup [.str r,.bl g]=>.ok (r,g)|_=>stk
def saidD(CE:f_)(g:Bool)(S:A')(k:Int):M (A'×Int)->M (A'×Int)
 |.ok z=>if g=d_ then .ok z else stk
 |.error (.exc C [])=>if C=CE/\g=b_ then .ok (S,k)else stk
 |.error _=>stk
def nR(CE:f_)(g1 g2 g3:Mst->List A'->M (A'×Mst))(sy:A'->Int->A'->M (A'×Int))(fs:A'->M A')(fN fS fT:ah->M A')(c1 c2 c7:ah->M Bool)(st:Mst×A'×Int)(cell:A'):M (Mst×A'×Int):=
 (fN (e80.set 3 (a_ cell))).bind λnum=>(c1 ((e80.set 3 (a_ cell)).set 4 (a_ num))).bind λb=>(if b=d_ then g1 st.1 [cell,num]else(c2 ((e80.set 3 (a_ cell)).set 4 (a_ num))).bind λa=>if a=d_ then g2 st.1 [cell,num]else g3 st.1 [cell,num]).bind λJ=>(rgD J.1).bind λI=>
 (fS ((((e80.set 3 (a_ cell)).set 4 (a_ num)).set 5 (a_ (.str I.1))).set 6 (a_ (.bl I.2)))).bind λsp=>(saidD CE I.2 st.2.1 st.2.2 (sy st.2.1 st.2.2 sp)).bind λz=>(fs z.1).bind λu=>(c7 (e80.set 7 (a_ u))).bind λY=>(fT (e80.set 1 (a_ J.2.D))).bind λt=>if (Y&&eqT u t)=d_ then .ok (J.2,z)else stk
noncomputable def om(I:Mst×A'×Int->A'->M (Mst×A'×Int)):List A'->Mst×A'×Int->M Unit
 |[],_=>.ok ()|c::cs,st=>(I st c).bind (om I cs)
def xT(gS:List A'->M Mst)(gR:List A'->M A')(fT:ah->M A')(fi:ah->M (List A'))(J:Mst×A'×Int->A'->M (Mst×A'×Int)):ah->M Gp:=λρ=>if ρ.length=8 then(ae 0 ρ).bind λsc=>(gS [sc]).bind λI=>(fT (e80.set 1 (a_ I.D))).bind λtx=>(if bS tx=d_ then gR [tx]else stk).bind λS=>(fi (e80.set 0 (a_ sc))).bind λcs=>(om J cs (I,S,0)).bind λ_=>.ok (.rt (.bl d_))else stk
section
variable{CE:f_}{a:Mad}{q:f_}{s:Mst}{w:V}{k:Int}{d:A'}{g:Mst->List A'->M (A'×Mst)}{cell num:A'}{D:Ends}
abbrev mX(K:Pn)(g:Mst->List A'->M (A'×Mst))(E:XK):TS:=uM (gG (spM K g 2) [] E (aP (bB 1) (aP (bB 3) (aP (bB 4) fw)))) (gTup K 2 (yz (hG 5) (yz (hG 6) gNil)))
theorem Kd.call(I:Kd K C F0 H0 F1 a q dx F H σ ρ s w S k)(z:ρ[3]?=a_ (a_ cell))(y:ρ[4]?=a_ (a_ num)){c:A'×Mst}(e:g s [cell,num]=.ok c){Y:i_×Bool}(J:rgD c.1=.ok Y)(A:∀σ' F' H',Kd K C F0 H0 F1 a q dx F' H' σ' ((ρ.set 5 (a_ (.str Y.1))).set 6 (a_ (.bl Y.2))) c.2 w S k->D.nx σ' H'):mX K g E D σ H:=by
 obtain⟨h,l,u⟩:=I.r.sl 3 _ z;obtain⟨f,j,r⟩:=I.r.sl 4 _ y;obtain⟨d,s'⟩:=c;refine⟨_,I.s1,h,l,f,j,F,a,s,[cell,num],[h,f],d,s',rfl,I.m,⟨_,_,rfl,u,_,_,rfl,r,rfl⟩,rfl,e,λv F' H' t x n=>?_⟩
 have J:rgD d=.ok Y:=J;unfold rgD at J;split at J
 .cases J;obtain⟨b,ys,rfl,m,G,_,rfl,p,B,_,rfl,o,rfl⟩:=n;refine⟨b,_,rfl,t.fh.tup m,rfl,_,_,rfl,_,_,rfl,rfl,A _ F' H' ?_⟩
  exact((I.cells t x).set p (i:=5) am).set o (i:=6) am
 .cases J
abbrev tEnd80(K:Pn)(C CE:f_)(mt:i_)(sy:A'->Int->A'->M (A'×Int))(fs:A'->M A')(fS fT:ah->M A')(c7:ah->M Bool)(E E2:XK):TS:=
 j5 (uc (tNot (tTr K (gG (spSd K C CE sy) [] E (aP (bB 2) (aP (tD K Hh b_ fS) (aP (bB 6) fw)))))) (oX (tC (.bl b_))) kr)
 (j5 (uM (vC C mt (rV K C fs) [] E2 (bB 2) fw) (hG 7)) (uc (tOr (tNot (tDT K Hh c7)) (BZ (tOp rNe (bB 7) (tD K Hh b_ fT)))) (oX (tC (.bl b_))) kr))
theorem Kd.fin{fs:A'->M A'}{J r:Bool}{sp u t:A'}{z:A'×Int}(I:Kd K C F0 H0 F1 a q dx F H σ ρ s w S k)(o:ρ.length=8)(R:∀v k,(kFs v k).lookup mt=c_)(T:ρ[6]?=a_ (a_ (.bl J)))(e1:fS ρ=.ok sp)(e2:saidD CE J S k (sy S k sp)=.ok z)(e3:fs z.1=.ok u)(e4:c7 (e80.set 7 (a_ u))=.ok r)(e5:fT (e80.set 1 (a_ s.D))=.ok t)(g:(r&&eqT u t)=d_)(U:∀σ' F' H' w',Kd K C F0 H0 F1 a q dx F' H' σ' e80 s w' z.1 z.2->D.nx σ' H'):tEnd80 K C CE mt sy fs fS fT c7 E E2 D σ H:=by
 obtain⟨i,x,j⟩:=I.r.sl 6 _ T;cases(show i=V.bl J from j);rw[l_]at g;obtain⟨rfl,g⟩:=g;obtain⟨y,rfl,rfl⟩:=eqT_str g;refine⟨_,I.s2,I.val e1 λB F2 H2 m O=>⟨_,x,q,dx,w,F2,S,k,sp,B,J,rfl,m.d,O,?_⟩⟩
 have rest:∀{f Y:Hp} {c:V},Kd K C F0 H0 F1 a q dx f Y σ ρ s c z.1 z.2->∃k,TruV K (.bl d_) Y k/\(if (!k)=d_ then oX (tC (.bl b_)) {D with nx:=j5 (uM (vC C mt (rV K C fs) [] E2 (bB 2) fw) (hG 7)) (uc (tOr (tNot (tDT K Hh c7)) (BZ (tOp rNe (bB 7) (tD K Hh b_ fT)))) (oX (tC (.bl b_))) kr) D} σ Y else kr {D with nx:=j5 (uM (vC C mt (rV K C fs) [] E2 (bB 2) fw) (hG 7)) (uc (tOr (tNot (tDT K Hh c7)) (BZ (tOp rNe (bB 7) (tD K Hh b_ fT)))) (oX (tC (.bl b_))) kr) D} σ Y):=λ{f Y c} h=>by
  refine⟨d_,rfl,?_⟩
  rw[k_ a'];refine⟨_,h.s2,q,dx,_,rfl,h.d.ob,R _ _,q,dx,c,f,z.1,z.2,rfl,h.d,?_⟩
  rw[e3];intro A F4 H4 L P;cases(show A=V.str y from P);have X:Kd K C F0 H0 F1 a q dx F4 H4 (σ.set 7 (a_ (.str y))) (e80.set 7 (a_ (.str y))) s c z.1 z.2:=((h.step L).less o).set (d:=.str y) rfl am;refine X.ask e4 λF5 H5 b=>?_;show(if (!true)=d_ then _ else _)
  rw[k_ a'];have b:=b.less rfl;have Q:(σ.set 7 (a_ (.str y)))[7]?=a_ (a_ (V.str y)):=x_ (by rw[<- I.r.len,o];decide);refine⟨_,Q,?_⟩
  refine b.m.val (vw:=[(1,d_)]) ⟨b.r,λp n=>by rw[GK]at n;subst n;exact b.s1⟩ (d:=.str y) e5 rfl λi F6 Z G j=>?_;cases(show i=V.str y from j);refine⟨rfl,_,rfl,?_⟩
  rw[E_ rfl];exact U _ F6 Z c (b.step G)
 unfold saidD at e2;split at e2
 .rename_i z' l;split at e2
  .rename_i e;cases e2;exact .inl ⟨z,l,e,λv' f Y ab W=>rest (m.abt ab W)⟩
  .cases e2
 .rename_i C' l;split at e2
  .rename_i e;obtain⟨rfl,e⟩:=e;cases e2;exact .inr ⟨l,e,λf Y N=>rest (m.step N)⟩
  .cases e2
 .cases e2
abbrev Eg(K:Pn)(C CE:f_)(g1 g2 g3:Mst->List A'->M (A'×Mst))(mt:i_)(sy:A'->Int->A'->M (A'×Int))(fs:A'->M A')(fN fS fT:ah->M A')(c1 c2 c7:ah->M Bool)(E E2:XK):TS:=
 j5 (uM (tD K Hh b_ fN) (hG 4)) (j5 (uc (tDT K Hh c1) (mX K g1 E) (uc (tDT K Hh c2) (mX K g2 E) (mX K g3 E))) (tEnd80 K C CE mt sy fs fS fT c7 E E2))
theorem rs_law80{fs:A'->M A'}{fN:ah->M A'}(O:∀v k,(kFs v k).lookup mt=c_)(t:tS K Hh ro F0 H0 OL [] [] (xT gS gR fT fi (nR CE g1 g2 g3 sy fs fN fS fT c1 c2 c7)) D σ H):
  j5 (uM (gG (spSt K gS 1) [] E (aP (bB 0) fw)) (hG 1)) (j5 (uM (C7 C (spDI K C gR) [] EN (aP (tD K Hh b_ fT) fw)) (hG 2)) (j5 (tFor (iD K Hh fi) (gP K (.nm 3)) (Eg K C CE g1 g2 g3 mt sy fs fN fS fT c1 c2 c7 E E2)) (oX (tC (.bl d_))))) D σ H:=by
 obtain⟨FB,F,ρ,r,p⟩:=t;unfold xT at p;split at p
 rotate_left
 .exact p.elim
 rename_i hl;cases e0:ae 0 ρ with
 |error x=>rw[e0]at p;exact p.elim|ok sc=>
 rw[e0,aq]at p;cases e1:gS [sc]with
 |error x=>rw[e1]at p;exact p.elim|ok L=>
 rw[e1,aq]at p;cases e2:fT (e80.set 1 (a_ L.D))with
 |error x=>rw[e2]at p;exact p.elim|ok tx=>
 rw[e2,aq]at p;by_cases q:bS tx=d_
 rotate_left
 .rw[k_ q]at p;exact p.elim
 rw[g_ q]at p;cases e3:gR [tx]with
 |error x=>rw[e3]at p;exact p.elim|ok S=>
 rw[e3,aq]at p;cases e4:fi (e80.set 0 (a_ sc))with
 |error x=>rw[e4]at p;exact p.elim|ok cs=>
 rw[e4,aq]at p;cases e5:om (nR CE g1 g2 g3 sy fs fN fS fT c1 c2 c7) cs (L,S,0)with
 |error x=>rw[e5]at p;exact p.elim|ok u=>
 rw[e5,aq]at p;have j:σ.length=8:=by rw[<- r.len,hl]
 obtain⟨v0,w0,q0⟩:=r.repE.sl 0 _ (wA e0);refine⟨v0,w0,F,[sc],L,r.st.fh,⟨_,_,rfl,q0,rfl⟩,rfl,e1,λa F2 H2 t2 m2 n2=>?_⟩
 have F8:∀(G:Hp) (f:St),f.length=8->hR K G f e80:=λG f h=>by have:=hR.F8 (K:=K) (F:=G) (σ:=f);rw[h]at this;exact this
 have B:(σ.set 1 (a_ (V.ref a.p)))[1]?=a_ (a_ (.ref a.p)):=x_ (by rw[j];decide);refine m2.val (vw:=[(1,d_)]) ⟨F8 F2 (σ.set 1 (a_ (.ref a.p))) (by rw[GB,j]),λy R=>by rw[GK]at R;subst R;exact B⟩ e2 q λvt F3 H3 m q3=>?_;have m3:=m2.step m;intro x dx N P hne;refine⟨x,dx,vt,F3,tx,rfl,aj,m.fh.free N,λc o e=>?_,q3,?_⟩
 .have hc:c≠x:=λh=>by rw[h,m.fh.free N]at e;cases e
  have hd:c≠dx:=λh=>by rw[h,m.fh.free P]at e;cases e
  rw[ao hc,ao hd];exact m.fh _ _ e
 rw[e3];intro w W H4 ab d;refine⟨rfl,?_⟩
 have Z:=ab.step N P;have st3:=(r.st.trans t2).trans m;have nx0:H0 x=c_:=st3.hh.free N
 let f:St:=(σ.set 1 (a_ (.ref a.p))).set 2 (a_ (.ref x))
 have lτ:f.length=8:=by show((σ.set 1 (a_ (.ref a.p))).set 2 (a_ (.ref x))).length=8;rw[GB,GB,j]
 have s01:f[1]?=a_ (a_ (.ref a.p)):=by show((σ.set 1 (a_ (.ref a.p))).set 2 (a_ (.ref x)))[1]?=_;rw[p_ a'];exact B
 have s00:f[0]?=a_ (a_ v0):=by show((σ.set 1 (a_ (.ref a.p))).set 2 (a_ (.ref x)))[0]?=_;rw[p_ a',p_ a'];exact w0
 have I4:Kd K C F0 H0 W a x dx W H4 f e80 L w S 0:=⟨m3.step Z,d,F8 W f lτ,st3.trans Z,aS.refl _,(λO=>by obtain⟨_,o,h,_⟩:=m3.at O;rw[N]at h;cases h),λy R=>(q_.mp R).elim (λe=>by rw[e];exact nx0) λe=>r.st.hh.free (n2 y e),s01,x_ (i:=2) (by rw[GB,j];decide)⟩
 show tFor (iD K Hh fi) (gP K (.nm 3)) _ _ f H4;refine⟨W,e80.set 0 (a_ sc),I4.r.tell s00 (q0.mono ((t2.ff.trans m.ff).trans Z.ff)),I4.st.fh,?_⟩
 rw[e4];intro J A H5 t5 it;have l:=I4.step t5;refine⟨λi k σ' H'=>i<=cs.length/\k=cs.length-i/\∃F' s' w' S' k',Kd K C F0 H0 A a x dx F' H' σ' e80 s' w' S' k'/\om (nR CE g1 g2 g3 sy fs fN fS fT c1 c2 c7) (cs.drop i) (s',S',k')=.ok (),⟨cs.length,Ib _,rfl,A,L,w,S,0,⟨l.m,l.d,l.r,l.st,aS.refl _,l.qx,l.z,l.s1,l.s2⟩,e5⟩,?_⟩
 rintro i k σ' H' ⟨hi,rfl,F',s',w',S',k',Y,T⟩;by_cases g:i<cs.length
 .refine .inr ⟨it.go i F' H' Y.fb Y.st.fh g,λb H2=>∃F' s' w' S' k',Kd K C F0 H0 A a x dx F' H2 b e80 s' w' S' k'/\om (nR CE g1 g2 g3 sy fs fN fS fT c1 c2 c7) (cs.drop (i+1)) (s',S',k')=.ok (),λb H2 h=>⟨cs.length-(i+1),am,g,rfl,h⟩,λxv H6 y=>?_⟩;obtain⟨F6,t6,q6⟩:=it.yl i F' H' xv H6 cs[i] Y.fb Y.st.fh (by simp[g]) y;rw[Hz g,om]at T;obtain⟨st2,I,T⟩:=bind_eq T;unfold nR at I;obtain⟨num,eN,I⟩:=bind_eq I;obtain⟨b1,ec1,I⟩:=bind_eq I;obtain⟨dm,s,I⟩:=bind_eq I;obtain⟨rg,er,I⟩:=bind_eq I;obtain⟨sp,eS,I⟩:=bind_eq I;obtain⟨z,ez,I⟩:=bind_eq I;obtain⟨u',eu,I⟩:=bind_eq I;obtain⟨b7,e7,I⟩:=bind_eq I;obtain⟨t',eT,I⟩:=bind_eq I;split at I
  rotate_left
  .cases I
  rename_i h8;cases I;have I6:Kd K C F0 H0 A a x dx F6 H6 (σ'.set 3 (a_ xv)) (e80.set 3 (a_ cs[i])) s' w' S' k':=(Y.step t6).set q6 am;refine I6.val eN λv7 F7 H7 I7 q7=>?_;have I8:=I7.set q7 (i:=4) am;have n:∀b F2 H2 X,Kd K C F0 H0 A a x dx F2 H2 b e80 dm.2 X z.1 z.2->∃F' s' w' S' k',Kd K C F0 H0 A a x dx F' H2 b e80 s' w' S' k'/\om (nR CE g1 g2 g3 sy fs fN fS fT c1 c2 c7) (cs.drop (i+1)) (s',S',k')=.ok ():=λb F2 H2 X I2=>⟨F2,_,X,_,_,I2,T⟩
  refine I8.ask ec1 λF9 U Q=>?_;cases b1 with
  |true=>show mX K g1 E _ _ U;exact Q.call rfl rfl s er λσ' F' H' Y=>Y.fin (E:=E) rfl O rfl eS ez eu e7 eT h8 n|false=>
   have s:((c2 ((e80.set 3 (a_ cs[i])).set 4 (a_ num))).bind λb2=>if b2=d_ then g2 s' [cs[i],num]else g3 s' [cs[i],num])=.ok dm:=s;obtain⟨b2,ec2,s⟩:=bind_eq s;refine Q.ask ec2 λF9 U Q=>?_;cases b2 with
   |true=>show mX K g2 E _ _ U;exact Q.call rfl rfl s er λσ' F' H' Y=>Y.fin (E:=E) rfl O rfl eS ez eu e7 eT h8 n|false=>show mX K g3 E _ _ U;exact Q.call rfl rfl s er λσ' F' H' Y=>Y.fin (E:=E) rfl O rfl eS ez eu e7 eT h8 n
 .have hi:i=cs.length:=am
  subst hi;exact .inl ⟨it.st F' H' Y.fb Y.st.fh,p _ F' H' Y.st (by cases ro<;>rfl)⟩
end
section
variable{CE:f_}{st3 st4:Hm}{fs:A'->M A'}{fN:ah->M A'}
def ds_law80(h:PSs X [st1,st2,st3,st4] (j5 (uM (gG (spSt K gS 1) [] E0 (aP (bB 0) fw)) (hG 1)) (j5 (uM (C7 C (spDI K C gR) [] EN (aP (tD K Hh b_ fT) fw)) (hG 2)) (j5 (tFor (iD K Hh fi) (gP K (.nm 3)) (Eg K C CE g1 g2 g3 mt sy fs fN fS fT c1 c2 c7 E0 EN)) (oX (tC (.bl d_)))))))(I:autoParam (∀v k,(kFs v k).lookup mt=c_) Jq13):
  DSs K Hh ro X OL [] [] [st1,st2,st3,st4] (xT gS gR fT fi (nR CE g1 g2 g3 sy fs fN fS fT c1 c2 c7)):=λ_ _=>PSs.imp h λ_ _ _=>rs_law80 I
end
theorem xG{x:i_}(h:x.length<=k):JK x c_ (a_ (k:Int))=x:=by
 unfold JK;have e:JH c_ (a_ (k:Int)) 1 x.length=JH (a_ ((0:Nat):Int)) (a_ ((x.length:Nat):Int)) 1 x.length:=by
  have a:¬((k:Int)<0):=am
  have b:¬(((x.length:Nat):Int)<0):=am
  have c:min (k:Int) ((x.length:Nat):Int)=(x.length:Int):=am
  have d:max (0:Int) (min 0 ((x.length:Nat):Int))=0:=am
  simp[JH,a,b,c,d]
 rw[e,StrLaws.strSliceIndices_plain (Ib _) (z_ _)];simp
theorem El(p q:i_)(J:q.length≠0):JK (p++q) c_ (a_ (-((q.length:Nat):Int)))=p:=by
 have I:(p++q).length=p.length+q.length:=strLen_append p q;have e:=StrLaws.sliceText_to_neg (x:=p++q) (j:= -((q.length:Nat):Int)) am (by rw[I];lia);have z:JK (p++q) c_ (a_ (-((q.length:Nat):Int)))=StrLaws.sliceText (p++q) c_ (a_ (-((q.length:Nat):Int))):=rfl;rw[z,e];have t:(-((q.length:Nat):Int)+(((p++q).length:Nat):Int)-0).toNat=p.cps.toList.length:=by rw[I];simp only[K9,Im];lia
 have c:(p++q).cps.toList=p.cps.toList++q.cps.toList:=by show(p.cps++q.cps).toList=_;rw[Jl]
 simp_all
end Lake
namespace Tactic
open PySem Lake PyProof.Rows
variable{mg:Ld}{P:HP}{C CP CS CW CD CK:f_}{fd eD: Iq}{n k c nN j:Nat}{gb: f_}{i:Int}{z o a b y:i_}{g:PKs}{ks r ns ws:List i_}{rows r2:List (List Int)}{s':Mst}{α β:Type}{ρ ρ':ah}{h:Mst->ah->M Mfl}
def jq:ah->M Gp:=
 (cx (bE [] 1 (f2 i9 (f2 bZ (f2 A6 (ae 1) (fC (.int 69621))) (ae 3)) (fC (.int 2147483629))))
  (bE [] 2 (f2 bZ (ae 2) (f2 ixSD (fC (.str "abcdefghijklmnopqrstuvwxyz0123456789")) (f2 i9 (f2 iT (ae 1) (fC (.int 32))) (fC (.int 36)))))))
def tq:ah->M Gp:=
 (cx (bE [] 1 (f2 i9 (f2 A6 (ae 0) (fC (.int 48271))) (fC (.int 2147483647))))
  (cx (bE [] 2 (f2 ixSD (fC (.str "abcdxyz")) (f2 i9 (ae 1) (fC (.int 7)))))
  (cx (zM [] (Aj B5 (a9 (f2 A6 (f2 i9 (f2 iT (ae 1) (fC (.int 8))) (fC (.int 3))) (f2 i9 (f2 iT (ae 1) (fC (.int 64))) (fC (.int 4)))) aB)) (.nm 3) (jq))
  (dO (ae 2)))))
def eC:List A'->M A':=cn 4 1 (tq)
def iY:ah->M Gp:=
 sIf (fB (f2 ltD (ae 1) (fL mQ (a9 (ae 0) aB))))
   (dO (f2 ixD (ae 0) (ae 1)))
   dN
def jT:ah->M Gp:=
 (cx (iY)
  (dO (fC (.int 0))))
def aU:List A'->M A':=cn 2 2 (jT)
def lZ:ah->M Gp:=
 (cx (bE [] 1 (fL (eC) (a9 (fL (aU) (a9 (ae 0) (a9 (fC (.int 0)) aB))) aB)))
  (dO (fSl dB (fL eh (a9 (ae 1) (a9 (f2 bZ (fSl p7 (ae 1) ky (i8 (fC (.int 7)))) (fC (.str "k"))) (a9 (fC (.str "k2")) aB)))) ky (i8 (f2 bZ (fC (.int 2)) (f2 i9 (fL (aU) (a9 (ae 0) (a9 (fC (.int 1)) aB))) (fC (.int 2))))))))
def iR:List A'->M A':=cn 2 1 (lZ)
def vc:ah->M Gp:=
 (cx (bE [] 2 (f2 bZ (fL (aU) (a9 (ae 0) (a9 (f2 bZ (fC (.int 2)) (ae 1)) aB))) (ae 1)))
  (dO (f2 ixD (fL eh (a9 (f2 i9 (ae 2) (fC (.int 7))) (a9 (f2 i9 (ae 2) (f2 bZ (f2 powD (fC (.int 10)) (fC (.int 6))) (fC (.int 1)))) (a9 (fC (.int 0)) aB)))) (f2 i9 (f2 iT (ae 2) (fC (.int 7))) (fC (.int 3))))))
def gF:List A'->M A':=cn 3 2 (vc)
def tu:ah->M Gp:=
 (dO (eY (Aj B5 (a9 (ae 1) aB)) [c_,a_ 0,a_ 1,a_ 2] (.nm 0) ir (eY (Aj B5 (a9 (ae 2) aB)) [c_,a_ 0,a_ 1,a_ 2,a_ 3] (.nm 0) ir (fL (gF) (a9 (ae 2) (a9 (f2 bZ (f2 bZ (ae 4) (f2 A6 (ae 3) (ae 1))) (ae 0)) aB))))))
def jz:List A'->M A':=cn 3 3 (tu)
def oE:ah->M Gp:=
 (cx (bE [] 2 (f2 i9 (f2 A6 (ae 0) (fC (.int 16807))) (fC (.int 2147483647))))
  (cx (bE [] 3 (f2 ixD (fL eh (a9 (f2 i9 (f2 iT (ae 2) (fC (.int 8))) (fC (.int 100))) (a9 (f2 i9 (f2 iT (ae 2) (fC (.int 8))) (f2 powD (fC (.int 10)) (fC (.int 9)))) aB))) (f2 i9 (ae 2) (fC (.int 2)))))
  (cx (bE [] 4 (f2 bZ (ae 3) (f2 i9 (f2 iT (ae 2) (fC (.int 64))) (f2 ixD (fL eh (a9 (fC (.int 50)) (a9 (f2 bZ (f2 subD (f2 powD (fC (.int 10)) (fC (.int 9))) (ae 3)) (fC (.int 1))) aB))) (f2 i9 (f2 iT (ae 2) (fC (.int 2))) (fC (.int 2)))))))
  (cx (bE [] 5 (f2 ixD (fL eh (a9 (f2 bZ (ae 3) (f2 i9 (ae 2) (fC (.int 40)))) (a9 (f2 i9 (ae 0) (f2 bZ (f2 powD (fC (.int 10)) (fC (.int 9))) (fC (.int 1)))) aB))) (f2 i9 (f2 iT (ae 2) (fC (.int 4))) (fC (.int 2)))))
  (dO (fL iO (a9 (f2 i9 (f2 iT (ae 2) (fC (.int 16))) (fL mQ (a9 (ae 1) aB))) (a9 (ae 3) (a9 (ae 4) (a9 (fL minD (a9 (ae 5) (a9 (f2 powD (fC (.int 10)) (fC (.int 9))) aB))) (a9 (f2 i9 (f2 iT (ae 0) (fC (.int 3))) (f2 bZ (f2 powD (fC (.int 10)) (fC (.int 9))) (fC (.int 1)))) aB)))))))))))
def eW:List A'->M A':=cn 6 2 (oE)
def iG:ah->M Gp:=
 sIf (fB (f2 eqM (f2 i9 (fL (aU) (a9 (ae 0) (a9 (fC (.int 3)) aB))) (fC (.int 2))) (fC (.int 1))))
   (bE [] 3 (fL (jz) (a9 (ae 0) (a9 (fL mQ (a9 (ae 1) aB)) (a9 (fC (.int 9)) aB)))))
   dN
def k7:ah->M Gp:=
 (pf [4] 4 (fL iO (a9 (f2 i9 (ae 5) (fC (.int 1000))) (a9 (f2 bZ (f2 bZ (f2 i9 (ae 5) (fC (.int 1000))) (fC (.int 1))) (f2 i9 (f2 iT (ae 5) (fC (.int 1000))) (f2 powD (fC (.int 10)) (fC (.int 8))))) aB))))
def jX:ah->M Gp:=
 sIf (fB (f2 ke (fL (eC) (a9 (ae 5) aB)) (ae 6)))
   (cx (pf [4,6,7] 6 (fL (eC) (a9 (ae 5) aB)))
  (pf [4,6,7] 7 (fL (eW) (a9 (ae 5) (a9 (ae 1) aB)))))
   dN
def iI:ah->M Gp:=
 (jX)
def g5:ah->M Bool:=
 (zg (fB (f2 eqM (f2 i9 (ae 5) (fC (.int 8))) (fC (.int 5)))) (fB (f2 ltD (fL mQ (a9 (ae 6) aB)) (f2 bZ (fC (.int 38)) (f2 i9 (f2 iT (ae 5) (fC (.int 8))) (fC (.int 3)))))))
def jZ:ah->M Gp:=
 (cx (uo 7 (fL (eW) (a9 (f2 bZ (f2 A6 (fL mQ (a9 (ae 6) aB)) (fC (.int 69621))) (f2 i9 (ae 5) (f2 powD (fC (.int 10)) (fC (.int 9))))) (a9 (ae 1) aB))))
  (uo 6 (f2 bZ (fC (.str "f")) (fL ud (a9 (fL mQ (a9 (ae 6) aB)) aB)))))
def fZ:ah->M Bool:=
 (zg (fB (f2 gtD (f2 i9 (ae 5) (fC (.int 8))) (fC (.int 5)))) (fB (f2 ltD (fL mQ (a9 (ae 4) aB)) (f2 bZ (fC (.int 18)) (f2 i9 (f2 iT (ae 5) (fC (.int 8))) (fC (.int 3)))))))
def jY:ah->M Gp:=
 (uo 4 (fL iO (a9 (f2 A6 (fL mQ (a9 (ae 4) aB)) (fC (.int 7))) (a9 (f2 bZ (f2 bZ (f2 A6 (fL mQ (a9 (ae 4) aB)) (fC (.int 7))) (fC (.int 1))) (f2 i9 (ae 5) (fC (.int 20)))) aB))))
def lY(CR CP CS CW CE CD CK:f_)(n:Nat):ah->M Gp:=
 (cx (bE [] 1 (fL (iR) (a9 (ae 0) aB)))
  (cx (bE [] 2 (fL (jz) (a9 (ae 0) (a9 (fL mQ (a9 (ae 1) aB)) (a9 (fC (.int 0)) aB)))))
  (cx (bE [] 3 (fC .non))
  (cx (iG)
  (cx (bE [] 4 (fL eh aB))
  (cx (zM [4] (fIt (fSl dB (ae 0) (i8 (fC (.int 4))) (i8 (f2 bZ (fC (.int 4)) (f2 i9 (fL (aU) (a9 (ae 0) (a9 (fC (.int 4)) aB))) (fC (.int 5))))))) (.nm 5) (k7))
  (cx (bE [4] 6 (fL eh aB))
  (cx (bE [4,6] 7 (fL eh aB))
  (cx (zM [4,6,7] (fIt (fSl dB (ae 0) (i8 (fC (.int 9))) (i8 (f2 bZ (fC (.int 9)) (f2 i9 (fL (aU) (a9 (ae 0) (a9 (fC (.int 5)) aB))) (fC (.int 6))))))) (.nm 5) (iI))
  (cx (bE [4,6,7] 5 (fL (aU) (a9 (ae 0) (a9 (fC (.int 6)) aB))))
  (cx (fq (g5) (jZ) n)
  (cx (fq (fZ) (jY) n)
  dN))))))))))))
def iK(CR CP CS CW CE CD CK:f_)(n:Nat):List A'->M Mst:=runH 8 1 2 3 4 6 7 (lY CR CP CS CW CE CD CK n)
def jW:ah->M Gp:=
 sIf (fB (f2 geD (ae 8) (ae 3)))
   (pf [4] 4 (fJ [(f1 pN (ae 0)),(fC (.str " ")),(f1 pN (ae 5)),(fC (.str " ")),(f1 pN (ae 7)),(fC (.str " ")),(f1 pN (ae 8))]))
   dN
def dP:ah->M Gp:=
 (jW)
def iH:ah->M Gp:=
 (zM [4] (By (ae 1) (ae 6)) (.tp [7,8]) (dP))
def qB:ah->M Gp:=
 (cx (bE [] 4 (fL eh aB))
  (cx (zM [4] (By (ae 1) (ae 2)) (.tp [5,6]) (iH))
  (dO (ae 4))))
def iP:List A'->M A':=cn 9 4 (qB)
def oB:ah->M Gp:=
 (dO (eY (fIt (ae 0)) [c_] (.nm 0) ir (fL Fp (a9 (ae 0) aB))))
def eQ:List A'->M A':=cn 1 1 (oB)
def kW(CR CP CS CW CE CD CK:f_)(n:Nat):ah->M Gp:=
 (dO (fL (eQ) (a9 (f1 (bx [CR,CP] "gaps") (ae 0)) aB)))
def bz(CR CP CS CW CE CD CK:f_)(n:Nat):List A'->M A':=cn 1 1 (kW CR CP CS CW CE CD CK n)
def jS:ah->M Gp:=
 (cx (bE [] 3 (f2 bZ (fL eh (a9 (fC (.str "flight")) (a9 (ae 1) (a9 (f2 ixD (ae 0) (f2 ixD (ae 2) (fC (.int 0)))) aB)))) (eY (fIt (fSl dB (ae 2) (i8 (fC (.int 1))) ky)) [c_] (.nm 0) ir (fL ud (a9 (ae 0) aB)))))
  (dO (fSM t7 (fC (.str " ")) (ae 3))))
def cP:List A'->M A':=cn 4 3 (jS)
def jM(CR CP CS CW CE CD CK:f_)(n:Nat):ah->M Gp:=
 (dO (fL (eQ) (a9 (f1 (bx [CP] "beside") (ae 0)) aB)))
def cM(CR CP CS CW CE CD CK:f_)(n:Nat):List A'->M A':=cn 1 1 (jM CR CP CS CW CE CD CK n)
def kM(CR CP CS CW CE CD CK:f_)(n:Nat):ah->M Gp:=
 sIf (qF (f1 (isiC [(CR,b_),(CP,d_)]) (ae 1)))
   (Et [5] 5 (fL (iP) (a9 (fC (.str "beside")) (a9 (ae 0) (a9 (m7 CP "beside_rows" (cM CR CP CS CW CE CD CK n) (ae 1) aB) (a9 (fC (.int 0)) aB))))))
   dN
def yw(CR CP CS CW CE CD CK:f_)(n:Nat):ah->M Gp:=
 (cx (bE [] 5 (eY (fIt (ae 0)) [c_] (.nm 0) ir (fJ [(fC (.str "kind ")),(f1 pN (ae 0))])))
  (cx (Et [5] 5 (fL (iP) (a9 (fC (.str "gap")) (a9 (ae 0) (a9 (mV CR CP "gap_rows" (bz CR CP CS CW CE CD CK n) (bz CR CP CS CW CE CD CK n) (ae 1) aB) (a9 (fC (.int 1)) aB))))))
  (cx (kM CR CP CS CW CE CD CK n)
  (cx (Et [5] 5 (eY (fIt (ae 4)) [c_,c_] (.tp [0,1]) ir (fJ [(fC (.str "closed ")),(f1 pN (ae 0)),(fC (.str " ")),(f1 pN (ae 1))])))
  (cx (Et [5] 5 (eY (By (ae 2) (ae 3)) [c_,c_,a_ 0] (.tp [0,1]) ir (fL (cP) (a9 (ae 2) (a9 (ae 0) (a9 (ae 1) aB))))))
  (dO (fSM t7 (fC (.str "")) (eY (fIt (ae 5)) [c_] (.nm 0) ir (f2 bZ (ae 0) (fC (.str "\n")))))))))))
def bV(CR CP CS CW CE CD CK:f_)(n:Nat):List A'->M A':=cn 6 5 (yw CR CP CS CW CE CD CK n)
def yx:ah->M Gp:=
 (dO (eY (Aj B5 (a9 (ae 2) aB)) [c_,a_ 0,a_ 1] (.nm 0) ir (yC (ae 1) (fL iO (a9 (ae 2) (a9 (ae 0) aB))) (fC (.int 0)))))
def lR:List A'->M A':=cn 3 3 (yx)
def tm:ah->M Gp:=
 (dO (eY (Aj B5 (a9 (ae 1) aB)) [c_,a_ 0,a_ 1] (.nm 0) ir (fL (lR) (a9 (ae 1) (a9 (ae 0) (a9 (ae 2) aB))))))
def jx:List A'->M A':=cn 2 2 (tm)
def my:ah->M Gp:=
 sIf (fOr (DL (qF (f1 ou (ae 0)))) (qF (f1 ox (ae 0))))
   (dO (fC (.bl b_)))
   dN
def rD:ah->M Gp:=
 (cx (my)
  (dO (ki leD leD (fC (.int 0)) (ae 0) (fC (.int 1000000)))))
def gK:List A'->M A':=cn 1 1 (rD)
def qD:ah->M Gp:=
 (dO (mE (f1 oq (ae 0)) (mE (f2 eqM (fL mQ (a9 (ae 0) aB)) (ae 1)) (fL allD (a9 (eY (fIt (ae 0)) [c_] (.nm 0) ir (fL (gK) (a9 (ae 0) aB))) aB)))))
def gE:List A'->M A':=cn 2 2 (qD)
def kZ:ah->M Gp:=
 sIf (DL (fB (ki leD leD (fC (.int 1)) (ae 1) (fC (.int 6)))))
   sStk
   dN
def kY:ah->M Gp:=
 sIf (DL (qF (fL allD (a9 (eY (fIt (ae 0)) [c_,a_ 1] (.nm 0) ir (fL (gE) (a9 (ae 0) (a9 (ae 1) aB)))) aB))))
   sStk
   dN
def mU:ah->M Gp:=
 (cx (bE [] 1 (fL mQ (a9 (ae 0) aB)))
  (cx (kZ)
  (cx (kY)
  (dO (fL (eQ) (a9 (ae 0) aB))))))
def aI:List A'->M A':=cn 2 1 (mU)
def iy(CR CP CS CW CE CD CK:f_)(n:Nat):ah->M Gp:=
 sIf (fB (f2 eqE (f1 (bx [CD] "beside") (ae 0)) (fC (.dic []))))
   (dO (fL (newR CR (aI)) (a9 (ae 2) aB)))
   dN
def jA(CR CP CS CW CE CD CK:f_)(n:Nat):ah->M Gp:=
 (cx (bE [] 1 (fL mQ (a9 (f1 (bx [CD] "kinds") (ae 0)) aB)))
  (cx (bE [] 2 (fL (jx) (a9 (f1 (bx [CD] "gaps") (ae 0)) (a9 (ae 1) aB))))
  (cx (iy CR CP CS CW CE CD CK n)
  (dO (fL (newP CP (aI)) (a9 (ae 2) (a9 (fL (jx) (a9 (f1 (bx [CD] "beside") (ae 0)) (a9 (ae 1) aB))) aB)))))))
def de(CR CP CS CW CE CD CK:f_)(n:Nat):List A'->M A':=cn 3 1 (jA CR CP CS CW CE CD CK n)
def dJ:ah->M Gp:=
 sIf (fOr (fB (f2 gtD (fL CY (a9 (ae 0) aB)) (fC (.int 10)))) (DL (qF (fL allD (a9 (eY (fItS (ae 0)) [c_] (.nm 0) ir (f2 DH (ae 0) (fC (.str "0123456789")))) aB)))))
   (dO (fC .non))
   dN
def cO:ah->M Gp:=
 sIf (zg (fB (f2 eqM (f2 ixSD (ae 0) (fC (.int 0))) (fC (.str "0")))) (fB (f2 neM (ae 0) (fC (.str "0")))))
   (dO (fC .non))
   dN
def ip:ah->M Gp:=
 (cx (dJ)
  (cx (cO)
  (dO (fL intSD (a9 (ae 0) aB)))))
def aZ:List A'->M A':=cn 1 1 (ip)
def eG:ah->M Gp:=
 sIf (fOr (fB (f2 neM (fL mQ (a9 (ae 1) aB)) (fC (.int 4)))) (fOr (fB (f2 ke (f2 ixD (ae 1) (fC (.int 1))) (ae 0))) (fB (f2 ke (f2 ixD (ae 1) (fC (.int 2))) (ae 0)))))
   (dO (fC .non))
   dN
def ij:ah->M Gp:=
 (cx (eG)
  (cx (bE [] 2 (fL (aZ) (a9 (f2 ixD (ae 1) (fC (.int 3))) aB)))
  (dO (DM (qF (fL (gK) (a9 (ae 2) aB))) (fL iO (a9 (iu (ae 0) (f2 ixD (ae 1) (fC (.int 1)))) (a9 (iu (ae 0) (f2 ixD (ae 1) (fC (.int 2)))) (a9 (ae 2) aB)))) (fC .non)))))
def bw:List A'->M A':=cn 3 2 (ij)
def oA:ah->M Gp:=
 (dO (ki leD leD (fC (.int 0)) (ae 0) (fC (.int 1000000000))))
def gJ:List A'->M A':=cn 1 1 (oA)
def gw:ah->M Gp:=
 (cx (bE [] 1 (f2 ixD (ae 0) (fC (.int 1))))
  (cx (bE [] 2 (f2 ixD (ae 0) (fC (.int 2))))
  (dO (mE (f2 leD (ae 1) (ae 2)) (fL allD (a9 (eY (fIt (fSl dB (ae 0) (i8 (fC (.int 1))) ky)) [c_] (.nm 0) ir (fL (gJ) (a9 (ae 0) aB))) aB))))))
def bG:List A'->M A':=cn 3 1 (gw)
def gA:ah->M Gp:=
 sIf (fOr (fB (f2 gtD (fL CY (a9 (ae 0) aB)) (fC (.int 8)))) (fB (f2 A3 (f2 ixSD (ae 0) (fC (.int 0))) (fC (.str "abcdefghijklmnopqrstuvwxyz")))))
   (dO (fC (.bl b_)))
   dN
def lX:ah->M Gp:=
 (cx (gA)
  (dO (fL allD (a9 (eY (fItS (ae 0)) [c_] (.nm 0) ir (D7 (f2 DH (ae 0) (fC (.str "abcdefghijklmnopqrstuvwxyz"))) (f2 DH (ae 0) (fC (.str "0123456789"))))) aB))))
def g9:List A'->M A':=cn 1 1 (lX)
def dv:ah->M Gp:=
 sIf (fOr (fB (f2 neM (fL mQ (a9 (ae 2) aB)) (fC (.int 7)))) (fOr (fB (f2 geD (fL mQ (a9 (ae 1) aB)) (fC (.int 40)))) (fB (f2 ke (f2 ixD (ae 2) (fC (.int 2))) (ae 0)))))
   (dO (fC .non))
   dN
def eI:ah->M Gp:=
 sIf (fOr (DL (qF (fL (g9) (a9 (f2 ixD (ae 2) (fC (.int 1))) aB)))) (fB (f2 inM (f2 ixD (ae 2) (fC (.int 1))) (ae 1))))
   (dO (fC .non))
   dN
def jE:ah->M Gp:=
 sIf (fB (f2 inM (fC .non) (ae 3)))
   (dO (fC .non))
   dN
def dD:ah->M Gp:=
 (cx (dv)
  (cx (eI)
  (cx (bE [] 3 (eY (fIt (fSl dB (ae 2) (i8 (fC (.int 3))) ky)) [c_] (.nm 0) ir (fL (aZ) (a9 (ae 0) aB))))
  (cx (jE)
  (cx (bE [] 4 (fL iO (a9 (iu (ae 0) (f2 ixD (ae 2) (fC (.int 2)))) (a9 (f2 ixD (ae 3) (fC (.int 0))) (a9 (f2 ixD (ae 3) (fC (.int 1))) (a9 (f2 ixD (ae 3) (fC (.int 2))) (a9 (f2 ixD (ae 3) (fC (.int 3))) aB)))))))
  (dO (DM (qF (fL (bG) (a9 (ae 4) aB))) (ae 4) (fC .non))))))))
def aE:List A'->M A':=cn 5 3 (dD)
def f9:ah->M Gp:=
 sIf (fOr (fB (f2 neM (fL mQ (a9 (ae 1) aB)) (fC (.int 2)))) (fB (f2 geD (fL mQ (a9 (ae 0) aB)) (fC (.int 6)))))
   (dO (fC .non))
   dN
def ia:ah->M Gp:=
 (cx (f9)
  (dO (DM (zg (qF (fL (g9) (a9 (f2 ixD (ae 1) (fC (.int 1))) aB))) (fB (f2 ke (f2 ixD (ae 1) (fC (.int 1))) (ae 0)))) (f2 ixD (ae 1) (fC (.int 1))) (fC .non))))
def bF:List A'->M A':=cn 2 2 (ia)
def qC:ah->M Gp:=
 (dO (m8 leD ltD leD (fC (.int 0)) (f2 ixD (ae 0) (fC (.int 0))) (f2 ixD (ae 0) (fC (.int 1))) (fC (.int 1000000000))))
def iQ:List A'->M A':=cn 1 1 (qC)
def nC:ah->M Gp:=
 (dO (mE (f2 leD (fL mQ (a9 (ae 0) aB)) (fC (.int 20))) (fL allD (a9 (eY (fIt (ae 0)) [c_] (.nm 0) ir (fL (iQ) (a9 (ae 0) aB))) aB))))
def jw:List A'->M A':=cn 1 1 (nC)
def bU:ah->M Gp:=
 sIf (fB (f2 neM (fL mQ (a9 (ae 1) aB)) (fC (.int 3))))
   (dO (fC .non))
   dN
def cQ:ah->M Gp:=
 (cx (bU)
  (cx (bE [] 2 (fL iO (a9 (fL (aZ) (a9 (f2 ixD (ae 1) (fC (.int 1))) aB)) (a9 (fL (aZ) (a9 (f2 ixD (ae 1) (fC (.int 2))) aB)) aB))))
  (dO (DM (zg (fB (f2 ke (fC .non) (ae 2))) (qF (fL (jw) (a9 (f2 bZ (ae 0) (fL eh (a9 (ae 2) aB))) aB)))) (ae 2) (fC .non)))))
def aC:List A'->M A':=cn 3 2 (cQ)
def bO:List A'->List A'->M (Bool×List A'):=
 oV (fOr (fB (f2 eqM (ae 1) (fL eh aB))) (qF (fSM oY (f2 ixD (ae 1) (fC (.int 0))) (fC (.str "#")))))
  (fB (f2 eqM (f2 ixD (ae 1) (fC (.int 0))) (fC (.str "kind"))))
  (fB (f2 eqM (f2 ixD (ae 1) (fC (.int 0))) (fC (.str "gap"))))
  (fB (f2 eqM (f2 ixD (ae 1) (fC (.int 0))) (fC (.str "beside"))))
  (fB (f2 eqM (f2 ixD (ae 1) (fC (.int 0))) (fC (.str "closed")))) (f2 eqM (f2 ixD (ae 1) (fC (.int 0))) (fC (.str "flight")))
  (bF) (bw) (aC) (aE)
def vb:ah->M Gp:=
 (dO (eY (fIt (fSM uO (ae 0) (fC (.str " ")))) [c_] (.nm 0) (fB (f2 neM (ae 0) (fC (.str "")))) (ae 0)))
def gD:List A'->M A':=cn 1 1 (vb)
def cT(CR CP CS CW CE CD CK:f_)(n:Nat):ah->M Gp:=
 sIf (fB (f2 eqM (f1 (bx [CD] "kinds") (ae 1)) (fL eh aB)))
   (Ck CW "row" (a9 (fC (.int 0)) aB))
   dN
def jL(CR CP CS CW CE CD CK:f_)(n:Nat):ah->M Gp:=
 (sd CD CW "row" (bO) (gD) 1 2 3 (fSM uO (ae 0) (fC (.str "\n")))
  (cx (cT CR CP CS CW CE CD CK n)
  (D8 (dO (fL (newS CS (bV CR CP CS CW CE CD CK n)) (a9 (f1 (bx [CD] "kinds") (ae 1)) (a9 (fL (de CR CP CS CW CE CD CK n) (a9 (ae 1) aB)) (a9 (f1 (bx [CD] "names") (ae 1)) (a9 (f1 (bx [CD] "flights") (ae 1)) (a9 (f1 (bx [CD] "closed") (ae 1)) aB))))))))))
def eB(CR CP CS CW CE CD CK:f_)(n:Nat):List A'->M A':=cn 4 1 (jL CR CP CS CW CE CD CK n)
def iz:ah->M Gp:=
 sIf (fB (f2 geD (f2 ixD (f2 ixD (ae 2) (ae 5)) (ae 6)) (ae 3)))
   (pf [4] 4 (fSM t7 (fC (.str " ")) (fL eh (a9 (ae 0) (a9 (f2 ixD (ae 1) (ae 5)) (a9 (f2 ixD (ae 1) (ae 6)) (a9 (fL ud (a9 (f2 ixD (f2 ixD (ae 2) (ae 5)) (ae 6)) aB)) aB)))))))
   dN
def dA:ah->M Gp:=
 (iz)
def fm:ah->M Gp:=
 (zM [4] (Aj B5 (a9 (fL mQ (a9 (ae 1) aB)) aB)) (.nm 6) (dA))
def m6:ah->M Gp:=
 (cx (bE [] 4 (fL eh aB))
  (cx (zM [4] (Aj B5 (a9 (fL mQ (a9 (ae 1) aB)) aB)) (.nm 5) (fm))
  (dO (ae 4))))
def dh:List A'->M A':=cn 7 4 (m6)
def kh:ah->M Gp:=
 (dO (fSM t7 (fC (.str " ")) (f2 bZ (fL eh (a9 (fC (.str "flight")) (a9 (ae 0) (a9 (f2 ixD (ae 2) (f2 ixD (ae 1) (fC (.int 0)))) aB)))) (eY (fIt (fSl dB (ae 1) (i8 (fC (.int 1))) ky)) [c_] (.nm 0) ir (fL ud (a9 (ae 0) aB))))))
def br:List A'->M A':=cn 3 3 (kh)
def jm:ah->M Gp:=
 sIf (fB (f2 notND (ae 2) (fC .non)))
   (bE [] 6 (f2 bZ (ae 6) (fL (dh) (a9 (fC (.str "beside")) (a9 (ae 0) (a9 (ae 2) (a9 (fC (.int 0)) aB)))))))
   dN
def jo:ah->M Gp:=
 (pf [6] 6 (fL (br) (a9 (ae 7) (a9 (ae 8) (a9 (ae 0) aB)))))
def nE:ah->M Gp:=
 (cx (bE [] 6 (f2 bZ (eY (fIt (ae 0)) [c_] (.nm 0) ir (f2 bZ (fC (.str "kind ")) (ae 0))) (fL (dh) (a9 (fC (.str "gap")) (a9 (ae 0) (a9 (ae 1) (a9 (fC (.int 1)) aB)))))))
  (cx (jm)
  (cx (bE [] 6 (f2 bZ (ae 6) (eY (fIt (ae 3)) [c_,c_] (.tp [0,1]) ir (f2 bZ (f2 bZ (f2 bZ (fC (.str "closed ")) (fL ud (a9 (ae 0) aB))) (fC (.str " "))) (fL ud (a9 (ae 1) aB))))))
  (cx (zM [6] (By (ae 4) (ae 5)) (.tp [7,8]) (jo))
  (dO (fSM t7 (fC (.str "")) (eY (fIt (ae 6)) [c_] (.nm 0) ir (f2 bZ (ae 0) (fC (.str "\n"))))))))))
def kB:List A'->M A':=cn 9 6 (nE)
def kg:ah->M Gp:=
 (cx (Cj [1,2,3,4,5,6] (ae 0))
  (dO (fL (kB) (a9 (ae 1) (a9 (ae 2) (a9 (ae 3) (a9 (ae 4) (a9 (ae 5) (a9 (ae 6) aB)))))))))
def eV:List A'->M A':=cn 7 1 (kg)
def oF(CR CP CS CW CE CD CK:f_)(n:Nat):ah->M Gp:=
 (dO (f1 (bx [CS] "text") (ae 0)))
def eX(CR CP CS CW CE CD CK:f_)(n:Nat):List A'->M A':=cn 1 1 (oF CR CP CS CW CE CD CK n)
def bK:ah->M Gp:=
 sIf (zg (fB (f2 eqM (f2 i9 (ae 4) (fC (.int 4))) (fC (.int 0)))) (fB (f2 gtD (fL mQ (a9 (ae 3) aB)) (fC (.int 0)))))
   (dO (fL (br) (a9 (f2 ixD (ae 3) (f2 i9 (f2 iT (ae 4) (fC (.int 4))) (fL mQ (a9 (ae 3) aB)))) (a9 (ae 1) (a9 (ae 2) aB)))))
   dN
def cF:ah->M Gp:=
 sIf (fB (f2 eqM (f2 i9 (ae 4) (fC (.int 4))) (fC (.int 1))))
   (dO (f2 (Cm " nokind ") (ae 5) (f2 cat1D (f2 bZ (fC (.str " ")) (f2 ixD (ae 2) (f2 ixD (ae 1) (fC (.int 0))))) (fC (.str " ")))))
   dN
def cE:ah->M Gp:=
 sIf (fB (f2 eqM (f2 i9 (ae 4) (fC (.int 4))) (fC (.int 2))))
   (dO (fSM t7 (fC (.str " ")) (fL eh (a9 (fC (.str "flight")) (a9 (ae 0) (a9 (f2 ixD (ae 2) (fC (.int 0))) (a9 (fL ud (a9 (f2 bZ (f2 ixD (ae 1) (fC (.int 1))) (fC (.int 1))) aB)) (a9 (fL ud (a9 (f2 ixD (ae 1) (fC (.int 1))) aB)) (a9 (fC (.str "0")) (a9 (fC (.str "0")) aB))))))))))
   dN
def iq:ah->M Gp:=
 (cx (bE [] 5 (fL (br) (a9 (ae 0) (a9 (ae 1) (a9 (ae 2) aB)))))
  (cx (bK)
  (cx (cF)
  (cx (cE)
  (dO (f2 bZ (f2 bZ (fSl p7 (ae 5) ky (i8 (f1 negD (fL CY (a9 (fL ud (a9 (f2 ixD (ae 1) (fC (.int 4))) aB)) aB))))) (fC (.str "0"))) (fL ud (a9 (f2 ixD (ae 1) (fC (.int 4))) aB))))))))
def eU:List A'->M A':=cn 6 5 (iq)
def fU:ah->M A':=
 (fL (eW) (a9 (ae 1) (a9 (ae 3) aB)))
def fQ:ah->M A':=
 (fL (eC) (a9 (ae 1) aB))
def cY:ah->M Bool:=
 (fB (f2 eqM (f2 i9 (ae 2) (fC (.int 9))) (fC (.int 3))))
def fP:ah->M A':=
 (fL iO (a9 (fL (eU) (a9 (f2 bZ (fC (.str "n")) (fSl p7 (ae 6) ky (i8 (fC (.int 7))))) (a9 (ae 5) (a9 (ae 3) (a9 (ae 4) (a9 (f2 iT (ae 2) (fC (.int 9))) aB)))))) (a9 (fC (.bl b_)) aB)))
def bW:ah->M A':=
 (mE (f2 ke (ae 6) (ae 4)) (f2 ltD (fL mQ (a9 (ae 4) aB)) (fC (.int 40))))
def cW:ah->M Bool:=
 (qF (ae 7))
def fO:ah->M A':=
 (ae 6)
def fK:ah->M A':=
 (ae 5)
def jb:ah->M A':=
 (fL iO (a9 (fL (br) (a9 (ae 6) (a9 (ae 5) (a9 (ae 3) aB)))) (a9 (ae 7) aB)))
def bP:Mst->ah->M Mfl:=
 (jR (mPar 3 4)
  (jR (ko [(4,b_),(0,d_)] 5 (fU))
  (jR (ko [(4,b_),(0,d_)] 6 (fQ))
  (jR (mIf [(4,b_),(0,d_)] (cY) (sR [(4,b_),(0,d_)] (fP)) mNx)
  (jR (ko [(4,b_),(0,d_)] 7 (bW))
  (jR (mIf [(4,b_),(0,d_)] (cW) (jR (Fj [(4,b_),(0,d_)] 1 (fO))
  (Fj [(4,b_),(0,d_)] 2 (fK))) mNx)
  (sR [(4,b_),(0,d_)] (jb))))))))
def dW:Mst->List A'->M (A'×Mst):=runM 8 (bP)
def gd(CR CP CS CW CE CD CK:f_)(n:Nat):ah->M Gp:=
 sIf (fOr (fB (f2 isND (ae 1) (fC .non))) (fB (f2 gtD (ae 1) (fC (.int 3)))))
   (sExc CE)
   dN
def iS(CR CP CS CW CE CD CK:f_)(n:Nat):ah->M Gp:=
 (cx (D8 (bE [] 1 (DM (fB (f2 eqM (fL mQ (a9 (ae 0) aB)) (fC (.int 2)))) (fL (aZ) (a9 (f2 ixD (ae 0) (fC (.int 1))) aB)) (fC .non))))
  (cx (gd CR CP CS CW CE CD CK n)
  (D8 (dO (ae 1)))))
def eA(CR CP CS CW CE CD CK:f_)(n:Nat):List A'->M A':=cn 2 1 (iS CR CP CS CW CE CD CK n)
def mT(CR CP CS CW CE CD CK:f_)(n:Nat):ah->M Gp:=
 (dO (fL (newS CS (bV CR CP CS CW CE CD CK n)) (a9 (f1 (bx [CS] "kinds") (ae 0)) (a9 (f1 (bx [CS] "rules") (ae 0)) (a9 (ae 1) (a9 (ae 2) (a9 (f1 (bx [CS] "closed") (ae 0)) aB)))))))
def g8(CR CP CS CW CE CD CK:f_)(n:Nat):List A'->M A':=cn 3 3 (mT CR CP CS CW CE CD CK n)
def eJ(CR CP CS CW CE CD CK:f_)(n:Nat):ah->M Gp:=
 sIf (fB (f2 isND (ae 2) (fC .non)))
   (sExc CE)
   dN
def gv(CR CP CS CW CE CD CK:f_)(n:Nat):ah->M Gp:=
 (cx (D8 (bE [] 2 (fL (aE) (a9 (f1 (bx [CS] "kinds") (ae 0)) (a9 (f1 (bx [CS] "names") (ae 0)) (a9 (ae 1) aB))))))
  (cx (eJ CR CP CS CW CE CD CK n)
  (D8 (dO (fL (g8 CR CP CS CW CE CD CK n) (a9 (ae 0) (a9 (f2 bZ (f1 (bx [CS] "names") (ae 0)) (fL eh (a9 (f2 ixD (ae 1) (fC (.int 1))) aB))) (a9 (f2 bZ (f1 (bx [CS] "flights") (ae 0)) (fL eh (a9 (ae 2) aB))) aB))))))))
def bq(CR CP CS CW CE CD CK:f_)(n:Nat):List A'->M A':=cn 3 2 (gv CR CP CS CW CE CD CK n)
def oz(CR CP CS CW CE CD CK:f_)(n:Nat):ah->M Gp:=
 (dO (fL (newS CS (bV CR CP CS CW CE CD CK n)) (a9 (f1 (bx [CS] "kinds") (ae 0)) (a9 (f1 (bx [CS] "rules") (ae 0)) (a9 (f1 (bx [CS] "names") (ae 0)) (a9 (f1 (bx [CS] "flights") (ae 0)) (a9 (ae 1) aB)))))))
def eP(CR CP CS CW CE CD CK:f_)(n:Nat):List A'->M A':=cn 2 2 (oz CR CP CS CW CE CD CK n)
def dS(CR CP CS CW CE CD CK:f_)(n:Nat):ah->M Gp:=
 sIf (fB (f2 isND (ae 2) (fC .non)))
   (sExc CE)
   dN
def fE(CR CP CS CW CE CD CK:f_)(n:Nat):ah->M Gp:=
 (cx (D8 (bE [] 2 (fL (aC) (a9 (f1 (bx [CS] "closed") (ae 0)) (a9 (ae 1) aB)))))
  (cx (dS CR CP CS CW CE CD CK n)
  (D8 (dO (fL (eP CR CP CS CW CE CD CK n) (a9 (ae 0) (a9 (f2 bZ (f1 (bx [CS] "closed") (ae 0)) (fL eh (a9 (ae 2) aB))) aB)))))))
def bj(CR CP CS CW CE CD CK:f_)(n:Nat):List A'->M A':=cn 3 2 (fE CR CP CS CW CE CD CK n)
def bQ(CR CP CS CW CE CD CK:f_)(n:Nat):ah->M Gp:=
 sIf (fOr (fB (f2 neM (fL mQ (a9 (ae 1) aB)) (fC (.int 2)))) (fB (f2 ke (f2 ixD (ae 1) (fC (.int 1))) (f1 (bx [CS] "names") (ae 0)))))
   (sExc CE)
   dN
def cH(CR CP CS CW CE CD CK:f_)(n:Nat):ah->M Gp:=
 (cx (bQ CR CP CS CW CE CD CK n)
  (D8 (cx (bE [] 2 (iu (f1 (bx [CS] "names") (ae 0)) (f2 ixD (ae 1) (fC (.int 1)))))
  (cx (bE [] 3 (f2 bZ (fSl dB (f1 (bx [CS] "names") (ae 0)) ky (i8 (ae 2))) (fSl dB (f1 (bx [CS] "names") (ae 0)) (i8 (f2 bZ (ae 2) (fC (.int 1)))) ky)))
  (dO (fL (g8 CR CP CS CW CE CD CK n) (a9 (ae 0) (a9 (ae 3) (a9 (f2 bZ (fSl dB (f1 (bx [CS] "flights") (ae 0)) ky (i8 (ae 2))) (fSl dB (f1 (bx [CS] "flights") (ae 0)) (i8 (f2 bZ (ae 2) (fC (.int 1)))) ky)) aB)))))))))
def aY(CR CP CS CW CE CD CK:f_)(n:Nat):List A'->M A':=cn 4 2 (cH CR CP CS CW CE CD CK n)
def bJ(CR CP CS CW CE CD CK:f_)(n:Nat):ah->M Gp:=
 sIf (fB (f2 eqM (ae 2) (fC (.str "flight"))))
   (dO (fL (bq CR CP CS CW CE CD CK n) (a9 (ae 0) (a9 (ae 1) aB))))
   dN
def cj(CR CP CS CW CE CD CK:f_)(n:Nat):ah->M Gp:=
 sIf (fB (f2 eqM (ae 2) (fC (.str "closed"))))
   (dO (fL (bj CR CP CS CW CE CD CK n) (a9 (ae 0) (a9 (ae 1) aB))))
   dN
def dz(CR CP CS CW CE CD CK:f_)(n:Nat):ah->M Gp:=
 sIf (fB (f2 eqM (ae 2) (fC (.str "gone"))))
   (dO (fL (aY CR CP CS CW CE CD CK n) (a9 (ae 0) (a9 (ae 1) aB))))
   dN
def fj(CR CP CS CW CE CD CK:f_)(n:Nat):ah->M Gp:=
 sIf (fB (f2 eqM (ae 1) (fL eh (a9 (fC (.str "opened")) aB))))
   (dO (fL (eP CR CP CS CW CE CD CK n) (a9 (ae 0) (a9 (fL eh aB) aB))))
   dN
def cz(CR CP CS CW CE CD CK:f_)(n:Nat):ah->M Gp:=
 (cx (D8 (bE [] 2 (DM (qF (ae 1)) (f2 ixD (ae 1) (fC (.int 0))) (fC (.str "")))))
  (cx (bJ CR CP CS CW CE CD CK n)
  (cx (cj CR CP CS CW CE CD CK n)
  (cx (dz CR CP CS CW CE CD CK n)
  (cx (D8 (fj CR CP CS CW CE CD CK n))
  (sExc CE))))))
def b9(CR CP CS CW CE CD CK:f_)(n:Nat):List A'->M A':=cn 3 2 (cz CR CP CS CW CE CD CK n)
def lA:ah->M Bool:=
 (fB (f2 DH (fC (.str "\n")) (ae 1)))
def gC:ah->M Bool:=
 (fB (f2 eqM (fSl dB (ae 2) ky (i8 (fC (.int 1)))) (fL eh (a9 (fC (.str "shift")) aB))))
def xm(CR CP CS CW CE CD CK:f_)(n:Nat):A'->Int->A'->M (A'×Int):=
 sayD CE (lA) (gC) (gD) (eA CR CP CS CW CE CD CK n) (b9 CR CP CS CW CE CD CK n)
def gW:ah->M A':=
 (fL (eC) (a9 (ae 1) aB))
def cL:ah->M Bool:=
 (zg (fB (f2 eqM (f2 i9 (ae 2) (fC (.int 9))) (fC (.int 5)))) (fB (f2 gtD (fL mQ (a9 (ae 3) aB)) (fC (.int 0)))))
def gV:ah->M A':=
 (f2 ixD (ae 3) (f2 i9 (f2 iT (ae 2) (fC (.int 9))) (fL mQ (a9 (ae 3) aB))))
def gU:ah->M A':=
 (f2 inM (ae 4) (ae 3))
def bN:ah->M Bool:=
 (qF (ae 5))
def cN:ah->M A':=
 (iu (ae 3) (ae 4))
def gT:ah->M A':=
 (fL iO (a9 (f2 bZ (fC (.str "gone ")) (ae 4)) (a9 (ae 5) aB)))
def cJ:Mst->ah->M Mfl:=
 (jR (mSee 3)
  (jR (ko [(3,b_),(0,d_)] 4 (gW))
  (jR (mIf [(3,b_),(0,d_)] (cL) (ko [(3,b_),(0,d_)] 4 (gV)) mNx)
  (jR (ko [(3,b_),(0,d_)] 5 (gU))
  (jR (mIf [(3,b_),(0,d_)] (bN) (jR (ko [(3,b_),(0,d_)] 6 (cN))
  (jR (mPop 1 6)
  (mPop 2 6))) mNx)
  (sR [(3,b_),(0,d_)] (gT)))))))
def gn:Mst->List A'->M (A'×Mst):=runM 7 (cJ)
def gz:ah->M A':=
 (f2 i9 (ae 2) (fC (.int 9)))
def cw:ah->M Bool:=
 (fB (f2 eqM (ae 3) (fC (.int 4))))
def dI:ah->M A':=
 (f2 i9 (ae 1) (fC (.int 90)))
def dH:ah->M A':=
 (f2 bZ (ae 4) (f2 i9 (f2 iT (ae 1) (fC (.int 90))) (fC (.int 4))))
def bH:ah->M A':=
 (mE (f2 ltD (ae 4) (ae 5)) (f2 ltD (fL mQ (a9 (f2 ixD (ae 0) (fC (.int 3))) aB)) (fC (.int 20))))
def cu:ah->M Bool:=
 (qF (ae 6))
def dG:ah->M A':=
 (fL iO (a9 (ae 4) (a9 (ae 5) aB)))
def dE:ah->M A':=
 (fL iO (a9 (f2 bZ (f2 bZ (f2 bZ (fC (.str "closed ")) (fL ud (a9 (ae 4) aB))) (fC (.str " "))) (fL ud (a9 (ae 5) aB))) (a9 (ae 6) aB)))
def cq:ah->M Bool:=
 (zg (fB (f2 eqM (ae 3) (fC (.int 7)))) (fB (f2 eqM (f2 i9 (f2 iT (ae 2) (fC (.int 9))) (fC (.int 4))) (fC (.int 0)))))
def fH:ah->M A':=
 (fL iO (a9 (fC (.str "opened")) (a9 (fC (.bl d_)) aB)))
def cV:ah->M Bool:=
 (fB (f2 eqM (ae 3) (fC (.int 7))))
def fF:ah->M A':=
 (fL iO (a9 (f2 ixD (fL eh (a9 (fC (.str "open")) (a9 (fC (.str "opened now")) (a9 (fC (.str "closed")) (a9 (fC (.str "kind b2")) aB))))) (f2 i9 (f2 iT (ae 2) (fC (.int 36))) (fC (.int 4)))) (a9 (fC (.bl b_)) aB)))
def ja:ah->M A':=
 (fL iO (a9 (f2 bZ (fC (.str "shift ")) (fL ud (a9 (f2 i9 (f2 iT (ae 2) (fC (.int 9))) (fC (.int 6))) aB))) (a9 (f2 ltD (f2 i9 (f2 iT (ae 2) (fC (.int 9))) (fC (.int 6))) (fC (.int 4))) aB)))
def aX:Mst->ah->M Mfl:=
 (jR (ko [(0,d_)] 3 (gz))
  (jR (mIf [(0,d_)] (cw) (jR (ko [(0,d_)] 4 (dI))
  (jR (ko [(0,d_)] 5 (dH))
  (jR (ko [(0,d_)] 6 (bH))
  (jR (mIf [(0,d_)] (cu) (Fj [(0,d_)] 0 (dG)) mNx)
  (sR [(0,d_)] (dE)))))) mNx)
  (jR (mIf [(0,d_)] (cq) (jR (mClr 0)
  (sR [(0,d_)] (fH))) mNx)
  (jR (mIf [(0,d_)] (cV) (sR [(0,d_)] (fF)) mNx)
  (sR [(0,d_)] (ja))))))
def d8:Mst->List A'->M (A'×Mst):=runM 7 (aX)
def jF:ah->M Gp:=
 sIf (fB (f2 eqM (f2 i9 (ae 1) (fC (.int 3))) (fC (.int 1))))
   (dO (f2 bZ (f2 bZ (fC (.str "  ")) (f2 (Cm "   ") (ae 0) (fC (.str " ")))) (fC (.str " "))))
   dN
def kH:ah->M Gp:=
 (cx (jF)
  (dO (ae 0)))
def gL:List A'->M A':=cn 2 2 (kH)
def pQ:ah->M A':=
 (fL (eV) (a9 (ae 1) aB))
def Am:ah->M A':=
 (f2 i9 (f2 A6 (ae 3) (fC (.int 39373))) (fC (.int 2147483647)))
def zv:ah->M Bool:=
 (fB (f2 ltD (f2 i9 (ae 4) (fC (.int 9))) (fC (.int 4))))
def oW:ah->M Bool:=
 (fOr (fB (f2 eqM (f2 i9 (ae 4) (fC (.int 9))) (fC (.int 5)))) (fB (f2 eqM (f2 i9 (ae 4) (fC (.int 9))) (fC (.int 6)))))
def Al:ah->M A':=
 (fL (gL) (a9 (ae 5) (a9 (f2 iT (ae 4) (fC (.int 81))) aB)))
def zu:ah->M Bool:=
 (qF (f1 rB (ae 7)))
def x9(CR CP CS CW CE CD CK:f_)(n:Nat):Mst×A'×Int->A'->M (Mst×A'×Int):=
 nR CE (dW) (gn) (d8) (xm CR CP CS CW CE CD CK n) (rW CS "shown" (eX CR CP CS CW CE CD CK n)) (Am) (Al) (pQ) (zv) (oW) (zu)
def g_law(CR CP CS CW CE CD CK:f_)(n:Nat):ah->M Gp:=
 (xT (iK CR CP CS CW CE CD CK n) (eB CR CP CS CW CE CD CK n) (pQ) (fIt (f2 bZ (fL eh (a9 (fC (.int 0)) aB)) (fSl dB (ae 0) ky (i8 (fC (.int 63)))))) (x9 CR CP CS CW CE CD CK n))
def m_law(CR CP CS CW CE CD CK:f_)(n:Nat):List A'->M A':=cn 8 1 (g_law CR CP CS CW CE CD CK n)
noncomputable def top(i:Nat):Hm:=N6.main.body.getD i (.Pass ⟨0,0,0,0⟩)
abbrev zK:Hm:=top 63
abbrev um:Hm:=top 62
abbrev xS:Hm:=top 64
abbrev Ci:Hm:=top 65
abbrev zL:Hm:=top 66
abbrev vP:Hm:=top 68
abbrev xR:Hm:=top 74
abbrev xN:Hm:=top 38
abbrev vN:Hm:=top 21
abbrev kT:Hm:=inClass (top 23) 4
abbrev uk:Hm:=top 39
abbrev o7:Hm:=inClass (top 24) 3
abbrev xK:Hm:=top 40
abbrev Es:Hm:=top 47
abbrev zH:Hm:=top 48
abbrev s_is_gap:Hm:=top 19
abbrev xQ:Hm:=top 20
abbrev jP:Hm:=top 22
abbrev rX:Hm:=top 49
abbrev zE:Hm:=top 43
abbrev zF:Hm:=top 32
abbrev Ce:Hm:=top 34
abbrev Cg:Hm:=top 44
abbrev vM:Hm:=top 14
abbrev n5:Hm:=top 15
abbrev Er:Hm:=top 31
abbrev vK:Hm:=top 36
abbrev vL:Hm:=top 45
abbrev zD:Hm:=top 33
abbrev xP:Hm:=top 9
abbrev zG:Hm:=top 10
abbrev uj:Hm:=top 35
abbrev Cf:Hm:=top 46
abbrev Cd:Hm:=top 30
abbrev xO:Hm:=top 50
abbrev lE:Hm:=inClass (top 60) 0
abbrev rZ:Hm:=top 67
abbrev pe:Hm:=top 69
abbrev zI:Hm:=top 70
abbrev pb:Hm:=top 75
abbrev vQ:Hm:=inClass (top 41) 1
abbrev k9:Hm:=inClass (top 60) 2
abbrev p9:Hm:=top 73
abbrev nZ:Hm:=top 76
abbrev xJ:Hm:=top 59
abbrev ui:Hm:=top 53
abbrev mZ:Hm:=top 55
abbrev vJ:Hm:=top 54
abbrev mz:Hm:=top 56
abbrev l9:Hm:=top 57
abbrev rY:Hm:=top 58
abbrev uQ:Hm:=inClass (top 60) 1
abbrev zJ:Hm:=top 72
abbrev qP:Hm:=top 77
abbrev p8:Hm:=top 78
abbrev vO:Hm:=top 71
abbrev s_law:Hm:=top 79
abbrev s_nR:Hm:=inClass (top 23) 0
abbrev s_nP:Hm:=inClass (top 24) 0
abbrev s_nS:Hm:=inClass (top 41) 0
abbrev s_nCW:Hm:=inClass (top 4) 0
abbrev s_nD:Hm:=inClass (top 42) 0
structure Zs(K:Pn)(mg:Ld)(CR CP CS CW CE CD CK:f_):Prop where
 xb_CE:XBase K mg "NoRow" CE
 tCE:XTxt K mg "NoRow" CE
 xCW:XTry K mg "NoSheet" CW
 kR:Kls K mg "Rules" CR
 kP:Kls K mg "Pair" CP
 kS:Kls K mg "Sheet" CS
 kD:Kls K mg "Draft" CD
 kK:Kls K mg "Desk" CK
 ki_CR_CP:HD K (.ref CR) (.ref CP)=a_ b_
 ki_CP_CP:HD K (.ref CP) (.ref CP)=a_ d_
 ks_CE:HY K CE (.ref CE)=a_ d_
 aCW_row:XFld K CW "row"
 oG:∀C∈[CR,CP],Cls K C/\bp K C "gaps"
 ve:∀C∈[CP],Cls K C/\bp K C "beside"
 pO:∀C∈[CS],Cls K C/\bp K C "closed"
 kL:∀C∈[CS],Cls K C/\bp K C "flights"
 tN:∀C∈[CS],Cls K C/\bp K C "kinds"
 jC:∀C∈[CS],Cls K C/\bp K C "names"
 yB:∀C∈[CS],Cls K C/\bp K C "rules"
 fld_text:∀C∈[CS],Cls K C/\bp K C "text"
 naS:∀y∈(["kinds","rules","names","flights","closed","text"]:bv),bp K CS y
 BU:mg "all"=c_
 z_bool:mg "bool"=c_
 zm:mg "enumerate"=c_
 z_int:mg "int"=c_
 iJ:mg "isinstance"=c_
 eM:mg "len"=c_
 DQ:mg "list"=c_
 z_min:mg "min"=c_
 mW:mg "range"=c_
 nP:mg "str"=c_
 z_zip:mg "zip"=c_
 uE:∃t,mg "GREATEST_GAP"=a_ (.int 1000000 t)
 pK:∃t,mg "GREATEST_NUMBER"=a_ (.int 1000000000 t)
 qX:∃t,mg "GREATEST_SHIFT"=a_ (.int 3 t)
 tw:∃t,mg "GREATEST_STOP"=a_ (.int 1000000000 t)
 uD:∃t,mg "MOST_FIGURES"=a_ (.int 10 t)
 uC:∃t,mg "MOST_FLIGHTS"=a_ (.int 40 t)
 qE:∃t,mg "MOST_KINDS"=a_ (.int 6 t)
 yy:∃t,mg "MOST_SIGNS"=a_ (.int 8 t)
 qW:∃t,mg "MOST_STRETCHES"=a_ (.int 20 t)
 kit:Kit K
 gs_FIGURES:∃t,mg "FIGURES"=a_ (.str "0123456789" t)
 gs_LETTERS:∃t,mg "LETTERS"=a_ (.str "abcdefghijklmnopqrstuvwxyz" t)
 n_D:∃f fd,Mth K CD "__init__" "Draft.__init__" s_nD ["self"] f fd
 naD:∀y∈(["kinds","gaps","beside","names","flights","closed"]:bv),bp K CD y
 fldD_beside:∀C∈[CD],Cls K C/\bp K C "beside"
 fldD_closed:∀C∈[CD],Cls K C/\bp K C "closed"
 fldD_flights:∀C∈[CD],Cls K C/\bp K C "flights"
 fldD_gaps:∀C∈[CD],Cls K C/\bp K C "gaps"
 fldD_kinds:∀C∈[CD],Cls K C/\bp K C "kinds"
 fldD_names:∀C∈[CD],Cls K C/\bp K C "names"
 naK:∀y∈(["sheet","shift"]:bv),bp K CK y
 yN:∃f fd,Def K mg "_law_start" xR ["_law_script"] f fd
 Au:∃f fd,Def K mg "take_told" zE ["kept","told"] f fd
 Dm:∃f fd,Def K mg "take_gap" Cg ["kinds","gaps","words"] f fd
 wW:∃f fd,Def K mg "take_flight" vL ["draft","words"] f fd
 Dl:∃f fd,Def K mg "take_row" Cf ["draft","words"] f fd
 tX:∃f fd,Mth K CK "__init__" "Desk.__init__" lE ["self","text"] f fd
 pX:∃f fd,Mth K CK "sheet_text" "Desk.sheet_text" k9 ["self"] f fd
 oO:∃f fd,Def K mg "_law_flight_said" nZ ["_law_model","_law_cell","_law_number"] f fd
 Dp:∃f fd,Mth K CK "say" "Desk.say" uQ ["self","row"] f fd
 Az:∃f fd,Def K mg "_law_said" zJ ["_law_desk","_law_row","_law_good"] f fd
 qY:∃f fd,Def K mg "_law_gone_said" qP ["_law_model","_law_cell","_law_number"] f fd
 pT:∃f fd,Def K mg "_law_other_said" p8 ["_law_model","_law_cell","_law_number"] f fd
 AA:∃f fd,Def K mg "_law_name" zK ["_law_cell"] f fd
 uK:∃f fd,Def K mg "_law_cell_at" um ["_law_script","_law_k"] f fd
 yO:∃f fd,Def K mg "_law_kinds" xS ["_law_script"] f fd
 Dn:∃f fd,Def K mg "_law_gap" Ci ["_law_script","_law_k"] f fd
 AB:∃f fd,Def K mg "_law_gaps" zL ["_law_script","_law_many","_law_by"] f fd
 x3:∃f fd,Def K mg "_law_flight" vP ["_law_cell","_law_kinds_here"] f fd
 yJ:∃f fd,Def K mg "shown_gaps" xN ["word","kinds","rows","least"] f fd
 wY:∃f fd,Def K mg "copied_rows" vN ["rows"] f fd
 uI:∃f fd,Def K mg "shown_flight" uk ["kinds","name","flight"] f fd
 G6:∃f fd,Def K mg "text_of" xK ["kinds","rules","names","flights","closed"] f fd
 G8:∃f fd,Def K mg "gap_row" Es ["gaps","kind","many"] f fd
 Ax:∃f fd,Def K mg "gap_table" zH ["gaps","many"] f fd
 d_is_gap:∃f fd,Def K mg "is_gap" s_is_gap ["number"] f fd
 yM:∃f fd,Def K mg "is_gap_row" xQ ["row","kinds"] f fd
 uJ:∃f fd,Def K mg "checked_rows" jP ["rows"] f fd
 tU:∃f fd,Def K mg "drafted_rules" rX ["draft"] f fd
 Av:∃f fd,Def K mg "number_of" zF ["word"] f fd
 Dj:∃f fd,Def K mg "told_gap" Ce ["kinds","words"] f fd
 wX:∃f fd,Def K mg "is_in_range" vM ["number"] f fd
 nI:∃f fd,Def K mg "has_right_numbers" n5 ["flight"] f fd
 G7:∃f fd,Def K mg "is_name" Er ["word"] f fd
 wV:∃f fd,Def K mg "told_flight" vK ["kinds","names","words"] f fd
 As:∃f fd,Def K mg "told_kind" zD ["kinds","words"] f fd
 yL:∃f fd,Def K mg "is_stretch" xP ["stretch"] f fd
 Aw:∃f fd,Def K mg "is_closed" zG ["closed"] f fd
 uH:∃f fd,Def K mg "told_stretch" uj ["closed","words"] f fd
 Di:∃f fd,Def K mg "words_of" Cd ["row"] f fd
 yK:∃f fd,Def K mg "read_sheet" xO ["text"] f fd
 tW:∃f fd,Def K mg "_law_gap_rows" rZ ["_law_word","_law_kinds_here","_law_gaps_here","_law_least"] f fd
 pW:∃f fd,Def K mg "_law_flight_row" pe ["_law_name_here","_law_flight_here","_law_kinds_here"] f fd
 Ay:∃f fd,Def K mg "_law_text" zI ["_law_kinds_here","_law_gaps_here","_law_beside","_law_closed","_law_names","_law_flights"] f fd
 pV:∃f fd,Def K mg "_law_model_text" pb ["_law_model"] f fd
 pU:∃f fd,Def K mg "_law_odd_flight" p9 ["_law_name_here","_law_flight_here","_law_kinds_here","_law_names","_law_cell"] f fd
 yI:∃f fd,Def K mg "told_shift" xJ ["words"] f fd
 uG:∃f fd,Def K mg "with_flights" ui ["sheet","names","flights"] f fd
 nH:∃f fd,Def K mg "sheet_with_flight" mZ ["sheet","words"] f fd
 wU:∃f fd,Def K mg "with_closed" vJ ["sheet","closed"] f fd
 mI:∃f fd,Def K mg "sheet_with_stretch" mz ["sheet","words"] f fd
 lh:∃f fd,Def K mg "sheet_without_flight" l9 ["sheet","words"] f fd
 tV:∃f fd,Def K mg "changed_sheet" rY ["sheet","words"] f fd
 wZ:∃f fd,Def K mg "_law_spread" vO ["_law_row","_law_cell"] f fd
 d_law:∃f fd,Def K mg "law" s_law ["_law_script"] f fd/\∀(s:u_) (v:m_),Lh s fd ⟨[v],[]⟩ [("_law_script",v)]
 m_M_R_gap_rows:∃f fd,Mth K CR "gap_rows" "Rules.gap_rows" kT ["self"] f fd
 m_M_P_gap_rows:∃f fd,Mth K CP "gap_rows" "Rules.gap_rows" kT ["self"] f fd
 m_M_P_beside_rows:∃f fd,Mth K CP "beside_rows" "Pair.beside_rows" o7 ["self"] f fd
 m_M_S_shown:∃f fd,Mth K CS "shown" "Sheet.shown" vQ ["self"] f fd
 n_P:∃f fd,Mth K CP "__init__" "Pair.__init__" s_nP ["self","gaps","beside"] f fd
 n_R:∃f fd,Mth K CR "__init__" "Rules.__init__" s_nR ["self","gaps"] f fd/\Stat K CR (.type "type") "__init__" f
 n_S:∃f fd,Mth K CS "__init__" "Sheet.__init__" s_nS ["self","kinds","rules","names","flights","closed"] f fd
 n_CW:∃f fd,Mth K CW "__init__" "NoSheet.__init__" s_nCW ["self","row"] f fd/\XMk K mg "NoSheet" CW f
 ne:CR≠CP
noncomputable abbrev Zq(_:Nat)(_:HP)(_:GW)(_:Hq):=Zs
theorem law_d{K:Pn}{x:i_}{st:Hm}{ps:bv}{q:Iq->Prop}(h:∃f fd,Def K mg x st ps f fd/\q fd):∃f fd,Def K mg x st ps f fd:=by grind
def putGB(a b:V):su ("beside":i_) b [(("gaps":i_),a)]=[(("gaps":i_),a),(("beside":i_),b)]:=by rfl
def sc_nCW:gB ["self","row"] ["self","row"] (aA s_nCW):=⟨rfl,rfl,rfl,by decide +kernel,rfl,by decide +kernel,by decide +kernel⟩
def okn_CW{w:GW}{K:Pn}{base:Hq}{f:f_}{fd:Iq}(N:Fun K "__init__" "NoSheet.__init__" s_nCW f fd)(J:XFld K C "row"):iZ P w K mg base CX0 1 f fd ["self","row"] (spX1 C "row"):=by
 refine N.okX sc_nCW (λvs H Q E h=>?_) (λcdv A outer s H vs Q E b h=>?_)
 .obtain⟨a,v1,rfl,_⟩:=h;rfl
 .obtain⟨a,v1,rfl,Y,q⟩:=h;refine⟨_,aJ (ps_x1 (pv 0) (pv 1) J),?_⟩
  exact⟨v1,rfl,_,rfl,a,rfl,Y,λd hd I=>q d hd I⟩
section
variable{w:GW}{base:Hq}{K:Pn}{CR CE:f_}(Z:Zq n P w base K mg CR CP CS CW CE CD CK)
include Z
def iN:YO Z.AA P w base 1 b_ (eC):=
 fY ["_law_cell","_law_number","_law_word","_law_k"] λz I J=>(ax (hI I (aw bM (aw wg (ai 0) aa) aa)) (ax (hI I (bh x_ixS aN (aw bM (ai 1) aa))) (ax (qJ (pt:=.nm 3) (nF Z.mW (da1 (aw wg (aw bM (aw ee (ai 1) aa) aa) (aw bM (aw ee (ai 1) aa) aa)))) (De I) (ax (hI I (aw bM (av (aw bA (aw wg (ai 1) aa) (ai 3))) aa)) (ay (hI I (av (aw bA (ai 2) (bh x_ixS aN (aw bM (aw ee (ai 1) aa) aa)))))))) (ay (aM (ai 2))))))
def cy:YO Z.uK P w base 1 b_ (aU):=
 fY ["_law_script","_law_k"] λz I J=>(ax (fV (aK o_lt (ai 1) (aF gH Z.eM B_ (da1 (ai 0)))) (ay (aM (bh gm (ai 0) (ai 1)))) bX) (ay (aM aa)))
def wc:YO Z.yO P w base 2 b_ (iR):=
 fY ["_law_script","_law_first"] λz J I=>(ax (hI J (dY (iN Z) I (da1 (dY (cy Z) I (da2 (ai 0) aa))))) (ay (aM (av (mH BV (av (dj (da3 (ai 1) (av (aw bA (mH x_slS (ai 1) gX (dR aa)) aN)) aN))) gX (dR (av (aw bA aa (aw bM (dY (cy Z) I (da2 (ai 0) aa)) aa)))))))))
def A0:YO Z.Dn P w base 2 b_ (gF):=
 fY ["_law_script","_law_k","_law_cell"] λz I J=>(ax (hI I (av (aw bA (dY (cy Z) J (da2 (ai 0) (av (aw bA aa (ai 1))))) (ai 1)))) (ay (aM (bh gm (av (dj (da3 (aw bM (ai 2) aa) (aw bM (ai 2) (av (aw bA (aw yn aa aa) aa))) aa))) (aw bM (aw ee (ai 2) aa) aa)))))
def qo:YO Z.AB P w base 3 b_ (jz):=
 fY ["_law_script","_law_many","_law_by"] λz J I=>(ay (aM (av (du ["_law_a","_law_script","_law_many","_law_by"] [c_,a_ 0,a_ 1,a_ 2] (nF Z.mW (da1 (ai 1))) (λ_ _ _ _ _=>gY dkK) (aW rfl) (λ_ _ _ _ _=>cR) (λ_ _ _ _ _=>(av (du ["_law_b","_law_a","_law_script","_law_many","_law_by"] [c_,a_ 0,a_ 1,a_ 2,a_ 3] (nF Z.mW (da1 (ai 2))) (λ_ _ _ _ _=>gY dkK) (aW rfl) (λ_ _ _ _ _=>cR) (λ_ _ _ _ _=>(dY (A0 Z) I (da2 (ai 2) (av (aw bA (av (aw bA (ai 4) (aw wg (ai 3) (ai 1)))) (ai 0)))))))))))))
def jQ:YO Z.x3 P w base 1 b_ (eW):=
 fY ["_law_cell","_law_kinds_here","_law_number","_law_first","_law_last","_law_due"] λz I J=>(ax (hI I (aw bM (aw wg (ai 0) aa) aa)) (ax (hI I (bh gm (av (dj (da2 (aw bM (aw ee (ai 2) aa) aa) (aw bM (aw ee (ai 2) aa) (aw yn aa aa))))) (aw bM (ai 2) aa))) (ax (hI I (av (aw bA (ai 3) (aw bM (aw ee (ai 2) aa) (bh gm (av (dj (da2 aa (av (aw bA (aw o_sub (aw yn aa aa) (ai 3)) aa))))) (aw bM (aw ee (ai 2) aa) aa)))))) (ax (hI I (bh gm (av (dj (da2 (av (aw bA (ai 3) (aw bM (ai 2) aa))) (aw bM (ai 0) (av (aw bA (aw yn aa aa) aa)))))) (aw bM (aw ee (ai 2) aa) aa))) (ay (aM (jd (da5 (aw bM (aw ee (ai 2) aa) (aF gH Z.eM B_ (da1 (ai 1)))) (ai 3) (ai 4) (aF (c_min rfl) Z.z_min boot_min (da2 (ai 5) (aw yn aa aa))) (aw bM (aw ee (ai 0) aa) (av (aw bA (aw yn aa aa) aa)))))))))))
def wa:YR Z.yN P w base 4 (spSt K (iK CR CP CS CW CE CD CK n) 1):=
 fR ["_law_script","_law_kinds_here","_law_gaps_here","_law_beside","_law_closed","_law_cell","_law_names","_law_flights"] (λ_ _ _ _=>len_St) λz J I vs Q h=>let ⟨_,_,Y⟩:=rs_start (O:=[4,6,7]) h;⟨_,(iX (jU (i:=1) (own:=b_) J (dY (wc Z) I (da1 (ai 0))))
  (iX (jU (i:=2) (own:=b_) J (dY (qo Z) I (da3 (ai 0) (aF gH Z.eM B_ (da1 (ai 1))) aa)))
  (iX (jU (i:=3) (own:=b_) J gc)
  (iX (fV (aK (nj I.units) (aw bM (dY (cy Z) I (da2 (ai 0) aa)) aa) aa)
   (ay (jU (i:=3) (own:=b_) J (dY (qo Z) I (da3 (ai 0) (aF gH Z.eM B_ (da1 (ai 1))) aa))))
   bX)
  (iX (jU (i:=4) (own:=d_) J (dj km))
  (iX (qJ (pt:=.nm 5) (hZ (av (mH BV (ai 0) (dR aa) (dR (av (aw bA aa (aw bM (dY (cy Z) I (da2 (ai 0) aa)) aa))))))) (De J)
   (ay (pS (i:=4) (jd (da2 (aw bM (ai 5) aa) (av (aw bA (av (aw bA (aw bM (ai 5) aa) aa)) (aw bM (aw ee (ai 5) aa) (aw yn aa aa)))))))))
  (iX (jU (i:=6) (own:=d_) J (dj km))
  (BE (O2:=[4,6]) (iX (jU (i:=7) (own:=d_) J (dj km))
  (BE (O2:=[4,6,7]) (iX (qJ (pt:=.nm 5) (hZ (av (mH BV (ai 0) (dR aa) (dR (av (aw bA aa (aw bM (dY (cy Z) I (da2 (ai 0) aa)) aa))))))) (De J)
   (ay (fV (aK (lQ I.units) (dY (iN Z) I (da1 (ai 5))) (ai 6))
   (ax (pS (i:=6) (dY (iN Z) I (da1 (ai 5))))
  (ay (pS (i:=7) (dY (jQ Z) I (da2 (ai 5) (ai 1))))))
   bX)))
  (iX (jU (i:=5) (own:=b_) J (dY (cy Z) I (da2 (ai 0) aa)))
  (iX (BB (m:=n) (PW.pt (qI (aK (nj I.units) (aw bM (ai 5) aa) aa) (ma (aK o_lt (aF gH Z.eM B_ (da1 (ai 6))) (av (aw bA aa (aw bM (aw ee (ai 5) aa) aa)))))))
   (ax (An (i:=7) (dY (jQ Z) I (da2 (av (aw bA (aw wg (aF gH Z.eM B_ (da1 (ai 6))) aa) (aw bM (ai 5) (aw yn aa aa)))) (ai 1))))
  (ay (An (i:=6) (av (aw bA aN (bY qe Z.nP GV (da1 (aF gH Z.eM B_ (da1 (ai 6)))))))))))
  (iX (BB (m:=n) (PW.pt (qI (aK o_gt (aw bM (ai 5) aa) aa) (ma (aK o_lt (aF gH Z.eM B_ (da1 (ai 4))) (av (aw bA aa (aw bM (aw ee (ai 5) aa) aa)))))))
   (ay (An (i:=4) (jd (da2 (aw wg (aF gH Z.eM B_ (da1 (ai 4))) aa) (av (aw bA (av (aw bA (aw wg (aF gH Z.eM B_ (da1 (ai 4))) aa) aa)) (aw bM (ai 5) aa))))))))
  (dq_last (g7 (sE (au (pv 1) (au (pv 2) (au (pv 3) (au (pv 4) (au (pv 6) (au (pv 7) aQ))))))))))))))))))))))),Y⟩
def o9:YO Z.yJ P w base 1 d_ (iP):=
 fY ["word","kinds","rows","least","shown","kind","row","other","gap"] λz I J=>(ax (ds_sT I (dj km)) (ax (qJ (pt:=.tp [5,6]) (BG Z.z_zip (ai 1) (ai 2)) (Dd rfl (gq (i:=5) I (gq (i:=6) I nG))) (ay (qJ (pt:=.tp [7,8]) (BG Z.z_zip (ai 1) (ai 6)) (Dd rfl (gq (i:=7) I (gq (i:=8) I nG))) (ay (fV (aK o_ge (ai 8) (ai 3)) (ay (pS (i:=4) (Ar (iw (tT (ai 0)) (iw aN (iw (tT (ai 5)) (iw aN (iw (tT (ai 7)) (iw aN (iw (tT (ai 8)) FY)))))))))) bX))))) (ay (ds_retV (i:=4)))))
def iE:YO Z.wY P w base 1 b_ (eQ):=
 fY ["rows"] λz I J=>(ay (aM (av (du ["row"] [c_] (hZ (ai 0)) (λ_ _ _ _ _=>gY dkK) (aW rfl) (λ_ _ _ _ _=>cR) (λ_ _ _ _ _=>(av (bY c_list Z.DQ IH (da1 (ai 0)))))))))
def uy:YM Z.m_M_R_gap_rows P w mg base 2 b_ (bz CR CP CS CW CE CD CK n):=
 fM ["self"] λz J I=>(ay (aM (dY (iE Z) I (da1 (cf (Cs:=[CR,CP]) Z.oG (ai 0))))))
def uz:YM Z.m_M_P_gap_rows P w mg base 2 b_ (bz CR CP CS CW CE CD CK n):=
 fM ["self"] λz J I=>(ay (aM (dY (iE Z) I (da1 (cf (Cs:=[CR,CP]) Z.oG (ai 0))))))
def sO:YO Z.uI P w base 1 b_ (cP):=
 fY ["kinds","name","flight","words"] λz I J=>(ax (hI I (av (aw bA (av (dj (da3 aN (ai 1) (bh gm (ai 0) (bh gm (ai 2) aa))))) (av (du ["number"] [c_] (hZ (av (mH BV (ai 2) (dR aa) gX))) (λ_ _ _ _ _=>gY dkK) (aW rfl) (λ_ _ _ _ _=>cR) (λ_ _ _ _ _=>(bY qe Z.nP GV (da1 (ai 0))))))))) (ay (aM (wN pG HZ Io aN (ai 3)))))
def pF:YM Z.m_M_P_beside_rows P w mg base 2 b_ (cM CR CP CS CW CE CD CK n):=
 fM ["self"] λz J I=>(ay (aM (dY (iE Z) I (da1 (cf (Cs:=[CP]) Z.ve (ai 0))))))
theorem CJ:YO Z.G6 P w base 3 b_ (bV CR CP CS CW CE CD CK n):=
 fY ["kinds","rules","names","flights","closed","rows"] λz e a=>let ⟨_,_,d,I⟩:=pF Z;let ⟨_,_,b,Y⟩:=uz Z;let ⟨_,_,c,J⟩:=uy Z;(ax (BD (i:=5) d_ ["name"] [c_] e (hZ (ai 0)) (λ_ _ _ _ _=>gY dkK) (aW rfl) (λ_ _ _ _ _=>cR) (λ_ _ _ _ _=>(Ar (iw aN (iw (tT (ai 0)) FY))))) (ax (BC (i:=5) (dY (o9 Z) a (da4 aN (ai 0) (G2 Z.kR.cl c.mt J a c.bd Z.kP.cl b.mt Y a b.bd (ai 1)) aa))) (ax (fV (jc (de_isiC (tb:=[(CR,b_),(CP,d_)]) (isi2 ⟨⟨_,Z.kR⟩,Z.ki_CR_CP⟩ ⟨⟨_,Z.kP⟩,Z.ki_CP_CP⟩) Z.iJ Z.kP.mg (ai 1))) (ay (BC (i:=5) (dY (o9 Z) a (da4 aN (ai 0) (G3 Z.kP.cl d.mt I a d.bd (ai 1)) aa)))) bX) (ax (BC (i:=5) (du ["start","stop"] [c_,c_] (hZ (ai 4)) (λ_ _ _ _ _=>Dd rfl (kj (i:=0) dkK (kj (i:=1) dkK nG))) (sW a') (λ_ _ _ _ _=>cR) (λ_ _ _ _ _=>(Ar (iw aN (iw (tT (ai 0)) (iw aN (iw (tT (ai 1)) FY)))))))) (ax (BC (i:=5) (du ["name","flight","kinds"] [c_,c_,a_ 0] (BG Z.z_zip (ai 2) (ai 3)) (λ_ _ _ _ _=>Dd rfl (kj (i:=0) dkK (kj (i:=1) dkK nG))) (sW a') (λ_ _ _ _ _=>cR) (λ_ _ _ _ _=>(dY (sO Z) a (da3 (ai 2) (ai 0) (ai 1)))))) (wL (O2:=[]) (ay (aM (wN pG HZ Io aN (av (du ["row"] [c_] (hZ (ai 5)) (λ_ _ _ _ _=>gY (by grind)) (aW rfl) (λ_ _ _ _ _=>cR) (λ_ _ _ _ _=>(av (aw bA (ai 0) aN))))))))))))))
end
def sc_nS:gB ["self","kinds","rules","names","flights","closed"] ["self","kinds","rules","names","flights","closed"] (aA s_nS):=⟨rfl,rfl,rfl,by decide +kernel,rfl,by decide +kernel,by decide +kernel⟩
def okn_S{w:GW}{K:Pn}{base:Hq}{CR CE:f_}{J f:f_}{I fd:Iq}(D:Def K mg "text_of" xK ["kinds","rules","names","flights","closed"] J I)(d:iZ P w K mg base CX0 3 J I ["kinds","rules","names","flights","closed"] (spF K b_ (bV CR CP CS CW CE CD CK n) 5))(N:Fun K "__init__" "Sheet.__init__" s_nS f fd)(c:Cls K C)(a:∀y∈(["kinds","rules","names","flights","closed","text"]:bv),bp K C y)(Y:mg "list"=c_):iZ P w K mg base CX0 4 f fd ["self","kinds","rules","names","flights","closed"] (spIS K C (bV CR CP CS CW CE CD CK n)):=
 N.okX sc_nS (λvs H Q E h=>by obtain⟨_,_,_,_,_,_,_,_,_,_,_,_,_,_,_,_,_,_,rfl,_⟩:=h;rfl) λcdv A outer s H vs Q E b h=>
  ⟨_,aD (hV (pv 0) (lJ iU rfl Y IH (au (pv 1) aQ)) rfl) (aD (hV (pv 0) (pv 2) rfl) (aD (hV (pv 0) (lJ iU rfl Y IH (au (pv 3) aQ)) rfl) (aD (hV (pv 0) (lJ iU rfl Y IH (au (pv 4) aQ)) rfl)
   (aD (hV (pv 0) (lJ iU rfl Y IH (au (pv 5) aQ)) rfl) (aJ (hV (pv 0) (kx d b (by rfl) D.mg D.fn.kp D.bd .nil qQ (au (pv 1) (au (pv 2) (au (pv 3) (au (pv 4) (au (pv 5) aQ)))))) rfl)))))),rs_initS c a h⟩
section
variable{w:GW}{base:Hq}{K:Pn}{CR CE:f_}(Z:Zq n P w base K mg CR CP CS CW CE CD CK)
include Z
def CL:YO Z.G8 P w base 1 b_ (lR):=
 fY ["gaps","kind","many"] λz J I=>(ay (aM (av (du ["other","gaps","kind"] [c_,a_ 0,a_ 1] (nF Z.mW (da1 (ai 2))) (λ_ _ _ _ _=>gY dkK) (aW rfl) (λ_ _ _ _ _=>cR) (λ_ _ _ _ _=>(de_getD I.units (ai 1) (jd (da2 (ai 2) (ai 0))) aa))))))
def qm:YO Z.Ax P w base 2 b_ (jx):=
 fY ["gaps","many"] λz J I=>(ay (aM (av (du ["kind","gaps","many"] [c_,a_ 0,a_ 1] (nF Z.mW (da1 (ai 1))) (λ_ _ _ _ _=>gY dkK) (aW rfl) (λ_ _ _ _ _=>cR) (λ_ _ _ _ _=>(dY (CL Z) I (da3 (ai 1) (ai 0) (ai 2))))))))
def yi:YO Z.d_is_gap P w base 1 b_ (gK):=
 fY ["number"] λz I J=>(ax (fV (PW.pt (pR (yG (jc (Dh Z.kit Z.iJ Z.z_int (ai 0)))) (m9 (jc (Aq Z.kit Z.iJ Z.z_bool (ai 0)))))) (ay (aM G5)) bX) (ay (aM (BI o_le o_le aa (ai 0) (jV Z.uE)))))
theorem w9:YO Z.yM P w base 2 b_ (gE):=
 fY ["row","kinds"] λz J I=>(ay (aM (vi (Ap Z.kit Z.iJ Z.DQ (ai 0)) (vi (jO (nj I.units) (aF gH Z.eM B_ (da1 (ai 0))) (ai 1)) (vg (aF (Dw rfl) Z.BU LL (da1 (av (du ["number"] [c_] (hZ (ai 0)) (λ_ _ _ _ _=>gY (by grind)) (aW rfl) (λ_ _ _ _ _=>cR) (λ_ _ _ _ _=>(dY (yi Z) I (da1 (ai 0)))))))))))))
def lP:YO Z.uJ P w base 3 b_ (aI):=
 fY ["rows","kinds"] λz J I=>(ax (hI J (aF gH Z.eM B_ (da1 (ai 0)))) (ax (fV (yG (dt_chain o_le o_le aa (ai 1) (jV Z.qE))) (ay ds_stk) bX) (ax (fV (yG (jc (aF (Dw rfl) Z.BU LL (da1 (av (du ["row","kinds"] [c_,a_ 1] (hZ (ai 0)) (λ_ _ _ _ _=>gY dkK) (aW rfl) (λ_ _ _ _ _=>cR) (λ_ _ _ _ _=>(dY (w9 Z) I (da2 (ai 0) (ai 1)))))))))) (ay ds_stk) bX) (ay (aM (dY (iE Z) I (da1 (ai 0))))))))
end
def sc_nR:gB ["self","gaps"] ["self","gaps"] (aA s_nR):=⟨rfl,rfl,rfl,by decide +kernel,rfl,by decide +kernel,by decide +kernel⟩
def okn_R{P : HP}{w : GW}{K : Pn}{mg : i_ -> Option m_}{base : Hq}{C f: f_}(Y : Def K mg "checked_rows" jP ["rows"] gb eD)(x : iZ P w K mg base CX0 3 gb eD ["rows"] (spF K b_ (aI) 1))(N : Fun K "__init__" "Rules.__init__" s_nR f fd)(t : Cls K C)(k : bp K C "gaps"): iZ P w K mg base CX0 4 f fd ["self", "gaps"] (spI1 K C (aI)) := by
  refine N.okX sc_nR (λvs H Q E h => ?_) (λcdv A outer s H vs Q E m h => ?_)
  · obtain⟨p,dx,v,F,d,rfl,_⟩ := h
    rfl
  · obtain⟨p,dx,v,F,d,rfl,a,n,g,j,q⟩ := h
    refine⟨_,aJ (hV (pv 0) (kx x m (by rfl) Y.mg Y.fn.kp Y.bd .nil qQ (au (pv 1) aQ)) rfl),?_⟩
    refine⟨v,rfl,F,[d],g,⟨v,[],rfl,j,rfl⟩,rfl,?_⟩
    skip;cases b : aI [d]with
    | error e => rw[b]at q; exact q| ok r =>
      rw[b]at q;intro u F' H' st i;have I : F' p = c_ := by
        cases l : F' p with
        | none => rfl| some o =>
          rcases st.nw p o l with z | z
          · rw[n]at z; cases z
          · rw[a]at z; cases z
      refine⟨_,rfl,p,C,dx,[],rfl,st.hh _ _ a,t,k,(by show 0 < 1000; decide),?_⟩
      refine q u F' _ st.ff (λc o e => ?_) I st.nw (λc o e J => by rw[ao J]; exact st.hh _ _ e) aj i;have J : c ≠ p :=λz => by rw[z,I]at e; cases e
      rw[ao J];exact st.fh _ _ e
def sc_nP:gB ["self","gaps","beside"] ["self","gaps","beside"] (aA s_nP):=⟨rfl,rfl,rfl,by decide +kernel,rfl,by decide +kernel,by decide +kernel⟩
theorem okn_P{P : HP}{w : GW}{K : Pn}{mg : i_ -> Option m_}{base : Hq}{CR CP : f_}{f L: f_}{Y: Iq}{mc : m_}(n : Def K mg "checked_rows" jP ["rows"] gb eD)(OK : iZ P w K mg base CX0 3 gb eD ["rows"] (spF K b_ (aI) 1))(S : Stat K CR mc "__init__" L)(bI : Binds K Y ["self", "gaps"] [])(FI : iZ P w K mg base CX0 4 L Y ["self", "gaps"] (spI1 K CP (aI)))(mR : mg "Rules" = a_ (.ref CR))(t : mg "len" = c_)(N : Fun K "__init__" "Pair.__init__" s_nP f fd)(m : Cls K CP)(na : bp K CP "gaps")(B : bp K CP "beside"): iZ P w K mg base CX0 5 f fd ["self", "gaps", "beside"] (spI2 K CP (aI)) := by
  refine N.okX sc_nP (λvs H Q E h => ?_) (λcdv A outer s H vs Q E D h => ?_)
  · obtain⟨p,dx,v,g,F,d,l,rfl,_⟩ := h
    rfl
  · obtain⟨p,dx,v,g,F,d,l,rfl,hp,hF,Z,qd,j,q⟩ := h
    refine⟨_,aD (i5 (pe_cmeth S (by rfl) mR FI D bI .nil qQ (au (pv 0) (au (pv 1) aQ))))
      (aD (hV (pv 0) (kx OK (D.mono a') (by rfl) n.mg n.fn.kp n.bd .nil qQ (au (pv 2) aQ)) rfl)
      (aJ (lg (zV op_ne (o8 mh (by rfl) t B_ (au (iL (pv 0) rfl) aQ)) (o8 mh (by rfl) t B_ (au (iL (pv 0) rfl) aQ)) (Bh _)) ER gu))),?_⟩
    refine⟨_,rfl,_,rfl,p,dx,v,F,d,rfl,hp,hF,Z,qd,?_⟩
    cases G : aI [d]with
    | error e => rw[G]at q; exact q| ok r =>
      rw[G,aq]at q;intro u F1 H1 R a2 a3 a4 a5 a6 O;refine⟨g,rfl,F1,[l],a2,⟨g,[],rfl,aR.mono R j,rfl⟩,rfl,?_⟩
      skip;cases J : aI [l]with
      | error e => rw[J]at q; exact Hi q| ok r2 =>
        rw[J,aq]at q;intro x F2 H2 st y;by_cases I : twoL r r2 = d_
        · rw[g_ I]at q
          have k : F2 p = c_ := by
            cases C : F2 p with
            | none => rfl| some o =>
              rcases st.nw p o C with z | z
              · simp_all
              simp_all
          refine⟨_,rfl,p,CP,dx,_,rfl,st.hh _ _ a6,m,B,a8,?_⟩
          rw[putGB];have i : aS F2 (upd H2 p (.ins CP dx [("gaps", u),("beside", x)])) :=λc o e => by
            have a : c ≠ p :=λz => by simp_all
            rw[ao a];exact st.fh _ _ e
          cases r with
          | lst xs =>
            cases r2 with
            | lst ys =>
              have hl : xs.length = ys.length := HW I;obtain⟨g1,X,e1,t1,U⟩ := aR.mono st.ff O;obtain⟨g2,W,e2,t2,T⟩ := id y;refine⟨_,rfl,p,CP,dx,_,_,rfl,aj,m,B,rfl,g2,_,by rw[e2],.inl (i.lst t2),_,rfl,p,CP,dx,_,_,rfl,aj,m,na,rfl,g1,_,by rw[e1],.inl (i.lst t1),rfl,_,rfl,?_⟩
              refine iteNS (by rw[U.length,T.length,hl]) ?_;refine q u x F2 _ (R.trans st.ff) i k (λb o e => ?_) (λc o e a => by rw[ao a]; exact st.hh _ _ (a5 c o e a)) aj (aR.mono st.ff O) y;rcases st.nw b o e with z | z
              · exact a4 b o z
              · refine .inr ?_
                cases C : H b with
                | none => rfl| some o' =>grind
            | _ => cases I
          | _ => cases I
        · rw[k_ I]at q; exact Hi q
section
variable{w:GW}{base:Hq}{K:Pn}{CR CE:f_}(Z:Zq n P w base K mg CR CP CS CW CE CD CK)
include Z
def on_P:∃f fd,Mth K CP "__init__" "Pair.__init__" s_nP ["self","gaps","beside"] f fd/\iZ P w K mg base CX0 5 f fd ["self","gaps","beside"] (spI2 K CP (aI)):=
 let ⟨_,_,Y⟩:=lP Z;let ⟨_,_,N,S⟩:=Z.n_R;let ⟨_,_,M⟩:=Z.n_P;⟨_,_,M,okn_P Y.d Y.o S N.bd (okn_R (C:=CP) Y.d Y.o N.fn Z.kP.cl (Z.oG CP a8).2) Z.kR.mg Z.eM M.fn Z.kP.cl (Z.oG CP a8).2 (Z.ve CP a8).2⟩
def on_R:∃f fd,Mth K CR "__init__" "Rules.__init__" s_nR ["self","gaps"] f fd/\iZ P w K mg base CX0 4 f fd ["self","gaps"] (spI1 K CR (aI)):=
 let ⟨_,_,Y⟩:=lP Z;let ⟨_,_,N,_⟩:=Z.n_R;⟨_,_,N,okn_R Y.d Y.o N.fn Z.kR.cl (Z.oG CR a8).2⟩
def qR:YO Z.tU P w base 7 b_ (de CR CP CS CW CE CD CK n):=
 fY ["draft","many","gaps"] λz c b=>let ⟨_,_,a,J⟩:=on_P Z;let ⟨_,_,Y,I⟩:=on_R Z;(ax (hI c (aF gH Z.eM B_ (da1 (cf (Cs:=[CD]) Z.fldD_kinds (ai 0))))) (ax (hI c (dY (qm Z) b (da2 (cf (Cs:=[CD]) Z.fldD_gaps (ai 0)) (ai 1)))) (ax (fV (aK (o_eqE b.units) (cf (Cs:=[CD]) Z.fldD_beside (ai 0)) (av de_newK)) (ay (aM (de_newR ⟨Z.kR.mks,Y.mt.at_,Y.mt.fn,Z.kR.kp⟩ I (b.mono a') Z.kR.mg Y.bd (da1 (ai 2))))) bX) (ay (aM (de_newP ⟨Z.kP.mks,a.mt.at_,a.mt.fn,Z.kP.kp⟩ J b Z.kP.mg a.bd (da2 (ai 2) (dY (qm Z) b (da2 (cf (Cs:=[CD]) Z.fldD_beside (ai 0)) (ai 1))))))))))
def lN:YR Z.Au P w base 1 nX:=
 fR ["kept","told"] (λ_ _ _ _=>len_told) λz I J vs Q h=>⟨_,(aD (lg (pt_cmp (pc_isN (pv 1))) (aJ (g7 sH)) gu) (aD (i5 (pC GN Hf Ho gI (pv 0) (au (pv 1) aQ))) (aJ (g7 sH)))),rs_told h⟩
def iM:YO Z.Av P w base 1 b_ (aZ):=
 fY ["word"] λz J I=>(ax (fV (PW.pt (pR (aK o_gt (aF Gh Z.eM B_ (da1 (ai 0))) (jV Z.uD)) (m9 (yG (jc (aF (Dw rfl) Z.BU LL (da1 (av (du ["sign"] [c_] (di_str (ai 0)) (λ_ _ _ _ _=>gY dkK) (aW rfl) (λ_ _ _ _ _=>cR) (λ_ _ _ _ _=>(jO o_inS (ai 0) (wQ Z.gs_FIGURES)))))))))))) (ay (aM gc)) bX) (ax (fV (PW.pt (qI (aK (nj I.units) (bh x_ixS (ai 0) aa) aN) (ma (aK (o_ne I.units) (ai 0) aN)))) (ay (aM gc)) bX) (ay (aM (bY c_intS Z.z_int Lx (da1 (ai 0)))))))
def zY:YO Z.Dj P w base 2 b_ (bw):=
 fY ["kinds","words","gap"] λz J I=>(ax (fV (PW.pt (pR (aK (o_ne I.units) (aF gH Z.eM B_ (da1 (ai 1))) aa) (pR (aK (lQ I.units) (bh gm (ai 1) aa) (ai 0)) (m9 (aK (lQ I.units) (bh gm (ai 1) aa) (ai 0)))))) (ay (aM gc)) bX) (ax (hI J (dY (iM Z) I (da1 (bh gm (ai 1) aa)))) (ay (aM (vh (jc (dY (yi Z) I (da1 (ai 2)))) (jd (da3 (md I.units (ai 0) (bh gm (ai 1) aa)) (md I.units (ai 0) (bh gm (ai 1) aa)) (ai 2))) gc)))))
def sM:YR Z.Dm P w base 3 (zA K (bw)):=
 fR ["kinds","gaps","words","told"] (λ_ _ _ _=>len_gap) λz J I vs Q h=>⟨_,(aD (g6 (i:=3) J rfl (.inl rfl) (pY (zY Z) I (au (pv 0) (au (pv 2) aQ)))) (aD (lg (pt_cmp (pc_isN (pv 3))) (aJ (g7 sH)) gu) (aD (ps_put (hU I.units) (pv 1) (jd (da2 (bh gm (ai 3) aa) (bh gm (ai 3) aa))) (bh gm (ai 3) aa) rfl) (aJ (g7 sH))))),rs_gap h⟩
def uw:YO Z.wX P w base 1 b_ (gJ):=
 fY ["number"] λz I J=>(ay (aM (BI o_le o_le aa (ai 0) (jV Z.pK))))
theorem mC:YO Z.nI P w base 2 b_ (bG):=
 fY ["flight","first","last"] λz I J=>(ax (hI I (bh gm (ai 0) aa)) (ax (hI I (bh gm (ai 0) aa)) (ay (aM (vi (jO o_le (ai 1) (ai 2)) (vg (aF (Dw rfl) Z.BU LL (da1 (av (du ["number"] [c_] (hZ (av (mH BV (ai 0) (dR aa) gX))) (λ_ _ _ _ _=>gY (by grind)) (aW rfl) (λ_ _ _ _ _=>cR) (λ_ _ _ _ _=>(dY (uw Z) J (da1 (ai 0))))))))))))))
theorem uU:YO Z.G7 P w base 1 b_ (g9):=
 fY ["word"] λz I J=>(ax (fV (PW.pt (pR (aK o_gt (aF Gh Z.eM B_ (da1 (ai 0))) (jV Z.yy)) (m9 (aK o_notInS (bh x_ixS (ai 0) aa) (wQ Z.gs_LETTERS))))) (ay (aM G5)) bX) (ay (aM (aF (Dw rfl) Z.BU LL (da1 (av (du ["sign"] [c_] (di_str (ai 0)) (λ_ _ _ _ _=>gY (by grind)) (aW rfl) (λ_ _ _ _ _=>cR) (λ_ _ _ _ _=>(de_or (jO o_inS (ai 0) (wQ Z.gs_LETTERS)) (vg (jO o_inS (ai 0) (wQ Z.gs_FIGURES))))))))))))
theorem mP:YO Z.wV P w base 3 b_ (aE):=
 fY ["kinds","names","words","numbers","flight"] λz J I=>(ax (fV (PW.pt (pR (aK (o_ne I.units) (aF gH Z.eM B_ (da1 (ai 2))) aa) (pR (aK o_ge (aF gH Z.eM B_ (da1 (ai 1))) (jV Z.uC)) (m9 (aK (lQ I.units) (bh gm (ai 2) aa) (ai 0)))))) (ay (aM gc)) bX) (ax (fV (PW.pt (pR (yG (jc (dY (uU Z) I (da1 (bh gm (ai 2) aa))))) (m9 (aK (o_in I.units) (bh gm (ai 2) aa) (ai 1))))) (ay (aM gc)) bX) (ax (BD (i:=3) b_ ["word"] [c_] J (hZ (av (mH BV (ai 2) (dR aa) gX))) (λ_ _ _ _ _=>gY (by grind)) (aW rfl) (λ_ _ _ _ _=>cR) (λ_ _ _ _ _=>(dY (iM Z) I (da1 (ai 0))))) (ax (fV (aK (o_in I.units) gc (ai 3)) (ay (aM gc)) bX) (ax (hI J (jd (da5 (md I.units (ai 0) (bh gm (ai 2) aa)) (bh gm (ai 3) aa) (bh gm (ai 3) aa) (bh gm (ai 3) aa) (bh gm (ai 3) aa)))) (ay (aM (vh (jc (dY (mC Z) I (da1 (ai 4)))) (ai 4) gc))))))))
def uv:YR Z.wW P w base 4 (vF K CD (nS (aE))):=
 fR ["draft","words"] (λ_ _ _ _=>Fq) λz J I vs Q h=>⟨_,(aD (lg (ya (rm (pY (lN Z) I (au (iL (pv 0) rfl) (au (pY (mP Z) I (au (iL (pv 0) rfl) (au (iL (pv 0) rfl) (au (pv 1) aQ)))) aQ))) (λ_=>rfl))) (aJ (g7 sH)) gu) (aD (i5 (pC GN Hf Ho gI (iL (pv 0) rfl) (au (bh gm (ai 1) aa) aQ))) (aJ (g7 sH)))),Ey Z.kD.cl Z.naD h⟩
def yh:YO Z.As P w base 2 b_ (bF):=
 fY ["kinds","words"] λz J I=>(ax (fV (PW.pt (pR (aK (o_ne I.units) (aF gH Z.eM B_ (da1 (ai 1))) aa) (m9 (aK o_ge (aF gH Z.eM B_ (da1 (ai 0))) (jV Z.qE))))) (ay (aM gc)) bX) (ay (aM (vh (PW.pt (qI (jc (dY (uU Z) I (da1 (bh gm (ai 1) aa)))) (ma (aK (lQ I.units) (bh gm (ai 1) aa) (ai 0))))) (bh gm (ai 1) aa) gc))))
def vZ:YO Z.yL P w base 1 b_ (iQ):=
 fY ["stretch"] λz I J=>(ay (aM (G4 o_le o_lt o_le aa (bh gm (ai 0) aa) (bh gm (ai 0) aa) (jV Z.tw))))
theorem yj:YO Z.Aw P w base 2 b_ (jw):=
 fY ["closed"] λz J I=>(ay (aM (vi (jO o_le (aF gH Z.eM B_ (da1 (ai 0))) (jV Z.qW)) (vg (aF (Dw rfl) Z.BU LL (da1 (av (du ["stretch"] [c_] (hZ (ai 0)) (λ_ _ _ _ _=>gY (by grind)) (aW rfl) (λ_ _ _ _ _=>cR) (λ_ _ _ _ _=>(dY (vZ Z) I (da1 (ai 0))))))))))))
def lM:YO Z.uH P w base 3 b_ (aC):=
 fY ["closed","words","stretch"] λz J I=>(ax (fV (aK (o_ne I.units) (aF gH Z.eM B_ (da1 (ai 1))) aa) (ay (aM gc)) bX) (ax (hI J (jd (da2 (dY (iM Z) I (da1 (bh gm (ai 1) aa))) (dY (iM Z) I (da1 (bh gm (ai 1) aa)))))) (ay (aM (vh (PW.pt (qI (aK (lQ I.units) gc (ai 2)) (ma (jc (dY (yj Z) I (da1 (av (aw bA (ai 0) (av (dj (da1 (ai 2)))))))))))) (ai 2) gc)))))
def zZ:YR Z.Dl P w base 5 (vF K CD (bO)):=
 fR ["draft","words"] (λ_ _ _ _=>Fq) λz J I vs Q h=>⟨_,(aD (lg (PW.pt (pR (aK (nj I.units) (ai 1) (av (dj km))) (m9 (jc (wN Fg Lm PySem.F.type_str_startswith (bh gm (ai 1) aa) aN))))) (aJ (g7 sH)) gu) (aD (lg (aK (nj I.units) (bh gm (ai 1) aa) aN) (aJ (g7 (pY (lN Z) I (au (iL (pv 0) rfl) (au (pY (yh Z) I (au (iL (pv 0) rfl) (au (pv 1) aQ))) aQ))))) gu) (aD (lg (aK (nj I.units) (bh gm (ai 1) aa) aN) (aJ (g7 (pY (sM Z) I (au (iL (pv 0) rfl) (au (iL (pv 0) rfl) (au (pv 1) aQ)))))) gu) (aD (lg (aK (nj I.units) (bh gm (ai 1) aa) aN) (aJ (g7 (pY (sM Z) I (au (iL (pv 0) rfl) (au (iL (pv 0) rfl) (au (pv 1) aQ)))))) gu) (aD (lg (aK (nj I.units) (bh gm (ai 1) aa) aN) (aJ (g7 (pY (lN Z) I (au (iL (pv 0) rfl) (au (pY (lM Z) I (au (iL (pv 0) rfl) (au (pv 1) aQ))) aQ))))) gu) (aJ (g7 (pe_and (jO (nj I.units) (bh gm (ai 1) aa) aN) (pe_one (pY (uv Z) I (au (pv 0) (au (pv 1) aQ)))))))))))),rs_row Z.kD.cl Z.naD h⟩
def sJ:YO Z.Di P w base 1 b_ (gD):=
 fY ["row"] λz J I=>(ay (aM (av (du ["word"] [c_] (hZ (av (wN Bk Kl LY (ai 0) aN))) (λ_ _ _ _ _=>gY dkK) (aW rfl) (λ_ _ _ _ _=>pts_one (aK (o_ne I.units) (ai 0) aN)) (λ_ _ _ _ _=>(ai 0))))))
def on_CW:∃f fd,Mth K CW "__init__" "NoSheet.__init__" s_nCW ["self","row"] f fd/\XMk K mg "NoSheet" CW f/\iZ P w K mg base CX0 1 f fd ["self","row"] (spX1 CW "row"):=
 let ⟨_,_,N,X⟩:=Z.n_CW;⟨_,_,N,X,okn_CW N.fn Z.aCW_row⟩
theorem on_D:∃f fd,Mth K CD "__init__" "Draft.__init__" s_nD ["self"] f fd/\iZ P w K mg base CX0 1 f fd ["self"] (spID CD):=
 let ⟨f,fd,N⟩:=Z.n_D;⟨f,fd,N,N.fn.okX (N:=["self"]) (by exact⟨rfl,rfl,rfl,by grind,rfl,by decide +kernel,by decide +kernel⟩) (λ_ _ _ _=>len_ID) λc A o s H vs Q E I h=>⟨_,aD (hV (pv 0) (sE aQ) rfl) (aD (hV (pv 0) zW rfl) (aD (hV (pv 0) zW rfl) (aD (hV (pv 0) (sE aQ) rfl) (aD (hV (pv 0) (sE aQ) rfl) (aJ (hV (pv 0) (sE aQ) rfl)))))),rs_initD Z.kD.cl Z.naD h⟩⟩
def on_S:∃f fd,Mth K CS "__init__" "Sheet.__init__" s_nS ["self","kinds","rules","names","flights","closed"] f fd/\iZ P w K mg base CX0 4 f fd ["self","kinds","rules","names","flights","closed"] (spIS K CS (bV CR CP CS CW CE CD CK n)):=
 let ⟨_,_,Y⟩:=CJ Z;let ⟨_,_,N⟩:=Z.n_S;⟨_,_,N,okn_S Y.d Y.o N.fn Z.kS.cl Z.naS Z.DQ⟩
def vY:YX Z.yK P w base 8 b_ (eB CR CP CS CW CE CD CK n):=
 fX ["text","draft","number","row"] λz e Y=>let ⟨_,_,a,I,J⟩:=on_CW Z;let ⟨_,_,d,b⟩:=on_D Z;let ⟨_,_,c,f⟩:=on_S Z;(FX (g6 (i:=1) e rfl (.inl rfl) (pe_make0 ⟨Z.kD.mks,d.mt.at_,d.mt.fn,Z.kD.kp⟩ b (Y.mono a') rfl Z.kD.mg d.bd .nil qQ)) (ES PassesOwn.leaving rfl (pi_enum1 rfl Z.zm (av (wN Bk Kl LY (ai 0) aN))) (ye rfl (iC (jv (i:=2) e rfl (.inl rfl)) (iC (jv (i:=3) e rfl (.inl rfl)) sC))) (aJ (lg (ya (rm (pY (zZ Z) Y (au (pv 1) (au (pY (sJ Z) Y (au (pv 3) aQ)) aQ))) (λ_=>rfl))) (aJ (yb Hu xeqD2 I.ex I.fn I.kp J (Y.mono a') a.bd I.mg (au (pv 2) aQ))) gu))) (ax (fV (aK (nj Y.units) (cf (Cs:=[CD]) Z.fldD_kinds (ai 1)) (av (dj km))) (ay (FW Hu xeqD2 I.ex I.fn I.kp J (Y.mono a') a.bd I.mg (da1 aa))) bX) (oK (ay (aM (Ao ⟨Z.kS.mks,c.mt.at_,c.mt.fn,Z.kS.kp⟩ f (Y.mono a') Z.kS.mg c.bd (da5 (cf (Cs:=[CD]) Z.fldD_kinds (ai 1)) (dY (qR Z) Y (da1 (ai 1))) (cf (Cs:=[CD]) Z.fldD_names (ai 1)) (cf (Cs:=[CD]) Z.fldD_flights (ai 1)) (cf (Cs:=[CD]) Z.fldD_closed (ai 1)))))))))
def qT:YN Z.tX P w mg base 9 (spDI K CK (eB CR CP CS CW CE CD CK n)):=
 fN ["self","text"] (λ_ _ _ _=>len_DI) λz Y J vs Q h=>let ⟨_,_,I⟩:=vY Z;⟨_,(aD (hV (pv 0) (kx I.o (J.mono a') rfl I.d.mg I.d.fn.kp I.d.bd .nil CG (au (pv 1) aQ)) rfl) (aJ (hV (pv 0) lI rfl))),rs_initK Z.kK.cl Z.naK h⟩
def kU:YO Z.tW P w base 1 b_ (dh):=
 fY ["_law_word","_law_kinds_here","_law_gaps_here","_law_least","_law_rows","_law_a","_law_b"] λz I J=>(ax (ds_sT I (dj km)) (ax (qJ (pt:=.nm 5) (nF Z.mW (da1 (aF gH Z.eM B_ (da1 (ai 1))))) (De I) (ay (qJ (pt:=.nm 6) (nF Z.mW (da1 (aF gH Z.eM B_ (da1 (ai 1))))) (De I) (ay (fV (aK o_ge (bh gm (bh gm (ai 2) (ai 5)) (ai 6)) (ai 3)) (ay (pS (i:=4) (wN pG HZ Io aN (av (dj (da4 (ai 0) (bh gm (ai 1) (ai 5)) (bh gm (ai 1) (ai 6)) (bY qe Z.nP GV (da1 (bh gm (bh gm (ai 2) (ai 5)) (ai 6)))))))))) bX))))) (wL (O2:=[]) (ay (aM (ai 4))))))
def dX:YO Z.pW P w base 1 b_ (br):=
 fY ["_law_name_here","_law_flight_here","_law_kinds_here"] λz I J=>(ay (aM (wN pG HZ Io aN (av (aw bA (av (dj (da3 aN (ai 0) (bh gm (ai 2) (bh gm (ai 1) aa))))) (av (du ["_law_number"] [c_] (hZ (av (mH BV (ai 1) (dR aa) gX))) (λ_ _ _ _ _=>gY dkK) (aW rfl) (λ_ _ _ _ _=>cR) (λ_ _ _ _ _=>(bY qe Z.nP GV (da1 (ai 0)))))))))))
def yk:YO Z.Ay P w base 2 b_ (kB):=
 fY ["_law_kinds_here","_law_gaps_here","_law_beside","_law_closed","_law_names","_law_flights","_law_rows","_law_name_here","_law_flight_here"] λz I J=>(ax (hI I (av (aw bA (av (du ["_law_kind"] [c_] (hZ (ai 0)) (λ_ _ _ _ _=>gY dkK) (aW rfl) (λ_ _ _ _ _=>cR) (λ_ _ _ _ _=>(av (aw bA aN (ai 0)))))) (dY (kU Z) J (da4 aN (ai 0) (ai 1) aa))))) (ax (fV (aK o_notN (ai 2) gc) (ay (hI I (av (aw bA (ai 6) (dY (kU Z) J (da4 aN (ai 0) (ai 2) aa)))))) bX) (ax (ds_sT I (aw bA (ai 6) (av (du ["_law_start_here","_law_stop"] [c_,c_] (hZ (ai 3)) (λ_ _ _ _ _=>Dd rfl (kj (i:=0) dkK (kj (i:=1) dkK nG))) (sW a') (λ_ _ _ _ _=>cR) (λ_ _ _ _ _=>(av (aw bA (av (aw bA (av (aw bA aN (bY qe Z.nP GV (da1 (ai 0))))) aN)) (bY qe Z.nP GV (da1 (ai 1)))))))))) (ax (qJ (pt:=.tp [7,8]) (BG Z.z_zip (ai 4) (ai 5)) (Dd rfl (gq (i:=7) I (gq (i:=8) I nG))) (ay (pS (i:=6) (dY (dX Z) J (da3 (ai 7) (ai 8) (ai 0)))))) (wL (O2:=[]) (ay (aM (wN pG HZ Io aN (av (du ["_law_row"] [c_] (hZ (ai 6)) (λ_ _ _ _ _=>gY dkK) (aW rfl) (λ_ _ _ _ _=>cR) (λ_ _ _ _ _=>(av (aw bA (ai 0) aN)))))))))))))
def jJ:YO Z.pV P w base 3 b_ (eV):=
 fY ["_law_model","_law_kinds_here","_law_gaps_here","_law_beside","_law_closed","_law_names","_law_flights"] λz I J=>(ax (ds_unpL (ai 0) rfl (gq (i:=1) I (gq (i:=2) I (gq (i:=3) I (gq (i:=4) I (gq (i:=5) I (gq (i:=6) I nG))))))) (ay (aM (dY (yk Z) J (da6 (ai 1) (ai 2) (ai 3) (ai 4) (ai 5) (ai 6))))))
def A2:YM Z.m_M_S_shown P w mg base 1 b_ (eX CR CP CS CW CE CD CK n):=
 fM ["self"] λz I J=>(ay (aM (cf (Cs:=[CS]) Z.fld_text (ai 0))))
def oj:YN Z.pX P w mg base 2 (rV K CK (rW CS "shown" (eX CR CP CS CW CE CD CK n))):=
 fN ["self"] (λ_ _ _ _=>len_show) λz Y J vs Q h=>let ⟨_,_,M,I⟩:=A2 Z;⟨_,(aJ (g7 (vV (iL (pv 0) rfl) Z.kS.cl M.mt I (J.mono a') M.bd .nil qQ))),rs_show Z.kK.cl Z.naK h⟩
def oi:YO Z.pU P w base 2 b_ (eU):=
 fY ["_law_name_here","_law_flight_here","_law_kinds_here","_law_names","_law_cell","_law_row"] λz J I=>(ax (hI J (dY (dX Z) I (da3 (ai 0) (ai 1) (ai 2)))) (ax (fV (PW.pt (qI (aK (nj I.units) (aw bM (ai 4) aa) aa) (ma (aK o_gt (aF gH Z.eM B_ (da1 (ai 3))) aa)))) (ay (aM (dY (dX Z) I (da3 (bh gm (ai 3) (aw bM (aw ee (ai 4) aa) (aF gH Z.eM B_ (da1 (ai 3))))) (ai 1) (ai 2))))) bX) (ax (fV (aK (nj I.units) (aw bM (ai 4) aa) aa) (ay (aM (de_replA (i:=5) (av (aw bA aN (bh gm (ai 2) (bh gm (ai 1) aa))))))) bX) (ax (fV (aK (nj I.units) (aw bM (ai 4) aa) aa) (ay (aM (wN pG HZ Io aN (av (dj (cS aN (da6 (ai 0) (bh gm (ai 2) aa) (bY qe Z.nP GV (da1 (av (aw bA (bh gm (ai 1) aa) aa)))) (bY qe Z.nP GV (da1 (bh gm (ai 1) aa))) aN aN))))))) bX) (ay (aM (av (aw bA (av (aw bA (mH x_slS (ai 5) gX (dR (de_un o_neg (aF Gh Z.eM B_ (da1 (bY qe Z.nP GV (da1 (bh gm (ai 1) aa)))))))) aN)) (bY qe Z.nP GV (da1 (bh gm (ai 1) aa)))))))))))
def n9:YR Z.oO P w base 3 (spM K (dW) 2):=
 fR ["_law_model","_law_cell","_law_number","_law_kinds_here","_law_names","_law_flight_here","_law_name_here","_law_good"] (λ_ _ _ _=>len_M) λz J I vs Q h=>⟨tM K [(0,d_)] [(4,b_),(0,d_)] (bP),(cA (vw1:=[(4,b_),(0,d_)]) (PS.imp (ps_par rfl J rfl rfl a' rfl rfl (au (yf lT (pv 0) lI (λ_ _=>rfl)) (au (yf lT (pv 0) lI (λ_ _=>rfl)) aQ)) rfl) λ_ _ _=>rm_par (i0:=0) a' a' a')
  (cA (vw1:=[(4,b_),(0,d_)]) (PS.imp (g6 (i:=5) J rfl (by first|exact .inl rfl|exact .inr rfl) (dY (jQ Z) I (da2 (ai 1) (ai 3)))) λ_ _ _=>lH a')
  (cA (vw1:=[(4,b_),(0,d_)]) (PS.imp (g6 (i:=6) J rfl (by first|exact .inl rfl|exact .inr rfl) (dY (iN Z) I (da1 (ai 1)))) λ_ _ _=>lH a')
  (cA (vw1:=[(4,b_),(0,d_)]) (yH (aK (nj I.units) (aw bM (ai 2) aa) aa) (aJ (tP (jd (da2 (dY (oi Z) I (da5 (av (aw bA aN (mH x_slS (ai 6) gX (dR aa)))) (ai 5) (ai 3) (ai 4) (aw ee (ai 2) aa))) G5)))) qK)
  (cA (vw1:=[(4,b_),(0,d_)]) (PS.imp (g6 (i:=7) J rfl (by first|exact .inl rfl|exact .inr rfl) (vi (jO (lQ I.units) (ai 6) (ai 4)) (vg (jO o_lt (aF gH Z.eM B_ (da1 (ai 4))) aa)))) λ_ _ _=>lH a')
  (cA (vw1:=[(4,b_),(0,d_)]) (yH (jc (ai 7)) (cA (vw1:=[(4,b_),(0,d_)]) (PS.imp (i5 (pC GN Hf Ho gI (pv 4) (au (ai 6) aQ))) λ_ _ _=>EB (lo_n (i:=4) a'))
  (aJ (PS.imp (i5 (pC GN Hf Ho gI (yf lT (pv 0) lI (λ_ _=>rfl)) (au (ai 5) aQ))) λ_ _ _=>EB (lo_f (i:=0) a')))) qK)
  (aJ (tP (jd (da2 (dY (dX Z) I (da3 (ai 6) (ai 5) (ai 3))) (ai 7))))))))))),EA h⟩
def vX:YX Z.yI P w base 2 b_ (eA CR CP CS CW CE CD CK n):=
 fX ["words","shift"] λz J I=>(ax (oN (hI J (vh (aK (nj I.units) (aF gH Z.eM B_ (da1 (ai 0))) aa) (dY (iM Z) I (da1 (bh gm (ai 0) aa))) gc))) (ax (fV (PW.pt (pR (aK o_isN (ai 1) gc) (m9 (aK o_gt (ai 1) (jV Z.qX))))) (ay (oM Hu xeqD Z.tCE.mg Z.tCE.ex I.hd)) bX) (oK (ay (aM (ai 1))))))
def lL:YO Z.uG P w base 6 b_ (g8 CR CP CS CW CE CD CK n):=
 fY ["sheet","names","flights"] λz a J=>let ⟨_,_,I,Y⟩:=on_S Z;(ay (aM (Ao ⟨Z.kS.mks,I.mt.at_,I.mt.fn,Z.kS.kp⟩ Y J Z.kS.mg I.bd (da5 (cf (Cs:=[CS]) Z.tN (ai 0)) (cf (Cs:=[CS]) Z.yB (ai 0)) (ai 1) (ai 2) (cf (Cs:=[CS]) Z.pO (ai 0))))))
def mB:YX Z.nH P w base 7 b_ (bq CR CP CS CW CE CD CK n):=
 fX ["sheet","words","flight"] λz J I=>(ax (oN (hI J (dY (mP Z) I (da3 (cf (Cs:=[CS]) Z.tN (ai 0)) (cf (Cs:=[CS]) Z.jC (ai 0)) (ai 1))))) (ax (fV (aK o_isN (ai 2) gc) (ay (oM Hu xeqD Z.tCE.mg Z.tCE.ex I.hd)) bX) (oK (ay (aM (dY (lL Z) I (da3 (ai 0) (av (aw bA (cf (Cs:=[CS]) Z.jC (ai 0)) (av (dj (da1 (bh gm (ai 1) aa)))))) (av (aw bA (cf (Cs:=[CS]) Z.kL (ai 0)) (av (dj (da1 (ai 2)))))))))))))
def mO:YO Z.wU P w base 6 b_ (eP CR CP CS CW CE CD CK n):=
 fY ["sheet","closed"] λz a J=>let ⟨_,_,I,Y⟩:=on_S Z;(ay (aM (Ao ⟨Z.kS.mks,I.mt.at_,I.mt.fn,Z.kS.kp⟩ Y J Z.kS.mg I.bd (da5 (cf (Cs:=[CS]) Z.tN (ai 0)) (cf (Cs:=[CS]) Z.yB (ai 0)) (cf (Cs:=[CS]) Z.jC (ai 0)) (cf (Cs:=[CS]) Z.kL (ai 0)) (ai 1)))))
def lO:YX Z.mI P w base 7 b_ (bj CR CP CS CW CE CD CK n):=
 fX ["sheet","words","stretch"] λz J I=>(ax (oN (hI J (dY (lM Z) I (da2 (cf (Cs:=[CS]) Z.pO (ai 0)) (ai 1))))) (ax (fV (aK o_isN (ai 2) gc) (ay (oM Hu xeqD Z.tCE.mg Z.tCE.ex I.hd)) bX) (oK (ay (aM (dY (mO Z) I (da2 (ai 0) (av (aw bA (cf (Cs:=[CS]) Z.pO (ai 0)) (av (dj (da1 (ai 2)))))))))))))
def kz:YX Z.lh P w base 7 b_ (aY CR CP CS CW CE CD CK n):=
 fX ["sheet","words","place","names"] λz J I=>(ax (fV (PW.pt (pR (aK (o_ne I.units) (aF gH Z.eM B_ (da1 (ai 1))) aa) (m9 (aK (lQ I.units) (bh gm (ai 1) aa) (cf (Cs:=[CS]) Z.jC (ai 0)))))) (ay (oM Hu xeqD Z.tCE.mg Z.tCE.ex I.hd)) bX) (oK (ax (hI J (md I.units (cf (Cs:=[CS]) Z.jC (ai 0)) (bh gm (ai 1) aa))) (ax (hI J (av (aw bA (av (mH BV (cf (Cs:=[CS]) Z.jC (ai 0)) gX (dR (ai 2)))) (av (mH BV (cf (Cs:=[CS]) Z.jC (ai 0)) (dR (av (aw bA (ai 2) aa))) gX))))) (ay (aM (dY (lL Z) I (da3 (ai 0) (ai 3) (av (aw bA (av (mH BV (cf (Cs:=[CS]) Z.kL (ai 0)) gX (dR (ai 2)))) (av (mH BV (cf (Cs:=[CS]) Z.kL (ai 0)) (dR (av (aw bA (ai 2) aa))) gX))))))))))))
def qS:YX Z.tV P w base 8 b_ (b9 CR CP CS CW CE CD CK n):=
 fX ["sheet","words","word"] λz b I=>let ⟨_,_,J⟩:=mB Z;let ⟨_,_,Y⟩:=lO Z;let ⟨_,_,a⟩:=kz Z;(ax (oN (hI b (vh (jc (ai 1)) (bh gm (ai 1) aa) aN))) (ax (fV (aK (nj I.units) (ai 2) aN) (ay (aM (wR J.o CG I J.d.mg J.d.fn.kp J.d.bd (da2 (ai 0) (ai 1))))) bX) (ax (fV (aK (nj I.units) (ai 2) aN) (ay (aM (wR Y.o CG I Y.d.mg Y.d.fn.kp Y.d.bd (da2 (ai 0) (ai 1))))) bX) (ax (fV (aK (nj I.units) (ai 2) aN) (ay (aM (wR a.o CG I a.d.mg a.d.fn.kp a.d.bd (da2 (ai 0) (ai 1))))) bX) (ax (oN (fV (aK (nj I.units) (ai 1) (av (dj (da1 aN)))) (ay (aM (dY (mO Z) I (da2 (ai 0) (av (dj km)))))) bX)) (ay (oM Hu xeqD Z.tCE.mg Z.tCE.ex I.hd)))))))
def A1:YN Z.Dp P w mg base 9 (Ca K CK (xm CR CP CS CW CE CD CK n)):=
 fN ["self","row","words"] (λ_ _ _ _=>len_say) λz a I vs Q h=>let ⟨_,_,Y⟩:=vX Z;let ⟨_,_,J⟩:=qS Z;⟨_,(aD (lg (aK o_inS aN (ai 1)) (aJ (Ba Hu xeqD EV rfl Z.tCE.mg Z.tCE.ex I.hd)) gu) (aD (g6 (i:=2) a rfl (.inl rfl) (pY (sJ Z) I (au (pv 1) aQ))) (aJ (lg (aK (nj I.units) (av (mH BV (ai 2) gX (dR aa))) (av (dj (da1 aN)))) (aJ (hV (pv 0) (kx Y.o (I.mono a') rfl Y.d.mg Y.d.fn.kp Y.d.bd .nil CG (au (pv 2) aQ)) rfl)) (aJ (hV (pv 0) (kx J.o (I.mono a') rfl J.d.mg J.d.fn.kp J.d.bd .nil CG (au (iL (pv 0) rfl) (au (pv 2) aQ))) rfl)))))),rs_say Z.kK.cl Z.naK h⟩
def on_Ksay:∃f fd,Mth K CK "say" "Desk.say" uQ ["self","row"] f fd/\iZ P w K mg base (CXd P w) 9 f fd ["self","row"] (Ca K CK (xm CR CP CS CW CE CD CK n)):=A1 Z
def ym:YR Z.Az P w base 10 (spSd K CK CE (xm CR CP CS CW CE CD CK n)):=
 fR ["_law_desk","_law_row","_law_good","_law_told"] (λ_ _ _ _=>len_Sd) λz b Y vs Q h=>let ⟨_,_,I,J⟩:=on_Ksay Z;⟨_,(aD (g6 (i:=3) b rfl (.inl rfl) (sE aQ)) (aD (ps_bare (tb:=λE=>AS K (vC CK "say" (Ca K CK (xm CR CP CS CW CE CD CK n)) [] E (bB 0) (aP (bB 1) fw))) (t2:=AS K (tC (.int 1))) (λB' σ E d c=>at_one (at_expr (at_bm GN Hf Ho gI (pv 3) (at_meth (pv 0) Z.kK.cl I.mt J c (Y.mono a') I.bd .nil (au (pv 1) aQ))))) (λa oe=>aJ (i5 (pC GN Hf Ho gI (pv 3) (au lI aQ)))) Z.xb_CE Z.ks_CE) (aJ (g7 (jO (nj Y.units) (ai 3) (av (dj (da1 (bh gm (av (dj (da2 aa gc))) (bY c_int Z.z_int Lx (da1 (ai 2)))))))))))),rs_said (fe:=(f2 eqM (ae 3) (fL eh (a9 (f2 ixD (fL eh (a9 (fC (.int 1)) (a9 (fC .non) aB))) (fL intD (a9 (ae 2) aB))) aB)))) (by intros;rfl) (by rfl) (by rfl) h⟩
def pE:YR Z.qY P w base 2 (spM K (gn) 2):=
 fR ["_law_model","_law_cell","_law_number","_law_names","_law_name_here","_law_good","_law_at"] (λ_ _ _ _=>len_M) λz I J vs Q h=>⟨tM K [(0,d_)] [(3,b_),(0,d_)] (cJ),(cA (vw1:=[(3,b_),(0,d_)]) (PS.imp (g6 (i:=3) I rfl (by first|exact .inl rfl|exact .inr rfl) (yf lT (pv 0) lI (λ_ _=>rfl))) λ_ _ _=>rm_see (i0:=0) a' a')
  (cA (vw1:=[(3,b_),(0,d_)]) (PS.imp (g6 (i:=4) I rfl (by first|exact .inl rfl|exact .inr rfl) (dY (iN Z) J (da1 (ai 1)))) λ_ _ _=>lH a')
  (cA (vw1:=[(3,b_),(0,d_)]) (yH (PW.pt (qI (aK (nj J.units) (aw bM (ai 2) aa) aa) (ma (aK o_gt (aF gH Z.eM B_ (da1 (ai 3))) aa)))) (aJ (PS.imp (g6 (i:=4) I rfl (by first|exact .inl rfl|exact .inr rfl) (bh gm (ai 3) (aw bM (aw ee (ai 2) aa) (aF gH Z.eM B_ (da1 (ai 3)))))) λ_ _ _=>lH a')) qK)
  (cA (vw1:=[(3,b_),(0,d_)]) (PS.imp (g6 (i:=5) I rfl (by first|exact .inl rfl|exact .inr rfl) (jO (o_in J.units) (ai 4) (ai 3))) λ_ _ _=>lH a')
  (cA (vw1:=[(3,b_),(0,d_)]) (yH (jc (ai 5)) (cA (vw1:=[(3,b_),(0,d_)]) (PS.imp (g6 (i:=6) I rfl (by first|exact .inl rfl|exact .inr rfl) (md J.units (ai 3) (ai 4))) λ_ _ _=>lH a')
  (cA (vw1:=[(3,b_),(0,d_)]) (PS.imp (i5 (pC GN KQ L7 Bl (pv 3) (au (pv 6) aQ))) λ_ _ _=>rm_pop (lo_n (i:=3) a'))
  (aJ (PS.imp (i5 (pC GN KQ L7 Bl (yf lT (pv 0) lI (λ_ _=>rfl)) (au (pv 6) aQ))) λ_ _ _=>rm_pop (lo_f (i:=0) a'))))) qK)
  (aJ (tP (jd (da2 (av (aw bA aN (ai 4))) (ai 5)))))))))),EA h⟩
def oh:YR Z.pT P w base 1 (spM K (d8) 2):=
 fR ["_law_model","_law_cell","_law_number","_law_way","_law_start_here","_law_stop","_law_good"] (λ_ _ _ _=>len_M) λz I J vs Q h=>⟨tM K [(0,d_)] [(0,d_)] (aX),(cA (vw1:=[(0,d_)]) (PS.imp (g6 (i:=3) I rfl (by first|exact .inl rfl|exact .inr rfl) (aw bM (ai 2) aa)) λ_ _ _=>lH a')
  (cA (vw1:=[(0,d_)]) (yH (aK (nj J.units) (ai 3) aa) (cA (vw1:=[(0,d_)]) (PS.imp (g6 (i:=4) I rfl (by first|exact .inl rfl|exact .inr rfl) (aw bM (ai 1) aa)) λ_ _ _=>lH a')
  (cA (vw1:=[(0,d_)]) (PS.imp (g6 (i:=5) I rfl (by first|exact .inl rfl|exact .inr rfl) (av (aw bA (ai 4) (aw bM (aw ee (ai 1) aa) aa)))) λ_ _ _=>lH a')
  (cA (vw1:=[(0,d_)]) (PS.imp (g6 (i:=6) I rfl (by first|exact .inl rfl|exact .inr rfl) (vi (jO o_lt (ai 4) (ai 5)) (vg (jO o_lt (aF gH Z.eM B_ (da1 (bh gm (ai 0) aa))) aa)))) λ_ _ _=>lH a')
  (cA (vw1:=[(0,d_)]) (yH (jc (ai 6)) (aJ (PS.imp (i5 (pC GN Hf Ho gI (yf lT (pv 0) lI (λ_ _=>rfl)) (au (jd (da2 (ai 4) (ai 5))) aQ))) λ_ _ _=>EB (lo_c (i:=0) a'))) qK)
  (aJ (tP (jd (da2 (av (aw bA (av (aw bA (av (aw bA aN (bY qe Z.nP GV (da1 (ai 4))))) aN)) (bY qe Z.nP GV (da1 (ai 5))))) (ai 6))))))))) qK)
  (cA (vw1:=[(0,d_)]) (yH (PW.pt (qI (aK (nj J.units) (ai 3) aa) (ma (aK (nj J.units) (aw bM (aw ee (ai 2) aa) aa) aa)))) (cA (vw1:=[(0,d_)]) (PS.imp (i5 (pe_bm0 GN MH PySem.F.type_list_clear mt_clear (yf lT (pv 0) lI (λ_ _=>rfl)))) λ_ _ _=>rm_clr (lo_c (i:=0) a'))
  (aJ (tP (jd (da2 aN G5))))) qK)
  (cA (vw1:=[(0,d_)]) (yH (aK (nj J.units) (ai 3) aa) (aJ (tP (jd (da2 (bh gm (av (dj (da4 aN aN aN aN))) (aw bM (aw ee (ai 2) aa) aa)) G5)))) qK)
  (aJ (tP (jd (da2 (av (aw bA aN (bY qe Z.nP GV (da1 (aw bM (aw ee (ai 2) aa) aa))))) (jO o_lt (aw bM (aw ee (ai 2) aa) aa) aa))))))))),EA h⟩
def ux:YO Z.wZ P w base 1 b_ (gL):=
 fY ["_law_row","_law_cell"] λz J I=>(ax (fV (aK (nj I.units) (aw bM (ai 1) aa) aa) (ay (aM (av (aw bA (av (de_replC (i:=0))) aN)))) bX) (ay (aM (ai 0))))
def on_K:∃f fd,Mth K CK "__init__" "Desk.__init__" lE ["self","text"] f fd/\iZ P w K mg base (CXd P w) 9 f fd ["self","text"] (spDI K CK (eB CR CP CS CW CE CD CK n)):=qT Z
def on_Kshow:∃f fd,Mth K CK "sheet_text" "Desk.sheet_text" k9 ["self"] f fd/\iZ P w K mg base (CXd P w) 2 f fd ["self"] (rV K CK (rW CS "shown" (eX CR CP CS CW CE CD CK n))):=oj Z
def ok_law:YO (law_d Z.d_law) P w base 11 b_ (m_law CR CP CS CW CE CD CK n):=
 fY ["_law_script","_law_model","_law_desk","_law_cell","_law_number","_law_row","_law_good","_law_found"] λz J I=>let ⟨_,_,a,Y⟩:=on_K Z;let ⟨_,_,b,c⟩:=on_Kshow Z;(by refine ds_law80 (C:=CK) (mt:="sheet_text") ?_;refine aD ?_ ?_;exact g6 (i:=1) J rfl (by first|exact .inl rfl|exact .inr rfl) (pY (wa Z) I (au (pv 0) aQ));refine aD ?_ ?_;exact g6 (i:=2) J rfl (by first|exact .inl rfl|exact .inr rfl) (vW ⟨Z.kK.mks,a.mt.at_,a.mt.fn,Z.kK.kp⟩ Y (I.mono a') rfl Z.kK.mg a.bd .nil passN (au (dY (jJ Z) I (da1 (ai 1))) aQ));refine aD ?_ ?_;refine ES ?_ ?_ ?_ ?_ ?_;exact PassesOwn.never;exact rfl;exact(hZ (av (aw bA (av (dj (da1 aa))) (av (mH BV (ai 0) gX (dR aa))))));exact(De J);refine aD ?_ ?_;exact(g6 (i:=4) J rfl (by first|exact .inl rfl|exact .inr rfl) (aw bM (aw wg (ai 3) aa) aa));refine aD ?_ ?_;exact(lg (aK o_lt (aw bM (ai 4) aa) aa) (aJ (Bb (pY (n9 Z) I (au (pv 1) (au (pv 3) (au (pv 4) aQ)))) (ye rfl (iC (jv (i:=5) J rfl (by first|exact .inl rfl|exact .inr rfl)) (iC (jv (i:=6) J rfl (by first|exact .inl rfl|exact .inr rfl)) sC))))) (aJ (lg (PW.pt (pR (aK (nj I.units) (aw bM (ai 4) aa) aa) (m9 (aK (nj I.units) (aw bM (ai 4) aa) aa)))) (aJ (Bb (pY (pE Z) I (au (pv 1) (au (pv 3) (au (pv 4) aQ)))) (ye rfl (iC (jv (i:=5) J rfl (by first|exact .inl rfl|exact .inr rfl)) (iC (jv (i:=6) J rfl (by first|exact .inl rfl|exact .inr rfl)) sC))))) (aJ (Bb (pY (oh Z) I (au (pv 1) (au (pv 3) (au (pv 4) aQ)))) (ye rfl (iC (jv (i:=5) J rfl (by first|exact .inl rfl|exact .inr rfl)) (iC (jv (i:=6) J rfl (by first|exact .inl rfl|exact .inr rfl)) sC))))))));refine aD ?_ ?_;exact(lg (ya (rm (pY (ym Z) I (au (pv 2) (au (dY (ux Z) I (da2 (ai 5) (aw ee (ai 4) aa))) (au (pv 6) aQ)))) (λ_=>rfl))) (aJ (g7 sH)) gu);refine aD ?_ ?_;exact(g6 (i:=7) J rfl (by first|exact .inl rfl|exact .inr rfl) (vV (pv 2) Z.kK.cl b.mt c (I.mono a') b.bd .nil passN));refine aJ ?_;exact(lg (PW.pt (pw_or (ya (jc (Df Z.kit Z.iJ Z.nP (ai 7)))) (pw_or1 (zV op_ne (pv 7) (dY (jJ Z) I (da1 (ai 1))) (Bh _))))) (aJ (g7 sH)) gu);refine aJ ?_;exact(g7 sH))
end
noncomputable abbrev qh:=Int×Int
variable{p:qh}{cs:List qh}
noncomputable def stD(p:qh):A':=.tup [.int p.1,.int p.2]
@[simp]def getI_c0(a:A')(l:List A'):iW (a::l) 0=.ok a:=by simp[iW,atI,ixN,g_]
@[simp] theorem getI_c1(a b:A')(l:List A'):iW (a::b::l) 1=.ok b:=by unfold iW atI ixN;rw[g_ am,g_ (by simp<;>lia)];rfl
@[simp] theorem getI_c2(a b c:A')(l:List A'):iW (a::b::c::l) 2=.ok c:=by unfold iW atI ixN;rw[g_ am,g_ (by simp<;>lia)];rfl
@[simp] theorem getI_c4(a b c d e:A')(l:List A'):iW (a::b::c::d::e::l) 4=.ok e:=by unfold iW atI ixN;rw[g_ am,g_ (by simp<;>lia)];rfl
section
variable(CR CP CS CW CE CD CK:f_)
noncomputable def pk(r:ca):A':=.lst (r.map .int)
def aO(rows:List ca):A':=.lst (rows.map pk)
def xi(k:Nat)(r:ca):Prop:=r.length=k/\∀x∈r,0<=x/\x<=1000000
def bR(k:Nat)(rows:List ca):Prop:=rows.length=k/\∀r∈rows,xi k r
def Cn{lo:Int}{m i:Nat}{d:A'}(h:(d6 lo m)[i]?=a_ d):i<m/\d=.int (lo+i):=by unfold d6 at h;rw[HQ]at h;obtain⟨a,h1,h2⟩:=Option.map_eq_some_iff.mp h;have hi:=(A_.mp h1).1;rw[Nv]at hi;rw[M1 hi]at h1;cases h1;exact⟨hi,h2.symm⟩
def Co{m i:Nat}{d:A'}(h:(d6 0 m)[i]?=a_ d):i<m/\d=.int i:=by obtain⟨h1,h2⟩:=Cn h;exact⟨h1,by rw[h2,Int.zero_add]⟩
def pq(lo:Int)(m:Nat):(d6 lo m).length=m:=by simp[d6]
end
section
variable(CR CP CS CW CE CD CK:f_)
def yv(n:Nat)(x:Int)(I:0<=x)(h1:x<=1000000):gK [.int x]=.ok (.bl d_):=by simp[gK,rD,my,I,h1]
theorem wu(n:Nat)(k:Nat)(r:ca)(a:k<=6)(h:xi k r):gE [pk r,.int k]=.ok (.bl d_):=by
 have Y:r.length<=16777216:=by have:=h.1;lia
 have I:k<=16777216:=am
 have e:bu (.nm 0) ir (fL (gK) (a9 (ae 0) aB)) [c_] (r.map .int)=.ok ((r.map λ_=>d_).map A'.bl):=by
  have:=oP (p:=.nm 0) (fe:=fL (gK) (a9 (ae 0) aB)) (ρ0:=[c_]) (λ_=>.bl d_) (r.map .int) (λd hd=>by obtain⟨x,J,rfl⟩:=GZ.mp hd;exact⟨[a_ (.int x)],a8,by simp[yv n x (h.2 x J).1 (h.2 x J).2]⟩)
  rw[this,s_,s_];rfl
 simp[gE,qD,pk,e,Y,I,h.1,-s_]
theorem tZ(n:Nat)(rows:List ca)(Y:rows.length<=1000):eQ [aO rows]=.ok (aO rows):=by
 have I:rows.length<=16777216:=am
 have e:bu (.nm 0) ir (fL Fp (a9 (ae 0) aB)) [c_] (rows.map pk)=.ok (rows.map pk):=by
  have:=oP (p:=.nm 0) (fe:=fL Fp (a9 (ae 0) aB)) (ρ0:=[c_]) id (rows.map pk) (λd hd=>by obtain⟨x,J,rfl⟩:=GZ.mp hd;simp[pk])
  rw[this,MJ]
 simp[eQ,oB,aO,e,I]
theorem q9(n:Nat)(k:Nat)(rows:List ca)(h1:1<=k)(Y:k<=6)(h:bR k rows):aI [aO rows]=.ok (aO rows):=by
 have I:rows.length<=16777216:=by have:=h.1;lia
 have e:bu (.nm 0) ir (fL (gE) (a9 (ae 0) (a9 (ae 1) aB))) [c_,a_ (.int rows.length)] (rows.map pk)=.ok ((rows.map λ_=>d_).map A'.bl):=by
  have:=oP (p:=.nm 0) (fe:=fL (gE) (a9 (ae 0) (a9 (ae 1) aB))) (ρ0:=[c_,a_ (.int rows.length)]) (λ_=>.bl d_) (rows.map pk) (λd hd=>by obtain⟨x,J,rfl⟩:=GZ.mp hd;exact⟨[a_ (pk x),a_ (.int rows.length)],a8,by simp[h.1,wu n k x Y (h.2 x J)]⟩)
  rw[this,s_,s_];rfl
 have b:(1:Int)<=rows.length:=by have:=h.1;lia
 have a:(rows.length:Int)<=6:=by have:=h.1;lia
 have e3:=tZ n rows (by have:=h.1;lia);simp only[aO]at e3;simp[aI,mU,kZ,kY,aO,e,e3,I,b,a,-s_]
def qk(rows:List ca):A'->A'
 |.non=>.ins CR [("gaps",aO rows)]|o=>.ins CP [("gaps",aO rows),("beside",o)]
def gaps_at(rows:List ca)(o:A')(J:o=.non\/∃I,o=aO I):bx [CR,CP] "gaps" (qk CR CP rows o)=.ok (aO rows):=by
 have h1:((("gaps":i_)==("gaps":i_))=d_):=by decide +kernel
 rcases J with rfl|⟨I,rfl⟩
 .show(if ([CR,CP].contains CR)=d_ then(match H_ ("gaps":i_) [(("gaps":i_),aO rows)]with|some d=>Hb d|none=>stk)else stk)=_;rw[g_ a8,y_,h1]
 .show(if ([CR,CP].contains CP)=d_ then(match H_ ("gaps":i_) [(("gaps":i_),aO rows),(("beside":i_),aO I)]with|some d=>Hb d|none=>stk)else stk)=_;rw[g_ a8,y_,h1]
end
structure Fli where
 kind:Int
 first:Int
 last:Int
 due:Int
 price:Int
variable{f:Fli}{nf:List (i_×Fli)}
def flD(f:Fli):A':=.tup [.int f.kind,.int f.first,.int f.last,.int f.due,.int f.price]structure GoodFl (k:Nat) (f:Fli):Prop where
 k0:0<=f.kind
 k1:f.kind<k
 f0:0<=f.first
 f1:f.first<=f.last
 l1:f.last<=1000000000
 d0:0<=f.due
 d1:f.due<=1000000000
 p0:0<=f.price
 p1:f.price<=1000000000
theorem dZ{α:Type}{p:Pat}{fe:ah->M A'}{ρ0:ah}(g f:α->A'):∀(L:List α),(∀x∈L,∃ρ,mJ p (g x) ρ0=.ok ρ/\fe ρ=.ok (f x))->bu p ir fe ρ0 (L.map g)=.ok (L.map f)
 |[],_=>rfl|d::ds,h=>by obtain⟨ρ,e1,e2⟩:=h d a8;rw[GJ,bu,e1];simp only[aq,ir,e2,dZ g f ds λx I=>h x (by simp[I])];simp
theorem n6(lo:Int)(m:Nat):d6 lo (m+1)=.int lo::d6 (lo+1) m:=by
 unfold d6;rw[Mp,GJ,s_]
 congr 1
 .simp
 .refine HN λk _=>?_;lia
def bC(a b c:i_):a++b++c=a++(b++c):=by
 show(⟨(a.cps++b.cps)++c.cps⟩:i_)=⟨a.cps++(b.cps++c.cps)⟩
 rw[M5]
def rh(a:i_):a++(Ip:i_)=a:=by rfl
def mm(a:i_):(Ip:i_)++a=a:=by show(⟨#[]++a.cps⟩:i_)=a;simp
def ku(a b:i_):(a++b).length=a.length+b.length:=strLen_append a b
def cat:bv->i_
 |[]=>Ip|x::xs=>x++cat xs
theorem wq:∀xs:bv,Gz "" xs=cat xs
 |[]=>rfl|[x]=>by rfl|x::y::xs=>by rw[cat,<- wq (y::xs)];rfl
def lenLe(xs:bv)(B:Nat)(h:∀x∈xs,x.length<=B):(xs.map (·.length)).sum<=xs.length*B:=StrLaws.sumLen_le xs h
def str_len(h:i.natAbs<10^10):(aL i).length<=11:=by unfold aL;rw[PySem.ofString_length];exact int_text_length_le10 (k:=10) a' h
def gr(h:i.natAbs<10^10):i.natAbs.log2<1920:=by
 by_cases I:i.natAbs=0
 .rw[I];decide
 .exact(Nat.log2_lt I).mpr (GA h (Ha (show 10^10<=2^34 by decide) (Nat.pow_le_pow_right a' a')))
noncomputable def SP:i_:=" "
noncomputable def NLs:i_:="\n"
noncomputable def cb(k:i_):i_:="kind "++k
def hX(w k o:i_)(g:Int):i_:=w++SP++k++SP++o++SP++aL g
def bo(p:qh):i_:="closed "++aL p.1++SP++aL p.2
noncomputable def kAt(ks:bv)(i:Int):i_:=ks.getD i.toNat ""
def aG(ks:bv)(p:i_×Fli):i_:="flight"++SP++p.1++SP++kAt ks p.2.kind++SP++aL p.2.first++SP++aL p.2.last++SP++aL p.2.due++SP++aL p.2.price
def b8(w:i_)(I:Int)(k:i_):bv->ca->bv
 |o::ks,g::r=>(if I<=g then [hX w k o g]else [])++b8 w I k ks r
 |_,_=>[]
def aT(w:i_)(I:Int)(ks:bv):bv->List ca->bv
 |k::l,r::rows=>b8 w I k ks r++aT w I ks l rows|_,_=>[]
def qg(ks:bv):Option (List ca)->bv
 |some r2=>aT "beside" 0 ks ks r2|none=>[]
def rowsOf(ks:bv)(rows:List ca)(o:Option (List ca))(ns:List (i_×Fli))(cs:List qh):bv:=
 ks.map cb++aT "gap" 1 ks ks rows++qg ks o++cs.map bo++ns.map (aG ks)
def textOf(rs:bv):i_:=cat (rs.map (·++NLs))
def sZ(ρ:ah)(I:i_):qV [] ρ I=.ok I:=rfl
def cg(f:ah->M A')(fs:List (ah->M A'))(ρ:ah)(I z:i_)(h:f ρ=.ok (.str z))(Y:I.length+z.length<=16777216):qV (f::fs) ρ I=qV fs ρ (I++z):=by
 have J:(I++z).length<=j_:=by rw[ku,Hr];exact Y
 show(f ρ).bind _=_;rw[h];show(if (I++z).length<=j_ then qV fs ρ (I++z)else stk)=_;rw[g_ J]
theorem fmt_s(h:z.length<=16777216):pN (.str z)=.ok (.str z):=by simp_all
def fmt_i(h:i.natAbs<10^10):pN (.int i)=.ok (.str (aL i)):=by rw[e_fmtI,g_ (gr h)]
theorem Fs(ks:bv)(J:∀k∈ks,k.length<=100):bu (.nm 0) ir (fJ [(fC (.str "kind ")),(f1 pN (ae 0))]) [c_] (ks.map .str)=.ok ((ks.map cb).map .str):=by
 rw[s_];refine dZ _ _ ks λk I=>⟨[a_ (.str k)],rfl,?_⟩
 have h:=J k I;have e5:(e_ "kind ").length=5:=by decide +kernel
 unfold fJ;rw[cg _ _ _ _ (e_ "kind ") rfl (by rw[e5];show 0+5<=_;decide),mm,cg _ _ _ _ k (by show(pN (.str k))=_;exact fmt_s am) (by rw[e5];lia),sZ];rfl
theorem Bu{w k:i_}{g:Int}(ρ:ah)(hw:w.length<=100)(h:k.length<=100)(f:o.length<=100)(J:g.natAbs<10^10)(e0:ae 0 ρ=.ok (.str w))(e5:ae 5 ρ=.ok (.str k))(d:ae 7 ρ=.ok (.str o))(c:ae 8 ρ=.ok (.int g)):
  fJ [(f1 pN (ae 0)),(fC (.str " ")),(f1 pN (ae 5)),(fC (.str " ")),(f1 pN (ae 7)),(fC (.str " ")),(f1 pN (ae 8))] ρ=.ok (.str (hX w k o g))/\(hX w k o g).length<=400:=by
 have I:(e_ " ").length=1:=by decide +kernel
 have es:=str_len J;have b:f1 pN (ae 0) ρ=.ok (.str w):=by unfold f1;rw[e0];exact fmt_s am
 have f5:f1 pN (ae 5) ρ=.ok (.str k):=by unfold f1;rw[e5];exact fmt_s am
 have a:f1 pN (ae 7) ρ=.ok (.str o):=by unfold f1;rw[d];exact fmt_s am
 have Y:f1 pN (ae 8) ρ=.ok (.str (aL g)):=by unfold f1;rw[c];exact fmt_i J
 have e:Ip.length=0:=rfl;refine⟨?_,by unfold hX SP;simp only[ku,I];lia⟩
 unfold fJ;rw[cg _ _ _ _ w b am,mm,cg _ _ _ _ (e_ " ") rfl am,cg _ _ _ _ k f5 (by simp only[ku,I];lia),cg _ _ _ _ (e_ " ") rfl (by simp only[ku,I];lia),cg _ _ _ _ o a (by simp only[ku,I];lia),cg _ _ _ _ (e_ " ") rfl (by simp only[ku,I];lia),cg _ _ _ _ (aL g) Y (by simp only[ku,I];lia),sZ];rfl
section
variable(CR CP CS CW CE CD CK:f_)
theorem Ae(n:Nat){w k:i_}(hw:w.length<=100)(m:k.length<=100)(I:Int)(b a Y:Option A'):∀(os:bv) (r:ca) (J:bv) (e d:Option A'),(∀o∈os,o.length<=100)->(∀g∈r,g.natAbs<10^10)->J.length+os.length<=10000->∃h f,
  kq (.tp [7,8]) (dP) (qN (os.map .str) (r.map .int)) [a_ (.str w),b,a,a_ (.int I),a_ (.lst (J.map .str)),a_ (.str k),Y,e,d]=.ok (.nx [a_ (.str w),b,a,a_ (.int I),a_ (.lst ((J++b8 w I k os r).map .str)),a_ (.str k),Y,h,f])
 |[],r,J,e,d,_,_,_=>⟨e,d,by simp[qN,kq,b8]⟩|o::os,[],J,e,d,_,_,_=>⟨e,d,by simp[qN,kq,b8]⟩|o::os,g::r,J,e,d,l,j,s=>by
  obtain⟨e1,e2⟩:=Bu (w:=w) (k:=k) (o:=o) (g:=g) [a_ (.str w),b,a,a_ (.int I),a_ (.lst (J.map .str)),a_ (.str k),Y,a_ (.str o),a_ (.int g)] hw m (l o a8) (j g a8) rfl rfl rfl rfl;have i:J.length<16777216:=by simp at s;lia
  have u:=Bu (w:=w) (k:=k) (o:=o) (g:=g) [a_ (.str w),b,a,a_ (.int I),c_,a_ (.str k),Y,a_ (.str o),a_ (.int g)] hw m (l o a8) (j g a8) rfl rfl rfl rfl;by_cases p:I<=g
  .have t:dP [a_ (.str w),b,a,a_ (.int I),a_ (.lst (J.map .str)),a_ (.str k),Y,a_ (.str o),a_ (.int g)]=.ok (.nx [a_ (.str w),b,a,a_ (.int I),a_ (.lst ((J++[hX w k o g]).map .str)),a_ (.str k),Y,a_ (.str o),a_ (.int g)]):=by
    simp[dP,jW,p,u.1,e1,i]
   obtain⟨h,f,q⟩:=Ae n hw m I b a Y os r (J++[hX w k o g]) (a_ (.str o)) (a_ (.int g)) (λx c=>l x (by simp[c])) (λx c=>j x (by simp[c])) (by simp at s ⊢;lia);refine⟨h,f,?_⟩
   rw[b8,g_ p,<- Hl,<- q];simp[qN,kq,t]
  .have t:dP [a_ (.str w),b,a,a_ (.int I),a_ (.lst (J.map .str)),a_ (.str k),Y,a_ (.str o),a_ (.int g)]=.ok (.nx [a_ (.str w),b,a,a_ (.int I),a_ (.lst (J.map .str)),a_ (.str k),Y,a_ (.str o),a_ (.int g)]):=by
    simp[dP,jW,p]
   obtain⟨h,f,q⟩:=Ae n hw m I b a Y os r J (a_ (.str o)) (a_ (.int g)) (λx c=>l x (by simp[c])) (λx c=>j x (by simp[c])) (by simp at s ⊢;lia);refine⟨h,f,?_⟩
   rw[b8,k_ p,JP,<- q];simp[qN,kq,t]
theorem jl(w:i_)(I:Int)(k:i_):∀(os:bv) (r:ca),(b8 w I k os r).length<=os.length
 |[],_=>by simp[b8]|_::_,[]=>by simp[b8]|o::os,g::r=>by rw[b8,Gx,Gy];have:=jl w I k os r;split<;>simp<;>lia
theorem Bt(n:Nat){w:i_}(hw:w.length<=100)(ks:bv)(f:∀k∈ks,k.length<=100)(A:ks.length<=6)(I:Int)(d:Option A'):∀(l:bv) (rows:List ca) (J:bv) (c b a Y:Option A'),(∀k∈l,k.length<=100)->(∀r∈rows,∀g∈r,g.natAbs<10^10)->J.length+6*l.length<=9000->∃s q i h,
  kq (.tp [5,6]) (iH) (qN (l.map .str) (rows.map pk)) [a_ (.str w),a_ (.lst (ks.map .str)),d,a_ (.int I),a_ (.lst (J.map .str)),c,b,a,Y]=.ok (.nx [a_ (.str w),a_ (.lst (ks.map .str)),d,a_ (.int I),a_ (.lst ((J++aT w I ks l rows).map .str)),s,q,i,h])
 |[],rows,J,c,b,a,Y,_,_,_=>⟨c,b,a,Y,by simp[qN,kq,aT]⟩|k::l,[],J,c,b,a,Y,_,_,_=>⟨c,b,a,Y,by simp[qN,kq,aT]⟩|k::l,r::rows,J,c,b,a,Y,p,m,B=>by
  obtain⟨i,h,e⟩:=Ae n hw (p k a8) I (a_ (.lst (ks.map .str))) d (a_ (pk r)) ks r J a Y f (m r a8) am;have o:=jl w I k ks r;have C:iH [a_ (.str w),a_ (.lst (ks.map .str)),d,a_ (.int I),a_ (.lst (J.map .str)),a_ (.str k),a_ (pk r),a,Y]=.ok (.nx [a_ (.str w),a_ (.lst (ks.map .str)),d,a_ (.int I),a_ (.lst ((J++b8 w I k ks r).map .str)),a_ (.str k),a_ (pk r),i,h]):=by unfold iH;rw[<- e];simp[pk,mS]
  obtain⟨y,v,u,t,z⟩:=Bt n hw ks f A I d l rows (J++b8 w I k ks r) (a_ (.str k)) (a_ (pk r)) i h (λx j=>p x (by simp[j])) (λx j=>m x (by simp[j])) (by simp at B ⊢;lia);refine⟨y,v,u,t,?_⟩
  rw[aT,<- Hl,<- z];simp[qN,kq,C]
theorem nY(n:Nat){w:i_}(hw:w.length<=100)(ks:bv)(J:∀k∈ks,k.length<=100)(a:ks.length<=6)(I:Int)(rows:List ca)(Y:∀r∈rows,∀g∈r,g.natAbs<10^10):
  iP [.str w,.lst (ks.map .str),aO rows,.int I]=.ok (.lst ((aT w I ks ks rows).map .str)):=by
 obtain⟨f,d,c,b,e⟩:=Bt n hw ks J a I (a_ (aO rows)) ks rows [] c_ c_ c_ c_ J Y (by simp;lia);simp only[JW,JP]at e;simp[iP,qB,aO,mS]at e ⊢;simp[e]
end
theorem sget(J:0<=i)(h1:i<ks.length):iW (ks.map .str) i=.ok (.str (kAt ks i))/\kAt ks i∈ks:=by
 obtain⟨j,rfl⟩:∃j:Nat,i=j:=⟨i.toNat,am⟩
 have I:j<ks.length:=am
 have e:kAt ks (j:Int)=ks[j]:=by unfold kAt;simp[I]
 refine⟨?_,by rw[e];exact Hj I⟩
 rw[e];unfold iW atI ixN;rw[g_ am,g_ (by simp<;>lia)];simp[I]
structure BFl(k:Nat)(f:Fli):Prop where
 k0:0<=f.kind
 k1:f.kind<k
 a:f.first.natAbs<10^10
 b:f.last.natAbs<10^10
 c:f.due.natAbs<10^10
 d:f.price.natAbs<10^10
theorem kJ{nm:i_}(b:nm.length<=100)(J:∀k∈ks,k.length<=100)(I:BFl ks.length f):(aG ks (nm,f)).length<=400:=by
 have Y:(e_ " ").length=1:=by decide +kernel
 have a:(e_ "flight").length=6:=by decide +kernel
 have h1:=str_len I.a;have h2:=str_len I.b;have e:=str_len I.c;have d:=str_len I.d;have c:=J _ (sget I.k0 I.k1).2;unfold aG SP;simp only[ku,Y,a];lia
section
variable(CR CP CS CW CE CD CK:f_)
theorem lC(n:Nat){nm:i_}(p:ks.length<=6)(o:nm.length<=100)(Y:∀k∈ks,k.length<=100)(I:BFl ks.length f):cP [.lst (ks.map .str),.str nm,flD f]=.ok (.str (aG ks (nm,f))):=by
 have g:(e_ " ").length=1:=by decide +kernel
 have i:(e_ "flight").length=6:=by decide +kernel
 have h1:=str_len I.a;have h2:=str_len I.b;have s:=str_len I.c;have r:=str_len I.d;obtain⟨e0,J⟩:=sget I.k0 I.k1;have q:=Y _ J;have e:=gr I.a;have d:=gr I.b;have c:=gr I.c;have b:=gr I.d;have h:Gz (e_ " ") [e_ "flight",nm,kAt ks f.kind,aL f.first,aL f.last,aL f.due,aL f.price]=aG ks (nm,f):=by unfold aG SP;simp only[Gz,bC]
 have m:6+(nm.length+((kAt ks f.kind).length+((aL f.first).length+((aL f.last).length+((aL f.due).length+((aL f.price).length+0))))))+7*1<=16777216:=am
 have a:dB (.tup [.int f.kind,.int f.first,.int f.last,.int f.due,.int f.price]) (a_ 1) c_=.ok (.tup [.int f.first,.int f.last,.int f.due,.int f.price]):=rfl;have j:bu (.nm 0) ir (fL ud (a9 (ae 0) aB)) [c_] [.int f.first,.int f.last,.int f.due,.int f.price]=.ok [.str (aL f.first),.str (aL f.last),.str (aL f.due),.str (aL f.price)]:=by simp[bu,e,d,c,b]
 have l:bZ (.lst [.str (e_ "flight"),.str nm,.str (kAt ks f.kind)]) (.lst [.str (aL f.first),.str (aL f.last),.str (aL f.due),.str (aL f.price)])=.ok (.lst [.str (e_ "flight"),.str nm,.str (kAt ks f.kind),.str (aL f.first),.str (aL f.last),.str (aL f.due),.str (aL f.price)]):=by simp[bZ,Hr]
 simp[cP,jS,flD,e0,a,j,l,h,g,i];rw[g_]
 .rfl
 .lia
end
theorem AD(cs:List qh)(h:∀p∈cs,p.1.natAbs<10^10/\p.2.natAbs<10^10):bu (.tp [0,1]) ir (fJ [(fC (.str "closed ")),(f1 pN (ae 0)),(fC (.str " ")),(f1 pN (ae 1))]) [c_,c_] (cs.map stD)=.ok ((cs.map bo).map .str):=by
 rw[s_];refine dZ _ _ cs λp I=>⟨[a_ (.int p.1),a_ (.int p.2)],rfl,?_⟩
 obtain⟨h1,h2⟩:=h p I;have e1:(e_ "closed ").length=7:=by decide +kernel
 have e2:(e_ " ").length=1:=by decide +kernel
 have a:=str_len h1;have Y:=str_len h2;have J:Ip.length=0:=rfl;unfold fJ;rw[cg _ _ _ _ (e_ "closed ") rfl am,mm,cg _ _ _ _ (aL p.1) (fmt_i h1) am,cg _ _ _ _ (e_ " ") rfl (by simp only[ku];lia),cg _ _ _ _ (aL p.2) (fmt_i h2) (by simp only[ku];lia),sZ];rfl
theorem oQ(h:p.1.natAbs<10^10/\p.2.natAbs<10^10):(bo p).length<=400:=by
 have e1:(e_ "closed ").length=7:=by decide +kernel
 have e2:(e_ " ").length=1:=by decide +kernel
 have J:=str_len h.1;have I:=str_len h.2;unfold bo SP;simp only[ku];lia
theorem sX{k:i_}(h:k.length<=100):(cb k).length<=400:=by
 have e1:(e_ "kind ").length=5:=by decide +kernel
 unfold cb;simp only[ku];lia
theorem v9{w k:i_}{g:Int}(hw:w.length<=100)(a:k.length<=100)(Y:o.length<=100)(I:g.natAbs<10^10):(hX w k o g).length<=400:=by
 have J:(e_ " ").length=1:=by decide +kernel
 have es:=str_len I;unfold hX SP;simp only[ku,J];lia
theorem oy{w:i_}{I:Int}{k:i_}(hw:w.length<=100)(b:k.length<=100):∀(os:bv) (r:ca),(∀o∈os,o.length<=100)->(∀g∈r,g.natAbs<10^10)->∀x∈b8 w I k os r,x.length<=400
 |[],_,_,_,x,h=>by simp[b8]at h|_::_,[],_,_,x,h=>by simp[b8]at h|o::os,g::r,a,Y,x,h=>by
  rw[b8,GO]at h;rcases h with h|h
  .split at h
   .rw[GK]at h;rw[h];exact v9 hw b (a o a8) (Y g a8)
   .cases h
  .exact oy hw b os r (λy J=>a y (by simp[J])) (λy J=>Y y (by simp[J])) x h
theorem nA{w:i_}{I:Int}{ks:bv}(hw:w.length<=100)(J:∀k∈ks,k.length<=100):∀(l:bv) (rows:List ca),(∀k∈l,k.length<=100)->(∀r∈rows,∀g∈r,g.natAbs<10^10)->∀x∈aT w I ks l rows,x.length<=400
 |[],_,_,_,x,h=>by simp[aT]at h|_::_,[],_,_,x,h=>by simp[aT]at h|k::l,r::rows,b,a,x,h=>by
  rw[aT,GO]at h;rcases h with h|h
  .exact oy hw (b k a8) ks r J (a r a8) x h
  .exact nA hw J l rows (λy Y=>b y (by simp[Y])) (λy Y=>a y (by simp[Y])) x h
theorem nB(w:i_)(I:Int)(ks:bv):∀(l:bv) (rows:List ca),(aT w I ks l rows).length<=l.length*ks.length
 |[],_=>by simp[aT]|_::_,[]=>by simp[aT]|k::l,r::rows=>by rw[aT,Gx,Gy,Nat.succ_mul];have h1:=jl w I k ks r;have h2:=nB w I ks l rows;lia
structure Sht where
 ks:bv
 rows:List ca
 o:Option (List ca)
 nf:List (i_×Fli)
 cs:List qh
structure Sht.Good(w:Sht):Prop where
 k1:1<=w.ks.length
 k6:w.ks.length<=6
 kl:∀k∈w.ks,k.length<=100
 rows:bR w.ks.length w.rows
 o:∀r2,w.o=a_ r2->bR w.ks.length r2
 nm:w.nf.length<=40
 nl:∀p∈w.nf,p.1.length<=100/\BFl w.ks.length p.2
 cm:w.cs.length<=20
 cl:∀p∈w.cs,p.1.natAbs<10^10/\p.2.natAbs<10^10
noncomputable def Sht.kD(w:Sht):A':=.lst (w.ks.map .str)
def Sht.bD(w:Sht):A':=match w.o with
 |some r2=>aO r2|none=>.non
noncomputable def Sht.nD(w:Sht):A':=.lst ((w.nf.map (·.1)).map .str)
def Sht.fD(w:Sht):A':=.lst ((w.nf.map (·.2)).map flD)
def Sht.cD(w:Sht):A':=.lst (w.cs.map stD)
def Sht.rs(w:Sht):bv:=rowsOf w.ks w.rows w.o w.nf w.cs
def Sht.tx(w:Sht):i_:=textOf w.rs
theorem bR.nat(h:bR k rows):∀r∈rows,∀g∈r,g.natAbs<10^10:=λr I g J=>by
 have:=(h.2 r I).2 g J;have e:(10:Nat)^10=10000000000:=by decide
 lia
def lgap:(e_ "gap").length<=100:=by decide +kernel
def lbes:(e_ "beside").length<=100:=by decide +kernel
def Sht.Good.se{w:Sht}(h:w.Good):∀x∈w.rs,x.length<=400:=λx I=>by
 unfold Sht.rs rowsOf at I;simp only[GO]at I;rcases I with(((I|I)|I)|I)|I
 .obtain⟨k,a,rfl⟩:=GZ.mp I;exact sX (h.kl k a)
 .exact nA lgap h.kl w.ks w.rows h.kl h.rows.nat x I
 .cases Y:w.o with
  |none=>rw[Y]at I;cases(show x∈([]:bv)from I)|some r2=>rw[Y]at I;exact nA lbes h.kl w.ks r2 h.kl (h.o r2 Y).nat x I
 .obtain⟨p,J,rfl⟩:=GZ.mp I;exact oQ (h.cl p J)
 .obtain⟨p,J,rfl⟩:=GZ.mp I;exact kJ (h.nl p J).1 h.kl (h.nl p J).2
theorem Sht.Good.B2{w:Sht}(h:w.Good):w.rs.length<=200:=by
 unfold Sht.rs rowsOf;simp only[Gx,w_];have h1:=nB "gap" 1 w.ks w.ks w.rows;have h2:(qg w.ks w.o).length<=w.ks.length*w.ks.length:=by
  cases w.o with
  |none=>simp[qg]|some r2=>exact nB _ _ _ _ _
 have I:=h.k6;have a:=Nat.mul_le_mul I I;have Y:=h.nm;have J:=h.cm;lia
theorem jt:∀xs:bv,k8 (xs.map .str)=.ok xs
 |[]=>rfl|x::xs=>by rw[GJ,e_strs1,jt xs];rfl
def Fc:NLs.length=1:=by decide +kernel
theorem Fd(rs:bv)(h:∀r∈rs,r.length<=400):bu (.nm 0) ir (f2 bZ (ae 0) (fC (.str "\n"))) [c_] (rs.map .str)=.ok ((rs.map (·++NLs)).map .str):=by
 rw[s_];refine dZ _ _ rs λr I=>⟨[a_ (.str r)],rfl,?_⟩
 have h1:=h r I;have h2:r.length+(e_ "\n").length<=j_:=by have:(e_ "\n").length=1:=Fc;rw[Hr];lia
 show bZ (.str r) (.str "\n")=_;unfold bZ;simp only;rw[g_ h2];rfl
theorem DO:∀nf:List (i_×Fli),qN ((nf.map (·.1)).map .str) ((nf.map (·.2)).map flD)=nf.map λp=>A'.tup [.str p.1,flD p.2]
 |[]=>rfl|p::nf=>by simp only[GJ,qN,DO nf]
section
variable(CR CP CS CW CE CD CK:f_)
def fl_comp(n:Nat)(Y:ks.length<=6)(I:∀k∈ks,k.length<=100)(nf:List (i_×Fli))(h:∀p∈nf,p.1.length<=100/\BFl ks.length p.2):
  bu (.tp [0,1]) ir (fL (cP) (a9 (ae 2) (a9 (ae 0) (a9 (ae 1) aB)))) [c_,c_,a_ (.lst (ks.map .str))] (nf.map λp=>A'.tup [.str p.1,flD p.2])=.ok ((nf.map (aG ks)).map .str):=by
 rw[s_];refine dZ _ _ nf λp J=>⟨[a_ (.str p.1),a_ (flD p.2),a_ (.lst (ks.map .str))],rfl,?_⟩
 obtain⟨h1,h2⟩:=h p J;have e:=lC n Y h1 I h2;show(cP [.lst (ks.map .str),.str p.1,flD p.2])=_;rw[e];rfl
def bes_at(rows r2:List ca):bx [CP] "beside" (qk CR CP rows (aO r2))=.ok (aO r2):=by
 have h1:((("beside":i_)==("gaps":i_))=b_):=by decide +kernel
 have h2:((("beside":i_)==("beside":i_))=d_):=by decide +kernel
 show(if ([CP].contains CP)=d_ then(match H_ ("beside":i_) [(("gaps":i_),aO rows),(("beside":i_),aO r2)]with|some d=>Hb d|none=>stk)else stk)=_;rw[g_ a8,y_,h1,y_,h2]
def Sht.ru(w:Sht):A':=qk CR CP w.rows w.bD
def Sht.bD_or(w:Sht):w.bD=.non\/∃r2,w.bD=aO r2:=by
 unfold Sht.bD;cases w.o with
 |none=>exact .inl rfl|some r2=>exact .inr ⟨r2,rfl⟩
theorem Af(n:Nat){w:Sht}(h:w.Good):bz CR CP CS CW CE CD CK n [w.ru CR CP]=.ok (aO w.rows):=by have e1:=gaps_at CR CP w.rows w.bD w.bD_or;have e2:=tZ n w.rows (by have:=h.rows.1;have:=h.k6;lia);simp[bz,kW,Sht.ru,e1,e2]
theorem AG(n:Nat){w:Sht}(h:w.Good)(I:w.o=a_ r2):cM CR CP CS CW CE CD CK n [w.ru CR CP]=.ok (aO r2):=by
 have e2:=tZ n r2 (by have:=(h.o r2 I).1;have:=h.k6;lia);have J:w.bD=aO r2:=by unfold Sht.bD;rw[I]
 have e1:=bes_at CR CP w.rows r2;simp[cM,jM,Sht.ru,J,e1,e2]
end
section
variable(CR CP CS CW CE CD CK:f_)
def ru_meth(I:CR≠CP)(w:Sht)(m:i_)(h1:(m==("gaps":i_))=b_)(h2:(m==("beside":i_))=b_)(g g2:List A'->M A')(fo:ah->M A')(ρ:ah)(e:fo ρ=.ok (w.ru CR CP)):
  mV CR CP m g g2 fo aB ρ=if w.o.isSome=d_ then g2 [w.ru CR CP]else g [w.ru CR CP]:=by
 unfold mV;rw[e];unfold Sht.ru Sht.bD;have J:(CP==CR)=b_:=by simp;exact λz=>I z.symm
 cases w.o with
 |none=>
  show(if isC CR m (.ins CR [("gaps",aO w.rows)])=d_ then _ else _)=_;have:isC CR m (.ins CR [("gaps",aO w.rows)])=d_:=by show((CR==CR)&&(H_ m [(("gaps":i_),aO w.rows)]).isNone)=d_;rw[y_,h1];simp
  rw[g_ this];rfl
 |some r2=>
  show(if isC CR m (.ins CP [("gaps",aO w.rows),("beside",aO r2)])=d_ then _ else if isC CP m (.ins CP [("gaps",aO w.rows),("beside",aO r2)])=d_ then _ else _)=_;have a:isC CR m (.ins CP [("gaps",aO w.rows),("beside",aO r2)])=b_:=by show((CP==CR)&&_)=b_;rw[J];rfl
  have Y:isC CP m (.ins CP [("gaps",aO w.rows),("beside",aO r2)])=d_:=by show((CP==CP)&&(H_ m [(("gaps":i_),aO w.rows),(("beside":i_),aO r2)]).isNone)=d_;rw[y_,h1,y_,h2];simp
  rw[a,k_ a',g_ Y];rfl
def ru_gap(I:CR≠CP)(n:Nat){w:Sht}(h:w.Good)(fo:ah->M A')(ρ:ah)(e:fo ρ=.ok (w.ru CR CP)):mV CR CP "gap_rows" (bz CR CP CS CW CE CD CK n) (bz CR CP CS CW CE CD CK n) fo aB ρ=.ok (aO w.rows):=by rw[ru_meth CR CP I w "gap_rows" dkK dkK _ _ fo ρ e,Af CR CP CS CW CE CD CK n h];split<;>rfl
def ru_bes(n:Nat){w:Sht}(h:w.Good)(I:w.o=a_ r2)(fo:ah->M A')(ρ:ah)(e:fo ρ=.ok (w.ru CR CP)):m7 CP "beside_rows" (cM CR CP CS CW CE CD CK n) fo aB ρ=.ok (aO r2):=by
 have a:=AG CR CP CS CW CE CD CK n h I;unfold m7;rw[e];have Y:w.ru CR CP=.ins CP [("gaps",aO w.rows),("beside",aO r2)]:=by unfold Sht.ru Sht.bD;rw[I];rfl
 have J:isC CP "beside_rows" (w.ru CR CP)=d_:=by rw[Y];show((CP==CP)&&(H_ ("beside_rows":i_) [(("gaps":i_),aO w.rows),(("beside":i_),aO r2)]).isNone)=d_;rw[y_,show(("beside_rows":i_)==("gaps":i_))=b_ by rfl,y_,show(("beside_rows":i_)==("beside":i_))=b_ by rfl];simp
 show(if isC CP "beside_rows" (w.ru CR CP)=d_ then _ else _)=_;rw[g_ J];exact a
def ru_isi(I:CR≠CP)(w:Sht):isiC [(CR,b_),(CP,d_)] (w.ru CR CP)=.ok (.bl w.o.isSome):=by
 unfold Sht.ru Sht.bD;have J:(CP==CR)=b_:=by simp;exact λz=>I z.symm
 cases w.o with
 |none=>show(match H_ CR [(CR,b_),(CP,d_)]with|some b=>Hb (A'.bl b)|none=>stk)=_;rw[y_,show(CR==CR)=d_ by simp];rfl
 |some r2=>show(match H_ CP [(CR,b_),(CP,d_)]with|some b=>Hb (A'.bl b)|none=>stk)=_;rw[y_,J,y_,show(CP==CP)=d_ by simp];rfl
theorem Ea(Y:CR≠CP)(n:Nat){w:Sht}(h:w.Good):bV CR CP CS CW CE CD CK n [w.kD,w.ru CR CP,w.nD,w.fD,w.cD]=.ok (.str w.tx):=by
 have e1:=Fs w.ks h.kl;have e2:=ru_gap CR CP CS CW CE CD CK Y n h (ae 1) [a_ w.kD,a_ (w.ru CR CP),a_ w.nD,a_ w.fD,a_ w.cD,c_] rfl;have e3:=nY n lgap w.ks h.kl h.k6 1 w.rows h.rows.nat;have e4:=ru_isi CR CP Y w;have e5:=AD w.cs h.cl;have D:=fl_comp n h.k6 h.kl w.nf h.nl;have C:=Fd w.rs h.se;have r:=h.B2;have o:w.ks.length<=16777216:=by have:=h.k6;lia
 have m:w.cs.length<=16777216:=by have:=h.cm;lia
 have l:w.nf.length<=16777216:=by have:=h.nm;lia
 have d:w.rs.length<=16777216:=am
 obtain⟨B,J⟩:∃B,qg w.ks w.o=B:=⟨_,rfl⟩
 have g:w.ks.length+(aT "gap" 1 w.ks w.ks w.rows).length+B.length+w.cs.length+w.nf.length<=200:=by have:=h.B2;unfold Sht.rs rowsOf at this;simp only[Gx,w_,J]at this;exact this
 have A:∀I:bv,I.length<=200->kM CR CP CS CW CE CD CK n [a_ w.kD,a_ (w.ru CR CP),a_ w.nD,a_ w.fD,a_ w.cD,a_ (.lst (I.map .str))]=.ok (.nx [a_ w.kD,a_ (w.ru CR CP),a_ w.nD,a_ w.fD,a_ w.cD,a_ (.lst ((I++B).map .str))]):=λI i=>by
  cases c:w.o with
  |none=>rw[c]at e4 J;have J:B=[]:=J.symm;simp[kM,e4,J]|some r2=>
   have k:=ru_bes CR CP CS CW CE CD CK n h c (ae 1) [a_ w.kD,a_ (w.ru CR CP),a_ w.nD,a_ w.fD,a_ w.cD,c_] rfl;have b:=nY n lbes w.ks h.kl h.k6 0 r2 (h.o r2 c).nat;rw[c]at e4 J;have J:aT "beside" 0 w.ks w.ks r2=B:=J;rw[J]at b;have e:I.length+B.length<=16777216:=am
   simp[kM,e4,k,Sht.kD,b,e]at k ⊢
 have j:w.ks.map cb++aT "gap" 1 w.ks w.ks w.rows++B++w.cs.map bo++w.nf.map (aG w.ks)=w.rs:=by rw[<- J];rfl
 have G:w.ks.length+(aT "gap" 1 w.ks w.ks w.rows).length<=16777216:=am
 have F:w.ks.length+((aT "gap" 1 w.ks w.ks w.rows).length+B.length)+w.cs.length<=16777216:=am
 have E:w.ks.length+((aT "gap" 1 w.ks w.ks w.rows).length+(B.length+w.cs.length))+w.nf.length<=16777216:=am
 have a:=A (w.ks.map cb++aT "gap" 1 w.ks w.ks w.rows) (by simp;lia);have s:((w.rs.map (·++NLs)).map (·.length)).sum<=16777216:=by
  have:=lenLe (w.rs.map (·++NLs)) 401 (λx q=>by obtain⟨y,p,rfl⟩:=GZ.mp q;have:=h.se y p;rw[ku,Fc];lia)
  rw[w_]at this;lia
 have t:(e_ "").length=0:=by decide +kernel
 have es:=jt (w.rs.map (·++NLs));have v:=wq (w.rs.map (·++NLs));have z:=DO w.nf;have u:Km A'.str (Km cb w.ks)++(Km A'.str (aT "gap" 1 w.ks w.ks w.rows)++(Km A'.str B++(Km A'.str (Km bo w.cs)++Km A'.str (Km (aG w.ks) w.nf))))=w.rs.map .str:=by rw[<- j];simp only[GF,Hl]
 rw[<- j]at d;simp only[Sht.kD,Sht.nD,Sht.fD,Sht.cD,GF,Hl]at e2 a ⊢;simp only[Gx,w_,Oy]at d;simp[bV,yw,e1,o,e2,e3,G,a,e5,m,F,z,D,l,E,mS,d,-s_];rw[u,C];have f:((w.rs.map (·++NLs)).map (·.length)).sum+(w.rs.map (·++NLs)).length*(e_ "").length<=16777216:=by rw[t,OR];exact s
 simp only[aq,e_joinD,es,Hr,g_ f,v];rfl
end
def xI(h:a.length+b.length<=16777216):bZ (.str a) (.str b)=.ok (.str (a++b)):=by unfold bZ;simp only;rw[g_ (by rw[Hr];exact h)]
def joinG(k o:i_)(g:Int)(w:i_):Gz (e_ " ") [w,k,o,aL g]=hX w k o g:=by unfold hX SP;simp only[Gz,bC]
theorem rowAt'{i:Nat}(h:i<rows.length):iW (rows.map pk) (i:Int)=.ok (pk rows[i]):=by simp_all[iW,atI,ixN,g_]
theorem intAt'{r:ca}{i:Nat}(h:i<r.length):iW (r.map .int) (i:Int)=.ok (.int r[i]):=by unfold iW atI ixN;rw[g_ am,g_ (by simp<;>lia)];simp[h]
theorem xA{i:Nat}(h:i<r.length):iW (r.map .str) (i:Int)=.ok (.str r[i]):=by unfold iW atI ixN;rw[g_ am,g_ (by simp<;>lia)];simp[h]
theorem rp{α:Type}(f:α->A')(n:Nat)(h:∀x,okE (f x) n=d_):∀L:List α,nh (L.map f) n=d_
 |[]=>rfl|x::L=>by simp[nh,h x,rp f n h L]
def zB{d:A'}(h:okE d 40=d_):neM d d=.ok (.bl b_):=by unfold neM;rw[h];simp[wJ h]
section
variable(CR CP CS CW CE CD CK:f_)
def Sht.obj(w:Sht):A':=.ins CS [("kinds",w.kD),("rules",w.ru CR CP),("names",w.nD),("flights",w.fD),("closed",w.cD),("text",.str w.tx)]
def qp(w:Sht):bx [CS] "kinds" (w.obj CR CP CS)=.ok w.kD/\bx [CS] "rules" (w.obj CR CP CS)=.ok (w.ru CR CP)/\bx [CS] "names" (w.obj CR CP CS)=.ok w.nD/\bx [CS] "flights" (w.obj CR CP CS)=.ok w.fD/\bx [CS] "closed" (w.obj CR CP CS)=.ok w.cD/\bx [CS] "text" (w.obj CR CP CS)=.ok (.str w.tx):=by
 have l:∀a b:i_,a≠b->(a==b)=b_:=λa b h=>by simp[h]
 have key:∀(y:i_) (d:A'),H_ y [(("kinds":i_),w.kD),(("rules":i_),w.ru CR CP),(("names":i_),w.nD),(("flights":i_),w.fD),(("closed":i_),w.cD),(("text":i_),.str w.tx)]=a_ d->bx [CS] y (w.obj CR CP CS)=.ok d:=λy d h=>by show(if ([CS].contains CS)=d_ then(match H_ y [(("kinds":i_),w.kD),(("rules":i_),w.ru CR CP),(("names":i_),w.nD),(("flights":i_),w.fD),(("closed":i_),w.cD),(("text":i_),A'.str w.tx)]with|some d=>Hb d|none=>stk)else stk)=_;rw[g_ a8,h]
 have e1:(("rules":i_)==("kinds":i_))=b_:=by decide +kernel
 have e2:(("names":i_)==("kinds":i_))=b_:=by decide +kernel
 have e3:(("names":i_)==("rules":i_))=b_:=by decide +kernel
 have e4:(("flights":i_)==("kinds":i_))=b_:=by decide +kernel
 have e5:(("flights":i_)==("rules":i_))=b_:=by decide +kernel
 have k:(("flights":i_)==("names":i_))=b_:=by decide +kernel
 have j:(("closed":i_)==("kinds":i_))=b_:=by decide +kernel
 have i:(("closed":i_)==("rules":i_))=b_:=by decide +kernel
 have g:(("closed":i_)==("names":i_))=b_:=by decide +kernel
 have f:(("closed":i_)==("flights":i_))=b_:=by decide +kernel
 have e:(("text":i_)==("kinds":i_))=b_:=by decide +kernel
 have c:(("text":i_)==("rules":i_))=b_:=by decide +kernel
 have Y:(("text":i_)==("names":i_))=b_:=by decide +kernel
 have J:(("text":i_)==("flights":i_))=b_:=by decide +kernel
 have I:(("text":i_)==("closed":i_))=b_:=by decide +kernel
 refine⟨key _ _ ?_,key _ _ ?_,key _ _ ?_,key _ _ ?_,key _ _ ?_,key _ _ ?_⟩<;>simp only[y_,Nd,e1,e2,e3,e4,e5,k,j,i,g,f,e,c,Y,J,I]
end
theorem take63{ns:ca}(h:ns.length<=63):dB (.lst (ns.map .int)) c_ (a_ 63)=.ok (.lst (ns.map .int)):=by
 show Hb (A'.lst (pZ (ns.map A'.int) c_ (a_ 63)))=_
 congr 2
 unfold pZ cX;rw[J8,Ky];simp;lia
def pick3(A B C s:Int)(I:s=0\/s=1\/s=2):∃a,(a=A\/a=B\/a=C)/\iW [.int A,.int B,.int C] s=.ok (.int a):=by
 rcases I with rfl|rfl|rfl
 .exact⟨A,.inl rfl,a8⟩
 .exact⟨B,.inr (.inl rfl),a8⟩
 .exact⟨C,.inr (.inr rfl),a8⟩
noncomputable def LD:i_:="abcdefghijklmnopqrstuvwxyz0123456789"
def LD_len:LD.length=36:=by decide +kernel
theorem BM{p:Pat}{fe:ah->M A'}{ρ0:ah}(P:Int->Prop):∀ds:List A',(∀d∈ds,∃ρ y,mJ p d ρ0=.ok ρ/\fe ρ=.ok (.int y)/\P y)->∃ys:ca,ys.length=ds.length/\(∀y∈ys,P y)/\bu p ir fe ρ0 ds=.ok (ys.map .int)
 |[],_=>⟨[],rfl,a8,rfl⟩|d::ds,h=>by
  obtain⟨ρ,y,e1,e2,J⟩:=h d a8;obtain⟨ys,b,a,e⟩:=BM P ds λx Y=>h x (by simp[Y]);refine⟨y::ys,by simp[b],λz I=>?_,?_⟩
  .rcases q_.mp I with rfl|I
   .exact J
   .exact a z I
  .simp[bu,ir,e1,e2,e]
section
variable(CR CP CS CW CE CD CK:f_)
def mem_range{d:A'}(h:d∈d6 0 k):∃j:Nat,j<k/\d=.int j:=by obtain⟨i,hi⟩:=List.mem_iff_getElem?.mp h;obtain⟨h1,h2⟩:=Co hi;exact⟨_,h1,h2⟩
end
section
variable(CR CP CS CW CE CD CK:f_)
def new1(n:Nat)(h1:1<=k)(J:k<=6)(I:bR k rows):newR CR (aI) [aO rows]=.ok (qk CR CP rows .non):=by have e:=q9 n k rows h1 J I;simp[newR,e,qk]
def new2(n:Nat)(h1:1<=k)(Y:k<=6)(J:bR k rows)(I:bR k r2):newP CP (aI) [aO rows,aO r2]=.ok (qk CR CP rows (aO r2)):=by
 have e1:=q9 n k rows h1 Y J;have e2:=q9 n k r2 h1 Y I;have a:twoL (aO rows) (aO r2)=d_:=by simp[twoL,aO,J.1,I.1]
 simp only[newP,e1,e2,aq,a,NS];rfl
end
noncomputable def jn(c:Nat):List cc->cc
 |[]=>[]|[x]=>x|x::y::r=>x++c::jn c (y::r)
def Fu(c:Nat):∀(ps I:List cc),ps≠[]->I≠[]->(∀p∈ps,c∉p)->(∀q∈I,c∉q)->jn c ps=jn c I->ps=I:=by
 have key:∀(x y a b:cc),c∉x->c∉y->x++c::a=y++c::b->x=y/\a=b:=by
  intro x
  induction x with
  |nil=>
   intro y a b _ e h;cases y with
   |nil=>exact⟨rfl,by simpa using h⟩|cons z y=>exact Gw (by simp at h;simp[h.1]) e
  |cons z x d=>
   intro y a b i e h;cases y with
   |nil=>exact Gw (by simp at h;simp[h.1]) i|cons k y=>simp only[Lq,Ke]at h;obtain⟨h1,h2⟩:=d y a b (λm=>i (by simp[m])) (λm=>e (by simp[m])) h.2;exact⟨by rw[h.1,h1],h2⟩
 have Y:∀{x a:cc},c∈x++c::a:=by intro x a;simp
 intro ps
 induction ps with
 |nil=>intro I h;exact Gw rfl h|cons x ps d=>
  intro I _ j f J h;cases ps with
  |nil=>
   match I,j with
   |[y],_=>exact Jo (λz=>[z]) h|y::g::I,_=>exact Gw (by rw[show x=_ from h];exact Y) (f x a8)
  |cons l ps=>
   match I,j with
   |[y],_=>exact Gw (by rw[show y=_ from h.symm];exact Y) (J y a8)|y::g::I,_=>obtain⟨h1,h2⟩:=key x y _ _ (f x a8) (J y a8) h;rw[h1,d (g::I) a8 a8 (λp m=>f p (by simp[m])) (λq m=>J q (by simp[m])) h2]
def join_one(I a:i_):Gz I [a]=a:=rfl
def b6(I a b:i_)(r:bv):Gz I (a::b::r)=a++I++Gz I (b::r):=rfl
theorem nv(c:Nat):∀xs:bv,(Gz ⟨#[c]⟩ xs).cps.toList=jn c (xs.map λx=>x.cps.toList)
 |[]=>rfl|[x]=>rfl|x::y::r=>by rw[b6];show((x.cps++#[c])++(Gz ⟨#[c]⟩ (y::r)).cps).toList=_;rw[Jl,Jl,nv c (y::r)];simp[jn]
def lB(h:a.cps.toList=b.cps.toList):a=b:=by obtain⟨⟨a⟩⟩:=a;obtain⟨⟨b⟩⟩:=b;cases(show a=b from h);rfl
def free(c:Nat)(x:i_):Prop:=c∉x.cps.toList
def nW(c:Nat)(ps:bv)(g:ps≠[])(h:∀p∈ps,free c p):IE (Gz ⟨#[c]⟩ ps) ⟨#[c]⟩=ps:=by
 have h1:=StrLaws.join_split (Gz ⟨#[c]⟩ ps) ⟨#[c]⟩;have h2:=StrLaws.split_free (Gz ⟨#[c]⟩ ps) c;have d:=split_pos (Gz ⟨#[c]⟩ ps) ⟨#[c]⟩;generalize IE (Gz ⟨#[c]⟩ ps) ⟨#[c]⟩=e at h1 h2 d;have j:jn c (e.map λx=>x.cps.toList)=jn c (ps.map λx=>x.cps.toList):=by rw[<- nv,<- nv,h1]
 have i:=Fu c _ _ (by intro z;rw[JV]at z;rw[z]at d;simp at d) (by simpa using g) (λp Y=>by
  obtain⟨x,J,rfl⟩:=GZ.mp Y;exact h2 x J) (λp Y=>by
  obtain⟨x,J,rfl⟩:=GZ.mp Y;exact h x J) j
 have I:∀(l m:bv),(l.map λx=>x.cps.toList)=(m.map λx=>x.cps.toList)->l=m:=by
  intro l
  induction l with
  |nil=>intro m h;cases m with
   |nil=>rfl|cons _ _=>simp at h
  |cons a l f=>intro m h;cases m with
   |nil=>simp at h|cons b m=>simp only[GJ,Ke]at h;rw[lB h.1,f m h.2]
 exact I _ _ i
theorem xx:∀(rs:bv) (z:i_),cat (rs.map (·++NLs))++z=Gz NLs (rs++[z])
 |[],z=>by show Ip++z=z;exact mm z|[r],z=>by show(r++NLs++Ip)++z=Gz NLs [r,z];rw[b6,join_one,rh]|r::r2::rs,z=>by have I:=xx (r2::rs) z;show(r++NLs++cat ((r2::rs).map (·++NLs)))++z=Gz NLs (r::r2::(rs++[z]));rw[b6,bC,I];rfl
def NLs_is:NLs=⟨#[10]⟩:=by decide +kernel
def xc:SP=⟨#[32]⟩:=by decide +kernel
def C9(rs:bv)(z:i_)(h:∀r∈rs,free 10 r)(I:free 10 z):IE (textOf rs++z) NLs=rs++[z]:=by unfold textOf;rw[xx,NLs_is];exact nW 10 (rs++[z]) a8 λp J=>(GO.mp J).elim (h p) λm=>by rw[GK.mp m];exact I
def CU(c:Nat):Prop:=(97<=c/\c<=122)\/(48<=c/\c<=57)
structure Wd(x:i_):Prop where
 ne:x.cps.toList≠[]
 sg:∀c∈x.cps.toList,CU c
theorem Wd.free{x:i_}(h:Wd x){c:Nat}(I:¬CU c):Tactic.free c x:=λm=>I (h.sg c m)
def Bx(J:Tactic.free c a)(I:Tactic.free c b):Tactic.free c (a++b):=by intro m;have:c∈(a.cps++b.cps).toList:=m;rw[Jl,GO]at this;exact this.elim J I
theorem tE{c d:Nat}(I:c≠d):∀ps:bv,(∀p∈ps,Tactic.free c p)->Tactic.free c (Gz ⟨#[d]⟩ ps)
 |[],_=>by intro m;exact Gw (show c∈([]:cc)from m) a8|[x],h=>h x a8|x::y::r,h=>by rw[b6];exact Bx (Bx (h x a8) λm=>I (by simpa using (show c∈[d]from m))) (tE I (y::r) λp m=>h p (by simp[m]))
def oo(m:Nat):(aL (m:Int)).cps.toList=(JZ 10 m).map Char.toNat:=PySem.W.KIN.signs_num m
def kE(Y:0<=i):∀c∈(aL i).cps.toList,48<=c/\c<=57:=by obtain⟨m,rfl⟩:=Kr Y;intro c J;rw[oo]at J;obtain⟨ch,I,e⟩:=GZ.mp J;have r:=PyProof.Rows.digit_range (Nat.isDigit_of_mem_toDigits a' a' I);rw[<- e];exact r
def wt(I:0<=i):(aL i).cps.toList≠[]:=by obtain⟨m,rfl⟩:=Kr I;rw[oo];intro e;have h:=Nat.toDigits_ne_nil (n:=m) (b:=10);exact h (JV.mp e)
def kC(I:0<=i):Wd (aL i):=⟨wt I,λc J=>.inr (kE I c J)⟩
theorem dig_head:∀m:Nat,0<m->∃c r,JZ 10 m=c::r/\c≠'0':=by
 intro m
 induction m using Nat.strongRecOn with
 |_ m I=>
  intro J;by_cases h:m<10
  .refine⟨_,[],Nat.toDigits_of_lt_base h,?_⟩
   have:∀d:Nat,d<10->0<d->Nat.digitChar d≠'0':=by decide
   exact this m h J
  .have t:JZ 10 (m/10)++JZ 10 (m%10)=JZ 10 (10*(m/10)+m%10):=Nat.toDigits_append_toDigits a' am (Nat.mod_lt m a');rw[Nat.div_add_mod]at t;obtain⟨c,r,e,Y⟩:=I (m/10) am am;exact⟨c,r++JZ 10 (m%10),by rw[<- t,e];rfl,Y⟩
theorem Fw(Y:0<=i):∃c r,(aL i).cps.toList=c::r/\(c=48->i=0):=by
 obtain⟨m,rfl⟩:=Kr Y;by_cases I:m=0
 .subst I;exact⟨48,[],by rw[oo];decide,λ_=>rfl⟩
 .obtain⟨c,r,e,J⟩:=dig_head m am;refine⟨c.toNat,r.map Char.toNat,by rw[oo,e];rfl,λz=>Gw ?_ J⟩
  exact Char.toNat_inj.mp (by rw[z];decide)
def t8:aL 0=("0":i_):=by decide +kernel
def FIG_list:(e_ "0123456789").cps.toList=OU 48 10:=by rfl
def LET_list:(e_ "abcdefghijklmnopqrstuvwxyz").cps.toList=OU 97 26:=by decide +kernel
theorem pP(c:Nat):c∈(e_ "0123456789").cps.toList↔48<=c/\c<=57:=by rw[FIG_list,Nu];lia
theorem nu(c:Nat):c∈(e_ "abcdefghijklmnopqrstuvwxyz").cps.toList↔97<=c/\c<=122:=by rw[LET_list,Nu];lia
theorem ix0{r:cc}(e:z.cps.toList=c::r)(I:z.length<=100):ixSD (.str z) (.int 0)=.ok (.str ⟨#[c]⟩):=by
 show(if z.length<=j_ then _ else _)=_;rw[g_ (by rw[Hr];lia),e];have:atI (c::r) (0:Int)=a_ c:=by unfold atI ixN;simp
 rw[this]
def one_eq(c:Nat)(s:i_)(d:Nat)(I:s=⟨#[d]⟩):eqM (.str ⟨#[c]⟩) (.str s)=.ok (.bl (o_ (c=d))):=by
 subst I;by_cases h:c=d
 .subst h;simp[eqM,okE,eqD]
 .have:(⟨#[c]⟩:i_)≠⟨#[d]⟩:=λz=>h (by injection z with z;injection z with z;injection z);simp[eqM,okE,eqD,h]
def all_true:∀l:List A',(∀d∈l,d=.bl d_)->allD [.lst l]=.ok (.bl d_):=by
 intro l h;have:l=(l.map λ_=>d_).map A'.bl:=by
  rw[s_]
  conv=>lhs;rw[<- MJ l]
  exact HN λd hd=>h d hd
 rw[this];simp[-s_]
section
variable(CR CP CS CW CE CD CK:f_)
theorem yo(n:Nat)(Y:0<=i)(h1:i<10^10):aZ [.str (aL i)]=.ok (.int i):=by
 have l:(aL i).length<=10:=PySem.W.KT.len_num Y h1;have J:(aL i).length<=16777216:=am
 have a:(aL i).length<=640:=am
 have g:Jd (aL i)=a_ i:=PySem.W.KIN.num_reads Y h1;obtain⟨c,r,e,j⟩:=Fw Y;have d:=ix0 e am;have hsz:(aL i).cps.size<=16777216:=J;have k:bu (.nm 0) ir (f2 DH (ae 0) (fC (.str "0123456789"))) [c_] ((aL i).cps.toList.map λc=>.str ⟨#[c]⟩)=.ok ((aL i).cps.toList.map λ_=>A'.bl d_):=
  dZ _ _ _ λc h=>⟨[a_ (.str ⟨#[c]⟩)],a8,by simp[(pP c).mpr (kE Y c h)]⟩
 have al:=all_true ((aL i).cps.toList.map λ_=>A'.bl d_) a8;have b:¬(10:Int)<((aL i).length:Int):=am
 have f:(e_ "0")=⟨#[48]⟩:=by decide +kernel
 have e1:=one_eq c (e_ "0") 48 f;have t2:zg (fB (f2 eqM (f2 ixSD (ae 0) (fC (.int 0))) (fC (.str "0")))) (fB (f2 neM (ae 0) (fC (.str "0")))) [a_ (.str (aL i))]=.ok b_:=by
  by_cases I:c=48
  .have hi:=j I;subst hi;have:neM (.str (aL 0)) (.str "0")=.ok (.bl b_):=by rw[t8];exact zB rfl
   have e2:eqM (.str ⟨#[c]⟩) (.str "0")=.ok (.bl d_):=by rw[e1];simp[I]
   simp[d,e2,this]
  .have e2:eqM (.str ⟨#[c]⟩) (.str "0")=.ok (.bl b_):=by rw[e1];simp[I]
   simp[d,e2]
 have c1:dJ [a_ (.str (aL i))]=.ok (.nx [a_ (.str (aL i))]):=by simp[dJ,J,gtD,b,k,hsz,al]
 have c2:cO [a_ (.str (aL i))]=.ok (.nx [a_ (.str (aL i))]):=by unfold cO;rw[e_if,t2];simp
 simp[aZ,ip,c1,c2,a,g]
structure Nm(x:i_):Prop where
 wd:Wd x
 l8:x.length<=8
 hd:∃c r,x.cps.toList=c::r/\97<=c/\c<=122
theorem D0(n:Nat){x:i_}(h:Nm x):g9 [.str x]=.ok (.bl d_):=by
 have I:x.length<=16777216:=by have:=h.l8;lia
 have J:¬(8:Int)<(x.length:Int):=by have:=h.l8;lia
 obtain⟨c,r,e,b⟩:=h.hd;have Y:=ix0 e (by have:=h.l8;lia);have hsz:x.cps.size<=16777216:=I;have d:bu (.nm 0) ir (D7 (f2 DH (ae 0) (fC (.str "abcdefghijklmnopqrstuvwxyz"))) (f2 DH (ae 0) (fC (.str "0123456789")))) [c_] (x.cps.toList.map λc=>.str ⟨#[c]⟩)=.ok (x.cps.toList.map λ_=>A'.bl d_):=
  dZ _ _ _ λc a=>⟨[a_ (.str ⟨#[c]⟩)],a8,by
   rcases h.wd.sg c a with z|z
   .simp[D7,(nu c).mpr z]
   .have:c∉(e_ "abcdefghijklmnopqrstuvwxyz").cps.toList:=λm=>by have:=(nu c).mp m;lia
    simp[D7,this,(pP c).mpr z]⟩
 have al:=all_true (x.cps.toList.map λ_=>A'.bl d_) a8;have c1:gA [a_ (.str x)]=.ok (.nx [a_ (.str x)]):=by simp[gA,I,gtD,J,Y,(nu c).mpr b]
 simp[g9,lX,c1,d,hsz,al]
end
def memS(k:i_)(ks:bv):((ks.map A'.str).any λd=>eqD d (.str k))=o_ (k∈ks):=by
 rw[Js];simp only[Lr,GZ,GH];constructor
 .rintro⟨d,⟨s,I,rfl⟩,h⟩;have:s=k:=by simpa[eqD] using h
  rw[<- this];exact I
 .intro h;exact⟨.str k,⟨k,h,rfl⟩,by simp[eqD]⟩
def inS(k:i_)(ks:bv):inM (.str k) (.lst (ks.map .str))=.ok (.bl (o_ (k∈ks))):=by have h2:nh (ks.map A'.str) 40=d_:=rp _ _ (λ_=>rfl) ks;show(if (okE (.str k) 40&&nh (ks.map A'.str) 40)=d_ then Hb (A'.bl ((ks.map A'.str).any λd=>eqD d (.str k)))else stk)=_;rw[g_ (by rw[h2];rfl),memS]
def sP(k:i_)(ks:bv):ke (.str k) (.lst (ks.map .str))=.ok (.bl (!decide (k∈ks))):=by have h2:nh (ks.map A'.str) 40=d_:=rp _ _ (λ_=>rfl) ks;show(if (okE (.str k) 40&&nh (ks.map A'.str) 40)=d_ then Hb (A'.bl (!((ks.map A'.str).any λd=>eqD d (.str k))))else stk)=_;rw[g_ (by rw[h2];rfl),memS]
theorem Bo(J:ks.Nodup){i:Nat}(hi:i<ks.length):Bp ks ks[i]=a_ i:=by
 refine Jx.mpr ⟨hi,a8,λj Y=>?_⟩;have I:ks[j]≠ks[i]:=λz=>by have:=(Nw (show j<ks.length by lia) J (j:=i)).mp (by rw[G_ am,G_ hi,z]);lia
 simpa using I
def sQ(a b:Int)(h:a=b):neM (.int a) (.int b)=.ok (.bl b_):=by subst h;exact zB rfl
section
variable(CR CP CS CW CE CD CK:f_)
def St1(p:qh):Prop:=0<=p.1/\p.1<p.2/\p.2<=1000000000
structure Fl1(k:Nat)(f:Fli):Prop where
 k0:0<=f.kind
 k1:f.kind<k
 a:0<=f.first
 b:f.first<=f.last
 c:f.last<=1000000000
 d:0<=f.due/\f.due<=1000000000
 e:0<=f.price/\f.price<=1000000000
end
structure DSt where
 ks:bv
 G:List (ca×A')
 B:List (ca×A')
 nf:List (i_×Fli)
 cs:List qh
def DSt.D(s:DSt):List A':=[.lst (s.ks.map .str),.dic s.G,.dic s.B,.lst ((s.nf.map (·.1)).map .str),.lst ((s.nf.map (·.2)).map flD),.lst (s.cs.map stD)]
section
variable{w:i_}
def sN(l:bv)(n:Nat):nh (l.map A'.str) n=d_:=rp _ _ (λ_=>rfl) l
def get0:iW ((w::r).map A'.str) 0=.ok (.str w):=by have:=getI_nat (ds:=(w::r).map A'.str) (k:=0) a8;rw[show((0:Nat):Int)=0 from rfl]at this;rw[this];rfl
def t1_ok(hw:Hx w "#"=b_):(fOr (fB (f2 eqM (ae 1) (fL eh aB))) (qF (fSM oY (f2 ixD (ae 1) (fC (.int 0))) (fC (.str "#"))))) [c_,a_ (.lst ((w::r).map .str))]=.ok b_:=by
 have I:iW ((w::r).map A'.str) 0=.ok (.str w):=get0;have e:eqM (.lst ((w::r).map A'.str)) (.lst [])=.ok (.bl b_):=by have h1:okE (.lst ((w::r).map A'.str)) 40=d_:=sN (w::r) 39;show(if (okE (.lst ((w::r).map A'.str)) 40&&okE (.lst []) 40)=d_ then _ else _)=_;rw[g_ (by rw[h1];rfl)];rfl
 simp[e,I,hw,-GJ]
def t6_ok(x:i_):(f2 eqM (f2 ixD (ae 1) (fC (.int 0))) (fC (.str x))) [c_,a_ (.lst ((w::r).map .str))]=.ok (.bl (o_ (w=x))):=by
 have I:iW ((w::r).map A'.str) 0=.ok (.str w):=get0;have e:eqM (.str w) (.str x)=.ok (.bl (o_ (w=x))):=by
  by_cases h:w=x
  .rfl
  .rfl
 simp[I,e,-GJ]
def tw_ok(x:i_):(fB (f2 eqM (f2 ixD (ae 1) (fC (.int 0))) (fC (.str x)))) [c_,a_ (.lst ((w::r).map .str))]=.ok (o_ (w=x)):=by show((f2 eqM (f2 ixD (ae 1) (fC (.int 0))) (fC (.str x))) [c_,a_ (.lst ((w::r).map .str))]).bind asB=_;rw[t6_ok];rfl
end
noncomputable def wK:i_:="kind"
noncomputable def wG:i_:="gap"
noncomputable def wB:i_:="beside"
noncomputable def wC:i_:="closed"
noncomputable def wF:i_:="flight"
def w_ne:Hx wK "#"=b_/\Hx wG "#"=b_/\Hx wB "#"=b_/\Hx wC "#"=b_/\Hx wF "#"=b_:=by decide +kernel
section
variable(CR CP CS CW CE CD CK:f_)
def row_way(n:Nat)(s:DSt)(w:i_)(r:bv)(hw:Hx w "#"=b_):bO s.D ((w::r).map .str) =
  if w=wK then(bF [.lst (s.ks.map .str),.lst ((w::r).map .str)]).bind (ue 0 s.D)else
  if w=wG then(bw [.lst (s.ks.map .str),.lst ((w::r).map .str)]).bind (DF 1 s.D)else
  if w=wB then(bw [.lst (s.ks.map .str),.lst ((w::r).map .str)]).bind (DF 2 s.D)else
  if w=wC then(aC [.lst (s.cs.map stD),.lst ((w::r).map .str)]).bind (ue 5 s.D)else
  if w=wF then nS (aE) s.D ((w::r).map .str)else .ok (b_,s.D):=by
 unfold bO oV;show((fOr _ _ _).bind _)=_;rw[t1_ok hw,aq,k_ a',tw_ok,aq,tw_ok,aq,tw_ok,aq,tw_ok,aq,t6_ok,aq];simp only[GH];show(if w=wK then _ else if w=wG then _ else if w=wB then _ else if w=wC then _ else _)=_;by_cases h1:w=wK
 .rw[g_ h1,g_ h1]
 rw[k_ h1,k_ h1];by_cases h2:w=wG
 .rw[g_ h2,g_ h2]
 rw[k_ h2,k_ h2];by_cases Y:w=wB
 .rw[g_ Y,g_ Y]
 rw[k_ Y,k_ Y];by_cases J:w=wC
 .rw[g_ J,g_ J]
 rw[k_ J,k_ J];by_cases I:w=wF
 .rw[g_ I,show o_ (w=e_ "flight")=d_ from E_ I]
 .rw[k_ I,show o_ (w=e_ "flight")=b_ from v_ I]
def row_none(n:Nat)(s:DSt):bO s.D []=.ok (d_,s.D):=by rfl
end
def Tb(k:Nat)(G:List (ca×A'))(t:Nat->Nat->Int):Prop:=∀a c,a<k->c<k->(DK G [(a:Int),(c:Int)]).getD (.int 0)=.int (t a c)
section
variable(CR CP CS CW CE CD CK:f_)
theorem Nm.Ab{x:i_}(h:Nm x):x.length<=100:=by have:=h.l8;lia
noncomputable def ql(r:ca)(c:Nat):Int:=r.getD c 0
end
theorem Fl1.bfl(h:Fl1 k f):BFl k f:=by obtain⟨k0,k1,a,b,c,d,e⟩:=h;constructor<;>lia
noncomputable def tabL(k:Nat)(t:Nat->Nat->Int):List ca:=(HF k).map λi=>(HF k).map λj=>t i j
def EH(k:Nat):d6 0 k=(HF k).map λi:Nat=>A'.int (i:Int):=by simp[d6]
def xy(h:bR k rows):tabL k (λa c=>ql (rows.getD a []) c)=rows:=by refine Ko (by simp[tabL,h.1]) λi h1 h2=>?_;have I:=h.2 rows[i] (Hj h2);refine Ko (by simp[tabL,I.1]) λj Y J=>?_;simp[tabL,ql,h2,J]
section
variable(CR CP CS CW CE CD CK:f_)
theorem qA(n:Nat)(c:k<=6){G:List (ca×A')}{t:Nat->Nat->Int}(h:Tb k G t):jx [.dic G,.int k]=.ok (aO (tabL k t)):=by
 have k1:(-4611686018427387904:Int)<=(k:Int):=am
 have k2:(k:Int)<4611686018427387904:=am
 have k3:((k:Int)).toNat=k:=am
 have I:k<=16777216:=am
 have J:∀i,i<k->lR [.dic G,.int (i:Nat),.int k]=.ok (pk ((HF k).map λj=>t i j)):=λi hi=>by
  have Y:bu (.nm 0) ir (yC (ae 1) (fL iO (a9 (ae 2) (a9 (ae 0) aB))) (fC (.int 0))) [c_,a_ (.dic G),a_ (.int (i:Nat))] ((HF k).map λj:Nat=>A'.int (j:Int))=.ok ((HF k).map λj=>A'.int (t i j)):=
   dZ _ _ _ λj b=>⟨[a_ (.int (j:Int)),a_ (.dic G),a_ (.int (i:Nat))],a8,by have:=h i j hi (List.mem_range.mp b);have a:keyD (.tup [.int (i:Nat),.int (j:Nat)])=.ok [(i:Int),(j:Int)]:=rfl;simp[yC,isDic,FK,a,this]⟩
  simp[lR,yx,k1,k2,k3,EH,I,Y];simp[pk]
 have Y:bu (.nm 0) ir (fL (lR) (a9 (ae 1) (a9 (ae 0) (a9 (ae 2) aB)))) [c_,a_ (.dic G),a_ (.int k)] ((HF k).map λj:Nat=>A'.int (j:Int))=.ok ((HF k).map λi=>pk ((HF k).map λj=>t i j)):=
  dZ _ _ _ λi hi=>⟨[a_ (.int (i:Int)),a_ (.dic G),a_ (.int k)],a8,by simp[J i (List.mem_range.mp hi)]⟩
 simp[jx,tm,k1,k2,k3,EH,I,Y];simp[aO,tabL]
end
structure Sht.SG(w:Sht):Prop where
 k1:1<=w.ks.length
 k6:w.ks.length<=6
 kn:∀k∈w.ks,Nm k
 kd:w.ks.Nodup
 rows:bR w.ks.length w.rows
 o:∀r2,w.o=a_ r2->bR w.ks.length r2
 nm:w.nf.length<=40
 nn:∀p∈w.nf,Nm p.1/\Fl1 w.ks.length p.2
 nd:(w.nf.map (·.1)).Nodup
 cm:w.cs.length<=20
 cl:∀p∈w.cs,St1 p
theorem Sht.SG.good{w:Sht}(h:w.SG):w.Good:=⟨h.k1,h.k6,λk J=>(h.kn k J).Ab,h.rows,h.o,h.nm,λp I=>⟨(h.nn p I).1.Ab,(h.nn p I).2.bfl⟩,h.cm,λp I=>by obtain⟨a,b,c⟩:=h.cl p I;lia⟩
abbrev tR(rows:List ca):Nat->Nat->Int:=λa c=>ql (rows.getD a []) c
structure Desc(s:DSt)(w:Sht):Prop where
 ks:s.ks=w.ks
 nf:s.nf=w.nf
 cs:s.cs=w.cs
 g:Tb w.ks.length s.G (tR w.rows)
 b0:w.o=c_->s.B=[]
 b1:∀r2,w.o=a_ r2->s.B≠[]/\Tb w.ks.length s.B (tR r2)
section
variable{CR CE:f_}
theorem dr_at(s:DSt):bx [CD] "kinds" (drD CD s.D)=.ok (.lst (s.ks.map .str))/\bx [CD] "gaps" (drD CD s.D)=.ok (.dic s.G)/\bx [CD] "beside" (drD CD s.D)=.ok (.dic s.B)/\bx [CD] "names" (drD CD s.D)=.ok (.lst ((s.nf.map (·.1)).map .str))/\bx [CD] "flights" (drD CD s.D)=.ok (.lst ((s.nf.map (·.2)).map flD))/\bx [CD] "closed" (drD CD s.D)=.ok (.lst (s.cs.map stD)):=by
 have key:∀(y:i_) (d:A'),((["kinds","gaps","beside","names","flights","closed"]:bv).zip s.D).lookup y=a_ d->bx [CD] y (drD CD s.D)=.ok d:=λy d h=>by show(if ([CD].contains CD)=d_ then(match ((["kinds","gaps","beside","names","flights","closed"]:bv).zip s.D).lookup y with|some d=>Hb d|none=>stk)else stk)=_;simp_all
 exact⟨key _ _ (by rfl),key _ _ (by rfl),key _ _ (by rfl),key _ _ (by rfl),key _ _ (by rfl),key _ _ (by rfl)⟩
def Dc(n:Nat){s:DSt}{w:Sht}(h:w.SG)(d:Desc s w):de CR CP CS CW CE CD CK n [drD CD s.D]=.ok (w.ru CR CP):=by
 obtain⟨c,e,b,_,_,_⟩:=dr_at (CD:=CD) s;have t1:=qA n h.k6 d.g;rw[xy h.rows]at t1;have g:s.ks.length=w.ks.length:=by rw[d.ks]
 rw[d.ks]at c;cases I:w.o with
 |none=>
  have Y:=d.b0 I;have e1:=new1 CR CP n h.k1 h.k6 h.rows;have a:w.ru CR CP=qk CR CP w.rows .non:=by unfold Sht.ru Sht.bD;rw[I]
  rw[a];rw[Y]at b;simp[de,jA,iy,c,e,b,t1,e1]
 |some r2=>
  obtain⟨Y,tb⟩:=d.b1 r2 I;have t2:=qA n h.k6 tb;rw[xy (h.o r2 I)]at t2;have e1:=new2 CR CP n h.k1 h.k6 h.rows (h.o r2 I);have a:w.ru CR CP=qk CR CP w.rows (aO r2):=by unfold Sht.ru Sht.bD;rw[I]
  rw[a];have J:s.B.isEmpty=b_:=by cases f:s.B with
   |nil=>exact Gw f Y|cons _ _=>rfl
  simp[de,jA,iy,c,e,b,t1,t2,e1,J]
end
noncomputable def lowB(c:Nat):Bool:=o_ (97<=c/\c<=122)||o_ (48<=c/\c<=57)
noncomputable def digB(c:Nat):Bool:=o_ (48<=c/\c<=57)
theorem ix0'{r:cc}(e:z.cps.toList=c::r)(I:z.length<=16777216):ixSD (.str z) (.int 0)=.ok (.str ⟨#[c]⟩):=by
 show(if z.length<=j_ then _ else _)=_;rw[g_ (by rw[Hr];lia),e];have:atI (c::r) (0:Int)=a_ c:=by unfold atI ixN;simp
 rw[this]
def wo(x:i_)(c:Nat):Bool:=o_ (x.length<=8)&&o_ (97<=c/\c<=122)&&x.cps.toList.all lowB
section
variable(CR CP CS CW CE CD CK:f_)
theorem Ad(n:Nat){x:i_}{r:cc}(e:x.cps.toList=c::r)(k:x.length<=1000000):g9 [.str x]=.ok (.bl (wo x c)):=by
 have I:x.length<=16777216:=am
 have hsz:x.cps.size<=16777216:=I;have f:=ix0' e I;by_cases d:(8:Int)<(x.length:Int)
 .have:wo x c=b_:=by unfold wo;rw[v_ am];rfl
  rw[this];simp[g9,lX,gA,I,gtD,d]
 .by_cases b:97<=c/\c<=122
  .have c1:gA [a_ (.str x)]=.ok (.nx [a_ (.str x)]):=by
    simp[gA,I,gtD,d,f,(nu c).mpr b]
   have i:bu (.nm 0) ir (D7 (f2 DH (ae 0) (fC (.str "abcdefghijklmnopqrstuvwxyz"))) (f2 DH (ae 0) (fC (.str "0123456789")))) [c_] (x.cps.toList.map λc=>.str ⟨#[c]⟩)=.ok ((x.cps.toList.map lowB).map A'.bl):=by
    rw[s_];refine dZ _ _ _ λc j=>⟨[a_ (.str ⟨#[c]⟩)],a8,?_⟩
    by_cases Y:97<=c/\c<=122
    .simp[D7,(nu c).mpr Y,lowB,Y]
    .have a:c∉(e_ "abcdefghijklmnopqrstuvwxyz").cps.toList:=λm=>Y ((nu c).mp m);by_cases J:48<=c/\c<=57
     .simp[D7,a,(pP c).mpr J,lowB,J]
     .have n2:c∉(e_ "0123456789").cps.toList:=λm=>J ((pP c).mp m);have h:lowB c=b_:=by unfold lowB;rw[v_ Y,v_ J];rfl
      simp[D7,a,n2,h]
   have g:wo x c=(x.cps.toList.map lowB).all id:=by unfold wo;rw[E_ (show x.length<=8 by lia),E_ b,JX];rfl
   rw[g];simp[g9,lX,c1,i,hsz,-s_,-JX]
  .have a:c∉(e_ "abcdefghijklmnopqrstuvwxyz").cps.toList:=λm=>b ((nu c).mp m);have:wo x c=b_:=by unfold wo;rw[v_ b,J9];rfl
   rw[this];simp[g9,lX,gA,I,gtD,d,f,a]
end
def Bf(x:i_)(c:Nat):Bool:=o_ (x.length<=10)&&x.cps.toList.all digB&& !(o_ (c=48)&& !decide (x="0"))
section
variable(CR CP CS CW CE CD CK:f_)
theorem CM(n:Nat){x:i_}{r:cc}(e:x.cps.toList=c::r)(k:x.length<=1000000):aZ [.str x]=.ok (if Bf x c=d_ then .int (((J6 x.cps.toList:Nat):Int))else .non):=by
 have I:x.length<=16777216:=am
 have hsz:x.cps.size<=16777216:=I;have d:=ix0' e I;have g:bu (.nm 0) ir (f2 DH (ae 0) (fC (.str "0123456789"))) [c_] (x.cps.toList.map λc=>.str ⟨#[c]⟩)=.ok ((x.cps.toList.map digB).map A'.bl):=by
  rw[s_];refine dZ _ _ _ λc j=>⟨[a_ (.str ⟨#[c]⟩)],a8,?_⟩
  by_cases z:48<=c/\c<=57
  .simp[(pP c).mpr z,digB,z]
  .have n2:c∉(e_ "0123456789").cps.toList:=λm=>z ((pP c).mp m);have i:digB c=b_:=by unfold digB;rw[v_ z]
   simp[n2,i]
 by_cases a:(10:Int)<(x.length:Int)
 .have:Bf x c=b_:=by unfold Bf;rw[v_ am];rfl
  rw[this];simp[aZ,ip,dJ,I,gtD,a]
 .have J:((x.cps.toList.map digB).all id)=x.cps.toList.all digB:=by rw[JX];rfl
  cases b:x.cps.toList.all digB with
  |false=>
   have:Bf x c=b_:=by unfold Bf;rw[b,J9];rfl
   rw[this];rw[b]at J;simp[aZ,ip,dJ,I,gtD,a,g,hsz,J,-s_,-JX]
  |true=>
   rw[b]at J;have c1:dJ [a_ (.str x)]=.ok (.nx [a_ (.str x)]):=by simp[dJ,I,gtD,a,g,hsz,J,-s_,-JX]
   have h:(e_ "0")=⟨#[48]⟩:=by decide +kernel
   have e1:=one_eq c (e_ "0") 48 h;have e2:neM (.str x) (.str "0")=.ok (.bl (!decide (x="0"))):=by
    by_cases hw:x=(e_ "0")
    .subst hw;simp[neM,okE,eqD]
    .simp[neM,okE,eqD,hw]
   have hd:Jd x=a_ ((J6 x.cps.toList:Nat):Int):=PySem.intText_digits (λc Y=>by have:=Hk.mp b c Y;unfold digB at this;exact HW this) (by rw[e];simp) am;have f:x.length<=640:=am
   by_cases Y:c=48/\¬x=(e_ "0")
   .have:Bf x c=b_:=by unfold Bf;rw[E_ Y.1,v_ Y.2];simp
    rw[this];have e3:eqM (.str ⟨#[c]⟩) (.str "0")=.ok (.bl d_):=by rw[e1];simp[Y.1]
    have e4:neM (.str x) (.str "0")=.ok (.bl d_):=by rw[e2];simp[Y.2]
    have c2:cO [a_ (.str x)]=.ok (.rt .non):=by simp[cO,d,e3,e4]
    simp[aZ,ip,c1,c2]
   .have:Bf x c=d_:=by
     unfold Bf;rw[E_ (show x.length<=10 by lia),b];by_cases h1:c=48
     .have h2:x=(e_ "0"):=Ls λz=>Y ⟨h1,z⟩;simp[h2]
     .simp[h1]
    rw[this];have c2:cO [a_ (.str x)]=.ok (.nx [a_ (.str x)]):=by
     by_cases h1:c=48
     .have h2:x=(e_ "0"):=Ls λz=>Y ⟨h1,z⟩;have e3:eqM (.str ⟨#[c]⟩) (.str "0")=.ok (.bl d_):=by rw[e1];simp[h1]
      have e4:neM (.str x) (.str "0")=.ok (.bl b_):=by rw[e2];simp[h2]
      simp[cO,d,e3,e4]
     .have e3:eqM (.str ⟨#[c]⟩) (.str "0")=.ok (.bl b_):=by rw[e1];simp[h1]
      simp[cO,d,e3]
    simp[aZ,ip,c1,c2,f,hd]
end
theorem BL{α:Type}{p:Pat}{ft:ah->M Bool}{fe:ah->M A'}{ρ0:ah}(g f:α->A')(P:α->Bool):∀(L:List α),(∀x∈L,∃ρ,mJ p (g x) ρ0=.ok ρ/\ft ρ=.ok (P x)/\fe ρ=.ok (f x))->bu p ft fe ρ0 (L.map g)=.ok ((L.filter P).map f)
 |[],_=>rfl|x::L,h=>by
  obtain⟨ρ,e1,e2,e3⟩:=h x a8;have I:=BL g f P L λy Y=>h y (by simp[Y]);rw[GJ,bu,e1,aq,e2,aq];cases J:P x with
  |true=>rw[g_ rfl,e3,aq,I,List.filter_cons_of_pos J];rfl|false=>rw[k_ a',I,List.filter_cons_of_neg (by rw[J];decide)]
noncomputable def pcs(c:Nat):cc->List cc
 |[]=>[[]]|x::r=>if x=c then []::pcs c r else match pcs c r with
  |p::ps=>(x::p)::ps|[]=>[[x]]
theorem mM(c:Nat):∀l:cc,pcs c l≠[]/\jn c (pcs c l)=l/\(∀p∈pcs c l,c∉p/\p.length<=l.length)/\(pcs c l).length<=l.length+1
 |[]=>⟨by simp[pcs],rfl,by simp[pcs],by simp[pcs]⟩|x::r=>by
  obtain⟨h1,h2,e,J⟩:=mM c r;unfold pcs;cases d:pcs c r with
  |nil=>exact Gw d h1|cons p ps=>
   rw[d]at h2 e J;by_cases Y:x=c
   .rw[g_ Y];refine⟨a8,?_,λq I=>?_,by simpa using J⟩
    .show []++c::jn c (p::ps)=_;simp_all
    .rcases q_.mp I with rfl|I
     .simp
     .obtain⟨a,b⟩:=e q I;exact⟨a,by simp;lia⟩
   .rw[k_ Y];refine⟨a8,?_,λq I=>?_,by simp at J ⊢;lia⟩
    .rw[<- h2];cases ps with
     |nil=>rfl|cons y ys=>rfl
    grind
def rT(c:Nat)(x:i_):∃ps:bv,ps≠[]/\(∀p∈ps,p.length<=x.length)/\ps.length<=x.length+1/\IE x ⟨#[c]⟩=ps:=by
 obtain⟨h1,h2,Y,b⟩:=mM c x.cps.toList;have a:x=Gz ⟨#[c]⟩ ((pcs c x.cps.toList).map λl=>(⟨l.toArray⟩:i_)):=by
  refine lB ?_;rw[nv,s_];have:(pcs c x.cps.toList).map ((λx:i_=>x.cps.toList)∘λl=>(⟨l.toArray⟩:i_))=pcs c x.cps.toList:=by
   conv=>rhs;rw[<- MJ (pcs c x.cps.toList)]
   exact HN λl _=>by simp
  rw[this,h2]
 refine⟨(pcs c x.cps.toList).map λl=>(⟨l.toArray⟩:i_),by simpa using h1,λp I=>?_,by rw[w_];exact b,?_⟩
 .obtain⟨l,J,rfl⟩:=GZ.mp I;have:=(Y l J).2;show l.toArray.size<=x.cps.size;simpa using this
 .conv=>lhs;rw[a]
  refine nW c _ (by simpa using h1) λp I=>?_;obtain⟨l,J,rfl⟩:=GZ.mp I;show c∉l.toArray.toList;simpa using (Y l J).1
noncomputable def j7(x:i_):bv:=IE x "\n"
noncomputable def j4(r:i_):bv:=(IE r " ").filter λw=> !decide (w="")
def nl_is:(e_ "\n")=(⟨#[10]⟩:i_):=by decide +kernel
def Ek:(e_ " ")=(⟨#[32]⟩:i_):=by decide +kernel
def rows_any(x:i_):j7 x≠[]/\(∀p∈j7 x,p.length<=x.length)/\(j7 x).length<=x.length+1:=by
 obtain⟨ps,h1,h2,J,I⟩:=rT 10 x;have:j7 x=ps:=by unfold j7;rw[nl_is];exact I
 rw[this];exact⟨h1,h2,J⟩
def WOk(w:i_):Prop:=w.cps.toList≠[]/\w.length<=1000000
theorem xo{r:i_}(J:r.length<=1000000):∀w∈j4 r,WOk w:=by
 obtain⟨ps,h1,h2,Y,I⟩:=rT 32 r;intro w hw;unfold j4 at hw;rw[Ek,I,HL]at hw;refine⟨λe=>?_,?_⟩
 .have:w=e_ "":=lB (by rw[e];decide +kernel);rw[this]at hw;exact Gw hw.2 dkK
 .have:=h2 w hw.1;lia
theorem DU{r:i_}(J:r.length<=1000000):(IE r (e_ " ")).length<=16777216:=by obtain⟨ps,h1,h2,Y,I⟩:=rT 32 r;rw[Ek,I];lia
section
variable(CR CP CS CW CE CD CK:f_)
def words_cm{r:i_}:bu (.nm 0) (fB (f2 neM (ae 0) (fC (.str "")))) (ae 0) [c_] ((IE r " ").map .str)=.ok ((j4 r).map .str):=by
 refine BL A'.str A'.str (λw=> !decide (w="")) _ λw _=>⟨[a_ (.str w)],a8,?_,a8⟩
 rfl
theorem xp(n:Nat){r:i_}(a:r.length<=1000000):gD [.str r]=.ok (.lst ((j4 r).map .str)):=by
 have Y:(e_ " ").length=1:=by decide +kernel
 have J:r.length+2<=16777216:=am
 have I:=DU a;have b:=words_cm (r:=r);simp[gD,vb,Y,J,I,b,lU]
end
def mD(x:i_):Bool:=match x.cps.toList with
 |[]=>b_|c::_=>wo x c
def eO(x:i_):Option Int:=match x.cps.toList with
 |[]=>c_|c::_=>if Bf x c=d_ then a_ ((J6 x.cps.toList:Nat):Int)else c_
noncomputable def nM:Option Int->A'
 |none=>.non|some i=>.int i
section
variable(CR CP CS CW CE CD CK:f_)
def wk(n:Nat){x:i_}(h:WOk x):g9 [.str x]=.ok (.bl (mD x)):=by
 obtain⟨h1,h2⟩:=h;unfold mD;cases e:x.cps.toList with
 |nil=>exact Gw e h1|cons c r=>exact Ad n e h2
def kA(n:Nat){x:i_}(h:WOk x):aZ [.str x]=.ok (nM (eO x)):=by
 obtain⟨h1,h2⟩:=h;have e2:∀c r,x.cps.toList=c::r->eO x=if Bf x c=d_ then a_ ((J6 x.cps.toList:Nat):Int)else c_:=λc r e=>by unfold eO;rw[e]
 cases e:x.cps.toList with
 |nil=>exact Gw e h1|cons c r=>rw[CM n e h2,e2 c r e];cases Bf x c<;>rfl
end
def Eu{g:ah->M Gp}{ds:List A'}{x:A'}(I:ds.length=n)(h:g (ds.map a_++C_ (nN-ds.length) c_)=.ok (.rt x)):cn nN n g ds=.ok x:=by rw[e_run,g_ I,h];rfl
def neI(a b:Int):neM (.int a) (.int b)=.ok (.bl (!decide (a=b))):=by rfl
def eqI(a b:Int):eqM (.int a) (.int b)=.ok (.bl (o_ (a=b))):=by
 by_cases h:a=b
 .subst h;simp[eqM,okE,eqD]
 .simp[eqM,okE,eqD,h]
def eqS(a b:i_):eqM (.str a) (.str b)=.ok (.bl (o_ (a=b))):=by
 by_cases h:a=b
 .subst h;simp[eqM,okE,eqD]
 .simp[eqM,okE,eqD,h]
theorem Be{x:i_}(h:eO x=a_ i):0<=i:=by
 unfold eO at h;split at h
 .cases h
 .split at h
  .cases h;lia
  .cases h
def rq{x:i_}(h:mD x=d_):Nm x:=by
 unfold mD at h;split at h
 .cases h
 .rename_i c r e;unfold wo at h;simp only[l_,GH]at h;obtain⟨⟨h1,h2⟩,I⟩:=h;refine⟨⟨by rw[e];simp,λd hd=>?_⟩,h1,c,r,e,h2.1,h2.2⟩
  have:=Hk.mp I d hd;unfold lowB at this;simpa[CU] using this
def kI(ks:bv)(x:i_):Nat:=(Bp ks x).getD 0
theorem qU{x:i_}(h:x∈ks):Bp ks x=a_ (kI ks x)/\kI ks x<ks.length/\ks[kI ks x]?=a_ x:=by
 have I:(Bp ks x).isSome=d_:=by unfold Bp;rw[List.findIdx?_isSome];exact Lr.mpr ⟨x,h,a8⟩
 cases e:Bp ks x with
 |none=>simp_all|some i=>
  have J:kI ks x=i:=by unfold kI;rw[e];rfl
  unfold Bp at e;obtain⟨hi,h1,_⟩:=Jx.mp e;simp_all
section
variable(CR CP CS CW CE CD CK:f_)
theorem vA(n:Nat){W:List A'}(h:W.length≠2):bF [.lst (ks.map .str),.lst W]=.ok .non:=by have e:=neI W.length 2;rw[v_ am]at e;simp[bF,ia,f9,e]
theorem vB(n:Nat){w x:i_}(h:WOk x):bF [.lst (ks.map .str),.lst [.str w,.str x]]=.ok (if (o_ (ks.length<6)&&mD x&& !decide (x∈ks))=d_ then .str x else .non):=by
 have e1:=wk n h;have e2:=sP x ks;have e3:=sQ 2 2 rfl;have g1:iW [.str w,.str x] 1=.ok (.str x):=rfl;by_cases Y:ks.length<6
 .have e4:¬(6:Int)<=(ks.length:Int):=am
  rw[E_ Y];cases J:mD x with
  |false=>rw[J]at e1;simp[bF,ia,f9,e1,e3,e4,g1]|true=>
   rw[J]at e1;by_cases I:x∈ks
   .rw[E_ I]at e2;simp[bF,ia,f9,e1,e2,e3,e4,g1,I]
   .rw[v_ I]at e2;simp[bF,ia,f9,e1,e2,e3,e4,g1,I]
 .have e4:(6:Int)<=(ks.length:Int):=am
  rw[v_ Y];simp[bF,ia,f9,e3,e4]
theorem xt(n:Nat){W:List A'}(h:W.length≠4):bw [.lst (ks.map .str),.lst W]=.ok .non:=by have e:=neI W.length 4;rw[v_ am]at e;simp[bw,ij,eG,e]
def D1(n:Nat):gK [.non]=.ok (.bl b_):=by rfl
theorem D2(n:Nat)(h:1000000<i):gK [.int i]=.ok (.bl b_):=by
 have h2:¬i<=1000000:=am
 have I:0<=i:=am
 simp[gK,rD,my,ki,h2,I]
theorem xu(n:Nat){w x v:i_}(h:WOk v):bw [.lst (ks.map .str),.lst [.str w,.str x,.str y,.str v]]=.ok (if x∈ks/\y∈ks then(match eO v with
  |some i=>if i<=1000000 then .tup [.int (kI ks x),.int (kI ks y),.int i]else .non
  |none=>.non)else .non):=by
 have e1:=kA n h;have e3:=sQ 4 4 rfl;have I:=sP x ks;have J:=sP y ks;have g1:iW [.str w,.str x,.str y,.str v] 1=.ok (.str x):=rfl;have g2:iW [.str w,.str x,.str y,.str v] 2=.ok (.str y):=rfl;have g3:iW [.str w,.str x,.str y,.str v] 3=.ok (.str v):=rfl;by_cases Y:x∈ks
 .by_cases a:y∈ks
  .rw[E_ Y]at I;rw[E_ a]at J;rw[g_ ⟨Y,a⟩];cases hv:eO v with
   |none=>rw[hv]at e1;have e2:=D1 n;simp[bw,ij,eG,e1,e2,e3,I,J,g1,g2,g3,nM]|some i=>
    rw[hv]at e1;have d:=Be hv;dsimp only;by_cases hi:i<=1000000
    .have e2:=yv n i d hi;have c:=(qU Y).1;have b:=(qU a).1;simp[bw,ij,eG,e1,e2,e3,I,J,c,b,g1,g2,g3,jt,isL,nM,hi]
    .have e2:=D2 n (i:=i) am;simp[bw,ij,eG,e1,e2,e3,I,J,g1,g2,g3,nM,hi]
  .rw[E_ Y]at I;rw[v_ a]at J;rw[k_ (λz=>a z.2)];simp[bw,ij,eG,e3,I,J,g1,g2,g3]
 .rw[v_ Y]at I;rw[k_ (λz=>Y z.1)];simp[bw,ij,eG,e3,I,g1,g2,g3]
theorem kO(n:Nat){W:List A'}(h:W.length≠3):aC [.lst (cs.map stD),.lst W]=.ok .non:=by have e:=neI W.length 3;rw[v_ am]at e;simp[aC,cQ,bU,e]
noncomputable def stB(p:qh):Bool:=o_ (0<=p.1)&&(o_ (p.1<p.2)&&o_ (p.2<=1000000000))
def AV:stB p=d_↔St1 p:=by unfold stB St1;simp
def uB(n:Nat)(p:qh):iQ [stD p]=.ok (.bl (stB p)):=by have J:iW [.int p.1,.int p.2] 0=.ok (.int p.1):=rfl;have g1:iW [.int p.1,.int p.2] 1=.ok (.int p.2):=rfl;unfold stB;by_cases I:0<=p.1<;>by_cases h1:p.1<p.2<;>by_cases h2:p.2<=1000000000<;>simp[iQ,qC,m8,stD,J,g1,I,h1,h2]
theorem wx(n:Nat)(h:∀p∈cs,St1 p)(f:cs.length<=20)(p:qh):jw [.lst ((cs++[p]).map stD)]=.ok (.bl (o_ (cs.length<20)&&stB p)):=by
 have J:bu (.nm 0) ir (fL (iQ) (a9 (ae 0) aB)) [c_] ((cs++[p]).map stD)=.ok (((cs++[p]).map stB).map A'.bl):=by rw[s_];exact dZ _ _ _ λp e=>⟨[a_ (stD p)],a8,by simp[uB n p]⟩
 have al:((cs++[p]).map stB).all id=stB p:=by
  rw[GF,List.all_append,List.map_singleton,Oa,List.all_nil,Ma];have:(cs.map stB).all id=d_:=Hk.mpr λb c=>by obtain⟨q,Y,rfl⟩:=GZ.mp c;exact AV.mpr (h q Y)
  rw[this];rfl
 have h2:cs.length+1<=16777216:=am
 by_cases h1:cs.length<20
 .have I:(cs.length:Int)+1<=20:=am
  rw[E_ h1];generalize d:(cs++[p]).map stB=L at J al;have a:L.length=cs.length+1:=by rw[<- d];simp
  simp[jw,nC,I,h2,J,lU,al,mE,-GF]
 .have I:¬(cs.length:Int)+1<=20:=am
  rw[v_ h1];simp[jw,nC,I,mE]
theorem kQ(n:Nat){w x:i_}(c:WOk x)(b:WOk y)(h:∀p∈cs,St1 p)(e:cs.length<=20):aC [.lst (cs.map stD),.lst [.str w,.str x,.str y]]=.ok (match eO x,eO y with
  |some i,a_ j=>if (o_ (cs.length<20)&&stB (i,j))=d_ then stD (i,j)else .non
  |_,_=>.non):=by
 have e1:=kA n c;have e2:=kA n b;have e3:=sQ 3 3 rfl;have g1:iW [.str w,.str x,.str y] 1=.ok (.str x):=rfl;have g2:iW [.str w,.str x,.str y] 2=.ok (.str y):=rfl;cases ex:eO x with
 |none=>
  rw[ex]at e1;have I:∀d:A',(d=.non\/∃i,d=.int i)->ke .non (.tup [.non,d])=.ok (.bl b_):=λd hd=>by rcases hd with rfl|⟨i,rfl⟩<;>rfl
  cases ey:eO y with
  |none=>rw[ey]at e2;simp[aC,cQ,bU,e1,e2,e3,g1,g2,nM,I .non (.inl rfl)]|some j=>rw[ey]at e2;simp[aC,cQ,bU,e1,e2,e3,g1,g2,nM,I (.int j) (.inr ⟨j,rfl⟩)]
 |some i=>
  rw[ex]at e1;cases ey:eO y with
  |none=>rw[ey]at e2;have I:ke .non (.tup [.int i,.non])=.ok (.bl b_):=rfl;simp[aC,cQ,bU,e1,e2,e3,g1,g2,nM,I]|some j=>
   rw[ey]at e2;have I:ke .non (.tup [.int i,.int j])=.ok (.bl d_):=rfl;have J:=wx n h e (i,j);have a:bZ (.lst (cs.map stD)) (.lst [.tup [.int i,.int j]])=.ok (.lst ((cs++[(i,j)]).map stD)):=by
    have:cs.length+1<=16777216:=am
    simp[bZ,stD,this]
   dsimp only;cases Y:(o_ (cs.length<20)&&stB (i,j))with
   |true=>rw[Y]at J;simp[aC,cQ,bU,e1,e2,e3,g1,g2,nM,I,a,J,-GF];rfl|false=>rw[Y]at J;simp[aC,cQ,bU,e1,e2,e3,g1,g2,nM,I,a,J,-GF]
end
noncomputable def rgB(x:Int):Bool:=o_ (0<=x)&&o_ (x<=1000000000)
def flB(f:Fli):Bool:=o_ (f.first<=f.last)&&(rgB f.first&&(rgB f.last&&(rgB f.due&&rgB f.price)))
def in_non(p q r s:Option Int):inM .non (.lst [nM p,nM q,nM r,nM s])=.ok (.bl (p.isNone||(q.isNone||(r.isNone||s.isNone)))):=by cases p<;>cases q<;>cases r<;>cases s<;>rfl
def FO(h:flB f=d_)(d:0<=f.kind)(h1:f.kind<k):Fl1 k f:=by unfold flB rgB at h;simp only[l_,GH]at h;obtain⟨h2,⟨c,g⟩,⟨e,b⟩,⟨a,Y⟩,J,I⟩:=h;exact⟨d,h1,c,h2,b,⟨a,Y⟩,⟨J,I⟩⟩
def Bg(a b c d:i_):Option (Int×Int×Int×Int):=match eO a,eO b,eO c,eO d with
 |some a,a_ b,a_ c,a_ d=>a_ (a,b,c,d)|_,_,_,_=>c_
section
variable(CR CP CS CW CE CD CK:f_)
def jK(n:Nat)(x:Int):gJ [.int x]=.ok (.bl (rgB x)):=by unfold rgB;by_cases h1:0<=x<;>by_cases h2:x<=1000000000<;>simp[gJ,oA,ki,h1,h2]
def EC(n:Nat)(f:Fli):bG [flD f]=.ok (.bl (flB f)):=by
 have g1:iW [.int f.kind,.int f.first,.int f.last,.int f.due,.int f.price] 1=.ok (.int f.first):=rfl;have g2:iW [.int f.kind,.int f.first,.int f.last,.int f.due,.int f.price] 2=.ok (.int f.last):=rfl;have es:dB (.tup [.int f.kind,.int f.first,.int f.last,.int f.due,.int f.price]) (a_ 1) c_=.ok (.tup [.int f.first,.int f.last,.int f.due,.int f.price]):=by simp[dB,pZ,cX]
 have b:=jK n f.first;have r2:=jK n f.last;have a:=jK n f.due;have Y:=jK n f.price;have J:bu (.nm 0) ir (fL (gJ) (a9 (ae 0) aB)) [c_] [.int f.first,.int f.last,.int f.due,.int f.price]=.ok ([rgB f.first,rgB f.last,rgB f.due,rgB f.price].map A'.bl):=by simp[bu,b,r2,a,Y]
 unfold flB;generalize c:[rgB f.first,rgB f.last,rgB f.due,rgB f.price]=L at J;have al:L.all id=(rgB f.first&&(rgB f.last&&(rgB f.due&&rgB f.price))):=by rw[<- c];simp
 by_cases I:f.first<=f.last
 .rw[E_ I];simp[bG,gw,flD,g1,g2,es,J,al,I,mE,lU]
 .rw[v_ I];simp[bG,gw,flD,g1,g2,I,mE]
theorem lr(n:Nat){W:List A'}(h:W.length≠7):aE [.lst (ks.map .str),.lst (ns.map .str),.lst W]=.ok .non:=by have e:=neI W.length 7;rw[v_ am]at e;simp[aE,dD,dv,e]
theorem lu(n:Nat){w nm k c d:i_}(h1:WOk nm)(R:WOk a)(Q:WOk b)(P:WOk c)(hd:WOk d):
  aE [.lst (ks.map .str),.lst (ns.map .str),.lst [.str w,.str nm,.str k,.str a,.str b,.str c,.str d]]=.ok (if (o_ (ns.length<40)&&(o_ (k∈ks)&&(mD nm&& !decide (nm∈ns))))=d_ then(match Bg a b c d with
   |some (a,b,c,d)=>if flB ⟨kI ks k,a,b,c,d⟩=d_ then flD ⟨kI ks k,a,b,c,d⟩else .non
   |none=>.non)else .non):=by
 have e3:=sQ 7 7 rfl;have q:=sP k ks;have p:=inS nm ns;have e5:=wk n h1;have O:=kA n R;have n2:=kA n Q;have N:=kA n P;have L:=kA n hd;generalize u:([.str w,.str nm,.str k,.str a,.str b,.str c,.str d]:List A')=W;have A:W.length=7:=by rw[<- u];rfl
 have g1:iW W 1=.ok (.str nm):=by rw[<- u];rfl
 have g2:iW W 2=.ok (.str k):=by rw[<- u];rfl
 have v:∀x,dD [a_ (.lst (ks.map .str)),a_ (.lst (ns.map .str)),a_ (.lst W),c_,c_]=.ok (.rt x)->aE [.lst (ks.map .str),.lst (ns.map .str),.lst W]=.ok x:=λx h=>Eu rfl h;have g:dv [a_ (.lst (ks.map .str)),a_ (.lst (ns.map .str)),a_ (.lst W),c_,c_]=.ok (if ns.length<40/\k∈ks then .nx [a_ (.lst (ks.map .str)),a_ (.lst (ns.map .str)),a_ (.lst W),c_,c_]else .rt .non):=by
  by_cases E:ns.length<40
  .have e4:¬(40:Int)<=(ns.length:Int):=am
   by_cases s:k∈ks
   .rw[E_ s]at q;simp[dv,A,e3,e4,g2,q,E,s]
   .rw[v_ s]at q;simp[dv,A,e3,e4,g2,q,s]
  .have e4:(40:Int)<=(ns.length:Int):=am
   simp[dv,A,e3,e4,E]
 have j:eI [a_ (.lst (ks.map .str)),a_ (.lst (ns.map .str)),a_ (.lst W),c_,c_]=.ok (if mD nm=d_/\nm∉ns then .nx [a_ (.lst (ks.map .str)),a_ (.lst (ns.map .str)),a_ (.lst W),c_,c_]else .rt .non):=by
  cases D:mD nm with
  |false=>rw[D]at e5;simp[eI,g1,e5]|true=>
   rw[D]at e5;by_cases r:nm∈ns
   .rw[E_ r]at p;simp[eI,g1,e5,p,r]
   .rw[v_ r]at p;simp[eI,g1,e5,p,r]
 by_cases i:ns.length<40/\k∈ks
 rotate_left
 .rw[k_ i]at g;rw[k_ (λz=>i (by simp at z;exact⟨z.1,z.2.1⟩))];exact v _ (by unfold dD;rw[oJ,g,aq])
 rw[g_ i]at g;by_cases l:mD nm=d_/\nm∉ns
 rotate_left
 .rw[k_ l]at j;rw[k_ (λz=>l (by simp at z;exact z.2.2))];exact v _ (by unfold dD;rw[oJ,g,aq];dsimp only;rw[oJ,j,aq])
 rw[g_ l]at j;rw[g_ (by simp[i.1,i.2,l.1,l.2])];have es:dB (.lst W) (a_ 3) c_=.ok (.lst [.str a,.str b,.str c,.str d]):=by rw[<- u];simp[dB,pZ,cX]
 have S:bu (.nm 0) ir (fL (aZ) (a9 (ae 0) aB)) [c_] [.str a,.str b,.str c,.str d]=.ok [nM (eO a),nM (eO b),nM (eO c),nM (eO d)]:=by simp[bu,O,n2,N,L]
 have o:bE [] 3 (eY (fIt (fSl dB (ae 2) (i8 (fC (.int 3))) ky)) [c_] (.nm 0) ir (fL (aZ) (a9 (ae 0) aB))) [a_ (.lst (ks.map .str)),a_ (.lst (ns.map .str)),a_ (.lst W),c_,c_]=.ok (.nx [a_ (.lst (ks.map .str)),a_ (.lst (ns.map .str)),a_ (.lst W),a_ (.lst [nM (eO a),nM (eO b),nM (eO c),nM (eO d)]),c_]):=by simp[es,S,lU]
 have C:=in_non (eO a) (eO b) (eO c) (eO d);have G:=(qU i.2).1;have f:jE [a_ (.lst (ks.map .str)),a_ (.lst (ns.map .str)),a_ (.lst W),a_ (.lst [nM (eO a),nM (eO b),nM (eO c),nM (eO d)]),c_]=.ok (if ((eO a).isNone||((eO b).isNone||((eO c).isNone||(eO d).isNone)))=d_ then .rt .non else .nx [a_ (.lst (ks.map .str)),a_ (.lst (ns.map .str)),a_ (.lst W),a_ (.lst [nM (eO a),nM (eO b),nM (eO c),nM (eO d)]),c_]):=by generalize ((eO a).isNone||((eO b).isNone||((eO c).isNone||(eO d).isNone)))=t at C;cases t<;>simp[jE,C]
 have e:((eO a).isNone||((eO b).isNone||((eO c).isNone||(eO d).isNone)))=d_->aE [.lst (ks.map .str),.lst (ns.map .str),.lst W]=.ok .non:=λh=>by rw[g_ h]at f;exact v _ (by unfold dD;rw[oJ,g,aq];dsimp only;rw[oJ,j,aq];dsimp only;rw[oJ,o,aq];dsimp only;rw[oJ,f,aq])
 unfold Bg;cases m:eO a with
 |none=>exact e (by rw[m];rfl)|some Y=>
 cases y:eO b with
 |none=>exact e (by rw[m,y];rfl)|some J=>
 cases B:eO c with
 |none=>exact e (by rw[m,y,B];rfl)|some I=>
 cases F:eO d with
 |none=>exact e (by rw[m,y,B,F];rfl)|some d'=>
 rw[m,y,B,F]at o f;rw[k_ (show ¬((a_ Y).isNone||((a_ J).isNone||((a_ I).isNone||(a_ d').isNone)))=d_ from λz=>(nomatch (show b_=d_ from z)))]at f;dsimp only[nM]at o f;have K:=EC n ⟨kI ks k,Y,J,I,d'⟩;have ix:(iu (ae 0) (f2 ixD (ae 2) (fC (.int 2)))) [a_ (.lst (ks.map .str)),a_ (.lst (ns.map .str)),a_ (.lst W),a_ (.lst [.int Y,.int J,.int I,.int d']),c_]=.ok (.int (kI ks k)):=by simp[g2,G,jt,isL]
 have H:bE [] 4 (fL iO (a9 (iu (ae 0) (f2 ixD (ae 2) (fC (.int 2)))) (a9 (f2 ixD (ae 3) (fC (.int 0))) (a9 (f2 ixD (ae 3) (fC (.int 1))) (a9 (f2 ixD (ae 3) (fC (.int 2))) (a9 (f2 ixD (ae 3) (fC (.int 3))) aB)))))) [a_ (.lst (ks.map .str)),a_ (.lst (ns.map .str)),a_ (.lst W),a_ (.lst [.int Y,.int J,.int I,.int d']),c_]=.ok (.nx [a_ (.lst (ks.map .str)),a_ (.lst (ns.map .str)),a_ (.lst W),a_ (.lst [.int Y,.int J,.int I,.int d']),a_ (flD ⟨kI ks k,Y,J,I,d'⟩)]):=by show((((iu (ae 0) (f2 ixD (ae 2) (fC (.int 2)))) [a_ (.lst (ks.map .str)),a_ (.lst (ns.map .str)),a_ (.lst W),a_ (.lst [.int Y,.int J,.int I,.int d']),c_]).bind λx=>Hb [x,.int Y,.int J,.int I,.int d']).bind iO).bind _=_;rw[ix,aq,aq];unfold iO;rw[g_ (by show 5<=j_;rw[Hr];decide)];rfl
 dsimp only;refine v _ ?_;unfold dD;rw[oJ,g,aq];dsimp only;rw[oJ,j,aq];dsimp only;rw[oJ,o,aq];dsimp only;rw[oJ,f,aq];dsimp only;rw[oJ,H,aq];dsimp only;show((((bG [flD ⟨kI ks k,Y,J,I,d'⟩]).bind truD).bind λt=>if t=d_ then Hb (flD ⟨kI ks k,Y,J,I,d'⟩)else Hb A'.non).bind _)=_;rw[K];cases flB ⟨kI ks k,Y,J,I,d'⟩<;>rfl
end
structure WS where
 ks:bv
 g:PKs
 b:PKs
 nf:List (i_×Fli)
 cs:List qh
variable{s:WS}
def enc(ks:bv)(g:PKs):List (ca×A'):=g.map λp=>([((kI ks p.1.1:Nat):Int),((kI ks p.1.2:Nat):Int)],A'.int p.2)
def WS.d(s:WS):DSt:=⟨s.ks,enc s.ks s.g,enc s.ks s.b,s.nf,s.cs⟩
def BS(ks:bv)(g:PKs):Prop:=∀p∈g,p.1.1∈ks/\p.1.2∈ks/\0<=p.2/\p.2<=1000000
def FR(ks:bv)(g:PKs):(enc ks g).length=g.length:=w_ ..
def kI_app{x:i_}(h:y∈ks):kI (ks++[x]) y=kI ks y:=by have e:=(qU h).1;unfold kI Bp at *;rw[List.findIdx?_append,e];rfl
def kI_inj{x:i_}(J:x∈ks)(I:y∈ks)(e:kI ks x=kI ks y):x=y:=by have h1:=(qU J).2.2;have h2:=(qU I).2.2;rw[e,h2]at h1;exact(GR h1).symm
def FU(h:BS ks g)(x:i_):enc (ks++[x]) g=enc ks g:=
 HN λp I=>by rw[kI_app (h p I).1,kI_app (h p I).2.1]
def BS.app(h:BS ks g)(x:i_):BS (ks++[x]) g:=λp I=>by obtain⟨a,b,c⟩:=h p I;exact⟨by simp[a],by simp[b],c⟩
theorem FT{x:i_}(J:x∈ks)(I:y∈ks)(c:a∈ks)(Y:b∈ks):([((kI ks a:Nat):Int),((kI ks b:Nat):Int)]=[((kI ks x:Nat):Int),((kI ks y:Nat):Int)])↔(a,b)=(x,y):=by
 constructor
 .intro h;simp only[Ke,and_true]at h;rw[kI_inj c J am,kI_inj Y I am]
 .intro h;cases h;rfl
theorem Ak{ks:bv}{x y:i_}(a:x∈ks)(Y:y∈ks):∀{g:PKs},BS ks g->DK (enc ks g) [((kI ks x:Nat):Int),((kI ks y:Nat):Int)]=(nz g (x,y)).map A'.int
 |[],_=>rfl|p::g,h=>by
  obtain⟨h1,h2,_⟩:=h p a8;have J:=Ak a Y (g:=g) λq c=>h q (by simp[c]);have b:=FT a Y h1 h2;unfold enc DK nz at J ⊢;by_cases e:p.1=(x,y)
  .have I:=b.mpr e;simp only[GJ,Jr,I,e,decide_true,Ln]
  .have I:¬[((kI ks p.1.1:Nat):Int),((kI ks p.1.2:Nat):Int)]=[((kI ks x:Nat):Int),((kI ks y:Nat):Int)]:=λz=>e (b.mp z);simp only[GJ,Jr,I,e,decide_false];exact J
def FQ{x:i_}(Y:x∈ks)(J:y∈ks)(h:BS ks g)(v:Int):CB (enc ks g) [((kI ks x:Nat):Int),((kI ks y:Nat):Int)] (.int v)=enc ks (zd g (x,y) v):=by
 unfold CB zd;rw[Ak Y J h,MZ];by_cases I:(nz g (x,y)).isSome=d_
 .rw[g_ I,g_ I];unfold enc;rw[s_,s_];refine HN λp b=>?_;obtain⟨h1,h2,_⟩:=h p b;have a:=FT Y J h1 h2;simp only[Function.comp_apply];by_cases e:p.1=(x,y)
  .rw[g_ (a.mpr e),g_ e]
  .rw[k_ (λz=>e (a.mp z)),k_ e]
 .rw[k_ I,k_ I];unfold enc;rw[GF];rfl
def BS.put(h:BS ks g){x:i_}(d:x∈ks)(Y:y∈ks){v:Int}(J:0<=v)(h1:v<=1000000):BS ks (zd g (x,y) v):=λp I=>by
 unfold zd at I;split at I
 .obtain⟨q,f,rfl⟩:=GZ.mp I;obtain⟨a,b,c⟩:=h q f;split
  .rename_i e;exact⟨a,b,J,h1⟩
  .exact⟨a,b,c⟩
 .rcases GO.mp I with I|I
  .exact h p I
  .rw[GK.mp I];exact⟨d,Y,J,h1⟩
def B9(g:PKs)(k:i_×i_)(v:Int):(zd g k v).length<=g.length+1/\zd g k v≠[]:=by
 unfold zd;split
 .rename_i h;refine⟨a8,λe=>?_⟩
  rw[JV]at e;subst e;cases h
 .simp
structure WI(s:WS):Prop where
 kd:s.ks.Nodup
 k6:s.ks.length<=6
 kn:∀k∈s.ks,Nm k
 gi:BS s.ks s.g
 bi:BS s.ks s.b
 nm:s.nf.length<=40
 nn:∀p∈s.nf,Nm p.1/\Fl1 s.ks.length p.2
 nd:(s.nf.map (·.1)).Nodup
 cm:s.cs.length<=20
 cl:∀p∈s.cs,St1 p
noncomputable def jB:Bool->Nat
 |true=>2|false=>1
def putB:Bool->WS->Int->i_->i_->WS
 |true,s,i,x,y=>{s with b:=zd s.b (x,y) i}
 |false,s,i,x,y=>{s with g:=zd s.g (x,y) i}
def gapW(s:WS)(f:Int->i_->i_->WS):bv->Option WS
 |[x,y,v]=>if x∈s.ks/\y∈s.ks then(match eO v with
  |some i=>if i<=1000000 then a_ (f i x y)else c_
  |none=>c_)else c_
 |_=>c_
def Ft(s:WS):bv->Option WS
 |[x]=>if (o_ (s.ks.length<6)&&mD x&& !decide (x∈s.ks))=d_ then a_ {s with ks:=s.ks++[x]}else c_
 |_=>c_
def u4(s:WS):bv->Option WS
 |[x,y]=>match eO x,eO y with
  |some i,a_ j=>if (o_ (s.cs.length<20)&&stB (i,j))=d_ then a_ {s with cs:=s.cs++[(i,j)]}else c_
  |_,_=>c_
 |_=>c_
def tH(s:WS):bv->Option WS
 |[nm,k,a,b,c,d]=>if (o_ ((s.nf.map (·.1)).length<40)&&(o_ (k∈s.ks)&&(mD nm&& !decide (nm∈s.nf.map (·.1)))))=d_ then(match Bg a b c d with
  |some (a,b,c,d)=>if flB ⟨kI s.ks k,a,b,c,d⟩=d_ then a_ {s with nf:=s.nf++[(nm,⟨kI s.ks k,a,b,c,d⟩)]}else c_
  |none=>c_)else c_
 |_=>c_
def rM(s:WS)(w:i_)(r:bv):Option WS:=
 if w=wK then Ft s r else
 if w=wG then gapW s (putB b_ s) r else
 if w=wB then gapW s (putB d_ s) r else
 if w=wC then u4 s r else
 if w=wF then tH s r else c_
def qi(x:M (Bool×List A'))(o:Option WS):Prop:=match o with
 |some s'=>x=.ok (d_,s'.d.D)|none=>∃ds,x=.ok (b_,ds)
section
variable(CR CP CS CW CE CD CK:f_)
def mx{ds:List A'}:∃es,(Hb A'.non:M A').bind (ue j ds)=.ok (b_,es):=⟨ds,rfl⟩
def oH{ds:List A'}:∃es,(Hb A'.non:M A').bind (DF j ds)=.ok (b_,es):=⟨ds,rfl⟩
theorem Eb(n:Nat)(s:WS)(I:WI s)(w:i_)(r:bv)(Y:∀x∈r,WOk x):qi ((bF [.lst (s.ks.map .str),.lst ((w::r).map .str)]).bind (ue 0 s.d.D)) (Ft s r):=by
 have J:r.length≠1->∃ds,(bF [.lst (s.ks.map .str),.lst ((w::r).map .str)]).bind (ue 0 s.d.D)=.ok (b_,ds):=λh=>by rw[vA n (by simp;lia)];exact mx
 unfold Ft;split
 .rename_i x;have e:=vB n (ks:=s.ks) (w:=w) (Y x a8);show qi ((bF [.lst (s.ks.map .str),.lst [.str w,.str x]]).bind _) _;rw[e];split
  .have a:s.ks.length<16777216:=by have:=I.k6;lia
   rw[aq];simp[qi,ue,DSt.D,WS.d,bS,a,FU I.gi,FU I.bi]
  .exact mx
 .rename_i h;exact J λz=>by
   match r,z with
   |[x],_=>exact h x rfl
theorem AQ(n:Nat)(s:WS)(I:WI s)(b:Bool)(f:s.g.length<10000000/\s.b.length<10000000)(w:i_)(r:bv)(d:∀x∈r,WOk x):qi ((bw [.lst (s.ks.map .str),.lst ((w::r).map .str)]).bind (DF (jB b) s.d.D)) (gapW s (putB b s) r):=by
 have Y:r.length≠3->∃ds,(bw [.lst (s.ks.map .str),.lst ((w::r).map .str)]).bind (DF (jB b) s.d.D)=.ok (b_,ds):=λh=>by rw[xt n (by simp;lia)];exact oH
 unfold gapW;split
 .rename_i x y v;have e:=xu n (ks:=s.ks) (w:=w) (x:=x) (y:=y) (d v a8);show qi ((bw [.lst (s.ks.map .str),.lst [.str w,.str x,.str y,.str v]]).bind _) _;rw[e];split
  .rename_i J;cases hv:eO v with
   |none=>exact oH|some i=>
    dsimp only;split
    .have c:(enc s.ks s.g).length<16777216:=by rw[FR];lia
     have a:(enc s.ks s.b).length<16777216:=by rw[FR];lia
     rw[aq];cases b with
     |true=>simp[qi,DF,jB,putB,DSt.D,WS.d,a,FQ J.1 J.2 I.bi]|false=>simp[qi,DF,jB,putB,DSt.D,WS.d,c,FQ J.1 J.2 I.gi]
    .exact oH
  .exact oH
 .rename_i h;exact Y λz=>by
   match r,z with
   |[x,y,v],_=>exact h x y v rfl
theorem zt(n:Nat)(s:WS)(I:WI s)(w:i_)(r:bv)(Y:∀x∈r,WOk x):qi ((aC [.lst (s.cs.map stD),.lst ((w::r).map .str)]).bind (ue 5 s.d.D)) (u4 s r):=by
 have J:r.length≠2->∃ds,(aC [.lst (s.cs.map stD),.lst ((w::r).map .str)]).bind (ue 5 s.d.D)=.ok (b_,ds):=λh=>by rw[kO n (by simp;lia)];exact mx
 unfold u4;split
 .rename_i x y;have e:=kQ n (cs:=s.cs) (w:=w) (Y x a8) (Y y a8) I.cl I.cm;show qi ((aC [.lst (s.cs.map stD),.lst [.str w,.str x,.str y]]).bind _) _;rw[e];cases ex:eO x with
  |none=>exact mx|some i=>
  cases ey:eO y with
  |none=>exact mx|some j=>
  dsimp only;split
  .have a:s.cs.length<16777216:=by have:=I.cm;lia
   rw[aq];simp[qi,ue,DSt.D,WS.d,bS,j9,stD,a]
  .exact mx
 .rename_i h;exact J λz=>by
   match r,z with
   |[x,y],_=>exact h x y rfl
theorem zr(n:Nat)(s:WS)(I:WI s)(w:i_)(r:bv)(Y:∀x∈r,WOk x):qi (nS (aE) s.d.D ((w::r).map .str)) (tH s r):=by
 have J:aE [.lst (s.ks.map .str),.lst ((s.nf.map (·.1)).map .str),.lst ((w::r).map .str)]=.ok .non->∃ds,nS (aE) s.d.D ((w::r).map .str)=.ok (b_,ds):=λh=>by
  refine⟨s.d.D,?_⟩
  show(aE [.lst (s.ks.map .str),.lst ((s.nf.map (·.1)).map .str),.lst ((w::r).map .str)]).bind _=_;rw[h];rfl
 unfold tH;split
 .rename_i nm k a b c d;have e:=lu n (ks:=s.ks) (ns:=s.nf.map (·.1)) (w:=w) (nm:=nm) (k:=k) (Y nm a8) (Y a a8) (Y b a8) (Y c a8) (Y d a8);split
  .rename_i g;rw[g_ g]at e;cases o:Bg a b c d with
   |none=>rw[o]at e;exact J e|some p=>
    obtain⟨l,j,i,d'⟩:=p;rw[o]at e;dsimp only at e ⊢;split
    .rename_i f;rw[g_ f]at e;have m:s.nf.length<16777216:=by have:=I.nm;lia
     show nS (aE) s.d.D ([w,nm,k,a,b,c,d].map .str)=_;show(aE [.lst (s.ks.map .str),.lst ((s.nf.map (·.1)).map .str),.lst [.str w,.str nm,.str k,.str a,.str b,.str c,.str d]]).bind _=_;rw[e,aq];have q:ue 4 s.d.D (flD ⟨kI s.ks k,l,j,i,d'⟩)=.ok (d_,[.lst (s.ks.map .str),.dic (enc s.ks s.g),.dic (enc s.ks s.b),.lst ((s.nf.map (·.1)).map .str),.lst ((s.nf.map (·.2)).map flD++[flD ⟨kI s.ks k,l,j,i,d'⟩]),.lst (s.cs.map stD)]):=by simp[ue,DSt.D,WS.d,bS,j9,flD,m]
     show(ue 4 s.d.D (flD ⟨kI s.ks k,l,j,i,d'⟩)).bind _=_;rw[q,aq];simp only[NS];rw[show ixD (.lst ([w,nm,k,a,b,c,d].map A'.str)) (.int 1)=.ok (.str nm)from rfl,aq];simp[ue,DSt.D,WS.d,bS,m]
    .rename_i f;rw[k_ f]at e;exact J e
  .rename_i g;rw[k_ g]at e;exact J e
 .rename_i h;refine J (lr n λz=>?_);have z:r.length=6:=by simpa using z
  match r,z,h with
  |[nm,k,a,b,c,d],_,h=>exact h nm k a b c d rfl
def take_any(n:Nat)(s:WS)(I:WI s)(c:s.g.length<10000000/\s.b.length<10000000)(w:i_)(r:bv)(hw:Hx w "#"=b_)(J:∀x∈r,WOk x):qi (bO s.d.D ((w::r).map .str)) (rM s w r):=by
 rw[row_way n s.d w r hw];unfold rM;by_cases h1:w=wK
 .rw[g_ h1,g_ h1];exact Eb n s I w r J
 rw[k_ h1,k_ h1];by_cases h2:w=wG
 .rw[g_ h2,g_ h2];exact AQ n s I b_ c w r J
 rw[k_ h2,k_ h2];by_cases b:w=wB
 .rw[g_ b,g_ b];exact AQ n s I d_ c w r J
 rw[k_ b,k_ b];by_cases a:w=wC
 .rw[g_ a,g_ a];exact zt n s I w r J
 rw[k_ a,k_ a];by_cases Y:w=wF
 .rw[g_ Y,g_ Y];exact zr n s I w r J
 rw[k_ Y,k_ Y];exact⟨_,rfl⟩
end
theorem Fl1.up(h:Fl1 k f):Fl1 (k+1) f:=⟨h.k0,by have:=h.k1;lia,h.a,h.b,h.c,h.d,h.e⟩
def Bv{s':WS}(I:WI s)(b:Bool)(h:gapW s (putB b s) r=a_ s'):WI s'/\s'.g.length<=s.g.length+1/\s'.b.length<=s.b.length+1:=by
 unfold gapW at h;split at h
 .split at h
  .rename_i J;split at h
   .rename_i i hv;split at h
    .rename_i hi;cases h;have Y:=Be hv;cases b with
     |true=>exact⟨⟨I.kd,I.k6,I.kn,I.gi,I.bi.put J.1 J.2 Y hi,I.nm,I.nn,I.nd,I.cm,I.cl⟩,Hw _,(B9 _ _ _).1⟩|false=>exact⟨⟨I.kd,I.k6,I.kn,I.gi.put J.1 J.2 Y hi,I.bi,I.nm,I.nn,I.nd,I.cm,I.cl⟩,(B9 _ _ _).1,Hw _⟩
    .cases h
   .cases h
  .cases h
 .cases h
theorem DV{s':WS}(I:WI s){w:i_}(h:rM s w r=a_ s'):WI s'/\s'.g.length<=s.g.length+1/\s'.b.length<=s.b.length+1:=by
 unfold rM at h;split at h
 .unfold Ft at h;split at h
  .rename_i x;split at h
   .rename_i Y;cases h;simp only[l_,GH,IG,IB]at Y;obtain⟨⟨h1,h2⟩,l⟩:=Y;refine⟨⟨?_,by simp;lia,λk e=>?_,I.gi.app x,I.bi.app x,I.nm,λp J=>⟨(I.nn p J).1,?_⟩,I.nd,I.cm,I.cl⟩,Hw _,Hw _⟩
    .rw[Jb];exact⟨I.kd,a8,λa g b f=>by rw[GK.mp f];exact λz=>l (z▸g)⟩
    .rcases GO.mp e with e|e
     .exact I.kn k e
     .rw[GK.mp e];exact rq h2
    .have:=(I.nn p J).2.up;simpa using this
   .cases h
  .cases h
 split at h
 .exact Bv I b_ h
 split at h
 .exact Bv I d_ h
 split at h
 .unfold u4 at h;split at h
  .split at h
   .rename_i i j _ _;split at h
    .rename_i Y;cases h;simp only[l_,GH]at Y;refine⟨⟨I.kd,I.k6,I.kn,I.gi,I.bi,I.nm,I.nn,I.nd,by simp;lia,λp J=>?_⟩,Hw _,Hw _⟩
     rcases GO.mp J with J|J
     .exact I.cl p J
     .rw[GK.mp J];exact AV.mp Y.2
    .cases h
   .cases h
  .cases h
 split at h
 .unfold tH at h;split at h
  .rename_i nm k a b c d;split at h
   .rename_i Y;simp only[l_,GH,IG,IB]at Y;obtain⟨h1,h2,l,n⟩:=Y;split at h
    .split at h
     .rename_i m;cases h;refine⟨⟨I.kd,I.k6,I.kn,I.gi,I.bi,by simp at h1 ⊢;lia,λp J=>?_,?_,I.cm,I.cl⟩,Hw _,Hw _⟩
      .rcases GO.mp J with J|J
       .exact I.nn p J
       .rw[GK.mp J];exact⟨rq l,FO m a8 (by have:=(qU h2).2.1;simp;lia)⟩
      .rw[GF,Jb];exact⟨I.nd,a8,λa g b f=>by
        have f:b=nm:=by simpa using f
        rw[f];exact λz=>n (z▸g)⟩
     .cases h
    .cases h
   .cases h
  .cases h
 .cases h
def len0{r:List α}(h:r.length=0):r=[]:=Ju.mp h
def lenS{r:List α}(h:r.length=n+1):∃x t,r=x::t/\t.length=n:=by
 cases r with
 |nil=>cases h|cons x t=>exact⟨x,t,rfl,by simpa using h⟩
def vT(s:WS)(x:i_):Option WS:=match j4 x with
 |[]=>a_ s|w::r=>if Hx w "#"=d_ then a_ s else rM s w r
def zN:Nat->bv->WS->Sum Nat WS
 |_,[],s=>.inr s|k,x::xs,s=>match vT s x with
  |some s'=>zN (k+1) xs s'|none=>.inl k
def B4{s':WS}(I:WI s){x:i_}(h:vT s x=a_ s'):WI s'/\s'.g.length<=s.g.length+1/\s'.b.length<=s.b.length+1:=by
 unfold vT at h;split at h
 .cases h;exact⟨I,Hw _,Hw _⟩
 .split at h
  .cases h;exact⟨I,Hw _,Hw _⟩
  .exact DV I h
section
variable(CR CP CS CW CE CD CK:f_)
def Ec(n:Nat)(s:WS){w:i_}(hw:Hx w "#"=d_):bO s.d.D ((w::r).map .str)=.ok (d_,s.d.D):=by
 have t:(fOr (fB (f2 eqM (ae 1) (fL eh aB))) (qF (fSM oY (f2 ixD (ae 1) (fC (.int 0))) (fC (.str "#"))))) [c_,a_ (.lst ((w::r).map .str))]=.ok d_:=by
  have I:iW ((w::r).map A'.str) 0=.ok (.str w):=get0;have e:eqM (.lst ((w::r).map A'.str)) (.lst [])=.ok (.bl b_):=by have h1:okE (.lst ((w::r).map A'.str)) 40=d_:=sN (w::r) 39;show(if (okE (.lst ((w::r).map A'.str)) 40&&okE (.lst []) 40)=d_ then _ else _)=_;rw[g_ (by rw[h1];rfl)];rfl
  simp[e,I,hw,-GJ]
 unfold bO oV;show((fOr _ _ _).bind _)=_;rw[t];rfl
def row_prog(n:Nat)(s:WS)(I:WI s)(c:s.g.length<10000000/\s.b.length<10000000){x:i_}(b:x.length<=1000000):qi (bO s.d.D ((j4 x).map .str)) (vT s x):=by
 have J:=xo b;unfold vT;cases hw:j4 x with
 |nil=>exact row_none n s.d|cons w r=>
  rw[hw]at J;dsimp only;cases Y:Hx w "#" with
  |true=>rw[g_ rfl];exact Ec n s Y|false=>rw[k_ a'];exact take_any n s I c w r Y λy a=>J y (by simp[a])
theorem xV(n:Nat):∀(xs:bv) (k:Nat) (s:WS),WI s->(∀x∈xs,x.length<=1000000)->s.g.length+xs.length<10000000->s.b.length+xs.length<10000000 ->
  ph CW "row" (bO) (gD) k (xs.map .str) s.d.D=(match zN k xs s with
   |.inl m=>.error (.exc CW [("row",.int (m:Nat))])|.inr s'=>.ok s'.d.D)
 |[],k,s,_,_,_,_=>rfl|x::xs,k,s,I,Y,h1,h2=>by
  simp only[Gy]at h1 h2;have hw:=xp n (Y x a8);have J:=row_prog n s I ⟨am,am⟩ (Y x a8);show((noX (gD [.str x])).bind _)=_;rw[hw];show((noX (bO s.d.D ((j4 x).map .str))).bind _)=_;unfold zN;cases a:vT s x with
  |none=>rw[a]at J;obtain⟨ds,e⟩:=J;rw[e];rfl
  |some s'=>rw[a]at J;have e:bO s.d.D ((j4 x).map .str)=.ok (d_,s'.d.D):=J;rw[e];obtain⟨c,g1,g2⟩:=B4 I a;exact xV n xs (k+1) s' c (λy b=>Y y (by simp[b])) am am
end
noncomputable def w0:WS:=⟨[],[],[],[],[]⟩
def w0_ok:WI w0:=⟨.nil,a',by simp[w0],λ_ h=>(nomatch h),λ_ h=>(nomatch h),a',by simp[w0],.nil,a',by simp[w0]⟩
def tbW(ks:bv)(g:PKs):List ca:=ks.map λx=>ks.map λy=>(nz g (x,y)).getD 0
def WS.sh(s:WS):Sht:=⟨s.ks,tbW s.ks s.g,if s.b.isEmpty=d_ then c_ else a_ (tbW s.ks s.b),s.nf,s.cs⟩
def getP_in(h:BS ks g)(k:i_×i_):0<=(nz g k).getD 0/\(nz g k).getD 0<=1000000:=by
 unfold nz;cases e:g.find? λp=>o_ (p.1=k)with
 |none=>simp|some p=>exact(h p (List.mem_of_find?_eq_some e)).2.2
def AO(h:BS ks g):bR ks.length (tbW ks g):=by
 refine⟨by unfold tbW;simp,λr I=>?_⟩
 obtain⟨x,_,rfl⟩:=GZ.mp I;refine⟨a8,λv hv=>?_⟩
 obtain⟨y,_,rfl⟩:=GZ.mp hv;exact getP_in h _
def tbW_tb(Y:ks.Nodup)(h:BS ks g):Tb ks.length (enc ks g) (tR (tbW ks g)):=λa c J I=>by
 have d:kI ks ks[a]=a:=by unfold kI;rw[Bo Y J];rfl
 have b:kI ks ks[c]=c:=by unfold kI;rw[Bo Y I];rfl
 have e:=Ak (Hj J) (Hj I) h;rw[d,b]at e;rw[e];have:tR (tbW ks g) a c=(nz g (ks[a],ks[c])).getD 0:=by show ql ((tbW ks g).getD a []) c=_;unfold ql tbW;simp[LR,J,I]
 rw[this];cases nz g (ks[a],ks[c])<;>rfl
def WS.sg(I:WI s)(J:s.ks≠[]):s.sh.SG where
 k1:=KS.mpr J
 k6:=I.k6
 kn:=I.kn
 kd:=I.kd
 rows:=AO I.gi
 o:=λr2 h=>by
  have h:(if s.b.isEmpty=d_ then c_ else a_ (tbW s.ks s.b))=a_ r2:=h;split at h
  .cases h
  .cases h;exact AO I.bi
 nm:=I.nm
 nn:=I.nn
 nd:=I.nd
 cm:=I.cm
 cl:=I.cl
def WS.desc(I:WI s):Desc s.d s.sh where
 ks:=rfl
 nf:=rfl
 cs:=rfl
 g:=tbW_tb I.kd I.gi
 b0:=λh=>by
  have h:(if s.b.isEmpty=d_ then c_ else a_ (tbW s.ks s.b))=c_:=h;split at h
  .rename_i J;have:s.b=[]:=by simpa using J
   show enc s.ks s.b=[]
   rw[this];rfl
  .cases h
 b1:=λr2 h=>by
  have h:(if s.b.isEmpty=d_ then c_ else a_ (tbW s.ks s.b))=a_ r2:=h;split at h
  .cases h
  .rename_i J;cases h;refine⟨λe=>J ?_,tbW_tb I.kd I.bi⟩
   have e:enc s.ks s.b=[]:=e;unfold enc at e;rw[JV]at e;rw[e];rfl
theorem B0:∀(xs:bv) (k:Nat) (s:WS),WI s->∀s',zN k xs s=.inr s'->WI s'
 |[],_,s,I,s',h=>by cases h;exact I|x::xs,k,s,I,s',h=>by
  unfold zN at h;cases J:vT s x with
  |none=>rw[J]at h;cases h|some Y=>rw[J]at h;exact B0 xs (k+1) Y (B4 I J).1 s' h
section
variable(CR CP CS CW CE CD CK:f_)
theorem read_any(a:CR≠CP)(n:Nat){x:i_}(u:x.length<=1000000):eB CR CP CS CW CE CD CK n [.str x]=(match zN 1 (j7 x) w0 with
  |.inl q=>.error (.exc CW [("row",.int (q:Nat))])|.inr s=>if s.ks=[]then .error (.exc CW [("row",.int 0)])else .ok (s.sh.obj CR CP CS)):=by
 obtain⟨h1,h2,v⟩:=rows_any x;have l:(e_ "\n").length=1:=by decide +kernel
 have k:x.length+2<=16777216:=am
 have o:(fSM uO (ae 0) (fC (.str "\n"))) [a_ (.str x),c_,c_,c_]=.ok (.lst ((j7 x).map .str)):=by simp[l,k,j7]
 have g:=xV CW n (j7 x) 1 w0 w0_ok (λy m=>by have:=h2 y m;lia) (by show 0+_<_;lia) (by show 0+_<_;lia);have b:jL CR CP CS CW CE CD CK n [a_ (.str x),c_,c_,c_]=(match zN 1 (j7 x) w0 with
  |.inl q=>.error (.exc CW [("row",.int (q:Nat))])|.inr s=>if s.ks=[]then .error (.exc CW [("row",.int 0)])else .ok (.rt (s.sh.obj CR CP CS))):=by
  unfold jL sd;refine(g_ (show(o_ (1<4)&&o_ (2<4)&&o_ (3<4))=d_ from rfl)).trans ?_;show(noX ((fSM uO (ae 0) (fC (.str "\n"))) [a_ (.str x),c_,c_,c_])).bind _=_;rw[o];show(ph CW "row" _ _ 1 ((j7 x).map .str) ds0).bind _=_;have g:ph CW "row" (bO) (gD) 1 ((j7 x).map .str) ds0=_:=g;rw[g];cases i:zN 1 (j7 x) w0 with
  |inl q=>rfl|inr s=>
   have I:=B0 _ _ _ w0_ok s i;dsimp only;rw[aq];obtain⟨Y,z,w,f,d,c⟩:=dr_at (CD:=CD) s.d;have Y:bx [CD] "kinds" (drD CD s.d.D)=.ok (.lst (s.ks.map .str)):=Y;have e:eqM (.lst (s.ks.map A'.str)) (.lst [])=.ok (.bl (o_ (s.ks=[]))):=by have h1:okE (.lst (s.ks.map A'.str)) 40=d_:=sN s.ks 39;show(if (okE (.lst (s.ks.map A'.str)) 40&&okE (.lst []) 40)=d_ then _ else _)=_;rw[g_ (by rw[h1];rfl)];cases s.ks<;>rfl
   by_cases J:s.ks=[]
   .rw[E_ J]at e;rw[g_ J];have c1:cT CR CP CS CW CE CD CK n [a_ (.str x),a_ (drD CD s.d.D),c_,c_]=.error (.exc CW [("row",.int 0)]):=by
     simp[cT,Y,e]
    rw[oJ];show((cT CR CP CS CW CE CD CK n [a_ (.str x),a_ (drD CD s.d.D),c_,c_]).bind _)=_;rw[c1];rfl
   .rw[v_ J]at e;rw[k_ J];have c1:cT CR CP CS CW CE CD CK n [a_ (.str x),a_ (drD CD s.d.D),c_,c_]=.ok (.nx [a_ (.str x),a_ (drD CD s.d.D),c_,c_]):=by
     simp[cT,Y,e]
    have h:=WS.sg I J;have r:=Dc (CR:=CR) (CP:=CP) (CS:=CS) (CW:=CW) (CE:=CE) (CD:=CD) (CK:=CK) n h (WS.desc I);have p:=Ea CR CP CS CW CE CD CK a n h.good;have t:newS CS (bV CR CP CS CW CE CD CK n) [.lst (s.ks.map .str),s.sh.ru CR CP,.lst ((s.nf.map (·.1)).map .str),.lst ((s.nf.map (·.2)).map flD),.lst (s.cs.map stD)]=.ok (s.sh.obj CR CP CS):=by show(bV CR CP CS CW CE CD CK n [s.sh.kD,s.sh.ru CR CP,s.sh.nD,s.sh.fD,s.sh.cD]).bind _=_;rw[p];rfl
    have f:bx [CD] "names" (drD CD s.d.D)=.ok (.lst ((s.nf.map (·.1)).map .str)):=f;have d:bx [CD] "flights" (drD CD s.d.D)=.ok (.lst ((s.nf.map (·.2)).map flD)):=d;have c:bx [CD] "closed" (drD CD s.d.D)=.ok (.lst (s.cs.map stD)):=c;rw[oJ];show((cT CR CP CS CW CE CD CK n [a_ (.str x),a_ (drD CD s.d.D),c_,c_]).bind _)=_;rw[c1,aq];have j:(dO (fL (newS CS (bV CR CP CS CW CE CD CK n)) (a9 (f1 (bx [CD] "kinds") (ae 1)) (a9 (fL (de CR CP CS CW CE CD CK n) (a9 (ae 1) aB)) (a9 (f1 (bx [CD] "names") (ae 1)) (a9 (f1 (bx [CD] "flights") (ae 1)) (a9 (f1 (bx [CD] "closed") (ae 1)) aB))))))) [a_ (.str x),a_ (drD CD s.d.D),c_,c_]=.ok (.rt (s.sh.obj CR CP CS)):=by simp[Y,f,d,c,r,t,-s_]
    show noX (dO _ [a_ (.str x),a_ (drD CD s.d.D),c_,c_])=_;rw[j];rfl
 unfold eB;rw[e_run];rw[g_ (show [A'.str x].length=1 from rfl)];show((jL CR CP CS CW CE CD CK n [a_ (.str x),c_,c_,c_]).bind _)=_;rw[b];cases i:zN 1 (j7 x) w0 with
 |inl q=>rfl|inr s=>
  dsimp only;by_cases J:s.ks=[]
  .rw[g_ J,g_ J];rfl
  .rw[k_ J,k_ J];rfl
end
theorem yF:∀a b:bv,D9 (a.map A'.str) (b.map A'.str)=o_ (a=b)
 |[],[]=>rfl|[],_::_=>rfl|_::_,[]=>rfl|x::a,y::b=>by show(x==y&&D9 (a.map A'.str) (b.map A'.str))=_;rw[yF a b,Js];simp
def wI(a b:bv):eqM (.lst (a.map .str)) (.lst (b.map .str))=.ok (.bl (o_ (a=b))):=by have h1:okE (.lst (a.map A'.str)) 40=d_:=sN a 39;have h2:okE (.lst (b.map A'.str)) 40=d_:=sN b 39;show(if (okE (.lst (a.map A'.str)) 40&&okE (.lst (b.map A'.str)) 40)=d_ then Hb (A'.bl (D9 (a.map A'.str) (b.map A'.str)))else _)=_;rw[g_ (by rw[h1,h2];rfl),yF]
noncomputable def wS:i_:="shift"
noncomputable def wGo:i_:="gone"
noncomputable def wO:i_:="opened"
def jD(w:Sht):bv->Option Sht
 |[x,y]=>(match eO x,eO y with
  |some i,a_ j=>if (o_ (w.cs.length<20)&&stB (i,j))=d_ then a_ {w with cs:=w.cs++[(i,j)]}else c_
  |_,_=>c_)
 |_=>c_
def gN(w:Sht):bv->Option Sht
 |[nm,k,a,b,c,d]=>if (o_ (w.nf.length<40)&&(o_ (k∈w.ks)&&(mD nm&& !decide (nm∈w.nf.map (·.1)))))=d_ then(match Bg a b c d with
  |some (a,b,c,d)=>if flB ⟨kI w.ks k,a,b,c,d⟩=d_ then a_ {w with nf:=w.nf++[(nm,⟨kI w.ks k,a,b,c,d⟩)]}else c_
  |none=>c_)else c_
 |_=>c_
def tj(w:Sht):bv->Option Sht
 |[x]=>if x∈w.nf.map (·.1)then a_ {w with nf:=w.nf.eraseIdx (kI (w.nf.map (·.1)) x)}else c_
 |_=>c_
def eE(w:Sht)(h:i_)(r:bv):Option Sht:=if h=wF then gN w r else if h=wC then jD w r else if h=wGo then tj w r else if h=wO/\r=[]then a_ {w with cs:=[]}else c_
def lD:bv->Option Int
 |[y]=>(match eO y with
  |some i=>if i<=3 then a_ i else c_
  |none=>c_)
 |_=>c_
section
variable(CR CP CS CW CE CD CK:f_)
def ze:Option Sht->M A'
 |some w=>.ok (w.obj CR CP CS)|none=>.error (.exc CE [])
def new_ok(I:CR≠CP)(n:Nat){w:Sht}(h:w.SG):newS CS (bV CR CP CS CW CE CD CK n) [w.kD,w.ru CR CP,w.nD,w.fD,w.cD]=.ok (w.obj CR CP CS):=by show(bV CR CP CS CW CE CD CK n [w.kD,w.ru CR CP,w.nD,w.fD,w.cD]).bind _=_;rw[Ea CR CP CS CW CE CD CK I n h.good];rfl
def mL(I:CR≠CP)(n:Nat){w:Sht}(h:{w with cs:=cs}.SG):eP CR CP CS CW CE CD CK n [w.obj CR CP CS,.lst (cs.map stD)]=.ok ({w with cs:=cs}.obj CR CP CS):=by obtain⟨b,a,Y,J,d,c⟩:=qp CR CP CS w;have e:=new_ok CR CP CS CW CE CD CK I n h;have e:newS CS (bV CR CP CS CW CE CD CK n) [w.kD,w.ru CR CP,w.nD,w.fD,.lst (cs.map stD)]=.ok ({w with cs:=cs}.obj CR CP CS):=e;simp[eP,oz,b,a,Y,J,e]
def lj(I:CR≠CP)(n:Nat){w:Sht}(h:{w with nf:=nf}.SG):g8 CR CP CS CW CE CD CK n [w.obj CR CP CS,.lst ((nf.map (·.1)).map .str),.lst ((nf.map (·.2)).map flD)]=.ok ({w with nf:=nf}.obj CR CP CS):=by obtain⟨a,Y,d,c,J,b⟩:=qp CR CP CS w;have e:=new_ok CR CP CS CW CE CD CK I n h;have e:newS CS (bV CR CP CS CW CE CD CK n) [w.kD,w.ru CR CP,.lst ((nf.map (·.1)).map .str),.lst ((nf.map (·.2)).map flD),w.cD]=.ok ({w with nf:=nf}.obj CR CP CS):=e;simp[g8,mT,a,Y,J,e,-s_]
theorem z9{w:Sht}(h:w.SG)(Y:w.cs.length<20)(J:St1 p):{w with cs:=w.cs++[p]}.SG:=⟨h.k1,h.k6,h.kn,h.kd,h.rows,h.o,h.nm,h.nn,h.nd,by simp;lia,λq I=>by
 rcases GO.mp I with z|z
 .exact h.cl q z
 .simp at z;rw[z];exact J⟩
def sw_no(n:Nat){w:Sht}{W:A'}(e:aC [w.cD,W]=.ok .non):bj CR CP CS CW CE CD CK n [w.obj CR CP CS,W]=.error (.exc CE []):=by obtain⟨c,b,a,Y,I,J⟩:=qp CR CP CS w;simp[bj,fE,dS,I,e]
theorem sw_yes(I:CR≠CP)(n:Nat){w:Sht}{W:A'}(h:w.SG)(a:w.cs.length<20)(Y:St1 p)(e:aC [w.cD,W]=.ok (stD p)):bj CR CP CS CW CE CD CK n [w.obj CR CP CS,W]=.ok ({w with cs:=w.cs++[p]}.obj CR CP CS):=by
 obtain⟨j,i,f,d,b,c⟩:=qp CR CP CS w;have g:=mL CR CP CS CW CE CD CK I n (w:=w) (cs:=w.cs++[p]) (z9 h a Y);have J:bZ w.cD (.lst [stD p])=.ok (.lst ((w.cs++[p]).map stD)):=by rw[GF];unfold Sht.cD;exact g_ (by simp;lia)
 have e:aC [w.cD,W]=.ok (.tup [.int p.1,.int p.2]):=e;have J:bZ w.cD (.lst [.tup [.int p.1,.int p.2]])=.ok (.lst ((w.cs++[p]).map stD)):=J;simp[bj,fE,dS,b,e,J,g,-GF]
def zx(J:CR≠CP)(n:Nat){w:Sht}(h:w.SG)(hd:i_)(r:bv)(a:∀x∈r,WOk x):bj CR CP CS CW CE CD CK n [w.obj CR CP CS,.lst ((hd::r).map .str)]=ze CR CP CS CE (jD w r):=by
 by_cases Y:r.length=2
 .obtain⟨x,t,rfl,c⟩:=lenS Y;obtain⟨y,u,rfl,b⟩:=lenS c;cases len0 b;have e:=kQ n (w:=hd) (a x a8) (a y a8) h.cl h.cm;have e:aC [w.cD,.lst ([hd,x,y].map .str)]=_:=e;unfold jD;dsimp only;cases e1:eO x with
  |none=>rw[e1]at e;exact sw_no CR CP CS CW CE CD CK n e|some i=>
   cases e2:eO y with
   |none=>rw[e1,e2]at e;exact sw_no CR CP CS CW CE CD CK n e|some j=>
    rw[e1,e2]at e;dsimp only at e ⊢;by_cases I:(o_ (w.cs.length<20)&&stB (i,j))=d_
    .rw[g_ I]at e ⊢;rw[l_]at I;exact sw_yes CR CP CS CW CE CD CK J n h (HW I.1) (AV.mp I.2) e
    .rw[k_ I]at e ⊢;exact sw_no CR CP CS CW CE CD CK n e
 .rw[show jD w r=c_ by unfold jD;split<;>first|(exact Gw rfl Y)|rfl];exact sw_no CR CP CS CW CE CD CK n (kO n (by simpa using Y))
theorem yZ{w:Sht}(h:w.SG){nm:i_}(g:w.nf.length<40)(c:Nm nm)(J:nm∉w.nf.map (·.1))(d:Fl1 w.ks.length f):{w with nf:=w.nf++[(nm,f)]}.SG:=⟨h.k1,h.k6,h.kn,h.kd,h.rows,h.o,by simp;lia,λq Y=>by
 rcases GO.mp Y with z|z
 .exact h.nn q z
 .simp at z;rw[z];exact⟨c,d⟩,by
 show((w.nf++[(nm,f)]).map (·.1)).Nodup;rw[GF];exact Jb.mpr ⟨h.nd,a8,λa e b I=>by simp at I;rw[I];exact λz=>J (z▸e)⟩,h.cm,h.cl⟩
def fw_no(n:Nat){w:Sht}{W:A'}(e:aE [w.kD,w.nD,W]=.ok .non):bq CR CP CS CW CE CD CK n [w.obj CR CP CS,W]=.error (.exc CE []):=by obtain⟨J,c,I,b,a,Y⟩:=qp CR CP CS w;simp[bq,gv,eJ,J,I,e]
theorem fw_yes(J:CR≠CP)(n:Nat){w:Sht}{ws:List A'}{nm:i_}(h:w.SG)(b:w.nf.length<40)(a:Nm nm)(Y:nm∉w.nf.map (·.1))(c:Fl1 w.ks.length f)(g1:iW ws 1=.ok (.str nm))(e:aE [w.kD,w.nD,.lst ws]=.ok (flD f)):bq CR CP CS CW CE CD CK n [w.obj CR CP CS,.lst ws]=.ok ({w with nf:=w.nf++[(nm,f)]}.obj CR CP CS):=by
 obtain⟨k,o,j,i,m,l⟩:=qp CR CP CS w;have g:=lj CR CP CS CW CE CD CK J n (w:=w) (nf:=w.nf++[(nm,f)]) (yZ h b a Y c);have d:bZ w.nD (.lst [.str nm])=.ok (.lst (((w.nf++[(nm,f)]).map (·.1)).map .str)):=by rw[GF,GF];unfold Sht.nD;exact g_ (by simp;lia)
 have I:bZ w.fD (.lst [flD f])=.ok (.lst (((w.nf++[(nm,f)]).map (·.2)).map flD)):=by rw[GF,GF];unfold Sht.fD;exact g_ (by simp;lia)
 have e:aE [w.kD,w.nD,.lst ws]=.ok (.tup [.int f.kind,.int f.first,.int f.last,.int f.due,.int f.price]):=e;have I:bZ w.fD (.lst [.tup [.int f.kind,.int f.first,.int f.last,.int f.due,.int f.price]])=.ok (.lst (((w.nf++[(nm,f)]).map (·.2)).map flD)):=I;simp[bq,gv,eJ,k,j,i,e,d,I,g,g1,-GF,-s_]
theorem D5(Y:CR≠CP)(n:Nat){w:Sht}(h:w.SG)(hd:i_)(r:bv)(I:∀x∈r,WOk x):bq CR CP CS CW CE CD CK n [w.obj CR CP CS,.lst ((hd::r).map .str)]=ze CR CP CS CE (gN w r):=by
 by_cases f:r.length=6
 .obtain⟨nm,t1,rfl,p⟩:=lenS f;obtain⟨k,t2,rfl,o⟩:=lenS p;obtain⟨a,C,rfl,m⟩:=lenS o;obtain⟨b,B,rfl,l⟩:=lenS m;obtain⟨c,A,rfl,j⟩:=lenS l;obtain⟨d,z,rfl,i⟩:=lenS j;cases len0 i;have e:=lu n (ks:=w.ks) (ns:=w.nf.map (·.1)) (w:=hd) (k:=k) (I nm a8) (I a a8) (I b a8) (I c a8) (I d a8);have e:aE [w.kD,w.nD,.lst ([hd,nm,k,a,b,c,d].map .str)]=_:=e;rw[w_]at e;unfold gN;dsimp only;by_cases J:(o_ (w.nf.length<40)&&(o_ (k∈w.ks)&&(mD nm&& !decide (nm∈w.nf.map (·.1)))))=d_
  .rw[g_ J]at e ⊢;cases e4:Bg a b c d with
   |none=>rw[e4]at e;exact fw_no CR CP CS CW CE CD CK n e|some q=>
    obtain⟨y,v,u,d'⟩:=q;rw[e4]at e;dsimp only at e ⊢;by_cases g:flB ⟨kI w.ks k,y,v,u,d'⟩=d_
    .rw[g_ g]at e ⊢;simp only[l_,GH,IG,IB]at J;obtain⟨h1,h2,t,s⟩:=J;obtain⟨_,D,_⟩:=qU h2;exact fw_yes CR CP CS CW CE CD CK Y n h h1 (rq t) s (FO g (by show(0:Int)<=((kI w.ks k:Nat):Int);lia) (by show((kI w.ks k:Nat):Int)<_;lia)) rfl e
    .rw[k_ g]at e ⊢;exact fw_no CR CP CS CW CE CD CK n e
  .rw[k_ J]at e ⊢;exact fw_no CR CP CS CW CE CD CK n e
 .rw[show gN w r=c_ by unfold gN;split<;>first|(exact Gw rfl f)|rfl];exact fw_no CR CP CS CW CE CD CK n (lr n (by simpa using f))
end
section
variable(CR CP CS CW CE CD CK:f_)
def BR{w:Sht}(h:w.SG)(i:Nat):{w with nf:=w.nf.eraseIdx i}.SG:=⟨h.k1,h.k6,h.kn,h.kd,h.rows,h.o,Ha (KD w.nf i).length_le h.nm,λq I=>h.nn q ((KD w.nf i).subset I),h.nd.sublist ((KD w.nf i).map _),h.cm,h.cl⟩
def Gk{w:Sht}(h:w.SG):{w with cs:=[]}.SG:=⟨h.k1,h.k6,h.kn,h.kd,h.rows,h.o,h.nm,h.nn,h.nd,by show 0<=20;decide,λ_ q=>(nomatch q)⟩
def Bz(f:α->β)(l:List α)(i:Nat):(l.map f).eraseIdx i=(l.eraseIdx i).map f:=by rw[JF,JF,<- N9,<- N_,GF]
theorem gone_any(b:CR≠CP)(n:Nat){w:Sht}(h:w.SG)(hd:i_)(r:bv):aY CR CP CS CW CE CD CK n [w.obj CR CP CS,.lst ((hd::r).map .str)]=ze CR CP CS CE (tj w r):=by
 obtain⟨u,s,d,f,q,p⟩:=qp CR CP CS w;by_cases c:r.length=1
 .obtain⟨x,t,rfl,m⟩:=lenS c;cases len0 m;have a:=sP x (w.nf.map (·.1));have e2:=sQ 2 2 rfl;have g1:iW [.str hd,.str x] 1=.ok (.str x):=rfl;unfold tj;dsimp only;unfold Sht.nD at d;unfold Sht.fD at f;by_cases I:x∈w.nf.map (·.1)
  .rw[g_ I];rw[E_ I]at a;obtain⟨ix,o,_⟩:=qU I;generalize kI (w.nf.map (·.1)) x=i at ix o ⊢;have k:(0:Int)<=((i:Nat):Int):=am
   have j:(0:Int)<=((i:Nat):Int)+1:=am
   have t1:(((i:Nat):Int)+1).toNat=i+1:=am
   have g:=lj CR CP CS CW CE CD CK b n (w:=w) (nf:=w.nf.eraseIdx i) (BR h i);have es:=jt (w.nf.map (·.1));have e:∀(l:List A'),l.length=w.nf.length->bZ (.lst (l.take i)) (.lst (l.drop (i+1)))=.ok (.lst (l.eraseIdx i)):=λl c=>by have:=h.nm;rw[JF];simp[bZ,Hr];lia
   have Y:=e ((w.nf.map (·.1)).map .str) a8;have J:=e ((w.nf.map (·.2)).map flD) a8;rw[Bz,Bz]at Y J;simp[aY,cH,bQ,e2,g1,d,f,a,es,ix,rJ _ k,cut_drop _ j,t1,Y,J,g,isL,ze,-s_]
  .rw[k_ I];rw[v_ I]at a;simp[aY,cH,bQ,e2,g1,d,a,ze,-s_]
 .rw[show tj w r=c_ by unfold tj;split<;>first|(exact Gw rfl c)|rfl];have e2:neM (.int ((r.length+1:Nat):Int)) (.int 2)=.ok (.bl d_):=by rw[neI];simp;lia
  have e2:neM (.int ((r.length:Int)+1)) (.int 2)=.ok (.bl d_):=e2;simp[aY,cH,bQ,e2,ze]
theorem En(n:Nat)(hd:i_)(r:bv)(Y:∀x∈r,WOk x):eA CR CP CS CW CE CD CK n [.lst ((hd::r).map .str)]=(match lD r with
  |some i=>.ok (.int i)|none=>.error (.exc CE [])):=by
 by_cases I:r.length=1
 .obtain⟨x,t,rfl,J⟩:=lenS I;cases len0 J;have e1:=kA n (Y x a8);have e2:=eqI 2 2;have g1:iW [.str hd,.str x] 1=.ok (.str x):=rfl;unfold lD;dsimp only;cases e3:eO x with
  |none=>rw[e3]at e1;have e1:aZ [.str x]=.ok .non:=e1;simp[eA,iS,gd,e1,e2,g1]|some i=>
   rw[e3]at e1;have e1:aZ [.str x]=.ok (.int i):=e1;dsimp only;by_cases hi:i<=3
   .rw[g_ hi];have:¬(3<i):=am
    simp[eA,iS,gd,e1,e2,g1,gtD,ltD,this]
   .rw[k_ hi];have:3<i:=am
    simp[eA,iS,gd,e1,e2,g1,gtD,ltD,this]
 .rw[show lD r=c_ by unfold lD;split<;>first|(exact Gw rfl I)|rfl];have e2:eqM (.int ((r.length+1:Nat):Int)) (.int 2)=.ok (.bl b_):=by rw[eqI];simp;lia
  have e2:eqM (.int ((r.length:Int)+1)) (.int 2)=.ok (.bl b_):=e2;simp[eA,iS,gd,e2]
end
section
variable(CR CP CS CW CE CD CK:f_)
def ix_head(w:i_)(r:bv):ixD (.lst ((w::r).map .str)) (.int 0)=.ok (.str w):=by have:=get0 (w:=w) (r:=r);simpa using this
def AF(I:CR≠CP)(n:Nat){w:Sht}(h:w.SG)(hd:i_)(r:bv)(d:∀x∈r,WOk x):b9 CR CP CS CW CE CD CK n [w.obj CR CP CS,.lst ((hd::r).map .str)]=ze CR CP CS CE (eE w hd r):=by
 have i0:=ix_head hd r;have J:truD (.lst ((hd::r).map .str))=.ok d_:=by simp
 have e1:=eqS hd wF;have e2:=eqS hd wC;have e3:=eqS hd wGo;have e4:=wI (hd::r) [wO];have f1:=D5 CR CP CS CW CE CD CK I n h hd r d;have c:=zx CR CP CS CW CE CD CK I n h hd r d;have f4:=mL CR CP CS CW CE CD CK I n (Gk h);have f4:eP CR CP CS CW CE CD CK n [w.obj CR CP CS,.lst []]=.ok ({w with cs:=[]}.obj CR CP CS):=f4;have f3:hd=wGo->aY CR CP CS CW CE CD CK n [w.obj CR CP CS,.lst ((hd::r).map .str)]=ze CR CP CS CE (tj w r):=λe=>gone_any CR CP CS CW CE CD CK I n h hd r;unfold eE;have e1:eqM (.str hd) (.str (e_ "flight"))=.ok (.bl (o_ (hd=wF))):=e1;have e2:eqM (.str hd) (.str (e_ "closed"))=.ok (.bl (o_ (hd=wC))):=e2;have e3:eqM (.str hd) (.str (e_ "gone"))=.ok (.bl (o_ (hd=wGo))):=e3;generalize f:(A'.lst ((hd::r).map .str))=W at *;have e4:eqM W (.lst [.str (e_ "opened")])=.ok (.bl (o_ (hd::r=[wO]))):=e4;by_cases h1:hd=wF
 .rw[g_ h1];rw[E_ h1]at e1;cases Y:gN w r<;>rw[Y]at f1<;>simp[ze]at f1<;>simp[b9,cz,bJ,J,i0,e1,f1,ze]
 .rw[k_ h1];rw[v_ h1]at e1;by_cases h2:hd=wC
  .rw[g_ h2];rw[E_ h2]at e2;cases Y:jD w r<;>rw[Y]at c<;>simp[ze]at c<;>simp[b9,cz,bJ,cj,J,i0,e1,e2,c,ze]
  .rw[k_ h2];rw[v_ h2]at e2;by_cases b:hd=wGo
   .rw[g_ b];have f3:=f3 b;rw[E_ b]at e3;cases Y:tj w r<;>rw[Y]at f3<;>simp[ze]at f3<;>simp[b9,cz,bJ,cj,dz,J,i0,e1,e2,e3,f3,ze]
   .rw[k_ b];rw[v_ b]at e3;by_cases a:hd=wO/\r=[]
    .rw[g_ a];rw[E_ (show hd::r=[wO] by rw[a.1,a.2])]at e4;simp[b9,cz,bJ,cj,dz,fj,J,i0,e1,e2,e3,e4,f4,ze]
    .rw[k_ a];rw[v_ (λz=>a (by cases z;exact⟨rfl,rfl⟩))]at e4;simp[b9,cz,bJ,cj,dz,fj,J,i0,e1,e2,e3,e4,ze]
def AE(n:Nat)(w:Sht):b9 CR CP CS CW CE CD CK n [w.obj CR CP CS,.lst []]=.error (.exc CE []):=by
 have e1:∀s:i_,s≠""->eqM (.str "") (.str s)=.ok (.bl b_):=λs I=>by rw[eqS,v_ (HI I)]
 have a:=e1 "flight" dkK;have Y:=e1 "closed" dkK;have J:=e1 "gone" dkK;have e4:=wI [] [wO];have e4:eqM (.lst []) (.lst [.str (e_ "opened")])=.ok (.bl b_):=e4;simp[b9,cz,bJ,cj,dz,fj,a,Y,J,e4]
def vH(w:Sht)(k:Int):bv->Option (Sht×Int)
 |[]=>c_|hd::r=>if hd=wS then(lD r).map λi=>(w,i)else(eE w hd r).map λw'=>(w',k)
def outP:Option (Sht×Int)->M (A'×Int)
 |some z=>.ok (z.1.obj CR CP CS,z.2)|none=>.error (.exc CE [])
def rowK(w:Sht)(k:Int)(x:i_):Option (Sht×Int):=if 10∈x.cps.toList then c_ else vH w k (j4 x)
def say_any(a:CR≠CP)(n:Nat){w:Sht}(h:w.SG)(k:Int){x:i_}(b:x.length<=1000000):xm CR CP CS CW CE CD CK n (w.obj CR CP CS) k (.str x)=outP CR CP CS CE (rowK w k x):=by
 have t1:lA [c_,a_ (.str x),c_]=.ok (o_ (10∈x.cps.toList)):=by have:=e_inSD 10 x;rw[<- nl_is]at this;simp[lA,this]
 have g:=xp n b;have hw:=xo b;unfold xm sayD rowK;rw[t1,qq,aq];by_cases I:10∈x.cps.toList
 .rw[E_ I,g_ rfl,g_ I];rfl
 .rw[v_ I,k_ a',k_ I,g,qq,aq];cases f:j4 x with
  |nil=>
   have e4:=wI [] [wS];have e4:eqM (.lst []) (.lst [.str (e_ "shift")])=.ok (.bl b_):=e4;have t2:gC [c_,a_ (.str x),a_ (.lst [])]=.ok b_:=by have:pZ ([]:List A') c_ (a_ 1)=[]:=rfl;simp[gC,e4,this]
   have t2:gC [c_,a_ (.str x),a_ (.lst (([]:bv).map .str))]=.ok b_:=t2;rw[t2,qq,aq,k_ a'];have e:=AE CR CP CS CW CE CD CK n w;have e:b9 CR CP CS CW CE CD CK n [w.obj CR CP CS,.lst (([]:bv).map .str)]=.error (.exc CE []):=e;rw[e];rfl
  |cons hd r=>
   rw[f]at hw;have e4:=wI [hd] [wS];have e4:eqM (.lst [.str hd]) (.lst [.str (e_ "shift")])=.ok (.bl (o_ (hd=wS))):=by rw[show o_ (hd=wS)=o_ ([hd]=[wS]) by simp];exact e4
   have t2:gC [c_,a_ (.str x),a_ (.lst ((hd::r).map .str))]=.ok (o_ (hd=wS)):=by
    have c:pZ ((hd::r).map A'.str) c_ (a_ 1)=[.str hd]:=by unfold pZ cX;simp
    have d:dB (.lst ((hd::r).map A'.str)) c_ (a_ 1)=.ok (.lst [.str hd]):=by rw[e_sliceL,c]
    generalize (A'.lst ((hd::r).map A'.str))=W at *;simp[gC,d,e4]
   rw[t2,qq,aq,show vH w k (hd::r)=if hd=wS then(lD r).map (λi=>(w,i))else(eE w hd r).map λw'=>(w',k)from rfl];by_cases J:hd=wS
   .rw[E_ J,g_ rfl,En CR CP CS CW CE CD CK n hd r (λy Y=>hw y (by simp[Y])),g_ J];cases lD r<;>rfl
   .rw[v_ J,k_ a',AF CR CP CS CW CE CD CK a n h hd r (λy Y=>hw y (by simp[Y])),k_ J];cases eE w hd r<;>rfl
theorem Ds{w w':Sht}(h:w.SG){hd:i_}(e:eE w hd r=a_ w'):w'.SG/\w'.cs.length<=w.cs.length+1:=by
 unfold eE at e;split at e
 .unfold gN at e;split at e
  .split at e
   .rename_i I;split at e
    .rename_i e4;split at e
     .rename_i J;cases e;simp only[l_,GH,IG,IB]at I;obtain⟨h1,h2,a,Y⟩:=I;obtain⟨_,b,_⟩:=qU h2;exact⟨yZ h h1 (rq a) Y (FO J (by show(0:Int)<=((kI w.ks _:Nat):Int);lia) (by show((kI w.ks _:Nat):Int)<_;lia)),Hw _⟩
     .cases e
    .cases e
   .cases e
  .cases e
 .split at e
  .unfold jD at e;split at e
   .split at e
    .split at e
     .rename_i I;cases e;rw[l_]at I;exact⟨z9 h (HW I.1) (AV.mp I.2),a8⟩
     .cases e
    .cases e
   .cases e
  .split at e
   .unfold tj at e;split at e
    .split at e
     .cases e;exact⟨BR h _,Hw _⟩
     .cases e
    .cases e
   .split at e
    .cases e;exact⟨Gk h,Ib _⟩
    .cases e
end
structure RowT(x:i_)(ws:bv):Prop where
 e:x=Gz SP ws
 ne:ws≠[]
 wd:∀w∈ws,Wd w
 l1:x.length<=10000
 l2:ws.length<=100
theorem RowT.free{x:i_}{ws:bv}(h:RowT x ws):Tactic.free 10 x:=by rw[h.e,xc];exact tE a' ws λp I=>(h.wd p I).free (by unfold CU;lia)
def wd_w:Wd wK/\Wd wG/\Wd wB/\Wd wC/\Wd wF:=by
 have:∀x:i_,x.cps.toList≠[]->(x.cps.toList.all λc=>o_ (97<=c/\c<=122))=d_->Wd x:=λx h1 h2=>⟨h1,λc I=>.inl (HW (Hk.mp h2 c I))⟩
 exact⟨this _ dkK dkK,this _ dkK dkK,this _ dkK dkK,this _ dkK dkK,this _ dkK dkK⟩
theorem yu{k:i_}(h:Nm k):RowT (cb k) [wK,k]:=by
 refine⟨?_,a8,λw hw=>?_,?_,a8⟩
 .unfold cb;rw[show(e_ "kind ")=wK++SP by decide +kernel];rfl
 .simp only[q_,GQ,Iw]at hw;rcases hw with rfl|rfl
  .exact wd_w.1
  .exact h.wd
 .have:=sX h.Ab;lia
theorem rC{w:i_}{g:Int}(hw:Wd w)(c:w.length<=100)(Y:Nm a)(J:Nm b)(d:0<=g)(h1:g<=1000000):RowT (hX w a b g) [w,a,b,aL g]:=by
 refine⟨?_,a8,λx I=>?_,?_,a8⟩
 .exact(joinG a b g w).symm
 .simp only[q_,GQ,Iw]at I;rcases I with rfl|rfl|rfl|rfl
  .exact hw
  .exact Y.wd
  .exact J.wd
  .exact kC d
 .have:=v9 c Y.Ab J.Ab (g:=g) am;lia
theorem u5(h:St1 p):RowT (bo p) [wC,aL p.1,aL p.2]:=by
 obtain⟨I,h1,h2⟩:=h;refine⟨?_,a8,λw hw=>?_,?_,a8⟩
 .unfold bo;rw[show(e_ "closed ")=wC++SP by decide +kernel,bC,bC];simp only[b6,join_one,bC]
 .simp only[q_,GQ,Iw]at hw;rcases hw with rfl|rfl|rfl
  .exact wd_w.2.2.2.1
  .exact kC I
  .exact kC am
 .have:=oQ (p:=p) ⟨am,am⟩;lia
theorem tK(g:∀k∈ks,Nm k){nm:i_}(Y:Nm nm)(h:Fl1 ks.length f):RowT (aG ks (nm,f)) [wF,nm,kAt ks f.kind,aL f.first,aL f.last,aL f.due,aL f.price]:=by
 have i:=h.bfl;obtain⟨k0,k1,a,b,c,d,e⟩:=h;have I:kAt ks f.kind∈ks:=(sget k0 k1).2;refine⟨?_,a8,λw hw=>?_,?_,a8⟩
 .unfold aG;simp only[b6,join_one,bC];rfl
 .simp only[q_,GQ,Iw]at hw;rcases hw with rfl|rfl|rfl|rfl|rfl|rfl|rfl
  .exact wd_w.2.2.2.2
  .exact Y.wd
  .exact(g _ I).wd
  .exact kC a
  .exact kC am
  .exact kC d.1
  .exact kC e.1
 .have:=kJ Y.Ab (λk J=>(g k J).Ab) i;lia
theorem bg(I:0<=i)(h1:i<10^10):eO (aL i)=a_ i:=by
 have a:=yo 64 I h1;have b:=kA 64 (x:=aL i) ⟨(kC I).ne,by have:=str_len (i:=i) am;lia⟩;rw[a]at b;cases e:eO (aL i)with
 |none=>rw[e]at b;cases b|some j=>rw[e]at b;cases b;rfl
theorem wm{x:i_}(h:Nm x):mD x=d_:=by
 have a:=D0 64 h;have b:=wk 64 (x:=x) ⟨h.wd.ne,by have:=h.l8;lia⟩;rw[a]at b;cases e:mD x with
 |true=>rfl|false=>rw[e]at b;cases b
theorem RowT.words{x:i_}(h:RowT x ws):j4 x=ws:=by unfold j4;rw[Ek,h.e,xc,nW 32 ws h.ne λp I=>(h.wd p I).free (by unfold CU;lia)];refine M3.mpr λw hw=>?_;have:=(h.wd w hw).ne;simp only[IG,IB];rintro rfl;exact this dkK
def Rn(s:WS)(xs:bv)(s':WS):Prop:=(∀k,zN k xs s=.inr s')/\∀x∈xs,Tactic.free 10 x
theorem runW_k:∀{xs:bv} {s s':WS} {k:Nat},zN k xs s=.inr s'->∀m,zN m xs s=.inr s'
 |[],_,_,_,h=>λ_=>h|x::xs,s,s',k,h=>λm=>by
  unfold zN at h ⊢;cases e:vT s x with
  |none=>rw[e]at h;cases h|some I=>rw[e]at h;exact runW_k (xs:=xs) h (m+1)
def Rn.nil(s:WS):Rn s [] s:=⟨λ_=>rfl,λ_ h=>(nomatch h)⟩
def Rn.cons{Y J:WS}{x:i_}{xs:bv}(h:vT s x=a_ Y)(f:Tactic.free 10 x)(k:Rn Y xs J):Rn s (x::xs) J:=⟨λn=>by
 unfold zN;rw[h];exact k.1 (n+1),λy I=>by
 rcases q_.mp I with rfl|I
 .exact f
 .exact k.2 y I⟩
theorem Rn.app:∀{xs ys:bv} {s I J:WS},Rn s xs I->Rn I ys J->Rn s (xs++ys) J
 |[],_,s,I,_,h,k=>by cases(h.1 0);exact k|x::xs,ys,s,I,J,h,k=>by
  have h':=h.1 0;unfold zN at h';cases e:vT s x with
  |none=>rw[e]at h';cases h'|some s'=>rw[e]at h';exact Rn.cons e (h.2 x a8) (Rn.app (xs:=xs) ⟨runW_k h',λy Y=>h.2 y (by simp[Y])⟩ k)
def xW{x w:i_}(h:RowT x (w::r))(hw:Hx w "#"=b_):vT s x=rM s w r:=by unfold vT;rw[h.words];simp only[];rw[k_ (by rw[hw];decide)]
theorem B6:∀(ks:bv) (s:WS),(s.ks++ks).length<=6->(s.ks++ks).Nodup->(∀k∈ks,Nm k)->Rn s (ks.map cb) {s with ks:=s.ks++ks}
 |[],s,_,_,_=>by rw[Ia];exact Rn.nil s|k::ks,s,Y,J,I=>by
  have e:vT s (cb k)=a_ {s with ks:=s.ks++[k]}:=by
   rw[xW (yu (I k a8)) w_ne.1];unfold rM;rw[g_ rfl];unfold Ft;have a:=wm (I k a8);have n2:k∉s.ks:=λm=>by have:=(Jb.mp J).2.2 k m k a8;exact this rfl
   simp only[Gx,Gy]at Y;exact g_ (by simp[a,n2];lia)
  refine Rn.cons e (yu (I k a8)).free ?_;have:=B6 ks {s with ks:=s.ks++[k]} (by simpa using Y) (by simpa using J) (λx b=>I x (by simp[b]));simpa using this
def kf(p:(i_×i_)×Int)(g:PKs)(k:i_×i_):nz (p::g) k=if p.1=k then a_ p.2 else nz g k:=by
 unfold nz;rw[Jr];by_cases e:p.1=k
 .rw[g_ e,E_ e];rfl
 .rw[k_ e,v_ e]
theorem Bs(k k':i_×i_)(v:Int):∀g:PKs,nz g k=c_->nz (g++[(k,v)]) k'=if k=k' then a_ v else nz g k'
 |[],_=>by rw[JP,kf]|p::g,h=>by
  rw[kf]at h;have e:p.1≠k:=λe=>by rw[g_ e]at h;cases h
  rw[k_ e]at h;rw[Lq,kf,kf,Bs k k' v g h];by_cases a:p.1=k'
  .rw[g_ a,k_ (λb=>e (a.trans b.symm)),g_ a]
  .rw[k_ a,k_ a]
theorem Br(k k':i_×i_)(v:Int):∀g:PKs,nz (g.map λp=>if p.1=k then(p.1,v)else p) k'=if k=k' then(nz g k').map λ_=>v else nz g k'
 |[]=>by show c_=_;split<;>rfl
 |p::g=>by
  rw[GJ,kf,kf,Br k k' v g];by_cases e:p.1=k
  .rw[g_ e];by_cases a:p.1=k'
   .rw[g_ a,g_ a,g_ (e.symm.trans a)];rfl
   .rw[k_ a,k_ a]
  .rw[k_ e];by_cases a:p.1=k'
   .rw[g_ a,g_ a,k_ (λb=>e (a.trans b.symm))]
   .rw[k_ a,k_ a]
def Bq(g:PKs)(k k':i_×i_)(v:Int):nz (zd g k v) k'=if k=k' then a_ v else nz g k':=by
 unfold zd;cases e:nz g k with
 |none=>rw[k_ a8];exact Bs k k' v g e|some i=>
  rw[g_ (show(a_ i).isSome=d_ from rfl),Br];by_cases a:k=k'
  .subst a;rw[g_ rfl,g_ rfl,e];rfl
  .rw[k_ a,k_ a]
noncomputable def DC:Bool->WS->PKs
 |true,s=>s.b|false,s=>s.g
noncomputable def setB:Bool->WS->PKs->WS
 |true,s,t=>{s with b:=t}
 |false,s,t=>{s with g:=t}
def wD:Bool->i_
 |true=>wB|false=>wG
def Eo(b:Bool)(s:WS):setB b s (DC b s)=s:=by cases b<;>rfl
theorem rowG(b:Bool){x:i_}(c:x∈s.ks)(a:y∈s.ks)(Y:Nm x)(J:Nm y)(I:0<=i)(h1:i<=1000000):vT s (hX (wD b) x y i)=a_ (setB b s (zd (DC b s) (x,y) i)):=by
 have d:=bg I am;cases b
 .show vT s (hX wG x y i)=_;rw[xW (rC wd_w.2.1 lgap Y J I h1) w_ne.2.1];unfold rM;rw[k_ dkK,g_ rfl];unfold gapW;simp only[];rw[g_ ⟨c,a⟩,d];exact g_ h1
 .show vT s (hX wB x y i)=_;rw[xW (rC wd_w.2.2.1 lbes Y J I h1) w_ne.2.2.1];unfold rM;rw[k_ dkK,k_ dkK,g_ rfl];unfold gapW;simp only[];rw[g_ ⟨c,a⟩,d];exact g_ h1
def freeG(b:Bool){x:i_}(J:Nm x)(I:Nm y)(Y:0<=i)(h1:i<=1000000):Tactic.free 10 (hX (wD b) x y i):=by
 cases b
 .exact(rC wd_w.2.1 lgap J I Y h1).free
 .exact(rC wd_w.2.2.1 lbes J I Y h1).free
theorem rn_of(b:Bool)(I:Int)(F:i_->i_->Int)(ks:bv)(Y:∀k∈ks,Nm k)(d:∀x y,0<=F x y/\F x y<=1000000){x:i_}(g:x∈ks):∀(ys:bv) (s:WS),s.ks=ks->(∀y∈ys,y∈ks)->∃T,Rn s (b8 (wD b) I x ys (ys.map (F x))) (setB b s T)/\(∀p,nz T p=nz (DC b s) p\/nz T p=a_ (F p.1 p.2))/\∀y∈ys,nz T (x,y)=a_ (F x y)\/F x y<I
 |[],s,_,_=>⟨DC b s,by rw[Eo];exact Rn.nil s,λ_=>.inl rfl,λ_ h=>(nomatch h)⟩
 |y::ys,s,es,f=>by
  show ∃T,Rn s ((if I<=F x y then [hX (wD b) x y (F x y)]else [])++b8 (wD b) I x ys (ys.map (F x))) _/\_;by_cases j:I<=F x y
  .rw[g_ j];have e:=rowG b (s:=s) (es▸g) (es▸f y a8) (Y x g) (Y y (f y a8)) (d x y).1 (d x y).2;obtain⟨T,r,t1,t2⟩:=rn_of b I F ks Y d g ys (setB b s (zd (DC b s) (x,y) (F x y))) (by cases b<;>exact es) (λz J=>f z (by simp[J]));have l:DC b (setB b s (zd (DC b s) (x,y) (F x y)))=zd (DC b s) (x,y) (F x y):=by cases b<;>rfl
   have i:setB b (setB b s (zd (DC b s) (x,y) (F x y))) T=setB b s T:=by cases b<;>rfl
   rw[i]at r;refine⟨T,Rn.cons e (freeG b (Y x g) (Y y (f y a8)) (d x y).1 (d x y).2) r,λp=>?_,λz J=>?_⟩
   .rcases t1 p with a|a
    .rw[l,Bq]at a;by_cases c:(x,y)=p
     .rw[g_ c]at a;subst c;exact .inr a
     .rw[k_ c]at a;exact .inl a
    .exact .inr a
   .rcases q_.mp J with rfl|J
    .rcases t1 (x,z)with a|a
     .rw[l,Bq,g_ rfl]at a;exact .inl a
     .exact .inl a
    .exact t2 z J
  .rw[k_ j];obtain⟨T,r,t1,t2⟩:=rn_of b I F ks Y d g ys s es (λz J=>f z (by simp[J]));refine⟨T,r,t1,λz J=>?_⟩
   rcases q_.mp J with rfl|J
   .exact .inr am
   .exact t2 z J
theorem zO(b:Bool)(I:Int)(F:i_->i_->Int)(ks:bv)(g:∀k∈ks,Nm k)(i:∀x y,0<=F x y/\F x y<=1000000):∀(l:bv) (s:WS),s.ks=ks->(∀x∈l,x∈ks)->∃T,Rn s (aT (wD b) I ks l (l.map λx=>ks.map (F x))) (setB b s T)/\(∀p,nz T p=nz (DC b s) p\/nz T p=a_ (F p.1 p.2))/\∀x∈l,∀y∈ks,nz T (x,y)=a_ (F x y)\/F x y<I
 |[],s,_,_=>⟨DC b s,by rw[Eo];exact Rn.nil s,λ_=>.inl rfl,λ_ h=>(nomatch h)⟩
 |x::l,s,es,f=>by
  obtain⟨Y,j,n,c1⟩:=rn_of b I F ks g i (f x a8) ks s es (λ_ h=>h);obtain⟨T,r,t1,t2⟩:=zO b I F ks g i l (setB b s Y) (by cases b<;>exact es) (λz J=>f z (by simp[J]));have m:DC b (setB b s Y)=Y:=by cases b<;>rfl
  have d:setB b (setB b s Y) T=setB b s T:=by cases b<;>rfl
  rw[d]at r;rw[m]at t1;refine⟨T,Rn.app j r,λp=>?_,λz J y e=>?_⟩
  .rcases t1 p with a|a
   .rw[a];exact n p
   .exact .inr a
  .rcases q_.mp J with rfl|J
   .rcases c1 y e with c|c
    .rcases t1 (z,y)with a|a
     .exact .inl (a.trans c)
     .exact .inl a
    .exact .inr c
   .exact t2 z J y e
theorem xX:∀(cs:List qh) (s:WS),(s.cs++cs).length<=20->(∀p∈cs,St1 p)->Rn s (cs.map bo) {s with cs:=s.cs++cs}
 |[],s,_,_=>by rw[Ia];exact Rn.nil s|p::cs,s,J,I=>by
  have e:vT s (bo p)=a_ {s with cs:=s.cs++[p]}:=by have h:=I p a8;rw[xW (u5 h) w_ne.2.2.2.1];obtain⟨a,c,d⟩:=h;unfold rM;rw[k_ dkK,k_ dkK,k_ dkK,g_ rfl];unfold u4;simp only[];rw[bg a am,bg am am];simp only[Gx,Gy]at J;exact g_ (by unfold stB;simp;lia)
  refine Rn.cons e (u5 (I p a8)).free ?_;have:=xX cs {s with cs:=s.cs++[p]} (by simpa using J) (λx Y=>I x (by simp[Y]));simpa using this
theorem Bn(Y:ks.Nodup)(c:0<=i)(h1:i<ks.length):kAt ks i∈ks/\((kI ks (kAt ks i):Nat):Int)=i:=by
 have J:i.toNat<ks.length:=am
 have e:kAt ks i=ks[i.toNat]:=by unfold kAt;rw[LR,G_ J];rfl
 have I:kAt ks i∈ks:=e▸Hj J;obtain⟨_,a,b⟩:=qU I;refine⟨I,?_⟩
 rw[G_ a]at b;have b:ks[kI ks (kAt ks i)]=ks[i.toNat]:=(GR b).trans e;have:=(NC Y).mp b;lia
theorem uR(ks:bv)(g:ks.Nodup)(J:∀k∈ks,Nm k):∀(nf:List (i_×Fli)) (s:WS),s.ks=ks->(s.nf++nf).length<=40->((s.nf++nf).map (·.1)).Nodup->(∀p∈nf,Nm p.1/\Fl1 ks.length p.2)->Rn s (nf.map (aG ks)) {s with nf:=s.nf++nf}
 |[],s,_,_,_,_=>by rw[Ia];exact Rn.nil s|(nm,f)::nf,s,es,h,hd,Y=>by
  obtain⟨I,F⟩:=Y (nm,f) a8;have I:Nm nm:=I;have F:Fl1 ks.length f:=F;have e:vT s (aG ks (nm,f))=a_ {s with nf:=s.nf++[(nm,f)]}:=by
   rw[xW (tK J I F) w_ne.2.2.2.2];obtain⟨k0,k1,a,b,c,d,e⟩:=F;obtain⟨l,j⟩:=Bn g k0 k1;have n:nm∉s.nf.map (·.1):=λm=>by rw[GF]at hd;exact(Jb.mp hd).2.2 nm m nm a8 rfl
   simp only[Gx,Gy]at h;unfold rM;rw[k_ dkK,k_ dkK,k_ dkK,k_ dkK,g_ rfl];unfold tH;simp only[];rw[g_ (by rw[es,wm I];simp only[l_,GH,IG,IB,w_];exact⟨am,l,trivial,n⟩)];have i:Bg (aL f.first) (aL f.last) (aL f.due) (aL f.price)=a_ (f.first,f.last,f.due,f.price):=by unfold Bg;rw[bg a am,bg am am,bg d.1 am,bg e.1 am]
   rw[i];simp only[];rw[es,j,g_ (by unfold flB rgB;simp only[l_,GH];lia)]
  refine Rn.cons e (tK J I F).free ?_;have:=uR ks g J nf {s with nf:=s.nf++[(nm,f)]} es (by simpa using h) (by simpa using hd) (λx o=>Y x (by simp[o]));simpa using this
theorem tx_len{w:Sht}(h:w.Good):w.tx.length<=1000000:=by
 have z:∀rs:bv,(∀x∈rs,x.length<=400)->(textOf rs).length<=rs.length*401:=by
  intro rs
  induction rs with
  |nil=>exact λ_=>z_ _|cons x rs J=>
   intro I;have a:=J λy Y=>I y (by simp[Y]);have b:=I x a8;have e:textOf (x::rs)=x++NLs++textOf rs:=rfl;have c:NLs.length=1:=by decide +kernel
   rw[e,ku,ku,Gy];lia
 have a:=z w.rs h.se;have b:=h.B2;have:w.tx.length=(textOf w.rs).length:=rfl;lia
def bb{I:Type}(x:M α)(f:α->M β)(g:β->M I):(x.bind f).bind g=x.bind λa=>(f a).bind g:=by cases x<;>rfl
def gQ{g h:ah->M Gp}(e:g ρ=.ok (.nx ρ')):cx g h ρ=h ρ':=by unfold cx;rw[e];rfl
section
variable(CR CP CS CW CE CD CK:f_)
theorem lg_in(n:Nat){w:i_}(hw:w.length<=100){ks:bv}{rows:List ca}(a:∀k∈ks,k.length<=100)(e:bR ks.length rows)(I:Int){i:Nat}(hi:i<ks.length):∀(m j:Nat) (J:bv) (f:Option A'),j+m=ks.length->J.length+m<=10000->∃g,
  kq (.nm 6) (dA) (d6 (j:Int) m) [a_ (.str w),a_ (.lst (ks.map .str)),a_ (aO rows),a_ (.int I),a_ (.lst (J.map .str)),a_ (.int (i:Int)),f]=.ok (.nx [a_ (.str w),a_ (.lst (ks.map .str)),a_ (aO rows),a_ (.int I),a_ (.lst ((J++b8 w I ks[i] (ks.drop j) ((rows[i]'(by rw[e.1];exact hi)).drop j)).map .str)),a_ (.int (i:Int)),g])
 |0,j,J,f,r,_=>⟨f,by have:ks.drop j=[]:=Kz am;rw[this];simp[d6,kq,b8]⟩|m+1,j,J,f,r,z=>by
  have Y:j<ks.length:=am
  have c:i<rows.length:=by rw[e.1];exact hi
  have d:=e.2 rows[i] (Hj c);have b:j<rows[i].length:=by rw[d.1];exact Y
  have l:=bR.nat e rows[i] (Hj c) rows[i][j] (Hj b);have g1:=rowAt' c;have g2:=intAt' b;have g3:=xA hi;have t:=xA Y;have u:=joinG ks[i] ks[j] rows[i][j] w;have o:=gr l;have y:ks.drop j=ks[j]::ks.drop (j+1):=Hz Y;have x:rows[i].drop j=rows[i][j]::rows[i].drop (j+1):=Hz b;have es:(e_ " ").length=1:=by decide +kernel
  have k1:=a _ (Hj hi);have k2:=a _ (Hj Y);have k3:=str_len l;rw[n6,y,x,b8];have v:dA [a_ (.str w),a_ (.lst (ks.map .str)),a_ (aO rows),a_ (.int I),a_ (.lst (J.map .str)),a_ (.int (i:Int)),a_ (.int (j:Int))]=.ok (.nx [a_ (.str w),a_ (.lst (ks.map .str)),a_ (aO rows),a_ (.int I),a_ (.lst ((J++(if I<=rows[i][j]then [hX w ks[i] ks[j] rows[i][j]]else [])).map .str)),a_ (.int (i:Int)),a_ (.int (j:Int))]):=by
   have q:w.length+(ks[i].length+(ks[j].length+(aL rows[i][j]).length))+4<=16777216:=am
   have s:J.length<16777216:=am
   simp only[aO,pk]at g1;by_cases h:I<=rows[i][j]
   .simp[dA,iz,aO,g1,pk,g2,g3,t,o,u,es,q,s,h]
   .simp[dA,iz,aO,g1,pk,g2,h]
  obtain⟨g,p⟩:=lg_in n hw a e I hi m (j+1) (J++(if I<=rows[i][j]then [hX w ks[i] ks[j] rows[i][j]]else [])) (a_ (.int (j:Int))) am (by rw[Gx];split<;>simp<;>lia);refine⟨g,?_⟩
  rw[<- Hl,<- p];simp[kq,v]
theorem lg_out(n:Nat){w:i_}(hw:w.length<=100){ks:bv}{rows:List ca}(b:∀k∈ks,k.length<=100)(o:ks.length<=6)(g:bR ks.length rows)(I:Int):∀(m i:Nat) (J:bv) (c a:Option A'),i+m=ks.length->J.length+6*m<=9000->∃f d,
  kq (.nm 5) (fm) (d6 (i:Int) m) [a_ (.str w),a_ (.lst (ks.map .str)),a_ (aO rows),a_ (.int I),a_ (.lst (J.map .str)),c,a]=.ok (.nx [a_ (.str w),a_ (.lst (ks.map .str)),a_ (aO rows),a_ (.int I),a_ (.lst ((J++aT w I ks (ks.drop i) (rows.drop i)).map .str)),f,d])
 |0,i,J,c,a,hi,_=>⟨c,a,by have:ks.drop i=[]:=Kz am;rw[this];simp[d6,kq,aT]⟩|m+1,i,J,c,a,hi,t=>by
  have Y:i<ks.length:=am
  have h:i<rows.length:=by rw[g.1];exact Y
  obtain⟨d,e⟩:=lg_in n hw b g I Y ks.length 0 J a am am;simp only[J8,NR]at e;have k1:(-4611686018427387904:Int)<=(ks.length:Int):=am
  have k2:(ks.length:Int)<4611686018427387904:=am
  have q:fm [a_ (.str w),a_ (.lst (ks.map .str)),a_ (aO rows),a_ (.int I),a_ (.lst (J.map .str)),a_ (.int (i:Int)),a]=.ok (.nx [a_ (.str w),a_ (.lst (ks.map .str)),a_ (aO rows),a_ (.int I),a_ (.lst ((J++b8 w I ks[i] ks rows[i]).map .str)),a_ (.int (i:Int)),d]):=by rw[<- e];simp[fm,k1,k2]
  have s:ks.drop i=ks[i]::ks.drop (i+1):=Hz Y;have r:rows.drop i=rows[i]::rows.drop (i+1):=Hz h;have p:=jl w I ks[i] ks rows[i];obtain⟨f,j,l⟩:=lg_out n hw b o g I m (i+1) (J++b8 w I ks[i] ks rows[i]) (a_ (.int (i:Int))) d am (by rw[Gx];lia);refine⟨f,j,?_⟩
  rw[n6,s,r,aT,<- Hl,<- l];simp[kq,q]
theorem yq(n:Nat){w:i_}(hw:w.length<=100)(J:∀k∈ks,k.length<=100)(a:ks.length<=6)(Y:bR ks.length rows)(I:Int):dh [.str w,.lst (ks.map .str),aO rows,.int I]=.ok (.lst ((aT w I ks ks rows).map .str)):=by
 obtain⟨c,b,e⟩:=lg_out n hw J a Y I ks.length 0 [] c_ c_ am (by simp;lia);simp only[J8,NR,JW,JP]at e;have k1:(-4611686018427387904:Int)<=(ks.length:Int):=am
 have k2:(ks.length:Int)<4611686018427387904:=am
 simp[dh,m6,k1,k2,e]
def nq(n:Nat){nm:i_}(Y:ks.length<=6)(J:nm.length<=100)(I:∀k∈ks,k.length<=100)(a:BFl ks.length f):br [.str nm,flD f,.lst (ks.map .str)]=.ok (.str (aG ks (nm,f))):=by rw[<- lC n Y J I a];simp[br,kh,cP,jS,bb]
theorem addL{a b:bv}(h:a.length+b.length<=1000):bZ (.lst (a.map .str)) (.lst (b.map .str))=.ok (.lst ((a++b).map .str)):=by simp[bZ,Hr];lia
theorem CV(ks:bv)(J:∀k∈ks,k.length<=100):bu (.nm 0) ir (f2 bZ (fC (.str "kind ")) (ae 0)) [c_] (ks.map .str)=.ok ((ks.map cb).map .str):=by
 rw[s_];refine dZ _ _ ks λk I=>⟨[a_ (.str k)],rfl,?_⟩
 have e:(e_ "kind ").length=5:=by decide +kernel
 have:=J k I;simp[xI (a:=e_ "kind ") (b:=k) am,cb]
theorem yt(cs:List qh)(h:∀p∈cs,p.1.natAbs<10^10/\p.2.natAbs<10^10):bu (.tp [0,1]) ir (f2 bZ (f2 bZ (f2 bZ (fC (.str "closed ")) (fL ud (a9 (ae 0) aB))) (fC (.str " "))) (fL ud (a9 (ae 1) aB))) [c_,c_] (cs.map stD)=.ok ((cs.map bo).map .str):=by
 rw[s_];refine dZ _ _ cs λp I=>⟨[a_ (.int p.1),a_ (.int p.2)],rfl,?_⟩
 obtain⟨h1,h2⟩:=h p I;have e:(e_ "closed ").length=7:=by decide +kernel
 have es:(e_ " ").length=1:=by decide +kernel
 have Y:=str_len h1;have J:=str_len h2;simp[gr h1,gr h2,xI (a:=e_ "closed ") (b:=aL p.1) am,xI (a:=e_ "closed "++aL p.1) (b:=e_ " ") (by rw[ku];lia),xI (a:=e_ "closed "++aL p.1++e_ " ") (b:=aL p.2) (by rw[ku,ku];lia),bo,SP]
theorem Bm(n:Nat){ks:bv}(l:ks.length<=6)(J:∀k∈ks,k.length<=100)(j i g f d:Option A'):∀(nf:List (i_×Fli)) (I:bv) (a Y:Option A'),(∀p∈nf,p.1.length<=100/\BFl ks.length p.2)->I.length+nf.length<=1000->∃c b,
  kq (.tp [7,8]) (jo) (nf.map λp=>A'.tup [.str p.1,flD p.2]) [a_ (.lst (ks.map .str)),j,i,g,f,d,a_ (.lst (I.map .str)),a,Y]=.ok (.nx [a_ (.lst (ks.map .str)),j,i,g,f,d,a_ (.lst ((I++nf.map (aG ks)).map .str)),c,b])
 |[],I,a,Y,_,_=>⟨a,Y,by simp[kq]⟩|p::nf,I,a,Y,h,r=>by
  obtain⟨p1,p2⟩:=h p a8;have e:=nq n (nm:=p.1) l p1 J p2;simp only[Gy]at r;have s:I.length<16777216:=am
  obtain⟨c,b,m⟩:=Bm n l J j i g f d nf (I++[aG ks p]) (a_ (.str p.1)) (a_ (flD p.2)) (λq o=>h q (by simp[o])) (by simp;lia);refine⟨c,b,?_⟩
  rw[GJ,GJ,ND,<- m];simp[kq,jo,e,s,j6,mJ]
theorem ltext(n:Nat){w:Sht}(h:w.Good):kB [w.kD,aO w.rows,w.bD,w.cD,w.nD,w.fD]=.ok (.str w.tx):=by
 have e1:=CV w.ks h.kl;have e3:=yq n lgap h.kl h.k6 h.rows 1;have e5:=yt w.cs h.cl;have E:=Fd w.rs h.se;have J:=h.B2;have r:w.ks.length<=16777216:=by have:=h.k6;lia
 have q:w.cs.length<=16777216:=by have:=h.cm;lia
 have p:w.rs.length<=16777216:=am
 obtain⟨B,I⟩:∃B,qg w.ks w.o=B:=⟨_,rfl⟩
 have g:w.ks.length+(aT "gap" 1 w.ks w.ks w.rows).length+B.length+w.cs.length+w.nf.length<=200:=by unfold Sht.rs rowsOf at J;simp only[Gx,w_,I]at J;exact J
 have G:=addL (a:=w.ks.map cb) (b:=aT "gap" 1 w.ks w.ks w.rows) (by rw[w_];lia);have D:jm [a_ w.kD,a_ (aO w.rows),a_ w.bD,a_ w.cD,a_ w.nD,a_ w.fD,a_ (.lst ((w.ks.map cb++aT "gap" 1 w.ks w.ks w.rows).map .str)),c_,c_]=.ok (.nx [a_ w.kD,a_ (aO w.rows),a_ w.bD,a_ w.cD,a_ w.nD,a_ w.fD,a_ (.lst ((w.ks.map cb++aT "gap" 1 w.ks w.ks w.rows++B).map .str)),c_,c_]):=by
  unfold Sht.bD;cases c:w.o with
  |none=>rw[c]at I;have I:B=[]:=I.symm;subst I;simp[jm]|some r2=>have Y:=yq n lbes h.kl h.k6 (h.o r2 c) 0;rw[c]at I;have I:aT "beside" 0 w.ks w.ks r2=B:=I;rw[I]at Y;have j:=addL (a:=w.ks.map cb++aT "gap" 1 w.ks w.ks w.rows) (b:=B) (by simp;lia);simp[jm,aO,-GF,-Hl]at Y j ⊢;simp[Sht.kD,Y,j,-GF,-Hl]
 have F:=addL (a:=w.ks.map cb++aT "gap" 1 w.ks w.ks w.rows++B) (b:=w.cs.map bo) (by simp;lia);obtain⟨f,e,i⟩:=Bm n h.k6 h.kl (a_ (aO w.rows)) (a_ w.bD) (a_ w.cD) (a_ w.nD) (a_ w.fD) w.nf (w.ks.map cb++aT "gap" 1 w.ks w.ks w.rows++B++w.cs.map bo) c_ c_ h.nl (by simp;lia);have A:w.ks.map cb++aT "gap" 1 w.ks w.ks w.rows++B++w.cs.map bo++w.nf.map (aG w.ks)=w.rs:=by rw[<- I];rfl
 rw[A]at i;have u:((w.rs.map (·++NLs)).map (·.length)).sum<=16777216:=by
  have:=lenLe (w.rs.map (·++NLs)) 401 (λx t=>by obtain⟨y,s,rfl⟩:=GZ.mp t;have:=h.se y s;rw[ku,Fc];lia)
  rw[w_]at this;lia
 have v:(e_ "").length=0:=by decide +kernel
 have es:=jt (w.rs.map (·++NLs));have C:=wq (w.rs.map (·++NLs));have z:=DO w.nf;have d:((w.rs.map (·++NLs)).map (·.length)).sum+(w.rs.map (·++NLs)).length*(e_ "").length<=16777216:=by rw[v,OR];exact u
 have o:(bE [] 6 (f2 bZ (eY (fIt (ae 0)) [c_] (.nm 0) ir (f2 bZ (fC (.str "kind ")) (ae 0))) (fL (dh) (a9 (fC (.str "gap")) (a9 (ae 0) (a9 (ae 1) (a9 (fC (.int 1)) aB))))))) [a_ w.kD,a_ (aO w.rows),a_ w.bD,a_ w.cD,a_ w.nD,a_ w.fD,c_,c_,c_]=.ok (.nx [a_ w.kD,a_ (aO w.rows),a_ w.bD,a_ w.cD,a_ w.nD,a_ w.fD,a_ (.lst ((w.ks.map cb++aT "gap" 1 w.ks w.ks w.rows).map .str)),c_,c_]):=by simp[Sht.kD,e1,r,e3,G,-GF,-s_,-Hl]
 have m:(bE [] 6 (f2 bZ (ae 6) (eY (fIt (ae 3)) [c_,c_] (.tp [0,1]) ir (f2 bZ (f2 bZ (f2 bZ (fC (.str "closed ")) (fL ud (a9 (ae 0) aB))) (fC (.str " "))) (fL ud (a9 (ae 1) aB)))))) [a_ w.kD,a_ (aO w.rows),a_ w.bD,a_ w.cD,a_ w.nD,a_ w.fD,a_ (.lst ((w.ks.map cb++aT "gap" 1 w.ks w.ks w.rows++B).map .str)),c_,c_]=.ok (.nx [a_ w.kD,a_ (aO w.rows),a_ w.bD,a_ w.cD,a_ w.nD,a_ w.fD,a_ (.lst ((w.ks.map cb++aT "gap" 1 w.ks w.ks w.rows++B++w.cs.map bo).map .str)),c_,c_]):=by simp[Sht.cD,e5,q,F,-GF,-s_,-Hl]
 have l:(zM [6] (By (ae 4) (ae 5)) (.tp [7,8]) (jo)) [a_ w.kD,a_ (aO w.rows),a_ w.bD,a_ w.cD,a_ w.nD,a_ w.fD,a_ (.lst ((w.ks.map cb++aT "gap" 1 w.ks w.ks w.rows++B++w.cs.map bo).map .str)),c_,c_]=.ok (.nx [a_ w.kD,a_ (aO w.rows),a_ w.bD,a_ w.cD,a_ w.nD,a_ w.fD,a_ (.lst (w.rs.map .str)),f,e]):=by refine Eq.trans ?_ i;simp[Sht.kD,Sht.nD,Sht.fD,z,mS,-GF,-s_,-Hl]
 have k:(dO (fSM t7 (fC (.str "")) (eY (fIt (ae 6)) [c_] (.nm 0) ir (f2 bZ (ae 0) (fC (.str "\n")))))) [a_ w.kD,a_ (aO w.rows),a_ w.bD,a_ w.cD,a_ w.nD,a_ w.fD,a_ (.lst (w.rs.map .str)),f,e]=.ok (.rt (.str w.tx)):=by simp[p,E,-s_];simp only[es,Hr,aq,g_ d,C];rfl
 refine Eu rfl ?_;show nE [a_ w.kD,a_ (aO w.rows),a_ w.bD,a_ w.cD,a_ w.nD,a_ w.fD,c_,c_,c_]=_;unfold nE;simp only[gQ o,gQ D,gQ m,gQ l,k]
def Sht.m(w:Sht):Mst:=⟨w.kD,aO w.rows,w.bD,w.cs.map stD,(w.nf.map (·.1)).map .str,(w.nf.map (·.2)).map flD⟩
def m_n(w:Sht):w.m.n=(w.nf.map (·.1)).map .str:=rfl
def uV(n:Nat){w:Sht}(h:w.Good):eV [w.m.D]=.ok (.str w.tx):=by have e:=ltext n h;have e:kB [w.kD,aO w.rows,w.bD,.lst (w.cs.map stD),.lst ((w.nf.map (·.1)).map .str),.lst ((w.nf.map (·.2)).map flD)]=.ok (.str w.tx):=e;simp[eV,kg,Mst.D,Sht.m,lstOf,j6,e,-s_]
end
noncomputable def em:i_:=""
structure RowS(x:i_)(ws:bv):Prop extends RowT x ws where
 wl:∀w∈ws,w.length<=100
def xj:bv->bv
 |[]=>[]|[w]=>[w]|w::v::r=>w::em::em::xj (v::r)
def FV:em=(Ip:i_):=by decide +kernel
theorem xD:∀ws:bv,Gz (e_ "   ") ws=Gz SP (xj ws)
 |[]=>rfl|[w]=>rfl|w::v::r=>by
  have I:=xD (v::r);have e3:(e_ "   ")=SP++SP++SP:=by decide +kernel
  obtain⟨y,t,J⟩:∃y t,xj (v::r)=y::t:=by cases r with
   |nil=>exact⟨_,_,rfl⟩|cons _ _=>exact⟨_,_,rfl⟩
  rw[b6,I,xj,b6,b6,J,b6,e3,FV];simp only[bC,mm]
theorem join_snoc(z:i_):∀l:bv,l≠[]->Gz SP (l++[z])=Gz SP l++SP++z
 |[],h=>Gw rfl h|[w],_=>by show Gz SP [w,z]=_;rw[b6,join_one,join_one]|w::v::r,_=>by have I:=join_snoc z (v::r) a8;show Gz SP (w::v::(r++[z]))=_;rw[b6,show v::(r++[z])=(v::r)++[z]from rfl,I,b6];simp only[bC]
theorem vE{P:i_->Prop}(J:P em):∀ws:bv,(∀w∈ws,P w)->∀w∈xj ws,P w
 |[],_=>λ_ h=>nomatch h
 |[w],h=>h|w::v::r,h=>λx I=>by
  simp only[xj,q_]at I;rcases I with rfl|rfl|rfl|I
  .exact h _ a8
  .exact J
  .exact J
  .exact vE J (v::r) (λy Y=>h y (by simp[Y])) x I
theorem rR:∀ws:bv,(∀w∈ws,w≠"")->(xj ws).filter (λw:i_=> !decide (w=""))=ws
 |[],_=>rfl|[w],h=>by simp[xj,h w a8]|w::v::r,h=>by have I:=rR (v::r) λy J=>h y (by simp[J]);have e0:em="":=rfl;simp only[xj,Kn,I,e0];simp[h w a8]
theorem AX:∀ws:bv,(xj ws).length<=3*ws.length
 |[]=>by simp[xj]|[w]=>by simp[xj]|w::v::r=>by have I:=AX (v::r);simp only[xj,Gy]at I ⊢;lia
theorem Ac(I:i_):∀xs:bv,(Gz I xs).length<=(xs.map (·.length)).sum+xs.length*I.length
 |[]=>Ib _|[x]=>by simp[join_one]|x::y::r=>by have J:=Ac I (y::r);rw[b6,ku,ku];simp only[GJ,List.sum_cons,Gy,Nat.add_mul]at J ⊢;lia
structure RowX(x:i_)(ws:bv):Prop where
 w:j4 x=ws
 f:10∉x.cps.toList
 l:x.length<=1000000
theorem RowS.x{x:i_}{ws:bv}(h:RowS x ws):RowX x ws:=⟨h.words,h.free,by have:=h.l1;lia⟩
noncomputable def oZ(x:i_):i_:="  "++IW x " " "   "++" "
theorem AW{x:i_}(h:RowS x ws):RowX (oZ x) ws:=by
 have J:∀w∈ws,free 32 w:=λw hw=>(h.wd w hw).free (by unfold CU;lia);have fe:∀c,free c em:=λc Y=>by rw[show em.cps.toList=[] by decide +kernel]at Y;cases Y
 have es:oZ x=Gz SP ((em::em::xj ws)++[em]):=by
  unfold oZ;rw[Ek,StrLaws.replace_one,h.e,xc,nW 32 ws h.ne J,<- xc,xD,join_snoc _ _ a8];obtain⟨y,t,f⟩:∃y t,xj ws=y::t:=by
   match ws,h.ne with
   |[w],_=>exact⟨_,_,rfl⟩|w::v::r,_=>exact⟨_,_,rfl⟩
  rw[b6,f,b6,show(e_ "  ")=SP++SP by decide +kernel,FV];simp only[bC,mm,rh]
 have fp:∀c,(∀w∈ws,free c w)->∀p∈(em::em::xj ws)++[em],free c p:=λc Y p I=>by
  simp only[GO,q_,GQ,Iw]at I;rcases I with(rfl|rfl|I)|rfl
  .exact fe c
  .exact fe c
  .exact vE (P:=free c) (fe c) ws Y p I
  .exact fe c
 refine⟨?_,?_,?_⟩
 .unfold j4;rw[Ek,es,xc,nW 32 _ a8 (fp 32 J)];have:=rR ws λw hw e=>(h.wd w hw).ne (by rw[e];decide +kernel);have e0:em="":=rfl;simp[List.filter_append,Kn,this,e0]
 .rw[es,xc];exact tE a' _ (fp 10 λw hw=>(h.wd w hw).free (by unfold CU;lia))
 .rw[es];have a:=Ac SP ((em::em::xj ws)++[em]);have b:=lenLe ((em::em::xj ws)++[em]) 100 (λp I=>by
   simp only[GO,q_,GQ,Iw]at I;rcases I with(rfl|rfl|I)|rfl
   .decide +kernel
   .decide +kernel
   .exact vE (P:=λp=>p.length<=100) dkK ws h.wl p I
   .decide +kernel)
  have c:=AX ws;have d:=h.l2;have e:SP.length=1:=by decide +kernel
  rw[e]at a;simp only[Gx,Gy,List.length_nil]at a b;lia
section
variable(CR CP CS CW CE CD CK:f_)
theorem Ej(n:Nat){x:i_}(h:RowS x ws)(c:Int):∃y,gL [.str x,.int c]=.ok (.str y)/\RowX y ws:=by
 have g:=h.l1;by_cases I:c%3=1
 .refine⟨oZ x,?_,AW h⟩
  have z:(("   ":i_)).length=3:=by decide +kernel
  have e2:(("  ":i_)).length=2:=by decide +kernel
  have e1:((" ":i_)).length=1:=by decide +kernel
  have d:((" ":i_)==("   ":i_))=b_:=by decide +kernel
  have e:x.length+(x.length+1)*3<=16777216:=am
  have f:(IW x " " "   ").length<=1000000:=by have:=(AW h).l;unfold oZ at this;rw[ku,ku]at this;lia
  have Y:=xI (a:=("  ":i_)) (b:=IW x " " "   ") am;have J:=xI (a:=("  ":i_)++IW x " " "   ") (b:=(" ":i_)) (by rw[ku];lia);simp[gL,kH,jF,I,z,d,e,Y,J,oZ]
 .exact⟨x,by simp[gL,kH,jF,I],h.x⟩
end
theorem jn_app(c:Nat):∀(u v:List cc),u≠[]->v≠[]->jn c (u++v)=jn c u++c::jn c v
 |[],_,h,_=>Gw rfl h|[x],y::r,_,_=>rfl|[x],[],_,h=>Gw rfl h|x::y::r,v,_,hv=>by have I:=jn_app c (y::r) v a8 hv;show x++c::jn c (y::r++v)=(x++c::jn c (y::r))++c::jn c v;rw[I];simp
def pcK(k:cc):bv->List cc
 |[]=>[]|[p]=>pcs 32 p.cps.toList|p::q::r=>pcs 32 p.cps.toList++k::pcK k (q::r)
theorem pcK_ne(k:cc):∀ps:bv,ps≠[]->pcK k ps≠[]
 |[],h=>Gw rfl h|[p],_=>(mM 32 _).1|p::q::r,_=>by simp[pcK]
def BO(a b:i_):(a++b).cps.toList=a.cps.toList++b.cps.toList:=by show(a.cps++b.cps).toList=_;rw[Jl]
theorem pcK_jn{y K:i_}(I:y=SP++K++SP):∀ps:bv,ps≠[]->jn 32 (pcK K.cps.toList ps)=(Gz y ps).cps.toList
 |[],h=>Gw rfl h|[p],_=>(mM 32 _).2.1|p::q::r,_=>by
  have J:=pcK_jn I (q::r) a8;have s:SP.cps.toList=[32]:=by decide +kernel
  obtain⟨z,t,Y⟩:∃z t,pcK K.cps.toList (q::r)=z::t:=Jj (pcK_ne _ _ a8);rw[pcK,jn_app 32 _ _ (mM 32 _).1 a8,(mM 32 _).2.1,b6,I,Y];rw[Y,I]at J;show _++32::(K.cps.toList++32::jn 32 (z::t))=_;rw[J,BO,BO,BO,BO,s];simp
theorem Bc{K:i_}(I:free 32 K):∀ps:bv,∀p∈pcK K.cps.toList ps,32∉p
 |[],_,h=>nomatch h
 |[q],p,h=>((mM 32 _).2.2.1 p h).1|q::J::r,p,h=>by
  simp only[pcK,GO,q_]at h;rcases h with h|rfl|h
  .exact((mM 32 _).2.2.1 p h).1
  .exact I
  .exact Bc I (J::r) p h
def pcK_mem(k:cc)(p q:i_)(r:bv):k∈pcK k (p::q::r):=by simp[pcK]
def cut_once{u v n:List α}{a b k:α}(h:u++k::v=a::b::k::n)(Y:k≠a)(J:k≠b)(I:k∉n):u=[a,b]/\v=n:=by
 match u,h with
 |[],h=>cases h;exact Gw rfl Y|[_],h=>cases h;exact Gw rfl J|[_,_],h=>cases h;exact⟨rfl,rfl⟩|_::_::_::u,h=>simp only[Lq,Ke]at h;exact Gw (by rw[<- h.2.2.2];simp) I
theorem sub_at(a y b:i_):N4 (a++y++b) y (a++y++b).length a.length:=by
 refine⟨by rw[ku,ku];lia,?_⟩
 unfold Builtin.Str.subAt;rw[Jm];apply Array.ext';have J:a.length=a.cps.toList.length:=by simp[K9]
 have I:y.length=y.cps.toList.length:=by simp[K9]
 rw[Array.toList_extract,BO,BO,J,I,Hl,List.extract_eq_drop_take,List.drop_left,Nat.add_sub_cancel_left,List.take_left]
theorem ED{K:i_}(P:ns≠[])(B:∀w∈a::b::K::ns,free 32 w)(S:K≠a)(R:K≠b)(Q:K∉ns)(v:i_)(G:z=SP++v++SP):
  IW (Gz SP (a::b::K::ns)) (SP++K++SP) z=Gz SP (a::b::v::ns):=by
 obtain⟨J,I,rfl⟩:∃J I,ns=J::I:=Jj P;generalize A:Gz SP (a::b::K::J::I)=x;generalize n:SP++K++SP=y;have e1:SP.length=1:=by decide +kernel
 have F:1<=y.length:=by rw[<- n,ku,ku];lia
 have ex:x=(a++SP++b)++y++Gz SP (J::I):=by rw[<- A,<- n,b6,b6,b6];simp only[bC]
 obtain⟨f,m,g⟩:=StrLaws.occ_tight x y F;obtain⟨T,i⟩:=StrLaws.occ_chain x y (x.length+1);have o:N4 x y x.length (a++SP++b).length:=by rw[ex];exact sub_at _ _ _
 unfold IW;generalize GU x y 0 x.length (x.length+1)=j at m i ⊢;cases j with
 |nil=>have m:f=0:=m;subst m;exact Gw o (g _ (Ib _))|cons c r=>
  rw[k_ (by
   have:(y.length==0)=b_:=by simp;lia
   rw[this];simp),L6,StrLaws.partsBetween_eq]
  have l:=StrLaws.join_partsFrom x y (c::r) 0 T i;rw[StrLaws.sub_whole]at l;obtain⟨p1,rest,L⟩:=StrLaws.partsFrom_ne x y.length (c+y.length) r;have O:MF x y.length 0 (c::r)=L0 x 0 c::p1::rest:=by rw[MF,L]
  rw[O]at l ⊢;generalize L0 x 0 c=p0 at l ⊢;have d:(Gz y (p0::p1::rest)).cps.toList=x.cps.toList:=by rw[l]
  rw[<- pcK_jn n.symm _ a8,<- A,xc,nv]at d;have k:∀{s t:i_},s≠t->s.cps.toList≠t.cps.toList:=λh e=>h (lB e);have H:=Fu 32 _ _ (pcK_ne _ _ a8) a8 (Bc (B K a8) _) (λq N=>by obtain⟨w,hw,rfl⟩:=GZ.mp N;exact B w hw) d
  have u:K.cps.toList∉((J::I).map λx=>x.cps.toList):=λh=>by obtain⟨w,hw,e⟩:=GZ.mp h;exact Q (by rw[<- lB e];exact hw)
  obtain⟨C,p⟩:=cut_once (show pcs 32 p0.cps.toList++K.cps.toList::pcK K.cps.toList (p1::rest)=a.cps.toList::b.cps.toList::K.cps.toList::((J::I).map λx=>x.cps.toList)from H) (k S) (k R) u;have Y:rest=[]:=by
   cases rest with
   |nil=>rfl|cons q t=>exact Gw (by rw[<- p];exact pcK_mem _ p1 q t) u
  subst Y;have E:p0=Gz SP [a,b]:=lB (by rw[xc,nv,<- (mM 32 p0.cps.toList).2.1,C];rfl)
  have D:p1=Gz SP (J::I):=lB (by rw[xc,nv,<- (mM 32 p1.cps.toList).2.1,show pcs 32 p1.cps.toList=_ from p])
  rw[b6,join_one,E,D,G,b6,b6,b6,b6,join_one];simp only[bC]
def lowA(q:cc):Prop:=∀c∈q,CU c
theorem ixS_at(Y:0<=i)(h:z.cps.toList[i.toNat]?=a_ c)(I:z.length<=100):ixSD (.str z) (.int i)=.ok (.str ⟨#[c]⟩):=by
 have J:z.length<=j_:=Ha I a';have b:=(A_.mp h).1;have a:atI z.cps.toList i=a_ c:=by unfold atI ixN;rw[g_ (show 0<=i from Y),g_ am];exact h
 show(if z.length<=j_ then(match atI z.cps.toList i with
  |some c=>Hb (A'.str ⟨#[c]⟩)|none=>stk)else stk)=_
 rw[g_ J,a]
def LD_at:∀i,i<36->LD.cps.toList[i]?=a_ (if i<26 then 97+i else 22+i):=by decide +kernel
theorem low_at{i:Nat}(h:i<36):∃c,LD.cps.toList[i]?=a_ c/\CU c:=⟨_,LD_at i h,by unfold CU;split<;>lia⟩
def str_push(T:i_)(c:Nat):(T++(⟨#[c]⟩:i_)).cps.toList=T.cps.toList++[c]:=by show(T.cps++#[c]).toList=_;simp
def len_is(T:i_):T.length=T.cps.toList.length:=rfl
def yp{q:cc}(Y:CU c)(J:lowA q):lowA (c::q):=λx I=>by
 rcases q_.mp I with rfl|I
 .exact Y
 .exact J x I
def H7(c:Nat):Prop:=(97<=c/\c<=100)\/(120<=c/\c<=122)
def N7(x:i_):Prop:=∃c r,x.cps.toList=c::r/\H7 c/\lowA r/\r.length<=6
theorem Fb{x:i_}{r:cc}(e:x.cps.toList=c::r)(I:97<=c/\c<=122)(J:lowA r)(Y:r.length<=7):Nm x:=
 ⟨⟨by rw[e];simp,λd hd=>by rw[e]at hd;exact(q_.mp hd).elim (λz=>by rw[z];exact .inl I) (J d)⟩,by rw[len_is,e];simp;lia,c,r,e,I⟩
theorem N7.nm{x:i_}(h:N7 x):Nm x:=by obtain⟨c,r,e,J,I,Y⟩:=h;exact Fb e (by unfold H7 at J;lia) I am
theorem N7.len{x:i_}(h:N7 x):x.length<=7:=by obtain⟨c,r,e,Y,I,J⟩:=h;rw[len_is,e];simp;lia
noncomputable def S7:i_:="abcdxyz"
theorem S7_at:∀i,i<7->∃c,S7.cps.toList[i]?=a_ c/\H7 c:=λi hi=>by
 have:∀i,i<7->S7.cps.toList[i]?=a_ (if i<4 then 97+i else 116+i):=by decide +kernel
 exact⟨_,this i hi,by unfold H7;split<;>lia⟩
section
variable(CR CP CS CW CE CD CK:f_)
theorem nloop(n:Nat)(J:Option A'):∀(r:Nat) (j x:Int) (T:i_) (d:Option A'),0<=x->x<2147483647->T.length+r<=90->∃(a:Int) (Y:i_) (g:Option A') (q:cc),(Y.cps.toList=T.cps.toList++q/\q.length=r/\lowA q)/\kq (.nm 3) (jq) (d6 j r) [J,a_ (.int x),a_ (.str T),d]=.ok (.nx [J,a_ (.int a),a_ (.str Y),g])
 |0,j,x,T,b,_,_,h=>⟨x,T,b,[],⟨a8,rfl,λ_ h=>(nomatch h)⟩,rfl⟩
 |r+1,j,x,T,b,A,h1,y=>by
  obtain⟨c,s,I⟩:=low_at (i:=((x*69621+j)%2147483629/32%36).toNat) am;have w:=ixS_at (z:=LD) (i:=(x*69621+j)%2147483629/32%36) am s (by rw[LD_len];lia);have p:(⟨#[c]⟩:i_).length=1:=rfl;have o:(T++(⟨#[c]⟩:i_)).length+r<=90:=by rw[ku];lia
  have u:T.length+(⟨#[c]⟩:i_).length<=16777216:=am
  obtain⟨a,Y,f,q,⟨m,l,k⟩,e⟩:=nloop n J r (j+1) ((x*69621+j)%2147483629) (T++(⟨#[c]⟩:i_)) (a_ (.int j)) am am o;refine⟨a,Y,f,c::q,⟨by rw[m,str_push];simp,by simp[l],yp I k⟩,?_⟩
  have t:jq [J,a_ (.int x),a_ (.str T),a_ (.int j)]=.ok (.nx [J,a_ (.int ((x*69621+j)%2147483629)),a_ (.str (T++(⟨#[c]⟩:i_))),a_ (.int j)]):=by have v:(e_ "abcdefghijklmnopqrstuvwxyz0123456789")=LD:=rfl;simp[jq,v,bZ,u,w,j_]
  rw[n6,kq,e_bnm,aq];simp only[List.set_cons_succ,List.set_cons_zero];rw[t,aq];exact e
theorem wj(n:Nat)(c:Int):∃x,eC [.int c]=.ok (.str x)/\N7 x:=by
 obtain⟨m,l⟩:∃m,c*48271%2147483647=m:=⟨_,rfl⟩
 have k:0<=m:=am
 have h:m<2147483647:=am
 obtain⟨d,hd,o⟩:=S7_at (m%7).toNat am;have t:=ixS_at (z:=S7) (i:=m%7) am hd dkK;have Y:0<=m/8%3/\m/8%3<=2:=am
 have I:0<=m/64%4/\m/64%4<=3:=am
 obtain⟨r,A,p⟩:∃r:Nat,r<=6/\(m/8%3*(m/64%4):Int)=r:=by have C:0<=m/8%3*(m/64%4):=Int.mul_nonneg Y.1 I.1;have B:m/8%3*(m/64%4)<=2*3:=Int.mul_le_mul Y.2 I.2 I.1 am;exact⟨(m/8%3*(m/64%4)).toNat,am,am⟩
 have b: -4611686018427387904<=(r:Int):=am
 have r2:(r:Int)<4611686018427387904:=am
 obtain⟨w,u,v,q,⟨g,y,f⟩,e⟩:=nloop n (a_ (.int c)) r 0 m ⟨#[d]⟩ c_ k h (by show 1+r<=90;lia);refine⟨u,?_,d,q,g,o,f,am⟩
 have s:(e_ "abcdxyz")=S7:=rfl;have a:dQ (m/8%3)=d_:=by unfold dQ;simp;lia
 have J:=e_mulL (j:=m/64%4) a;rw[p]at J;simp[eC,tq,l,s,t,J,b,r2,e]
def nL(n:Nat)(ns:ca)(k:Nat):∃v,aU [.lst (ns.map .int),.int (k:Int)]=.ok (.int v):=by
 by_cases h:k<ns.length
 .exact⟨ns[k],by simp[aU,jT,iY,h,intAt' h]⟩
 .exact⟨0,by simp[aU,jT,iY,h]⟩
theorem gap_ok(n:Nat)(ns:ca)(k:Nat):∃g,gF [.lst (ns.map .int),.int (k:Int)]=.ok (.int g)/\0<=g/\g<=1000000:=by obtain⟨v,e⟩:=nL n ns (2+k);have e:aU [.lst (ns.map .int),.int (2+(k:Int))]=.ok (.int v):=e;obtain⟨g,J,I⟩:=pick3 ((v+k)%7) ((v+k)%1000001) 0 ((v+k)/7%3) am;exact⟨g,by simp[gF,vc,e,I],am,am⟩
theorem FL(n:Nat)(ns:ca)(s:k<=3)(I:Nat)(u:I<=9):∃rows,jz [.lst (ns.map .int),.int (k:Int),.int (I:Int)]=.ok (aO rows)/\bR k rows:=by
 have k1:(-4611686018427387904:Int)<=(k:Int):=am
 have k2:(k:Int)<4611686018427387904:=am
 have k3:k<=16777216:=am
 have J:∀a:Nat,∃r:ca,xi k r/\bu (.nm 0) ir (fL (gF) (a9 (ae 2) (a9 (f2 bZ (f2 bZ (ae 4) (f2 A6 (ae 3) (ae 1))) (ae 0)) aB))) [c_,a_ (.int (a:Int)),a_ (.lst (ns.map .int)),a_ (.int (k:Int)),a_ (.int (I:Int))] (d6 0 k)=.ok (r.map .int):=λa=>by
  obtain⟨ys,h1,h2,Y⟩:=BM (p:=.nm 0) (fe:=fL (gF) (a9 (ae 2) (a9 (f2 bZ (f2 bZ (ae 4) (f2 A6 (ae 3) (ae 1))) (ae 0)) aB))) (ρ0:=[c_,a_ (.int (a:Int)),a_ (.lst (ns.map .int)),a_ (.int (k:Int)),a_ (.int (I:Int))]) (λy=>0<=y/\y<=1000000) (d6 0 k) (λd hd=>by
   obtain⟨j,t,rfl⟩:=mem_range hd;obtain⟨g,c,m⟩:=gap_ok n ns (I+k*a+j);have f:dQ (k:Int)=d_:=by unfold dQ;simp;lia
   have o:=e_mulL (j:=(a:Int)) f;have c:gF [.lst (ns.map .int),.int ((I:Int)+(k:Int)*(a:Int)+(j:Int))]=.ok (.int g):=by rw[<- c,NZ,NZ,Int.natCast_mul]
   exact⟨_,g,rfl,by simp[o,c],m⟩)
  rw[pq]at h1;exact⟨ys,⟨h1,h2⟩,Y⟩
 have outer:∀L:cc,∃rows:List ca,rows.length=L.length/\(∀r∈rows,xi k r)/\bu (.nm 0) ir (eY (Aj B5 (a9 (ae 2) aB)) [c_,a_ 0,a_ 1,a_ 2,a_ 3] (.nm 0) ir (fL (gF) (a9 (ae 2) (a9 (f2 bZ (f2 bZ (ae 4) (f2 A6 (ae 3) (ae 1))) (ae 0)) aB)))) [c_,a_ (.lst (ns.map .int)),a_ (.int (k:Int)),a_ (.int (I:Int))] (L.map λa:Nat=>A'.int (a:Int))=.ok (rows.map pk):=λL=>by
  induction L with
  |nil=>exact⟨[],rfl,λ_ h=>(nomatch h),rfl⟩
  |cons a L i=>
   obtain⟨rows,h1,h2,Y⟩:=i;obtain⟨r,g1,g2⟩:=J a;refine⟨r::rows,by simp[h1],λq l=>(q_.mp l).elim (λe=>by rw[e];exact g1) (h2 q),?_⟩
   rw[GJ,GJ];have b:(d6 0 k).length<=16777216:=by rw[pq];lia
   simp[bu,k1,k2,b,g2,Y,pk,lV]
 obtain⟨rows,h1,h2,Y⟩:=outer (HF k);rw[<- EH]at Y;rw[Nv]at h1;refine⟨rows,?_,h1,h2⟩
 have b:(d6 0 k).length<=16777216:=by rw[pq];lia
 simp[jz,tu,k1,k2,b,Y,aO,lV]
def HK(c:Nat):Prop:=H7 c\/c=107
def NK(x:i_):Prop:=Nm x/\∃c r,x.cps.toList=c::r/\HK c
theorem kinds_ok(n:Nat)(ns:ca):∃ks:bv,iR [.lst (ns.map .int)]=.ok (.lst (ks.map .str))/\2<=ks.length/\ks.length<=3/\(∀k∈ks,NK k)/\ks.Nodup:=by
 obtain⟨h,e0⟩:=nL n ns 0;obtain⟨v1,e1⟩:=nL n ns 1;have e0:aU [.lst (ns.map .int),.int 0]=.ok (.int h):=e0;have e1:aU [.lst (ns.map .int),.int 1]=.ok (.int v1):=e1;obtain⟨x,ex,f⟩:=wj n h;have w:=f.len;have i:JK x c_ (a_ 7)=x:=xG (k:=7) w;have C:((e_ "k")).length=1:=by decide +kernel
 have B:(e_ "k").cps.toList=[107]:=by decide +kernel
 have c2:(e_ "k2").cps.toList=[107,50]:=by decide +kernel
 have l:=xI (a:=x) (b:=e_ "k") am;have p:x.length<=16777216:=am
 have t:=f.nm;obtain⟨c,r,e,J,v,u⟩:=f;have ek:(x++e_ "k").cps.toList=c::(r++[107]):=by rw[BO,e,B];rfl
 have o:NK x:=⟨t,c,r,e,.inl J⟩
 have m:NK (x++e_ "k"):=⟨Fb ek (by unfold H7 at J;lia) (λd hd=>(GO.mp hd).elim (v d) λz=>by rw[GK]at z;rw[z];exact .inl am) (by simp;lia),c,_,ek,.inl J⟩
 have s:NK (e_ "k2"):=⟨Fb c2 am (λd hd=>by rw[GK]at hd;rw[hd];exact .inr am) a8,_,_,c2,.inr rfl⟩
 have q:x≠x++e_ "k":=λz=>by have:=Jo K9 z;rw[ku]at this;lia
 have A:x≠e_ "k2":=λz=>by rw[z,c2]at e;cases e;unfold H7 at J;lia
 have y:x++e_ "k"≠e_ "k2":=λz=>by rw[z,c2]at ek;have:=(JB ek).1;unfold H7 at J;lia
 have Y:∀j:Nat,pZ [A'.str x,.str (x++e_ "k"),.str (e_ "k2")] c_ (a_ (j:Int))=[A'.str x,.str (x++e_ "k"),.str (e_ "k2")].take j:=λj=>by rw[rJ _ am];rfl
 by_cases hv:v1%2=0
 .refine⟨[x,x++e_ "k"],?_,a8,a8,λk I=>?_,by simp[q]⟩
  .have g:pZ [A'.str x,.str (x++e_ "k"),.str (e_ "k2")] c_ (a_ 2)=[A'.str x,.str (x++e_ "k")]:=Y 2;simp[iR,lZ,e0,ex,p,i,l,e1,hv,g,-rJ]
  .simp only[q_,GQ,Iw]at I;rcases I with rfl|rfl
   .exact o
   .exact m
 .refine⟨[x,x++e_ "k",e_ "k2"],?_,a8,a8,λk I=>?_,by simp[q,A,y]⟩
  .have hv:v1%2=1:=am
   have g:pZ [A'.str x,.str (x++e_ "k"),.str (e_ "k2")] c_ (a_ 3)=[A'.str x,.str (x++e_ "k"),.str (e_ "k2")]:=Y 3;simp[iR,lZ,e0,ex,p,i,l,e1,hv,g,-rJ]
  .simp only[q_,GQ,Iw]at I;rcases I with rfl|rfl|rfl
   .exact o
   .exact m
   .exact s
def pick2(A B s:Int)(I:s=0\/s=1):∃a,(s=0/\a=A\/s=1/\a=B)/\iW [.int A,.int B] s=.ok (.int a):=by
 rcases I with rfl|rfl
 .exact⟨A,.inl ⟨rfl,rfl⟩,rfl⟩
 .exact⟨B,.inr ⟨rfl,rfl⟩,rfl⟩
theorem tG(n:Nat)(c:Int)(h1:1<=ks.length)(p:ks.length<=6):∃f,eW [.int c,.lst (ks.map .str)]=.ok (flD f)/\Fl1 ks.length f:=by
 obtain⟨m,I⟩:∃m,c*16807%2147483647=m:=⟨_,rfl⟩
 have j:0<=m:=am
 have i:m<2147483647:=am
 obtain⟨a,o,e⟩:=pick2 (m/8%100) (m/8%1000000000) (m%2) (by clear I;lia);have g:0<=a/\a<=300000000:=by clear I;lia
 obtain⟨w,hw,Y⟩:=pick2 50 (1000000000-a+1) (m/2%2) (by clear I;lia);have J:0<w/\w<18446744073709551616:=by clear I;lia
 have h:w=50\/w=1000000000-a+1:=by clear I;lia
 have l:=Jt (m/64) (show w≠0 by clear I;lia);have k:=Ka (m/64) J.1;obtain⟨d,hd,b⟩:=pick2 (a+m%40) (c%1000000001) (m/4%2) (by clear I;lia);have q:0<=d:=by clear I;lia
 have k1:(0:Int)<(ks.length:Int):=am
 refine⟨⟨m/16%ks.length,a,a+m/64%w,uA d 1000000000,c/3%1000000001⟩,?_,⟨Jt _ am,Ka _ k1,g.1,by show a<=a+m/64%w;clear I;lia,by show a+m/64%w<=1000000000;clear I;lia,?_,by show 0<=c/3%1000000001/\c/3%1000000001<=1000000000;lia⟩⟩
 .simp[eW,oE,I,e,Y,b,e_mod J.1,e_mod k1,flD]
 .show 0<=uA d 1000000000/\uA d 1000000000<=1000000000;unfold uA;clear I;split<;>lia
end
theorem pj(I:ws≠[])(hw:∀w∈ws,Wd w/\w.length<=100)(J:ws.length<=10):RowS (Gz SP ws) ws:=by
 refine⟨⟨rfl,I,λw h=>(hw w h).1,?_,am⟩,λw h=>(hw w h).2⟩
 have a:=Ac SP ws;have b:=lenLe ws 100 λw h=>(hw w h).2;have e:SP.length=1:=by decide +kernel
 rw[e]at a;lia
structure Said(w:Sht)(row:i_)(good:Bool)(w':Sht):Prop where
 ws:∃ws,RowS row ws/\∀k,if good=d_ then ∃k',vH w k ws=a_ (w',k')else w'=w/\vH w k ws=c_
 ks:w'.ks=w.ks
 rows:w'.rows=w.rows
 o:w'.o=w.o
def zp:Wd wS/\Wd wGo/\Wd wO:=by
 have:∀x:i_,x.cps.toList≠[]->(x.cps.toList.all λc=>o_ (97<=c/\c<=122))=d_->Wd x:=λx h1 h2=>⟨h1,λc I=>.inl (HW (Hk.mp h2 c I))⟩
 exact⟨this _ dkK dkK,this _ dkK dkK,this _ dkK dkK⟩
def uf:wF≠wS/\wC≠wS/\wGo≠wS/\wO≠wS/\wC≠wF/\wGo≠wF/\wGo≠wC/\wO≠wF/\wO≠wC/\wO≠wGo:=by decide +kernel
theorem gM(I:0<=i)(h1:i<10^10):Wd (aL i)/\(aL i).length<=100:=⟨kC I,by have:=str_len (i:=i) am;lia⟩
def Nm.w{x:i_}(h:Nm x):Wd x/\x.length<=100:=⟨h.wd,h.Ab⟩
def wF100:Wd wF/\wF.length<=100:=⟨wd_w.2.2.2.2,by decide +kernel⟩
def rowF{nm k c d:i_}(I:Wd nm/\nm.length<=100)(J:Wd k/\k.length<=100)(f:Wd a/\a.length<=100)(e:Wd b/\b.length<=100)(Y:Wd c/\c.length<=100)(hd:Wd d/\d.length<=100):RowS (Gz SP [wF,nm,k,a,b,c,d]) [wF,nm,k,a,b,c,d]:=
 pj a8 (λw h=>by
  simp only[q_,GQ,Iw]at h;rcases h with rfl|rfl|rfl|rfl|rfl|rfl|rfl
  .exact wF100
  .exact I
  .exact J
  .exact f
  .exact e
  .exact Y
  .exact hd) a8
def jN(ks:bv)(nm:i_)(f:Fli):aG ks (nm,f)=Gz SP [wF,nm,kAt ks f.kind,aL f.first,aL f.last,aL f.due,aL f.price]:=by simp only[b6,join_one,aG,wF,bC]
def sayF(w:Sht)(k:Int)(r:bv):vH w k (wF::r)=(gN w r).map λw'=>(w',k):=by unfold vH;dsimp only;rw[k_ uf.1];unfold eE;rw[g_ rfl]
theorem Fl1.flB{k:Nat}{f:Fli}(h:Fl1 k f):flB f=d_:=by obtain⟨I,h1,a,b,c,d,e⟩:=h;unfold Tactic.flB rgB;simp;lia
theorem tI{w:Sht}(h:w.SG){nm:i_}(J:Nm nm)(I:Fl1 w.ks.length f):gN w [nm,kAt w.ks f.kind,aL f.first,aL f.last,aL f.due,aL f.price]=if (o_ (w.nf.length<40)&& !decide (nm∈w.nf.map (·.1)))=d_ then a_ {w with nf:=w.nf++[(nm,f)]}else c_:=by
 obtain⟨Y,ek⟩:=Bn h.kd I.k0 I.k1;have fb:=I.flB;have e4:Bg (aL f.first) (aL f.last) (aL f.due) (aL f.price)=a_ (f.first,f.last,f.due,f.price):=by obtain⟨i,h1,a,b,c,d,e⟩:=I;unfold Bg;rw[bg am am,bg am am,bg am am,bg am am]
 unfold gN;simp only[Y,wm J,e4,ek,decide_true,L_];have g:(⟨f.kind,f.first,f.last,f.due,f.price⟩:Fli)=f:=rfl;rw[g,g_ fb]
theorem zC{w:Sht}(h:w.SG){nm:i_}(Y:Nm nm)(I:Fl1 w.ks.length f){g:Bool}(j:g=(o_ (w.nf.length<40)&& !decide (nm∈w.nf.map (·.1)))):Said w (aG w.ks (nm,f)) g (if g=d_ then {w with nf:=w.nf++[(nm,f)]}else w):=by
 obtain⟨i,_⟩:=Bn h.kd I.k0 I.k1;have J:=I;obtain⟨l,h1,a,b,c,d,e⟩:=J;refine⟨⟨[wF,nm,kAt w.ks f.kind,aL f.first,aL f.last,aL f.due,aL f.price],?_,λk=>?_⟩,by split<;>rfl,by split<;>rfl,by split<;>rfl⟩
 .rw[jN];exact rowF Y.w (h.kn _ i).w (gM am am) (gM am am) (gM am am) (gM am am)
 .rw[sayF,tI h Y I,<- j];cases g with
  |true=>exact⟨k,rfl⟩|false=>exact⟨rfl,rfl⟩
def rj{w:Sht}{nm k c d:i_}(J:Wd nm/\nm.length<=100)(Y:Wd k/\k.length<=100)(g:Wd a/\a.length<=100)(f:Wd b/\b.length<=100)(e:Wd c/\c.length<=100)(hd:Wd d/\d.length<=100)(I:gN w [nm,k,a,b,c,d]=c_):Said w (Gz SP [wF,nm,k,a,b,c,d]) b_ w:=
 ⟨⟨_,rowF J Y g f e hd,λk=>⟨rfl,by rw[sayF,I];rfl⟩⟩,rfl,rfl,rfl⟩
def num_zero(Y:0<=i):eO ("0"++aL i)=c_:=by
 obtain⟨c,r,e⟩:∃c r,(aL i).cps.toList=c::r:=Jj (wt Y);have e0:(e_ "0").cps.toList=[48]:=by decide +kernel
 have I:("0"++aL i:i_).cps.toList=48::c::r:=by rw[BO,e0,e];rfl
 have J:("0"++aL i:i_)≠"0":=λz=>by rw[z,e0]at I;cases I
 unfold eO;rw[I];dsimp only;have:Bf ("0"++aL i) 48=b_:=by unfold Bf;simp[J]
 rw[this];rfl
theorem zero100(J:0<=i)(h1:i<10^10):Wd ("0"++aL i)/\("0"++aL i:i_).length<=100:=by
 obtain⟨a,b⟩:=gM J h1;have e0:(e_ "0").cps.toList=[48]:=by decide +kernel
 have Y:(e_ "0").length=1:=by decide +kernel
 have:=str_len (i:=i) am;exact⟨⟨by rw[BO,e0];simp,λc I=>by rw[BO,e0]at I;exact(GO.mp I).elim (λz=>by rw[GK]at z;rw[z];exact .inr am) (a.sg c)⟩,by rw[ku];lia⟩
section
variable(CR CP CS CW CE CD CK:f_)
def wz{x:i_}{d:Nat}{r s:cc}(e1:x.cps.toList=c::r)(e2:y.cps.toList=d::s)(h:c≠d):x≠y:=λz=>by rw[z,e2]at e1;exact h (JB e1).1.symm
noncomputable def nok:i_:="nokind"
def nok_c:nok.cps.toList=[110,111,107,105,110,100]:=by decide +kernel
theorem odd_ok(n:Nat){w:Sht}(h:w.SG)(hk:∀k∈w.ks,NK k){nm:i_}(g:Nm nm){rn:cc}(en:nm.cps.toList=110::rn)(Y:Fl1 w.ks.length f)(v:Int):∃I,eU [.str nm,flD f,.lst (w.ks.map .str),.lst ((w.nf.map (·.1)).map .str),.int v]=.ok (.str I)/\Said w I b_ w:=by
 obtain⟨X,_⟩:=Bn h.kd Y.k0 Y.k1;have U:=Y;obtain⟨h0,h1,a,b,c,d,e⟩:=U;have l:=gM (i:=f.first) am am;have A:=gM (i:=f.last) am am;have y:=gM (i:=f.due) am am;have S:=gM (i:=f.price) am am;have er:=λ(x:i_) (m:x.length<=100)=>nq n (nm:=x) h.k6 m h.good.kl Y.bfl;have e0:=er nm g.Ab;obtain⟨sK,_⟩:=sget Y.k0 Y.k1;obtain⟨nK,cK,rK,D,J⟩:=hk _ X;have N:=kJ g.Ab h.good.kl Y.bfl;have g0:iW [.int f.kind,.int f.first,.int f.last,.int f.due,.int f.price] 0=.ok (.int f.kind):=rfl;have g1:iW [.int f.kind,.int f.first,.int f.last,.int f.due,.int f.price] 1=.ok (.int f.first):=rfl;have g4:iW [.int f.kind,.int f.first,.int f.last,.int f.due,.int f.price] 4=.ok (.int f.price):=rfl;have s1:(bE [] 5 (fL (br) (a9 (ae 0) (a9 (ae 1) (a9 (ae 2) aB))))) [a_ (.str nm),a_ (flD f),a_ (.lst (w.ks.map .str)),a_ (.lst ((w.nf.map (·.1)).map .str)),a_ (.int v),c_]=.ok (.nx [a_ (.str nm),a_ (flD f),a_ (.lst (w.ks.map .str)),a_ (.lst ((w.nf.map (·.1)).map .str)),a_ (.int v),a_ (.str (aG w.ks (nm,f)))]):=by simp[e0,-s_]
 have C:∀I,(cx (bK) (cx (cF) (cx (cE) (dO (f2 bZ (f2 bZ (fSl p7 (ae 5) ky (i8 (f1 negD (fL CY (a9 (fL ud (a9 (f2 ixD (ae 1) (fC (.int 4))) aB)) aB))))) (fC (.str "0"))) (fL ud (a9 (f2 ixD (ae 1) (fC (.int 4))) aB))))))) [a_ (.str nm),a_ (flD f),a_ (.lst (w.ks.map .str)),a_ (.lst ((w.nf.map (·.1)).map .str)),a_ (.int v),a_ (.str (aG w.ks (nm,f)))]=.ok (.rt (.str I))->eU [.str nm,flD f,.lst (w.ks.map .str),.lst ((w.nf.map (·.1)).map .str),.int v]=.ok (.str I):=λI hr=>by refine Eu rfl ?_;show iq [a_ (.str nm),a_ (flD f),a_ (.lst (w.ks.map .str)),a_ (.lst ((w.nf.map (·.1)).map .str)),a_ (.int v),c_]=_;unfold iq;rw[gQ s1];exact hr
 by_cases E:v%4=0/\w.nf≠[]
 .have hp:0<w.nf.length:=KS.mpr E.2;obtain⟨j,hj,ej⟩:∃j:Nat,j<w.nf.length/\v/4%(w.nf.length:Int)=j:=⟨(v/4%(w.nf.length:Int)).toNat,by have:=Ka (v/4) (show(0:Int)<w.nf.length by lia);have:=Jt (v/4) (show(w.nf.length:Int)≠0 by lia);lia,by have:=Jt (v/4) (show(w.nf.length:Int)≠0 by lia);lia⟩
  have s:j<(w.nf.map (·.1)).length:=by simpa using hj
  have gj:=xA s;have mj:(w.nf.map (·.1))[j]∈w.nf.map (·.1):=Hj s;obtain⟨p,T,ep⟩:=GZ.mp mj;have W:Nm (w.nf.map (·.1))[j]:=by rw[<- ep];exact(h.nn p T).1
  have e1:=er _ W.Ab;refine⟨aG w.ks ((w.nf.map (·.1))[j],f),C _ ?_,?_⟩
  .have p4:(0:Int)<(w.nf.length:Int):=am
   have ie:w.nf.isEmpty=b_:=by cases hw:w.nf with
    |nil=>exact Gw hw E.2|cons _ _=>rfl
   generalize m:(w.nf.map (·.1))[j]=x at gj e1;simp[bK,cx,E.1,hp,e_mod p4,ej,gj,e1,-s_]
  .rw[jN];exact rj W.w (h.kn _ X).w l A y S (by rw[tI h W Y,k_ (by rw[E_ mj];simp)])
 have t1:bK [a_ (.str nm),a_ (flD f),a_ (.lst (w.ks.map .str)),a_ (.lst ((w.nf.map (·.1)).map .str)),a_ (.int v),a_ (.str (aG w.ks (nm,f)))]=.ok (.nx [a_ (.str nm),a_ (flD f),a_ (.lst (w.ks.map .str)),a_ (.lst ((w.nf.map (·.1)).map .str)),a_ (.int v),a_ (.str (aG w.ks (nm,f)))]):=by
  by_cases cv:v%4=0
  .have:w.nf=[]:=Lu λz=>E ⟨cv,z⟩;simp[bK,cv,this]
  .simp[bK,cv]
 by_cases c1:v%4=1
 .refine⟨Gz SP [wF,nm,nok,aL f.first,aL f.last,aL f.due,aL f.price],C _ ?_,?_⟩
  .have eF:wF.cps.toList=[102,108,105,103,104,116]:=by decide +kernel
   have u:∀i:Int,0<=i->kAt w.ks f.kind≠aL i:=λi hi=>by obtain⟨c,r,t⟩:∃c r,(aL i).cps.toList=c::r:=Jj (wt hi);have:=kE hi c (by rw[t];simp);exact wz D t (by unfold HK H7 at J;lia)
   have fr:∀{x:i_},Wd x/\x.length<=100->free 32 x:=λq=>q.1.free (by unfold CU;lia);have rk:=ED (a:=wF) (b:=nm) (K:=kAt w.ks f.kind) (z:=e_ " nokind ") (ns:=[aL f.first,aL f.last,aL f.due,aL f.price]) a8 (λx m=>by
    simp only[q_,GQ,Iw]at m;rcases m with rfl|rfl|rfl|rfl|rfl|rfl|rfl
    .exact fr wF100
    .exact fr g.w
    .exact fr nK.w
    .exact fr l
    .exact fr A
    .exact fr y
    .exact fr S) (wz D eF (by unfold HK H7 at J;lia)) (wz D en (by unfold HK H7 at J;lia)) (by simp[u f.first am,u f.last am,u f.due am,u f.price am]) nok dkK
   rw[<- jN]at rk;have eS:(e_ " ")=SP:=rfl;have R:SP.length=1:=by decide +kernel
   have L:(e_ " nokind ").length=8:=by decide +kernel
   have lK:=nK.Ab;have a1:=xI (a:=SP) (b:=kAt w.ks f.kind) am;have ny:((SP++kAt w.ks f.kind++SP:i_)==e_ " nokind ")=b_:=by
    rw[Mb];have ey:(SP++kAt w.ks f.kind++SP:i_).cps.toList=32::cK::(rK++[32]):=by rw[BO,BO,D,show SP.cps.toList=[32] by decide +kernel];rfl
    intro z;rw[z,show(e_ " nokind ").cps.toList=[32,110,111,107,105,110,100,32] by decide +kernel]at ey;have:=(JB (JB ey).2).1;unfold HK H7 at J;lia
   have q1:(SP++kAt w.ks f.kind:i_).length≠0/\SP.length≠0/\(SP++kAt w.ks f.kind:i_).length+SP.length<=16777216:=by rw[ku,R];lia
   have q2:(aG w.ks (nm,f)).length+((aG w.ks (nm,f)).length+1)*8<=16777216:=am
   rw[gQ t1];simp[cF,cx,c1,eS,flD,sK,a1,q1,ny,L,q2,rk]
  .refine rj g.w ⟨⟨by rw[nok_c];simp,λc B=>by rw[nok_c]at B;unfold CU;simp at B;lia⟩,by decide +kernel⟩ l A y S ?_;have:nok∉w.ks:=λhm=>by
    obtain⟨_,c,r,t,B⟩:=hk _ hm;rw[nok_c]at t;have:=(JB t).1;unfold HK H7 at B;lia
   unfold gN;simp[this]
 have t2:cF [a_ (.str nm),a_ (flD f),a_ (.lst (w.ks.map .str)),a_ (.lst ((w.nf.map (·.1)).map .str)),a_ (.int v),a_ (.str (aG w.ks (nm,f)))]=.ok (.nx [a_ (.str nm),a_ (flD f),a_ (.lst (w.ks.map .str)),a_ (.lst ((w.nf.map (·.1)).map .str)),a_ (.int v),a_ (.str (aG w.ks (nm,f)))]):=by simp[cF,c1]
 by_cases c2:v%4=2
 .have o:0<w.ks.length:=by have:=h.k1;lia
  have Z:=xA o;have mk:w.ks[0]∈w.ks:=Hj o;have j1:=gM (i:=f.first+1) am am;have F:=gM (i:=0) am am;rw[t8]at F;refine⟨Gz SP [wF,nm,w.ks[0],aL (f.first+1),aL f.first,"0","0"],C _ ?_,rj g.w (h.kn _ mk).w j1 l F F ?_⟩
  .have Q:=gr (i:=f.first+1) am;have O:=gr (i:=f.first) am;have k1:=(h.kn _ mk).Ab;have k2:=g.Ab;have k3:=str_len (i:=f.first+1) am;have k4:=str_len (i:=f.first) am;have eS:(e_ " ")=SP:=rfl;have eF:(e_ "flight")=wF:=rfl;have l0:(e_ "0").length=1:=by decide +kernel
   have R:SP.length=1:=by decide +kernel
   have lF:wF.length=6:=by decide +kernel
   have hs:6+(nm.length+(w.ks[0].length+((aL (f.first+1)).length+((aL f.first).length+(1+1)))))+7<=16777216:=am
   have Z:iW (w.ks.map .str) 0=.ok (.str w.ks[0]):=Z;rw[gQ t1,gQ t2];simp[cE,cx,c2,eS,eF,flD,Z,Q,O,l0,R,lF,hs]
  .have z1:eO (e_ "0")=a_ 0:=by rw[<- t8];exact bg am am
   have e4:Bg (aL (f.first+1)) (aL f.first) "0" "0"=a_ (f.first+1,f.first,0,0):=by unfold Bg;rw[bg am am,bg am am,z1]
   unfold gN;simp only[e4];have:∀k:Int,flB ⟨k,f.first+1,f.first,0,0⟩=b_:=λk=>by unfold flB;simp;lia
   simp[this]
 have G:cE [a_ (.str nm),a_ (flD f),a_ (.lst (w.ks.map .str)),a_ (.lst ((w.nf.map (·.1)).map .str)),a_ (.int v),a_ (.str (aG w.ks (nm,f)))]=.ok (.nx [a_ (.str nm),a_ (flD f),a_ (.lst (w.ks.map .str)),a_ (.lst ((w.nf.map (·.1)).map .str)),a_ (.int v),a_ (.str (aG w.ks (nm,f)))]):=by simp[cE,c2]
 have ep:aG w.ks (nm,f)=Gz SP [wF,nm,kAt w.ks f.kind,aL f.first,aL f.last,aL f.due]++SP++aL f.price:=by rw[jN];exact join_snoc (aL f.price) [wF,nm,kAt w.ks f.kind,aL f.first,aL f.last,aL f.due] a8
 refine⟨Gz SP [wF,nm,kAt w.ks f.kind,aL f.first,aL f.last,aL f.due,"0"++aL f.price],C _ ?_,rj g.w (h.kn _ X).w l A y (zero100 am am) ?_⟩
 .have ej:Gz SP [wF,nm,kAt w.ks f.kind,aL f.first,aL f.last,aL f.due,"0"++aL f.price]=Gz SP [wF,nm,kAt w.ks f.kind,aL f.first,aL f.last,aL f.due]++SP++"0"++aL f.price:=by
   rw[show [wF,nm,kAt w.ks f.kind,aL f.first,aL f.last,aL f.due,"0"++aL f.price]=[wF,nm,kAt w.ks f.kind,aL f.first,aL f.last,aL f.due]++[("0"++aL f.price:i_)]from rfl,join_snoc _ _ a8];simp only[bC]
  have lp:(aL f.price).length≠0:=λz=>wt e.1 (Ju.mp z);have sc:=El (Gz SP [wF,nm,kAt w.ks f.kind,aL f.first,aL f.last,aL f.due]++SP) (aL f.price) lp;rw[ej];rw[ep]at N t1 t2 G ⊢;generalize Gz SP [wF,nm,kAt w.ks f.kind,aL f.first,aL f.last,aL f.due]++SP=P at N t1 t2 G sc ⊢;rw[ku]at N;have Q:=gr (i:=f.price) am;have l0:(e_ "0").length=1:=by decide +kernel
  have b1:=xI (a:=P) (b:=e_ "0") am;have b2:=xI (a:=P++e_ "0") (b:=aL f.price) (by rw[ku];lia);have L:(P++aL f.price).length<=16777216:=by rw[ku];lia
  have H:(aL f.price).length<=16777216:=am
  rw[gQ t1,gQ t2,gQ G];simp[flD,Q,L,H,sc,b1,b2]
 .have e4:Bg (aL f.first) (aL f.last) (aL f.due) ("0"++aL f.price)=c_:=by
   unfold Bg;rw[bg am am,bg am am,bg am am,num_zero e.1]
  unfold gN;simp only[e4];split<;>rfl
end
def eZ{g:Mst->ah->M Mfl}{s:Mst}(e:g s ρ=.ok (.nx s' ρ')):jR g h s ρ=h s' ρ':=by unfold jR;rw[e];rfl
def e_mrt{g:Mst->ah->M Mfl}{s:Mst}{d:A'}(e:g s ρ=.ok (.rt s' d)):jR g h s ρ=.ok (.rt s' d):=by unfold jR;rw[e];rfl
def sayW_SG{w:Sht}(h:w.SG){k:Int}{z:Sht×Int}(e:vH w k ws=a_ z):z.1.SG:=by
 unfold vH at e;split at e
 .cases e
 .split at e
  .rename_i hd r _;cases I:lD r<;>rw[I]at e<;>cases e;exact h
  .rename_i hd r _;cases I:eE w hd r<;>rw[I]at e<;>cases e;exact(Ds h I).1
section
variable(CR CP CS CW CE CD CK:f_)
def lG{g:Mst->ah->M Mfl}{s:Mst}{ds:List A'}{d:A'}(e:g s (c_::(ds.map a_++C_ (nN-(ds.length+1)) c_))=.ok (.rt s' d)):runM nN g s ds=.ok (d,s'):=by unfold runM;rw[e];rfl
def Ai(f:Fli):bS (flD f)=d_:=rfl
theorem Ah(n:Nat){w:Sht}(h:w.SG)(H:∀k∈w.ks,NK k)(c num:Int):∃I J w',dW w.m [.int c,.int num]=.ok (.tup [.str I,.bl J],Sht.m w')/\Said w I J w':=by
 obtain⟨f,P,Y⟩:=tG n c h.k1 h.k6;obtain⟨x,ex,i⟩:=wj n c;have D:=i.len;have o:=i.nm
 let vw:Vw:=[(4,b_),(0,d_)]
 have m:mPar 3 4 w.m [c_,a_ (.int c),a_ (.int num),c_,c_,c_,c_,c_]=.ok (.nx w.m [c_,a_ (.int c),a_ (.int num),a_ (.lst (w.ks.map .str)),c_,c_,c_,c_]):=rfl;have l:ko vw 5 (fU) w.m [c_,a_ (.int c),a_ (.int num),a_ (.lst (w.ks.map .str)),c_,c_,c_,c_]=.ok (.nx w.m [c_,a_ (.int c),a_ (.int num),a_ (.lst (w.ks.map .str)),c_,a_ (flD f),c_,c_]):=by simp[ko,ju,fU,P,Ai,vw]
 have j:ko vw 6 (fQ) w.m [c_,a_ (.int c),a_ (.int num),a_ (.lst (w.ks.map .str)),c_,a_ (flD f),c_,c_]=.ok (.nx w.m [c_,a_ (.int c),a_ (.int num),a_ (.lst (w.ks.map .str)),c_,a_ (flD f),a_ (.str x),c_]):=by simp[ko,ju,fQ,ex,bS,vw]
 by_cases u:num%9=3
 ·have E:x.length<=16777216:=by lia
  have z:JK x c_ (a_ 7)=x:=xG (k:=7) D;have R:(e_ "n").length=1:=by decide +kernel
  have Q:=xI (a:=e_ "n") (b:=x) (by lia);have L:=i;obtain⟨d,r,e,hd,G,S⟩:=L;have t:(e_ "n"++x).cps.toList=110::d::r:=by rw[BO,e,show(e_ "n").cps.toList=[110] by decide +kernel];rfl
  have q:Nm (e_ "n"++x):=Fb t (by lia) (yp (.inl (by unfold H7 at hd;lia)) G) (by simp;lia);obtain⟨I,O,F⟩:=odd_ok n h H q t Y (num/9);refine⟨I,b_,w,lG ?_,F⟩
  show bP w.m [c_,a_ (.int c),a_ (.int num),c_,c_,c_,c_,c_]=_;unfold bP;rw[eZ m,eZ l,eZ j];refine e_mrt ?_;simp[mIf,sR,ju,cY,u,fP,E,z,Q,Mst.da,m_n,O,bS,j9,-s_]
 ·have C:mIf vw (cY) (sR vw (fP)) mNx w.m [c_,a_ (.int c),a_ (.int num),a_ (.lst (w.ks.map .str)),c_,a_ (flD f),a_ (.str x),c_]=.ok (.nx w.m [c_,a_ (.int c),a_ (.int num),a_ (.lst (w.ks.map .str)),c_,a_ (flD f),a_ (.str x),c_]):=by
   simp[mIf,mNx,ju,cY,u,vw]
  obtain⟨g,s⟩:∃g,g=(o_ (w.nf.length<40)&& !decide (x∈w.nf.map (·.1))):=⟨_,rfl⟩
  have ni:=sP x (w.nf.map (·.1));have B:ko vw 7 (bW) w.m [c_,a_ (.int c),a_ (.int num),a_ (.lst (w.ks.map .str)),c_,a_ (flD f),a_ (.str x),c_]=.ok (.nx w.m [c_,a_ (.int c),a_ (.int num),a_ (.lst (w.ks.map .str)),c_,a_ (flD f),a_ (.str x),a_ (.bl g)]):=by
   have e5:bW [a_ w.m.D,a_ (.int c),a_ (.int num),a_ (.lst (w.ks.map .str)),a_ (.lst ((w.nf.map (·.1)).map .str)),a_ (flD f),a_ (.str x),c_]=.ok (.bl g):=by
    rw[s];by_cases p:x∈w.nf.map (·.1)
    ·rw[E_ p]at ni ⊢;simp[bW,ni,-s_]
    ·rw[v_ p]at ni ⊢;have:((w.nf.length:Int)<40)=(w.nf.length<40):=by apply propext;lia
     simp[bW,ni,this,-s_]
   have y:ju w.m vw [c_,a_ (.int c),a_ (.int num),a_ (.lst (w.ks.map .str)),c_,a_ (flD f),a_ (.str x),c_]=[a_ w.m.D,a_ (.int c),a_ (.int num),a_ (.lst (w.ks.map .str)),a_ (.lst ((w.nf.map (·.1)).map .str)),a_ (flD f),a_ (.str x),c_]:=rfl;unfold ko;rw[y,e5];rfl
  have N:=nq n (nm:=x) h.k6 o.Ab h.good.kl Y.bfl;have A:mIf vw (cW) (jR (Fj vw 1 (fO)) (Fj vw 2 (fK))) mNx w.m [c_,a_ (.int c),a_ (.int num),a_ (.lst (w.ks.map .str)),c_,a_ (flD f),a_ (.str x),a_ (.bl g)]=.ok (.nx (Sht.m (if g=d_ then {w with nf:=w.nf++[(x,f)]}else w)) [c_,a_ (.int c),a_ (.int num),a_ (.lst (w.ks.map .str)),c_,a_ (flD f),a_ (.str x),a_ (.bl g)]):=by
   cases K:g with
   |false=>simp[mIf,mNx,ju,cW,vw]|true=>
    have q:=h.nm;have v:w.nf.length<16777216:=by lia
    simp[mIf,jR,Fj,ju,cW,fO,fK,vw,bS,Ai,Mst.get,Mst.put,Sht.m,v,-s_];first|rfl|exact⟨rfl,rfl⟩
  refine⟨aG w.ks (x,f),g,_,lG ?_,zC h o Y s⟩
  show bP w.m [c_,a_ (.int c),a_ (.int num),c_,c_,c_,c_,c_]=_;unfold bP;rw[eZ m,eZ l,eZ j,eZ C,eZ B,eZ A];simp[sR,ju,jb,N,bS,j9,-s_]
def sayG(w:Sht)(k:Int)(r:bv):vH w k (wGo::r)=(tj w r).map λw'=>(w',k):=by unfold vH;dsimp only;rw[k_ uf.2.2.1];unfold eE;rw[k_ uf.2.2.2.2.2.1,k_ uf.2.2.2.2.2.2.1,g_ rfl]
def gone_row(x:i_):("gone "++x:i_)=Gz SP [wGo,x]:=by rw[b6,join_one,show(e_ "gone ")=wGo++SP by decide +kernel]
theorem FG(n:Nat){w:Sht}(h:w.SG)(c num:Int):∃Y J w',gn w.m [.int c,.int num]=.ok (.tup [.str Y,.bl J],Sht.m w')/\Said w Y J w':=by
 obtain⟨o,ex,T⟩:=wj n c
 let vw:Vw:=[(3,b_),(0,d_)]
 have C:mSee 3 w.m [c_,a_ (.int c),a_ (.int num),c_,c_,c_,c_]=.ok (.nx w.m [c_,a_ (.int c),a_ (.int num),c_,c_,c_,c_]):=rfl;have B:ko vw 4 (gW) w.m [c_,a_ (.int c),a_ (.int num),c_,c_,c_,c_]=.ok (.nx w.m [c_,a_ (.int c),a_ (.int num),c_,a_ (.str o),c_,c_]):=by simp[ko,ju,gW,ex,bS,vw]
 obtain⟨x,m,A⟩:∃x,Nm x/\mIf vw (cL) (ko vw 4 (gV)) mNx w.m [c_,a_ (.int c),a_ (.int num),c_,a_ (.str o),c_,c_]=.ok (.nx w.m [c_,a_ (.int c),a_ (.int num),c_,a_ (.str x),c_,c_]):=by
  by_cases u:num%9=5/\w.nf≠[]
  ·have Q:0<w.nf.length:=KS.mpr u.2;obtain⟨j,R,U⟩:∃j:Nat,j<w.nf.length/\num/9%(w.nf.length:Int)=j:=⟨(num/9%(w.nf.length:Int)).toNat,by have:=Ka (num/9) (show(0:Int)<w.nf.length by lia);have:=Jt (num/9) (show(w.nf.length:Int)≠0 by lia);lia,by have:=Jt (num/9) (show(w.nf.length:Int)≠0 by lia);lia⟩
   have f:j<(w.nf.map (·.1)).length:=by simpa using R
   have G:=xA f;have N:(w.nf.map (·.1))[j]∈w.nf.map (·.1):=Hj f;obtain⟨p,s,ep⟩:=GZ.mp N;have S:Nm (w.nf.map (·.1))[j]:=by rw[<- ep];exact(h.nn p s).1
   refine⟨(w.nf.map (·.1))[j],S,?_⟩
   generalize (w.nf.map (·.1))[j]=y at G;have L:(0:Int)<(w.nf.length:Int):=by lia
   simp[mIf,ko,ju,Mst.da,m_n,cL,u.1,Q,gV,e_mod L,U,G,bS,vw,-s_]
  ·refine⟨o,T.nm,?_⟩
   by_cases t:num%9=5
   ·have:w.nf=[]:=Lu λz=>u ⟨t,z⟩;simp[mIf,mNx,ju,Mst.da,m_n,cL,t,this,vw]
   ·simp[mIf,mNx,ju,cL,t,vw]
 have ni:=inS x (w.nf.map (·.1));obtain⟨g,I⟩:∃g,g=o_ (x∈w.nf.map (·.1)):=⟨_,rfl⟩
 rw[<- I]at ni;have v:ko vw 5 (gU) w.m [c_,a_ (.int c),a_ (.int num),c_,a_ (.str x),c_,c_]=.ok (.nx w.m [c_,a_ (.int c),a_ (.int num),c_,a_ (.str x),a_ (.bl g),c_]):=by simp[ko,ju,Mst.da,m_n,gU,ni,bS,vw,-s_]
 have X:(e_ "gone ").length=5:=by decide +kernel
 have W:=m.l8;have H:=xI (a:=e_ "gone ") (b:=x) (by lia);have rs:RowS ("gone "++x) [wGo,x]:=by
  rw[gone_row];refine pj (by simp) (λq E=>?_) (by simp);simp only[q_,GQ,Iw]at E;rcases E with rfl|rfl
  ·exact⟨zp.2.1,by decide +kernel⟩
  ·exact m.w
 cases g with
 |false=>
  have I:x∉w.nf.map (·.1):=of_decide_eq_false I.symm;refine⟨"gone "++x,b_,w,lG ?_,⟨⟨_,rs,λk=>⟨rfl,by rw[sayG,show tj w [x]=c_ from k_ I];rfl⟩⟩,rfl,rfl,rfl⟩⟩
  show cJ w.m [c_,a_ (.int c),a_ (.int num),c_,c_,c_,c_]=_;unfold cJ;rw[eZ C,eZ B,eZ A,eZ v];have r:mIf vw (bN) (jR (ko vw 6 (cN)) (jR (mPop 1 6) (mPop 2 6))) mNx w.m [c_,a_ (.int c),a_ (.int num),c_,a_ (.str x),a_ (.bl b_),c_]=.ok (.nx w.m [c_,a_ (.int c),a_ (.int num),c_,a_ (.str x),a_ (.bl b_),c_]):=by simp[mIf,mNx,ju,bN,vw]
  rw[eZ r];simp[sR,ju,gT,H,bS,j9]
 |true=>
  have I:x∈w.nf.map (·.1):=HW I.symm;obtain⟨ix,D,_⟩:=qU I;have F:tj w [x]=a_ {w with nf:=w.nf.eraseIdx (kI (w.nf.map (·.1)) x)}:=g_ I;generalize kI (w.nf.map (·.1)) x=i at ix D F;refine⟨"gone "++x,d_,{w with nf:=w.nf.eraseIdx i},lG ?_,⟨⟨_,rs,λk=>⟨k,by rw[sayG,F];rfl⟩⟩,rfl,rfl,rfl⟩⟩
  show cJ w.m [c_,a_ (.int c),a_ (.int num),c_,c_,c_,c_]=_;unfold cJ;rw[eZ C,eZ B,eZ A,eZ v];have es:=jt (w.nf.map (·.1));have P:ko vw 6 (cN) w.m [c_,a_ (.int c),a_ (.int num),c_,a_ (.str x),a_ (.bl d_),c_]=.ok (.nx w.m [c_,a_ (.int c),a_ (.int num),c_,a_ (.str x),a_ (.bl d_),a_ (.int (i:Int))]):=by simp[ko,ju,Mst.da,m_n,cN,isL,es,ix,bS,vw,-s_]
  have O:i<w.nf.length:=by simpa using D
  have e:∀(l:List A'),l.length=w.nf.length->∃d,popD l (.int (i:Int))=.ok (d,l.eraseIdx i):=λl Z=>by
   have hi:i<l.length:=by lia
   have:=h.nm;refine⟨l[i],?_⟩
   have m:ixN l.length (i:Int)=a_ i:=by unfold ixN;rw[g_ (by lia),g_ (by lia)];simp
   unfold popD;simp only[asI,aq];rw[k_ (by rw[Hr];lia),m];simp[hi]
  obtain⟨d1,p1⟩:=e ((w.nf.map (·.1)).map .str) (by simp);obtain⟨d2,p2⟩:=e ((w.nf.map (·.2)).map flD) (by simp);rw[Bz,Bz]at p1 p2;have r:mIf vw (bN) (jR (ko vw 6 (cN)) (jR (mPop 1 6) (mPop 2 6))) mNx w.m [c_,a_ (.int c),a_ (.int num),c_,a_ (.str x),a_ (.bl d_),c_]=.ok (.nx (Sht.m {w with nf:=w.nf.eraseIdx i}) [c_,a_ (.int c),a_ (.int num),c_,a_ (.str x),a_ (.bl d_),a_ (.int (i:Int))]):=by
   have K:bN (ju w.m vw [c_,a_ (.int c),a_ (.int num),c_,a_ (.str x),a_ (.bl d_),c_])=.ok d_:=by simp[ju,bN,vw]
   unfold mIf;rw[K,aq,g_ rfl,eZ P];simp[jR,mPop,Mst.get,Mst.put,Sht.m,p1,p2,-s_];first|rfl|exact⟨rfl,rfl⟩
  rw[eZ r];simp[sR,ju,gT,H,bS,j9]
def sayC(w:Sht)(k:Int)(r:bv):vH w k (wC::r)=(jD w r).map λw'=>(w',k):=by unfold vH;dsimp only;rw[k_ uf.2.1];unfold eE;rw[k_ uf.2.2.2.2.1,g_ rfl]
def Dq(p:qh):bo p=Gz SP [wC,aL p.1,aL p.2]:=by unfold bo;rw[show(e_ "closed ")=wC++SP by decide +kernel];simp only[b6,join_one,bC]
def Em(x:i_):("shift "++x:i_)=Gz SP [wS,x]:=by rw[b6,join_one,show(e_ "shift ")=wS++SP by decide +kernel]
def rowN{h:i_}(hh:Wd h/\h.length<=100)(J:0<=i)(h1:i<10^10)(e:a=aL i):RowS (Gz SP [h,a]) [h,a]:=by
 subst e;refine pj a8 (λq I=>?_) a8;simp only[q_,GQ,Iw]at I;rcases I with rfl|rfl
 .exact hh
 .exact gM J h1
def wdC(x:i_)(h1:x.cps.toList≠[])(h2:(x.cps.toList.all λc=>o_ (97<=c/\c<=122)||o_ (48<=c/\c<=57))=d_)(J:x.length<=100):Wd x/\x.length<=100:=⟨⟨h1,λc I=>by have:=Hk.mp h2 c I;simp only[JQ,GH]at this;exact this⟩,J⟩
def vI{w:Sht}{I:i_}(ws:bv)(e:I=Gz SP ws)(a:ws≠[])(hw:(ws.all λx=> !x.cps.toList.isEmpty&&(x.cps.toList.all λc=>o_ (97<=c/\c<=122)||o_ (48<=c/\c<=57))&&o_ (x.length<=100))=d_)(b:ws.length<=10)(Y:∀k,vH w k ws=c_):Said w I b_ w:=by
 subst e;refine⟨⟨ws,pj a (λx J=>?_) b,λk=>⟨rfl,Y k⟩⟩,rfl,rfl,rfl⟩
 have:=Hk.mp hw x J;simp only[l_,GH]at this;exact wdC x (by simpa using this.1.1) this.1.2 this.2
theorem CH(n:Nat){w:Sht}(h:w.SG)(c num:Int):∃J Y w',d8 w.m [.int c,.int num]=.ok (.tup [.str J,.bl Y],Sht.m w')/\Said w J Y w':=by
 let vw:Vw:=[(0,d_)]
 have m:ko vw 3 (gz) w.m [c_,a_ (.int c),a_ (.int num),c_,c_,c_,c_]=.ok (.nx w.m [c_,a_ (.int c),a_ (.int num),a_ (.int (num%9)),c_,c_,c_]):=by simp[ko,ju,gz,bS,vw]
 by_cases D:num%9=4
 ·obtain⟨a,X,x,a1⟩:∃a,c%90=a/\0<=a/\a<90:=⟨_,rfl,by lia,by lia⟩
  obtain⟨b,W,b0,b1⟩:∃b,a+c/90%4=b/\a<=b/\b<=a+3:=⟨_,rfl,by lia,by lia⟩
  obtain⟨g,B⟩:∃g,g=(o_ (a<b)&&o_ (w.cs.length<20)):=⟨_,rfl⟩
  have e5:bH [a_ w.m.D,a_ (.int c),a_ (.int num),a_ (.int 4),a_ (.int a),a_ (.int b),c_]=.ok (.bl g):=by
   have g3:iW [w.kD,aO w.rows,w.bD,.lst (w.cs.map stD),.lst ((w.nf.map (·.1)).map .str),.lst ((w.nf.map (·.2)).map flD)] 3=.ok (.lst (w.cs.map stD)):=rfl;have:((w.cs.length:Int)<20)=(w.cs.length<20):=by apply propext;lia
   rw[B];by_cases l:a<b
   ·simp[bH,Mst.D,Sht.m,l,g3,this,-s_]
   ·simp[bH,l]
  have R:=gr (i:=a) (by lia);have Q:=gr (i:=b) (by lia);have ka:=str_len (i:=a) (by lia);have kb:=str_len (i:=b) (by lia);have l7:(e_ "closed ").length=7:=by decide +kernel
  have l1:(e_ " ").length=1:=by decide +kernel
  have u:=xI (a:=e_ "closed ") (b:=aL a) (by lia);have O:=xI (a:=e_ "closed "++aL a) (b:=e_ " ") (by rw[ku];lia);have N:=xI (a:=e_ "closed "++aL a++e_ " ") (b:=aL b) (by rw[ku,ku];lia);have U:=h.cm;refine⟨bo (a,b),g,if g=d_ then {w with cs:=w.cs++[(a,b)]}else w,lG ?_,⟨⟨[wC,aL a,aL b],?_,λk=>?_⟩,by split<;>rfl,by split<;>rfl,by split<;>rfl⟩⟩
  ·show aX w.m [c_,a_ (.int c),a_ (.int num),c_,c_,c_,c_]=_;unfold aX;rw[eZ m,D];refine e_mrt ?_;have t2:cw (ju w.m vw [c_,a_ (.int c),a_ (.int num),a_ (.int 4),c_,c_,c_])=.ok d_:=by simp[ju,cw,vw]
   have L:ko vw 4 (dI) w.m [c_,a_ (.int c),a_ (.int num),a_ (.int 4),c_,c_,c_]=.ok (.nx w.m [c_,a_ (.int c),a_ (.int num),a_ (.int 4),a_ (.int a),c_,c_]):=by simp[ko,ju,dI,X,bS,vw]
   have K:ko vw 5 (dH) w.m [c_,a_ (.int c),a_ (.int num),a_ (.int 4),a_ (.int a),c_,c_]=.ok (.nx w.m [c_,a_ (.int c),a_ (.int num),a_ (.int 4),a_ (.int a),a_ (.int b),c_]):=by simp[ko,ju,dH,W,bS,vw]
   have H:ko vw 6 (bH) w.m [c_,a_ (.int c),a_ (.int num),a_ (.int 4),a_ (.int a),a_ (.int b),c_]=.ok (.nx w.m [c_,a_ (.int c),a_ (.int num),a_ (.int 4),a_ (.int a),a_ (.int b),a_ (.bl g)]):=by have F:ju w.m vw [c_,a_ (.int c),a_ (.int num),a_ (.int 4),a_ (.int a),a_ (.int b),c_]=[a_ w.m.D,a_ (.int c),a_ (.int num),a_ (.int 4),a_ (.int a),a_ (.int b),c_]:=rfl;unfold ko;rw[F,e5];rfl
   have G:mIf vw (cu) (Fj vw 0 (dG)) mNx w.m [c_,a_ (.int c),a_ (.int num),a_ (.int 4),a_ (.int a),a_ (.int b),a_ (.bl g)]=.ok (.nx (Sht.m (if g=d_ then {w with cs:=w.cs++[(a,b)]}else w)) [c_,a_ (.int c),a_ (.int num),a_ (.int 4),a_ (.int a),a_ (.int b),a_ (.bl g)]):=by
    cases g with
    |false=>simp[mIf,mNx,ju,cu,vw]|true=>
     have p:w.cs.length<16777216:=by lia
     simp[mIf,Fj,ju,cu,dG,vw,bS,j9,Mst.get,Mst.put,Sht.m,p,stD,-s_];first|rfl|exact⟨rfl,rfl⟩
   unfold mIf;rw[t2,aq,g_ rfl,eZ L,eZ K,eZ H];have e:=eZ (h:=sR vw (dE)) G;unfold mIf at e;rw[e];simp[sR,ju,vw,dE,R,Q,u,O,N,bS,j9,bo,SP]
  ·rw[Dq];refine pj (by simp) (λq f=>?_) (by simp);simp only[q_,GQ,Iw]at f;rcases f with rfl|rfl|rfl
   ·exact⟨wd_w.2.2.2.1,by decide +kernel⟩
   ·exact gM x (by lia)
   ·exact gM (by lia) (by lia)
  ·have ec:jD w [aL a,aL b]=if (o_ (w.cs.length<20)&&stB (a,b))=d_ then a_ {w with cs:=w.cs++[(a,b)]}else c_:=by
    unfold jD;simp only[bg x (by lia),bg (show 0<=b by lia) (by lia)]
   have eb:(o_ (w.cs.length<20)&&stB (a,b))=g:=by rw[B];unfold stB;have p:o_ (0<=a)=d_:=E_ x;have E:o_ (b<=1000000000)=d_:=E_ (by lia);simp only[p,E,L_,Ma];exact Bool.and_comm _ _
   rw[sayC,ec,eb];cases g with
   |true=>exact⟨k,rfl⟩|false=>exact⟨rfl,rfl⟩
 have s:mIf vw (cw) (jR (ko vw 4 (dI)) (jR (ko vw 5 (dH)) (jR (ko vw 6 (bH)) (jR (mIf vw (cu) (Fj vw 0 (dG)) mNx) (sR vw (dE)))))) mNx w.m [c_,a_ (.int c),a_ (.int num),a_ (.int (num%9)),c_,c_,c_]=.ok (.nx w.m [c_,a_ (.int c),a_ (.int num),a_ (.int (num%9)),c_,c_,c_]):=by simp[mIf,mNx,ju,cw,D,vw]
 by_cases c7:num%9=7/\num/9%4=0
 ·refine⟨"opened",d_,{w with cs:=[]},lG ?_,⟨⟨[wO],?_,λk=>⟨k,?_⟩⟩,rfl,rfl,rfl⟩⟩
  ·show aX w.m [c_,a_ (.int c),a_ (.int num),c_,c_,c_,c_]=_;unfold aX;rw[eZ m,eZ s];refine e_mrt ?_;simp[mIf,jR,mClr,sR,ju,cq,c7.1,c7.2,fH,bS,j9,Mst.put,Sht.m];first|rfl|exact⟨rfl,rfl⟩
  ·exact pj (ws:=[wO]) (by simp) (λq f=>by rw[GK]at f;subst f;exact⟨zp.2.2,by decide +kernel⟩) (by simp)
  ·unfold vH;dsimp only;rw[k_ uf.2.2.2.1];unfold eE;rw[k_ uf.2.2.2.2.2.2.2.1,k_ uf.2.2.2.2.2.2.2.2.1,k_ uf.2.2.2.2.2.2.2.2.2,g_ ⟨rfl,rfl⟩];rfl
 have A:mIf vw (cq) (jR (mClr 0) (sR vw (fH))) mNx w.m [c_,a_ (.int c),a_ (.int num),a_ (.int (num%9)),c_,c_,c_]=.ok (.nx w.m [c_,a_ (.int c),a_ (.int num),a_ (.int (num%9)),c_,c_,c_]):=by
  by_cases d:num%9=7
  ·have d0:¬num/9%4=0:=λz=>c7 ⟨d,z⟩;simp[mIf,mNx,ju,cq,d,d0,vw]
  ·simp[mIf,mNx,ju,cq,d,vw]
 by_cases d:num%9=7
 ·obtain⟨j,T,ej⟩:∃j:Nat,j<4/\num/36%4=j:=⟨(num/36%4).toNat,by lia,by lia⟩
  have I:∀J,iW [.str (e_ "open"),.str (e_ "opened now"),.str (e_ "closed"),.str (e_ "kind b2")] (j:Int)=.ok (.str J)->d8 w.m [.int c,.int num]=.ok (.tup [.str J,.bl b_],Sht.m w):=λJ S=>by refine lG ?_;show aX w.m [c_,a_ (.int c),a_ (.int num),c_,c_,c_,c_]=_;unfold aX;rw[eZ m,eZ s,eZ A];refine e_mrt ?_;simp[mIf,sR,ju,cV,d,fF,ej,S,bS,j9]
  have o:∀{hd:i_} {r:List i_},hd≠wS->eE w hd r=c_->∀k,vH w k (hd::r)=c_:=λh1 h2 k=>by unfold vH;dsimp only;rw[k_ h1,h2];rfl
  have cl:jD w []=c_:=rfl
  match j,T,I with
  |0,_,I=>exact⟨_,b_,w,I _ rfl,vI [("open":i_)] dkK (by simp) dkK (by simp) (o dkK (by unfold eE;rw[k_ dkK,k_ dkK,k_ dkK,k_ dkK]))⟩|1,_,I=>exact⟨_,b_,w,I _ rfl,vI [("opened":i_),"now"] dkK (by simp) dkK (by simp) (o dkK (by unfold eE;rw[k_ dkK,k_ dkK,k_ dkK,k_ (by simp)]))⟩|2,_,I=>exact⟨_,b_,w,I _ rfl,vI [("closed":i_)] dkK (by simp) dkK (by simp) (o dkK (by unfold eE;rw[k_ dkK,g_ dkK];rfl))⟩|3,_,I=>exact⟨_,b_,w,I _ rfl,vI [("kind":i_),"b2"] dkK (by simp) dkK (by simp) (o dkK (by unfold eE;rw[k_ dkK,k_ dkK,k_ dkK,k_ (by simp)]))⟩
 have t:mIf vw (cV) (sR vw (fF)) mNx w.m [c_,a_ (.int c),a_ (.int num),a_ (.int (num%9)),c_,c_,c_]=.ok (.nx w.m [c_,a_ (.int c),a_ (.int num),a_ (.int (num%9)),c_,c_,c_]):=by simp[mIf,mNx,ju,cV,d,vw]
 obtain⟨v,hv,y,v1⟩:∃v,num/9%6=v/\0<=v/\v<6:=⟨_,rfl,by lia,by lia⟩
 have P:=gr (i:=v) (by lia);have kv:=str_len (i:=v) (by lia);have l6:(e_ "shift ").length=6:=by decide +kernel
 have u:=xI (a:=e_ "shift ") (b:=aL v) (by lia);refine⟨"shift "++aL v,o_ (v<4),w,lG ?_,⟨⟨[wS,aL v],?_,λk=>?_⟩,rfl,rfl,rfl⟩⟩
 ·show aX w.m [c_,a_ (.int c),a_ (.int num),c_,c_,c_,c_]=_;unfold aX;rw[eZ m,eZ s,eZ A,eZ t];simp[sR,ju,ja,hv,P,u,bS,j9]
 ·rw[Em];exact rowN ⟨zp.1,by decide +kernel⟩ y (by lia) rfl
 ·have es:vH w k [wS,aL v]=(lD [aL v]).map λi=>(w,i):=by unfold vH;dsimp only;rw[g_ rfl]
  have Z:lD [aL v]=if v<=3 then a_ v else c_:=by unfold lD;simp only[bg y (show v<10^10 by lia)]
  rw[es,Z];by_cases C:v<4
  ·rw[E_ C,g_ rfl,g_ (by lia)];exact⟨v,rfl⟩
  ·rw[v_ C,k_ (by decide),k_ (by lia)];exact⟨rfl,rfl⟩
end
def tabF(ks:bv)(rows:List ca)(x y:i_):Int:=ql (rows.getD (kI ks x) []) (kI ks y)
def AR(h:bR k rows)(x y:i_):0<=tabF ks rows x y/\tabF ks rows x y<=1000000:=by
 unfold tabF ql;simp only[List.getD];cases e:rows[kI ks x]? with
 |none=>exact⟨a8,a8⟩|some r=>
  have I:=(h.2 r (GX e)).2;cases e2:r[kI ks y]? with
  |none=>exact⟨by simp[e2],by simp[e2]⟩|some v=>simpa[e2] using I v (GX e2)
def nU(I:ks.Nodup)(h:bR ks.length rows):(ks.map λx=>ks.map (tabF ks rows x))=rows:=by
 refine Ko (by simp[h.1]) λi h1 h2=>?_;have J:=h.2 rows[i] (Hj h2);have hi:i<ks.length:=by simpa using h1
 refine Ko (by simp[J.1]) λj b a=>?_;have Y:j<ks.length:=by simpa using b
 have e1:kI ks ks[i]=i:=by unfold kI;rw[Bo I hi];rfl
 have e2:kI ks ks[j]=j:=by unfold kI;rw[Bo I Y];rfl
 simp[tabF,ql,e1,e2,h2,a]
theorem rn_w{w:Sht}(h:w.SG):∃s',Rn w0 w.rs s'/\s'.sh=w:=by
 have t1:=B6 w.ks w0 (by show([]++w.ks).length<=6;simpa using h.k6) (by show([]++w.ks).Nodup;simpa using h.kd) h.kn;have e1:({w0 with ks:=w0.ks++w.ks}:WS)=⟨w.ks,[],[],[],[]⟩:=rfl;rw[e1]at t1;obtain⟨G,r2,j,c2⟩:=zO b_ 1 (tabF w.ks w.rows) w.ks h.kn (AR h.rows) w.ks ⟨w.ks,[],[],[],[]⟩ rfl (λ_ h=>h);rw[nU h.kd h.rows]at r2;have e2:setB b_ (⟨w.ks,[],[],[],[]⟩:WS) G=⟨w.ks,G,[],[],[]⟩:=rfl;rw[e2]at r2;have tg:tbW w.ks G=w.rows:=by
  rw[<- nU h.kd h.rows];unfold tbW;refine HN λx I=>HN λy Y=>?_;have v:=(AR (ks:=w.ks) h.rows x y).1;rcases c2 x I y Y with c|c
  .rw[c];rfl
  .rcases j (x,y)with a|a
   .rw[a];show(c_:Option Int).getD 0=_;simp only[Li];lia
   .rw[a];rfl
 obtain⟨B,g,tb⟩:∃B,Rn ⟨w.ks,G,[],[],[]⟩ (qg w.ks w.o) ⟨w.ks,G,B,[],[]⟩/\(if B.isEmpty=d_ then c_ else a_ (tbW w.ks B))=w.o:=by
  cases i:w.o with
  |none=>exact⟨[],Rn.nil _,rfl⟩|some r2=>
   have b:=h.o r2 i;obtain⟨B,r,a,c⟩:=zO d_ 0 (tabF w.ks r2) w.ks h.kn (AR b) w.ks ⟨w.ks,G,[],[],[]⟩ rfl (λ_ h=>h);rw[nU h.kd b]at r;have J:∀x∈w.ks,∀y∈w.ks,nz B (x,y)=a_ (tabF w.ks r2 x y):=λx I y Y=>by
    have v:=(AR (ks:=w.ks) b x y).1;rcases c x I y Y with c|c
    .exact c
    .lia
   refine⟨B,r,?_⟩
   have tt:tbW w.ks B=r2:=by refine Eq.trans ?_ (nU h.kd b);unfold tbW;refine HN λx I=>HN λy Y=>?_;rw[J x I y Y];rfl
   rw[tt];refine k_ λd=>?_;have d:B=[]:=List.isEmpty_iff.mp d;obtain⟨x,I⟩:∃x,x∈w.ks:=List.exists_mem_of_length_pos h.k1;have q:=J x I x I;rw[d]at q;cases q
 have f:=xX w.cs ⟨w.ks,G,B,[],[]⟩ (by simpa using h.cm) h.cl;have e:=uR w.ks h.kd h.kn w.nf ⟨w.ks,G,B,[],w.cs⟩ rfl (by simpa using h.nm) (by simpa using h.nd) h.nn;refine⟨⟨w.ks,G,B,w.nf,w.cs⟩,(((t1.app r2).app g).app f).app e,?_⟩
 unfold WS.sh;simp only[];rw[tg,tb]
section
variable(CR CP CS CW CE CD CK:f_)
def read_w(I:CR≠CP)(n:Nat){w:Sht}(h:w.SG):eB CR CP CS CW CE CD CK n [.str w.tx]=.ok (w.obj CR CP CS):=by
 obtain⟨s',r,e⟩:=rn_w h;have Y:s'.ks=w.ks:=Jo Sht.ks e;have sp:j7 w.tx=w.rs++[("":i_)]:=by
  have:=C9 w.rs "" r.2 (λh=>by revert h;decide +kernel);unfold j7;rw[show(e_ "\n")=NLs by decide +kernel];rw[<- this]
  congr 1
 have r2:Rn s' [("":i_)] s':=Rn.cons (by unfold vT;rw[show j4 ""=[] by decide +kernel]) (λh=>by revert h;decide +kernel) (Rn.nil s');rw[read_any CR CP CS CW CE CD CK I n (tx_len h.good),sp,(r.app r2).1 1];have J:¬s'.ks=[]:=by rw[Y];intro z;have:=h.k1;rw[z]at this;cases this
 simp only[J,if_false,e]
def shown_w(n:Nat)(w:Sht):rW CS "shown" (eX CR CP CS CW CE CD CK n) (w.obj CR CP CS)=.ok (.str w.tx):=by
 obtain⟨c,b,a,Y,J,I⟩:=qp CR CP CS w;unfold rW;rw[g_ (by show((CS==CS)&&(H_ ("shown":i_) _).isNone)=d_;rw[Nd,L_];rfl)]
 simp[eX,oF,I]
def eqT_self(x:i_):eqT (.str x) (.str x)=d_:=E_ rfl
def turn_ok(j:CR≠CP)(n:Nat){w:Sht}(h:w.SG)(s:∀k∈w.ks,NK k)(k c:Int):∃(w':Sht) (k':Int),x9 CR CP CS CW CE CD CK n (w.m,w.obj CR CP CS,k) (.int c)=.ok (w'.m,w'.obj CR CP CS,k')/\w'.SG/\w'.ks=w.ks:=by
 obtain⟨num,f⟩:∃m,c*39373%2147483647=m:=⟨_,rfl⟩
 obtain⟨J,I,w',u,q⟩:∃J I w',(if o_ (num%9<4)=d_ then dW w.m [.int c,.int num]else(oW ((e80.set 3 (a_ (.int c))).set 4 (a_ (.int num)))).bind λC=>if C=d_ then gn w.m [.int c,.int num]else d8 w.m [.int c,.int num])=.ok (.tup [.str J,.bl I],Sht.m w')/\Said w J I w':=by
  by_cases r:num%9<4
  .rw[E_ r,g_ rfl];exact Ah n h s c num
  .rw[v_ r,k_ a'];by_cases a:num%9=5\/num%9=6
   .have g:oW ((e80.set 3 (a_ (.int c))).set 4 (a_ (.int num)))=.ok d_:=by
     rcases a with a|a<;>simp[oW,e80,C_,a]
    rw[g,aq,g_ rfl];exact FG n h c num
   .have o:¬num%9=5:=λz=>a (.inl z);have l:¬num%9=6:=λz=>a (.inr z);have g:oW ((e80.set 3 (a_ (.int c))).set 4 (a_ (.int num)))=.ok b_:=by
     simp[oW,e80,C_,o,l]
    rw[g,aq,k_ a'];exact CH n h c num
 obtain⟨ws,rs,hw⟩:=q.ws;obtain⟨y,ey,i⟩:=Ej n rs (num/81);have Y:=say_any CR CP CS CW CE CD CK j n h k i.l;have d:rowK w k y=vH w k ws:=by unfold rowK;rw[k_ i.f,i.w]
 rw[d]at Y;obtain⟨k',b,p⟩:∃k',w'.SG/\saidD CE I (w.obj CR CP CS) k (xm CR CP CS CW CE CD CK n (w.obj CR CP CS) k (.str y))=.ok (w'.obj CR CP CS,k'):=by
  have hw:=hw k;cases I with
  |true=>obtain⟨k',e⟩:=hw;rw[Y,e];exact⟨k',sayW_SG h e,rfl⟩
  |false=>obtain⟨rfl,e⟩:=hw;rw[Y,e];exact⟨k,h,by show(if CE=CE/\b_=b_ then _ else stk)=_;rw[g_ ⟨rfl,rfl⟩]⟩
 refine⟨w',k',?_,b,q.ks⟩
 have A:Am (e80.set 3 (a_ (.int c)))=.ok (.int num):=by simp[Am,e80,C_,f]
 have e3:zv ((e80.set 3 (a_ (.int c))).set 4 (a_ (.int num)))=.ok (o_ (num%9<4)):=by simp[zv,e80,C_]
 have x:Al ((((e80.set 3 (a_ (.int c))).set 4 (a_ (.int num))).set 5 (a_ (.str J))).set 6 (a_ (.bl I)))=.ok (.str y):=by simp[Al,e80,C_,ey]
 have B:zu (e80.set 7 (a_ (.str w'.tx)))=.ok d_:=by simp[zu,e80,C_,rB]
 have v:pQ (e80.set 1 (a_ w'.m.D))=.ok (.str w'.tx):=by simp[pQ,e80,C_,uV n b.good]
 have t:rgD (.tup [.str J,.bl I])=.ok (J,I):=rfl;unfold x9 nR;rw[A,aq,e3,aq,u,aq,t,aq,x,aq,p,aq,shown_w,aq,B,aq,v,aq,eqT_self];rfl
theorem Fm(I:CR≠CP)(n:Nat):∀(cs:ca) {w:Sht} (k:Int),w.SG->(∀k∈w.ks,NK k)->om (x9 CR CP CS CW CE CD CK n) (cs.map .int) (w.m,w.obj CR CP CS,k)=.ok ()
 |[],_,_,_,_=>rfl|c::cs,w,k,h,J=>by obtain⟨w',k',e,h',Y⟩:=turn_ok CR CP CS CW CE CD CK I n h J k c;rw[GJ,om,e,aq];exact Fm I n cs k' h' (by rw[Y];exact J)
end
theorem G9(xs:List α)(a b:Nat):(pZ xs (a_ (a:Int)) (a_ (b:Int))).length<=b-a:=by unfold pZ cX;dsimp only;rw[k_ am,k_ am];rw[JJ];lia
def BJ(ns:ca)(lo hi:Option Int):pZ (ns.map A'.int) lo hi=(pZ ns lo hi).map .int:=by unfold pZ;rw[w_,N9,N_]
noncomputable def stF(c:Int):qh:=(c%1000,c%1000+1+c/1000%100000000)
theorem stF_ok(c:Int):St1 (stF c):=by unfold St1 stF;simp only[];lia
def itoa_inj{j:Int}(hi:0<=i)(J:i<10^10)(Y:0<=j)(I:j<10^10)(h:aL i=aL j):i=j:=by have a:=bg hi J;rw[h,bg Y I]at a;exact(GR a).symm
def fN(i:Nat):i_:="f"++aL (i:Int)
def fN_c(i:Nat):(fN i).cps.toList=102::(aL (i:Int)).cps.toList:=by unfold fN;rw[BO,show(e_ "f").cps.toList=[102] by decide +kernel];rfl
theorem fN_inj{i:Nat}(hi:i<100)(I:j<100)(h:fN i=fN j):i=j:=by have a:=fN_c i;rw[h,fN_c j]at a;have:=itoa_inj am am am am (lB (JB a).2).symm;lia
theorem fN_nm{i:Nat}(hi:i<100):Nm (fN i):=by
 refine Fb (fN_c i) am (λc I=>.inr (kE am c I)) ?_;have e:((aL (i:Int)).cps.toList).length=(aL (i:Int)).length:=rfl;rw[e];have:∀i,i<100->(aL ((i:Nat):Int)).length<=7:=by decide +kernel
 exact this i hi
structure NF(k:Nat)(nf:List (i_×Fli)):Prop where
 nn:∀p∈nf,Nm p.1/\Fl1 k p.2
 nd:(nf.map (·.1)).Nodup
 sh:∀x∈nf.map (·.1),N7 x\/∃i,i<nf.length/\x=fN i
theorem N7.fN{x:i_}(h:N7 x)(i:Nat):x≠fN i:=by obtain⟨c,r,e,I,_⟩:=h;exact wz e (fN_c i) (by unfold H7 at I;lia)
theorem NF.more(h:NF k nf){x:i_}(Y:Nm x)(j:Fl1 k f)(g:x∉nf.map (·.1))(c:N7 x\/x=fN nf.length):NF k (nf++[(x,f)]):=by
 refine⟨λp d=>(GO.mp d).elim (h.nn p) λz=>by rw[GK]at z;subst z;exact⟨Y,j⟩,?_,λy I=>?_⟩
 .rw[GF];exact Jb.mpr ⟨h.nd,a8,λa l b J e=>by simp at J;subst J;subst e;exact g l⟩
 .rw[GF]at I;rcases GO.mp I with I|I
  .rcases h.sh y I with z|⟨i,hi,z⟩
   .exact .inl z
   .exact .inr ⟨i,by simp;lia,z⟩
  .simp at I;subst I;rcases c with z|z
   .exact .inl z
   .exact .inr ⟨nf.length,a8,z⟩
section
variable(CR CP CS CW CE CD CK:f_)
theorem Ei(n:Nat)(f e d b a Y:Option A'):∀(L:ca) (cs:List qh) (I:Option A'),cs.length+L.length<=1000->∃J,kq (.nm 5) (k7) (L.map .int) [f,e,d,b,a_ (.lst (cs.map stD)),I,a,Y]=.ok (.nx [f,e,d,b,a_ (.lst ((cs++L.map stF).map stD)),J,a,Y])
 |[],cs,I,_=>⟨I,by simp[kq]⟩|c::L,cs,I,h=>by
  simp only[Gy]at h;have i:cs.length<16777216:=am
  obtain⟨J,g⟩:=Ei n f e d b a Y L (cs++[stF c]) (a_ (.int c)) (by simp;lia);refine⟨J,?_⟩
  rw[GJ,GJ,ND,<- g];simp[kq,k7,i,put,stD,stF]
theorem A5(n:Nat){ks:bv}(h1:1<=ks.length)(k:ks.length<=6)(e d b a:Option A'):∀(L:ca) (nf:List (i_×Fli)) (Y:Option A'),nf.length+L.length<=38->NF ks.length nf->∃I J,NF ks.length I/\I.length<=nf.length+L.length/\kq (.nm 5) (iI) (L.map .int) [e,a_ (.lst (ks.map .str)),d,b,a,Y,a_ (.lst ((nf.map (·.1)).map .str)),a_ (.lst ((nf.map (·.2)).map flD))]=.ok (.nx [e,a_ (.lst (ks.map .str)),d,b,a,J,a_ (.lst ((I.map (·.1)).map .str)),a_ (.lst ((I.map (·.2)).map flD))])
 |[],nf,Y,_,h=>⟨nf,Y,h,a8,by simp[kq]⟩|c::L,nf,Y,o,h=>by
  simp only[Gy]at o;obtain⟨x,ex,m⟩:=wj n c;obtain⟨f,r,p⟩:=tG n c h1 k;have ni:=sP x (nf.map (·.1));have q:nf.length<16777216:=am
  by_cases j:x∈nf.map (·.1)
  .rw[E_ j]at ni;obtain⟨I,J,g,l,i⟩:=A5 n h1 k e d b a L nf (a_ (.int c)) am h;refine⟨I,J,g,by simp;lia,?_⟩
   rw[<- i];simp[kq,iI,jX,ex,ni,-s_]
  .rw[v_ j]at ni;obtain⟨I,J,g,l,i⟩:=A5 n h1 k e d b a L (nf++[(x,f)]) (a_ (.int c)) (by simp;lia) (h.more m.nm p j (.inl m));refine⟨I,J,g,by simp at l ⊢;lia,?_⟩
   rw[<- i];simp[kq,iI,jX,ex,ni,r,q,put,-s_]
theorem Bj(n:Nat){ks:bv}(h1:1<=ks.length)(u:ks.length<=6)(c:Int)(p o l k:Option A'):∀(m I:Nat) (nf:List (i_×Fli)),nf.length<=40->40-nf.length<=m->m<I->NF ks.length nf->∃J,NF ks.length J/\J.length<=40/\fq (g5) (jZ) I [p,a_ (.lst (ks.map .str)),o,l,k,a_ (.int c),a_ (.lst ((nf.map (·.1)).map .str)),a_ (.lst ((nf.map (·.2)).map flD))]=.ok (.nx [p,a_ (.lst (ks.map .str)),o,l,k,a_ (.int c),a_ (.lst ((J.map (·.1)).map .str)),a_ (.lst ((J.map (·.2)).map flD))])
 |m,0,_,_,_,t,_=>Gw t (NW m)|m,I+1,nf,C,s,t,h=>by
  by_cases e:c%8=5/\(nf.length:Int)<38+c/8%3
  .have B:nf.length<40:=am
   obtain⟨f,E,d⟩:=tG n ((nf.length:Int)*69621+c%1000000000) h1 u;have r:=gr (i:=(nf.length:Int)) am;have G:=str_len (i:=(nf.length:Int)) am;have F:(e_ "f").length=1:=by decide +kernel
   have q:=xI (a:=e_ "f") (b:=aL (nf.length:Int)) am;have A:fN nf.length∉nf.map (·.1):=λs=>by
    rcases h.sh _ s with z|⟨i,hi,z⟩
    .exact z.fN _ rfl
    .have:=fN_inj am am z;lia
   have y:nf.length<16777216:=am
   obtain⟨J,w,v,x⟩:=Bj n h1 u c p o l k (m-1) I (nf++[(fN nf.length,f)]) (by simp;lia) (by simp;lia) am (h.more (fN_nm am) d A (.inr rfl));refine⟨J,w,v,?_⟩
   rw[<- x];have D:(e_ "f"++aL (nf.length:Int))=fN nf.length:=rfl;rw[D]at q;have Y:nf.length.log2<1920:=r;simp[fq,g5,jZ,e.1,e.2,E,r,Y,q,y,put,jH,bS,Ai,-s_]
  .refine⟨nf,h,C,?_⟩
   by_cases g:c%8=5
   .have j:¬(nf.length:Int)<38+c/8%3:=λz=>e ⟨g,z⟩;simp[fq,g5,g,j,-s_]
   .simp[fq,g5,g]
theorem BK(n:Nat)(c:Int)(j i g f e d:Option A'):∀(m I:Nat) (cs:List qh),cs.length<=20->20-cs.length<=m->m<I->(∀p∈cs,St1 p)->∃J:List qh,(∀p∈J,St1 p)/\J.length<=20/\fq (fZ) (jY) I [j,i,g,f,a_ (.lst (cs.map stD)),a_ (.int c),e,d]=.ok (.nx [j,i,g,f,a_ (.lst (J.map stD)),a_ (.int c),e,d])
 |m,0,_,_,_,k,_=>Gw k (NW m)|m,I+1,cs,u,v,k,h=>by
  by_cases Y:5<c%8/\(cs.length:Int)<18+c/8%3
  .have t:cs.length<20:=am
   have r:cs.length<16777216:=am
   obtain⟨J,o,l,q⟩:=BK n c j i g f e d (m-1) I (cs++[((cs.length:Int)*7,(cs.length:Int)*7+1+c%20)]) (by simp;lia) (by simp;lia) am (λp s=>(GO.mp s).elim (h p) λz=>by rw[GK]at z;subst z;unfold St1;simp only[];lia);refine⟨J,o,l,?_⟩
   rw[<- q];simp[fq,fZ,jY,Y.1,Y.2,r,put,jH,bS,j9,stD]
  .refine⟨cs,h,u,?_⟩
   by_cases a:5<c%8
   .have b:¬(cs.length:Int)<18+c/8%3:=λz=>Y ⟨a,z⟩;simp[fq,fZ,a,b]
   .simp[fq,fZ,a]
end
section
variable(CR CP CS CW CE CD CK:f_)
theorem start_ok(ns:ca):∃w:Sht,iK CR CP CS CW CE CD CK 64 [.lst (ns.map .int)]=.ok w.m/\w.SG/\∀k∈w.ks,NK k:=by
 obtain⟨ks,ek,k2,k3,B,S⟩:=kinds_ok 64 ns;obtain⟨rows,C,Z⟩:=FL 64 ns (k:=ks.length) k3 0 am;obtain⟨Q,D,h9⟩:=FL 64 ns (k:=ks.length) k3 9 am;obtain⟨O,t⟩:=nL 64 ns 3;obtain⟨v,G⟩:=nL 64 ns 4;obtain⟨u,F⟩:=nL 64 ns 5;obtain⟨f,E⟩:=nL 64 ns 6;simp only[Nx]at C D t G F E;obtain⟨o,U,P⟩:∃o:Option (List ca),(∀r2,o=a_ r2->bR ks.length r2)/\iG [a_ (.lst (ns.map .int)),a_ (.lst (ks.map .str)),a_ (aO rows),a_ .non,c_,c_,c_,c_]=.ok (.nx [a_ (.lst (ns.map .int)),a_ (.lst (ks.map .str)),a_ (aO rows),a_ (Sht.bD ⟨ks,rows,o,[],[]⟩),c_,c_,c_,c_]):=by
  by_cases h:O%2=1
  .exact⟨a_ Q,λr2 e=>(by cases e;exact h9),by simp[iG,t,h,D,put,Sht.bD]⟩
  .exact⟨c_,λr2 e=>(by cases e),by simp[iG,t,h,Sht.bD]⟩
 obtain⟨d,r,h4⟩:∃m:Nat,(4+v%5:Int)=m/\m<=8:=⟨(4+v%5).toNat,am,am⟩
 obtain⟨b,q,h5⟩:∃m:Nat,(9+u%6:Int)=m/\m<=14:=⟨(9+u%6).toNat,am,am⟩
 have A:=G9 ns 4 d;have z:=G9 ns 9 b;have y:=BJ ns (a_ 4) (a_ (d:Int));have x:=BJ ns (a_ 9) (a_ (b:Int));simp only[Nx]at A z;generalize pZ ns (a_ 4) (a_ (d:Int))=a at A y;generalize pZ ns (a_ 9) (a_ (b:Int))=H at z x;have j:dB (.lst (ns.map .int)) (a_ 4) (a_ (d:Int))=.ok (.lst (a.map .int)):=by rw[<- y];rfl
 have i:dB (.lst (ns.map .int)) (a_ 9) (a_ (b:Int))=.ok (.lst (H.map .int)):=by rw[<- x];rfl
 obtain⟨K,f1⟩:=Ei 64 (a_ (.lst (ns.map .int))) (a_ (.lst (ks.map .str))) (a_ (aO rows)) (a_ (Sht.bD ⟨ks,rows,o,[],[]⟩)) c_ c_ a [] c_ (by simp;lia);rw[JP,JW]at f1;obtain⟨nf,z5,W,R,Y⟩:=A5 64 (ks:=ks) am am (a_ (.lst (ns.map .int))) (a_ (aO rows)) (a_ (Sht.bD ⟨ks,rows,o,[],[]⟩)) (a_ (.lst ((a.map stF).map stD))) H [] K (by simp;lia) ⟨λ_ h=>(nomatch h),a8,λ_ h=>(nomatch h)⟩;simp only[JW]at Y;obtain⟨I,J,l,N⟩:=Bj 64 (ks:=ks) am am f (a_ (.lst (ns.map .int))) (a_ (aO rows)) (a_ (Sht.bD ⟨ks,rows,o,[],[]⟩)) (a_ (.lst ((a.map stF).map stD))) 40 64 nf (by simp at R;lia) am am W;obtain⟨cs,s,n,L⟩:=BK 64 f (a_ (.lst (ns.map .int))) (a_ (.lst (ks.map .str))) (a_ (aO rows)) (a_ (Sht.bD ⟨ks,rows,o,[],[]⟩)) (a_ (.lst ((I.map (·.1)).map .str))) (a_ (.lst ((I.map (·.2)).map flD))) 20 64 (a.map stF) (by simp;lia) am am (λp T=>by obtain⟨c,_,rfl⟩:=GZ.mp T;exact stF_ok c)
 refine⟨⟨ks,rows,o,I,cs⟩,?_,⟨by simp only[];lia,by simp only[];lia,λk X=>(B k X).1,S,Z,U,l,J.nn,J.nd,n,s⟩,B⟩
 have g:lY CR CP CS CW CE CD CK 64 [a_ (.lst (ns.map .int)),c_,c_,c_,c_,c_,c_,c_]=.ok (.nx [a_ (.lst (ns.map .int)),a_ (.lst (ks.map .str)),a_ (aO rows),a_ (Sht.bD ⟨ks,rows,o,[],[]⟩),a_ (.lst (cs.map stD)),a_ (.int f),a_ (.lst ((I.map (·.1)).map .str)),a_ (.lst ((I.map (·.2)).map flD))]):=by simp[lY,ek,C,P,G,F,E,r,q,j,i,f1,Y,N,L,put,-s_]
 have e0:([A'.lst (ns.map .int)].map a_++C_ (8-[A'.lst (ns.map .int)].length) c_)=[a_ (.lst (ns.map .int)),c_,c_,c_,c_,c_,c_,c_]:=rfl;unfold iK runH;rw[e0,g];rfl
theorem law_true(I:CR≠CP):∀ns:ca,ns.length<=63->∃n,m_law CR CP CS CW CE CD CK n [.lst (ns.map .int)]=.ok (.bl d_):=λns a=>by
 refine⟨64,?_⟩
 obtain⟨w,es,h,b⟩:=start_ok CR CP CS CW CE CD CK ns;have d:pQ (e80.set 1 (a_ w.m.D))=.ok (.str w.tx):=by simp[pQ,e80,C_,uV 64 h.good]
 have t:=take63 a;have e:bZ (.lst [.int 0]) (.lst (ns.map .int))=.ok (.lst ((0::ns).map .int)):=g_ (by rw[w_,Hr];show 1+ns.length<=_;lia);have c:fIt (f2 bZ (fL eh (a9 (fC (.int 0)) aB)) (fSl dB (ae 0) ky (i8 (fC (.int 63))))) (e80.set 0 (a_ (.lst (ns.map .int))))=.ok ((0::ns).map .int):=by simp[e80,C_,t,e]
 have Y:=Fm CR CP CS CW CE CD CK I 64 (0::ns) 0 h b;have J:=read_w CR CP CS CW CE CD CK I 64 h;have g:g_law CR CP CS CW CE CD CK 64 [a_ (.lst (ns.map .int)),c_,c_,c_,c_,c_,c_,c_]=.ok (.rt (.bl d_)):=by unfold g_law xT;refine(g_ rfl).trans ?_;show(iK CR CP CS CW CE CD CK 64 [.lst (ns.map .int)]).bind _=_;rw[es,aq,d,aq,g_ (show bS (.str w.tx)=d_ from rfl),J,aq,c,aq,Y,aq]
 have e0:([A'.lst (ns.map .int)].map a_++C_ (8-[A'.lst (ns.map .int)].length) c_)=[a_ (.lst (ns.map .int)),c_,c_,c_,c_,c_,c_,c_]:=rfl;unfold m_law cn;rw[e0,g];rfl
end
def fin_mk{w:GW}{K:Pn}{h:Hq}{fa CR CE:f_}(_:K.In h)(_:h.Ns GY mg)(I:mg "law"=a_ (.ref fa))(Z:Zs K mg CR CP CS CW CE CD CK):
  ∃fd:Iq,(∀(s:u_) (v:m_),Lh s fd ⟨[v],[]⟩ [("_law_script",v)])/\∀base:Hq,K.In base->base.Ns GY mg->iZ P w K mg base CX0 11 fa fd ["_law_script"] (spLaw K):=by
 obtain⟨f,fd,D,J⟩:=Z.d_law;have e:=I.symm.trans D.mg;cases e;refine⟨fd,J,λbase _ _=>law_ok (ro:=b_) (mlaw:=m_law CR CP CS CW CE CD CK) (λn=>?_) (law_true CR CP CS CW CE CD CK Z.ne)⟩
 obtain⟨a,fd',Y⟩:=ok_law (n:=n) (P:=P) (w:=w) (base:=base) Z;have e:=D.mg.symm.trans Y.d.mg;cases e;rw[D.fn.uniq Y.d.fn];exact Y.o
def walk{l:K8}{q:HP}{I:bv}{i:(Ld)->Hq->Prop}{Y:GW->Hq->Prop}{d:DefRec}{K:Params->Pn}(b:l.most=a_ 63)(J:d.params.defaults=[])(e:∀(w:GW) (h:Hq),Y w h->(K w.params).In h)(F:∀(w:GW) (mg:Ld) (fa:f_) (h:Hq),(K w.params).In h->h.Ns GY mg->mg d.name=a_ (.ref fa) ->
   ∃fd:Iq,(∀(s:u_) (u:m_),Lh s fd ⟨[u],[]⟩ [("_law_script",u)])/\∀base:Hq,(K w.params).In base->base.Ns GY mg->iZ l.prog w (K w.params) mg base CX0 11 fa fd ["_law_script"] (spLaw (K w.params))):
  MW q I i Y l.row.toRowW d [] (λf vs=>JR f vs):=
 Lake.walk_of (n:=63) (k:=11) (x:="_law_script") (CX:=λ_=>CX0) (sp:=λw=>spLaw (K w.params)) b a' J ⟨rfl,a',a'⟩ e F (λ_ _ a ns c _ g=>⟨a,ns,rfl,g,c,λ_=>rfl⟩) λ_ _ _ _ _ z=>z
end Tactic
end
open PySem PySem.W PyProof.Rows
structure PySem.W.Fast:Prop where (tw5317621571820265253
tw2782491549718131073
tw3242458185455965498
tw6177908443970218057
tw13707113215005226819
tw8158796287908763902
tw208325134752999387
tw9479765051968114348
tw8569017651578087230
tw5505350083774971843
tw9874879588293284254
tw4029334403669848767
tw18106636595641449622
tw3537925436761068388
tw15198733277370249946
tw12573077485859824708
tw6091259724989593075
tw7422927538356077764
tw14509948819302344553
tw9230495684520106352
tw3757674296588856351
tw5091642440102413753
tw11853196866983918153
tw9783924104310656628
tw16354168791850490758
tw6100908122671264415
tw13886528095161157145
tw12652758451549997176
tw12108764101456980379
tw1566804715901917620
tw3568162465857295214
tw11502959898392054587
tw4254602888934525152
tw8214332270361731271
tw17748169561838366268
tw3224045263351609127
tw9026793427919107149
tw9886506227293942801
tw15121454096128728199
tw4815983297666739071
tw4190303832422934375
tw2256504856608355600
tw9131954715514502811
tw11607535819132209906
tw18091786266512103987
tw15232736471541335582
tw12670327453049692182
tw1104641473103593940
tw10687965881419760040
tw13618286145241206086
tw17734126110180294634
tw1646752804279227853
tw12851787619720327079
tw18096676653922441217
tw14898811258858894027
tw5960679718234954124
tw965676844029436745
tw14351539064539083626
tw14208950527183276728
tw9166034955243941946
tw12237898985735046202
tw6245825158397669926
tw3850550968369353226
tw11955636466429128886
tw2915725551739719646
tw3889241421308260153
tw14847542178485068617
tw3752509214746788736
tw14601456530242625147
tw7733018215417506910
tw7619254848277334238
tw15575448661829669936
tw1169417846191580734
tw12924198392389641738
tw1095903877949992644
tw4478902163991912703
tw1799987992660739778
tw3967554976647016814
tw5792027339749872684
tw6170175606954530435
tw13556079736463656967
tw11062843654128019326
tw7136938197018205936
tw5442002420234273916
tw5851170410140190262
tw6012568461382109886
tw6248192795114288541
tw1644909009606850555
tw6023683040544202898
tw720494571353000287
tw10755938647301524808
tw11637047060098815506
tw353169276285810195
tw11459678321744347959
tw17518580842985093431
tw15553549799865669149
tw16575150921905212312
tw6993914963309738370
tw10206092899286613593
tw13512340051311857975
tw8900094422270413800
tw15155937737586303486
tw113274202691294564
tw8184917987189342803
tw18319999674458257743
tw2476451519620419942
tw1049011881806030068
tw4138196611925903839
tw2352288936873320048
tw13148929775757521490
tw721819553115652109
tw8494156442439088489
tw10916360175901911646
tw11316308410014855202
tw10561631356608033259
tw14364848296328595399
tw8722182382305002876
tw4692438635320138727
tw1647237669883406152
tw17701795815885584391
tw13882836910930422707
tw5653103899987335120
tw7650099846020934660
tw12566238194997018267
tw13498515423031644124
tw4175876238245896739
tw4518942855950982739
tw3806434292016442780
tw10561133889690032558
tw15891097438198716289
tw14756405738909821463
tw365948576760687542
tw12311751218404703816
tw15236989951918925222
tw2758042628354194754
tw15537999793194940129
tw4040230881183510410
tw16068670247362940328
tw17140599223064894367
tw17865277536915211699
tw17051601009067399491
tw2026595832799188459
tw4243866411444015328
tw17137824142135577687
tw13600406237086800895
tw8118499100877687999
tw5496296542655013273
tw1708731564203943565
tw373542033139062830
tw1604447165658468468
tw6698313353983471658
tw2757244795858725176
tw15795483340075231911
tw38648406865889047
tw3489743213021375788
tw4732740573830576879
tw6154596671468341407
tw6593710635522677875
tw13660704999353115646
tw11534228936815468681
tw8047647599080972513
tw17092145798573607368
tw9201731238323281412
tw15497787771425372134
tw7402989165506713535
tw9865027031643146157
tw3386859185706121920
tw4513784289409753495
tw3586799737240452512
tw3217092959956795572
tw6773926854773755192
tw1775324199390584132
tw7932211292191398462
tw8025112101815850389
tw7667845147766192754
tw4830283897642028247
tw8425881969850523658
tw7521091458269068199
tw17059877148589170638
tw17783935472003794522
tw16643420056308649621
tw9062177979298449894
tw11634207480955392978
tw9591936460966351870
tw7782938409443272964
tw14130907396444280617
tw12314202697056066351
tw11037074808094933655
tw7579267079379125461
tw12575588942393389298
tw8299008231578318818
tw1301637270864465974
tw3541458498236619360
tw7018967297563958857
tw9970685940494960170
tw262129503011003499
tw14161140056709726531
tw6597791452604337199
tw3164505910465658506
tw2683569848991505127
tw1111315222869101126
tw14257137401224687132
tw4966291581656673170
tw7016551495499987240
tw16572795750990382317
tw8975140176114832988
tw1375215481181332035
tw2416632509574916181
tw12063822258978828197
tw8401489089796816680
tw6473695806546274510
tw10423862315265502397
tw13714897753472435123
tw9881373799678019128
tw9183503650443382697
tw8182576505492655753
tw2608062814505899978
tw15020768264616934703
tw7802077195724162641
tw2751789690159722573
tw3494583504765195554
tw4994380630742686611
tw4227406784439746591
tw3585735048899984513
tw1373484700155586957
tw7293973850727790106
tw16479779415797671271
tw18221923275022863921
tw4441955538264381614
tw4311867364899344407
tw1189682063242745611
tw3839447526501359140
tw12472966320647742169
tw15808484467669910708
tw9999148083391711135
tw10656346318970072216
tw1882948223170614894
tw2732753918002747537
tw1283941062359527805
tw6703689288066939642
tw8079360206629560488
tw4675309529010346768
tw16137255794068070412
tw8547432501187053960
tw13903862310599109723
tw5264026828749698132
tw17957602782285666194
tw8680464451000609932
tw13107384993037002131
tw1008651725665474796
tw4735496993243704390
tw15543464056277440774
tw4065044262722077163
tw13599828152547266240
tw17729762633758804633
tw51479765824360413
tw8800443636729148620
tw15751531188071053258
tw9980461221569895057
tw8261474710705314338
tw3264024795590613918
tw10495931500737399112
tw1434370768427898459
tw15931166666756726867
tw8797418072632035981
tw12623481892859823437
tw12381702960988578852
tw8558892856777927246
tw15971405985058215667
tw16731165065447740872
tw1514812910080931348
tw16820025799899972597
tw220103095403554481
tw13556565057848483335
tw11594017177295537087
tw16961717882762719949
tw2361703118797587746
tw13722602211281853608
tw7511636329275532056
tw4107737121329159755
tw16497750392976866073
tw11211568223900883710
tw13831885370288282348
tw5409088495680774364
tw13418916011667831038
tw13559040825515692068
tw10088072428953430416
tw8025660937382570656
tw11252406780701030869
tw4821774297357365541
tw1482808105143992521
tw5641064994253665093
tw5101427145727710627
tw7668011476854036632
tw14416516969243667639
tw1114534236054151139
tw14518553307784388769
tw5150616468454307373
tw6069961329735170350
tw17205768792621189661
tw3383458502024070217
tw8425827283069127415
tw16886669788129079821
tw2940632884950409777
tw6848010717251992864
tw16538078733689502643
tw8114799231111984513
tw16087065920036349524
tw9004587829366659937
tw17269908869075851622
tw853278944529399753
tw5818130472945916804
tw10566026370578553757
tw11885983687107028924
tw5380184374523633267
tw15660848611491686929
tw13857102815047315137
tw1815093127364091562
tw15808541027253187311
tw8990180338708338394
tw11735611484097920683
tw7048400473842699318
tw2749266805346801821
tw11512834572721793905
tw15467633350346334205
tw1623447838057536455
tw17476885327073907734
tw17259100128640212927
tw4423391360457391834
tw7564213956496800552
tw4428689803712457277
tw7959533046904908518
tw9933626423575522810
tw11250430303997762569
tw12822328821385540012
tw11582914825547591980
tw16677867417420879050
tw3201573806970963888
tw17044332915570034885
tw4221122670949269122
tw16872628530656118094
tw1378104204095855989
tw3434902145260386104
tw3554164229025109148
tw10483106801080332540
tw877057630769812114
tw6443127991370431769
tw15746074105193796329
tw8235019531939995840
tw2101209896980984624
tw4461630238466415130
tw1635900706661303762
tw12833832734090800048
tw2884143192347228093
tw16311940750037792146
tw11611233909394887763
tw2858304662146238697
tw3088724314923784249
tw3296795482017590331
tw12585666783354344421
tw3718079189763790164
tw10656323984898221840
tw10738172012100318393
tw6789096765625643717
tw10240944272651315294
tw9602014829967427151
tw13965256991847917754
tw16288178080682566282
tw4760930481325335105
tw18215912380257144644:True)
set_option maxRecDepth 100000 in
set_option maxHeartbeats 0 in
theorem PySem.Challenge.cw_wakeorder_k80_a_desk_told_holds : PySem.Challenge.rw_wakeorder_k80_a_desk_told.Holds := by
 w_on;o_law;k_head;(case hw=>w_witness2)
 k_fill
 refine Tactic.walk (l:=PySem.Challenge.rw_wakeorder_k80_a_desk_told) rfl rfl (fun w h Y=>PySem.W.kIn_of Y) ?F
 case F=>
  intro w mg fa h KX G hmg;refine' Tactic.fin_mk KX G hmg ?z
  case z=>
   constructor
   all_goals first|exact Lake.dF KX G|exact PySem.W.mg_none_of KX G (by k_is)|exact ⟨_,mg_of KX G (by k_is)⟩|exact mg_of KX G (by k_is)|exact Lake.mF|exact Lake.kF KX G|exact Lake.tF KX G|exact Lake.iF|exact Lake.xF KX G|exact Lake.xM KX G Lake.mF|exact Lake.lF KX G|exact Lake.rS Lake.mF|k_is|kernel_rfl|exact ⟨mg_of KX G (by k_is),by k_is,by k_is⟩|exact ⟨by k_is,Lake.iF⟩|exact ⟨⟨_,_,_,rfl,by first|k_is|kernel_rfl,by first|k_is|kernel_rfl,by first|k_is|kernel_rfl⟩⟩|exact ⟨⟨_,_,_,_,rfl,by first|k_is|kernel_rfl,by first|k_is|kernel_rfl,by first|k_is|kernel_rfl,by first|k_is|kernel_rfl⟩⟩|decide +kernel|(constructor<;>first|k_is|kernel_rfl|rfl|decide +kernel)|(simp only [List.mem_cons,List.not_mem_nil,or_false,forall_eq_or_imp,forall_eq];repeat' constructor)<;>first|k_is|kernel_rfl
