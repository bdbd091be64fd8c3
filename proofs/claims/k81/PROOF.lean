import PyProof.Rows.All
import PyProof.StrBlockI
import PyProof.StrBlock2
import PyProof.Draws
import PyProof.EnumMake
import PyProof.Rows.StrNews
import KE.KIntText
import PyProof.PureStr
import PyProof.MeetsStr2
import PyProof.Rows.StrItems
import PyProof.StrLawsChain
import PyProof.StrLawsTight
import PyProof.StrLawsIn
import PyProof.StrWalks
import PyProof.FactsAll.str_7
import PyProof.FactsAll.list_1
import PyProof.FitsReplace
import PyProof.FactsAll.str_5
import PyProof.FString
import PyProof.StrLawsJoin
import PyProof.MeetsStr
import KE.KDictSum
import PyProof.Rows.RuleC_int
import PyProof.FactsAll.tuple_1
import KE.KEqDict
import PyProof.Rows.TupTab
import PyProof.AttrMissSeq
import KE.KDictOf
import KE.KPairComp
import PyProof.DictWalks
import PyProof.DictValues
import PyProof.DictItems
import PyProof.Rows.SetFrom
import KE.KRevIter
import PyProof.InstStoreFacts
import PyProof.ExcInit
import PyProof.IsiBase
import PyProof.ExcAttrAll.ValueError
import OpenK.KDescr
import KE.KIsAll
import PyProof.Rows.CatchOwn
import PyProof.RulesTry
import PyProof.RulesAs
import PyProof.RulesDel
import OpenK.KOwn
import PyProof.ExcBaseAll.ValueError
import PyProof.StationsW
import Wide.All
import OpenK.AllK
import Wide.FinOn
import Lean
import PyProof.EqAt
import PyProof.EqKinds
import PyProof.NeKinds
import PyProof.TupleCall
import PySem.Challenge.RW_wakeorder_k81_rows_refused
open Option renaming some->a_,none->d_,isSome_iff_exists->Ey,map_some->HS,any_eq_true->Jn,isSome_map->JB,getD_none->JQ,isSome->Ke
open Bool renaming false->b_,true->e_,and_eq_true->n_,false_ne_true->DZ,eq_iff_iff->Er,and_false->Fe,not_eq_true'->Fy,or_eq_true->G5,or_true->IY,true_and->Ku,and_true->Kv
open PySem.Str renaming ofString->c_,join->Eg,empty->Fj
open PySem renaming Addr->g_,starEach->h_,Value->j_,sizeLine->m_,Str->o_,wpAny_bind->p_,Shared->x_,wpAny_pure->Cb,wpAny->CT,model->Dd,eval->Di,boot_len->Dm,compareOp->Dn,sizeLine_eq->Dq,mainGlobals->Du,backTo->DB,Heap->DR,Stmt->DX,wpAny_mono->D1,wpAny_truthy_bool->D6,keywordEach->D_,mem_of_lookup->Ea,Program->Ec,Expr->Ed,attributeBase->Ei,World->Ek,wpAny_Call_Name_kw->El,cellsFrom->En,binaryOp->EI,FuncData->EJ,codeAny_mono->EM,bootBuiltins->EO,ExcAttrBase->ET,backToKw->EX,cLine->E8,swapsWith->E_,behindInMarks->Ff,Around->Fm,assignEach->Fv,ExcBaseFacts->Fw,intText?->Fz,NameKind->FE,strValues->FG,foldedSetIterable->FL,sysModules->FQ,codeAny_call_builtin->FR,Keyword->FU,wpAny_field->Ga,wpAny_loadPart_at->Gj,codeAny->Gk,call->Gn,Within->Gs,Paired->Gv,sliceBounds->GA,wpAny_passesOwn->GG,wpAny_execs_nil->GH,wpAny_call->GR,wpAny_pyIter_list->GX,excClassObj->GY,wpAny_standAt->G2,getMethod->G6,Obj->G8,typeIs_str->Hb,letOwnedTupleGo->Hi,wpAny_setField->Hv,callWith->Hw,bindArgs->Hx,setFlight->HE,lastMarks->HF,BindsTo->HI,wpAny_holding->HP,Model->HQ,rawInt->HX,call_meets->HY,wpAny_newObj_type->Ia,standAt->Ib,holding->Ic,concat_meets->Ie,callerA->Ig,Scope->Ij,plainObj_wpAny_Assign_Attribute->Im,Env->Iq,wpAny_execs_cons->Iv,noFill_tuple_add->Iw,checkBuiltinCall->Iy,assign->Iz,IsPart->ID,pushCells_keeps->II,wpAny_loadPart->IZ,reduceHash->I9,newFunctionEnv->I_,intText_digits->Ja,wpAny_comprehension_free->Js,seq_tuple_add->Jt,noteFrame->JH,bindL->JI,bindC->JJ,isTrue->JS,intKind->JT,getItem->JU,getAttr->JV,Result->JY,OwnTail->JZ,wpAny_isTrue_Compare1->J7,unbindBehindTheSuite->Kc,evalEach->Kd,wpAny_isSubtype_exc->Kg,wpAny_Name->Kl,tupleKind_room_in1->Km,isInstance->Kn,builtinsNs->Ko,wpAny_pyIter_enum->Kw,wpAny_dictEntries->Kx,wpAny_assign_Name->Ky,unaryOp->Kz,slot_list_getitem->KA,setAttr->KC,leaving->KD,hashInt->KG,Sem->KN,wpAny_pyIter_zip->KW,wpAny_lookBehind->KY,wpAny_call_entry->KZ,pastItsLine_dict->K0,getAttrBy->K1,DictEntry->K6
open List renaming getElem?_set_ne->k_,getElem?_set_self->s_,lookup_cons->w_,length_map->y_,getElem?_eq_some_iff->z_,mem_cons->A_,size_toArray->B_,length_append->CV,length_set->CY,length_cons->CZ,map_map->Dj,mem_cons_of_mem->Dl,map_cons->Dp,mem_append->Dv,map_append->Dw,getElem?_eq_getElem->DD,mem_singleton->DK,lookup->DN,mem_cons_self->DO,exists_cons_of_length_eq_add_one->DQ,mem_append_right->DU,range->DY,mem_map->D4,replicate->D7,mem_of_getElem?->D8,mem_filter->D9,getElem?_map->Ee,length_replicate->Ew,not_mem_nil->Ez,all_eq_true->EA,getElem?_append_left->EW,length_nil->EZ,getElem_mem->Fd,mem_filterMap->Fq,append_nil->Ft,getElem?_append_right->FH,length_eq_zero_iff->FW,getElem?_replicate->FX,getElem?_cons_succ->FY,findIdx?_eq_some_iff_getElem->FZ,append_assoc->F_,getElem?_eq_none->Ge,length_take->Gi,nodup_cons->Gq,find?_cons->Gr,map_congr_left->Gx,all_map->Gz,drop_eq_getElem_cons->GL,all_cons->GO,map->GU,mem_append_left->G_,map_eq_nil_iff->Hl,filterMap_cons->Hm,nodup_append->HJ,map_nil->HK,length_drop->HU,any_eq_true->HV,of_mem_zip->H_,drop_zero->Iu,getElem?_set_self'->IS,filter_cons_of_pos->IT,filter_cons_of_neg->IU,length_singleton->Jh,getElem?_toArray->Ji,length_eraseIdx->Jo,length->Jp,getElem_toArray->Jq,length_pos_iff->JC,getElem_of_mem->JD,getElem?_range->JE,contains_cons->JR,mem_range'_1->J1,length_range->J5,getElem?_inj->J6,filter_cons->J_,ext_getElem->Ka,drop_length->Kb,nil_append->Kf,nodup_nil->Kj,forIn_nil->Kk,range'->Lc,map_id->Ld
open Decidable renaming decide->q_,byContradiction->HW
open PySem.Heap renaming get?_push_of_some->t_,lt_size->v_,get?_push_size->Df,get?_update_other->DC,size_push->Eo,get?_update_self->Gd,size_update->Gh,SameBut->GZ
open Nat renaming le_refl->u_,lt_of_lt_of_le->De,ne_of_lt->Dx,le_trans->Dz,le_succ->DF,lt_irrefl->D3,zero_le->FK,lt_succ_self->FP,le_of_lt->GC,le_add_right->GW,ne_of_gt->G3,lt_trans->G4,not_lt->IE,lt_succ_of_lt->J9,mul_le_mul->Ks,add_assoc->KU,le_of_eq->Lb
open PySem.Value renaming ref->CU,str->Ex,type->FC,none->FD,builtin->Gf,int->Gy,bool->Ii,float->Jd,isInt->KJ,bytes->KL
open PySem.W renaming findIn->C_,kitOne->DM,emptyDict->D0,InstAt->EC,mroIn->EG,instObj->ES,kia_one->Fb,keepIn->Fh,cellsFrom_some->Fi,hasDictIn->Fu,excIn->FN,looks_findIn->FV,methodCall_KW->F8,callWith_K->Gu,lookIn->GI,plainGet_of->G7,isNs_of_in->Hd,clsIn->Hj,methodObj->Ho,kitx_list->Hq,OpenLaw->Hy,specialIn->HG,fnOf->HM,typeIn->HZ,notCls->H9,plainGet->Ih,handedIn->IB,codeIn->IC,looks_clsIn->IJ,any_some->IK,callWith_K0->IW,tail_of_in->Jb,kitx_tuple->Jc,kitx_none->Jj,kitx_dict->Jk,kitx_bool->Jl,kitx_str->Jv,kitx_int->Jw,WalkO->Jx,readsIn->JK,plainOver->JL,kia_tup->JM,findCls->JN,nsIn->JW,makesIn->JX,findObj_own->Kh,Frag->Kp,takesIn->KH,set_plain->KI
open Except renaming ok->Ds,error->Fp,bind->Kt
open Option.some renaming inj->Dt,injEq->IH
open PySem.Builtin.Str renaming occurrences->Dy,partsBetween->HN,strKind->Ir
open PySem.F renaming excBase_ValueError->DH,slot_str_join->D2,type_str_join->Eb,attrBase_ValueError->Eh,plainAttrs_list->EB,slot_str_split->EE,slot_list_append->Fc,type_str_split->Fl,type_list_append->FO,args_tuple_add_2->GJ,entry_tuple_add->GN,slot_tuple_add->GS,slot_str_startswith->HR,slot_list_index->Ip,slot_dict_get->IG,slot_dict_eq->IP,slot_list_extend->Jf,typeOf_object_class->JP,entry_bexc_ga->KQ
open Ne renaming symm->DL
open False renaming elim->DV
open Int renaming eq_ofNat_of_zero_le->D5,emod_lt_of_pos->Ej,emod_nonneg->Es,le_refl->JF,le_trans->Lf
open Nat.succ renaming inj->Ef
open PySem.NumText renaming digitsVal->Em
open PySem.Txt renaming split->Ep,startswith->ER,slice->Hk,mul->Io
open PySem.NameKind renaming cell->Eu
open Except.ok renaming inj->ED
open Array renaming length_toList->EF,getElem?_eq_some_iff->GD,append_assoc->Hs,toList->HD,getElem?_eq_none->IV,toList_append->Jr,find?_toList->JG
open True renaming intro->EK
open PySem.Builtin.Tuple renaming tupleHashOf->EL,tupleItemsOf->K7,tupleExact->K8
open LawfulBEq renaming eq_of_beq->EU
open Pure renaming pure->EY
open PyProof.Rows renaming boot_list->E9,envOfC->Fn,slot_tuple_getitem->Fo,boot_isinstance->F9,callWith_type1->Gb,pendingOf->Gw,boot_int->GK,AllBare->G1,boot_all->Il,IntsAre->IX,SortSt->Jg,Constant_none->JA,subscriptTail_builtinR->J0,chain_link->Kr,IsTup->KS
open PySem.Builtin.Slice renaming slicePlaces->Fs,sliceAdjust->Gm,sliceApplied->Hr,slicePartIndex->K9,sliceFields->K_
open PySem.Obj renaming isFreed_of_fields->Gg,mapFields->Ht,data_mapFields->Hz
open PySem.Builtin.List renaming listTooLong->Gp
open PySem.Calls renaming spliced_cons->GB,evalArgs_plain->G9,spliced_nil->HA,Name_function_global->Ik,callWith_builtin->IQ
open PySem.AutoSeq1 renaming wpAny_loadPart'->GF
open ForInStep renaming yield->GP
open PySem.SeqAt renaming EqAt->GV,ne_of_list_tuple->IL,RcNeAt->IM,RcAt->Jz
open PySem.EntryCells renaming newEntry->G0
open PySem.Paired renaming length->He
open Classical renaming not_not->Hf
open Sum renaming inl->Hg,inr->HL
open PySem.Code renaming quiet_builtin->Hu
open PySem.Builtin.Dict renaming dictSlotArgs->HB
open List.cons renaming injEq->HC
open PySem.Heap.Ns1 renaming of_empty->Je
open PySem.StrLaws renaming found_one->Jm
open PySem.Within renaming cons->Ju
open PySem.W.Looks renaming here->Jy
open PySem.SetTable renaming grown->JO
open PySem.Builtin.ObjectAttr renaming storeInOwnDict->J8
open PySem.Challenge renaming pw_wakeorder_k81_rows_refused->Kq
open PySem.Meets renaming of_wp->KO
open PySem.Heap.IsSliceOf renaming new->KP
open PySem.CmpOp renaming NotIn->KR
open PySem.EqMixed renaming ne_str_int->K2,ne_str_bool->K3,ne_int_str->K4,ne_bool_str->K5
open PySem.Builtin.Range renaming rangeSize->La
open List.Pairwise renaming nil->Le
abbrev f_:=@decide_eq_false
abbrev i_:=@if_pos
abbrev l_:=@if_neg
abbrev r_:=@decide_eq_true
abbrev Dc:=@absurd
abbrev Dh:=@decide_eq_true_eq
abbrev Et:=@beq_iff_eq
abbrev EV:=@of_decide_eq_true
abbrev FF:=@beq_eq_false_iff_ne
abbrev FJ:=@decide_eq_false_iff_not
abbrev FT:=@congrArg
abbrev GQ:=@beq_self_eq_true
abbrev Ha:=@or_false
abbrev IF:=@if_true
set_option Elab.async false
set_option linter.all false
set_option maxRecDepth 100000
set_option maxHeartbeats 4000000
open PySem.W (plainGet isFn plainOver takerIn makesIn typeIn keepIn specialIn takesIn kitOne kia_one callWith_K fnOf codeIn nsIn mg_of kitAny)
abbrev Fg:=Kp
abbrev Pn:=List (g_×G8)
abbrev Vp:=j_->x_->Prop
abbrev Mq:=o_->Option j_
noncomputable section
theorem Jq0(_:True:=by rfl):True:=trivial
local macro_rules|`(~~~$t)=>`(autoParam $t Jq0._auto_1)
theorem Jq1(_:True:=by decide):True:=trivial
local macro_rules|`($t⁻¹)=>`(autoParam $t Jq1._auto_1)
theorem Jq2_(_:True:=by k_is):True:=trivial
def Jq2:Lean.Syntax:=Jq2_._auto_1
theorem Jq3_(_:True:=by first|exact .inl rfl|exact .inr rfl|assumption):True:=trivial
def Jq3:Lean.Syntax:=Jq3_._auto_1
theorem Jq4_(_:True:=by first|exact Or.inl rfl|exact Or.inr (Or.inl rfl)|exact Or.inr (Or.inr rfl)):True:=trivial
def Jq4:Lean.Syntax:=Jq4_._auto_1
theorem Jq5_(_:True:=by first|k_is|kernel_rfl):True:=trivial
def Jq5:Lean.Syntax:=Jq5_._auto_1
theorem Jq6_(_:True:=by intro _;rfl):True:=trivial
def Jq6:Lean.Syntax:=Jq6_._auto_1
theorem Jq7_(_:True:=by first|exact Or.inl rfl|exact Or.inr rfl):True:=trivial
def Jq7:Lean.Syntax:=Jq7_._auto_1
theorem Jq8_(_:True:=by with_unfolding_all rfl):True:=trivial
def Jq8:Lean.Syntax:=Jq8_._auto_1
theorem Jq9_(_:True:=by exact⟨rfl,rfl,rfl,by decide +kernel,rfl,by decide +kernel,by decide +kernel⟩):True:=trivial
def Jq9:Lean.Syntax:=Jq9_._auto_1
theorem Jq10_(_:True:=by intros;rfl):True:=trivial
def Jq10:Lean.Syntax:=Jq10_._auto_1
theorem Jq11_(_:True:=by first|exact yf _|with_unfolding_all rfl):True:=trivial
def Jq11:Lean.Syntax:=Jq11_._auto_1
theorem Jq12_(_:True:=by intro _ _ _ _ _ _ us hl;rcases us with _|⟨_,_|⟨_,_|⟨_,_|⟨_,_|⟨_,_|⟨_,_|⟨_,us⟩⟩⟩⟩⟩⟩⟩<;>first|(simp at hl;done)|rfl):True:=trivial
def Jq12:Lean.Syntax:=Jq12_._auto_1
namespace L2
open PySem PySem.Spec PyProof.Rows
variable{κ:Type}{a b dx C:g_}{P prog:Ec}{w:Ek}{h h':DR}{x name m qual:o_}{e c tg:Ed}{pins:Pn}{s s':x_}{g':Array GenState}{ch fp:List g_}{N ps:List o_}{i j k n:Nat}{A:Fm}{E:Vp}{u:j_}{Q:Unit->x_->Prop}{pos pos' p:Pos}{op op':CmpOp}{K:Fg}{es:List Ed}{body:List DX}{f:j_->j_->KN j_}{g:Int->Int->Int}{us:List j_}{mA mg:Mq}{pl:KN Bool}{kw:List (o_×j_)}{outer:List Iq}{fd:EJ}{scope:Ij}
noncomputable abbrev Key:=Sum Int o_
noncomputable def keyIs:Key->j_->Bool
 |.inl k,v=>KJ k v|.inr x,v=>Value.isStrOf x v
noncomputable def keyH(w:Ek):Key->Int
 |.inl k=>KG k|.inr x=>hashStr w x
theorem cP:∀{k:Key} {v:j_},keyIs k v=e_->(∃i t,k=Hg i/\v=Gy i t)\/(∃x t,k=HL x/\v=Ex x t)
 |.inl i,v,h=>by obtain⟨t,e⟩:=Value.isInt_shape (k:=i) (v:=v) h;exact .inl ⟨i,t,rfl,e⟩
 |.inr x,v,h=>by obtain⟨t,e⟩:=Value.isStrOf_shape (x:=x) (v:=v) h;exact .inr ⟨x,t,rfl,e⟩
theorem key_ll(a b:Int):q_ ((Hg a:Key)=Hg b)=(a==b):=by
 by_cases e:a=b
 ·subst e;simp
 ·have h:¬(Hg a:Key)=Hg b:=λq=>e (Sum.inl.inj q);rw[f_ h];exact(FF.mpr e).symm
theorem key_rr(a b:o_):q_ ((HL a:Key)=HL b)=q_ (a=b):=by
 by_cases e:a=b
 ·subst e;simp
 ·have h:¬(HL a:Key)=HL b:=λq=>e (Sum.inr.inj q);rw[f_ h,f_ e]
theorem key_lr(a:Int)(b:o_):q_ ((Hg a:Key)=HL b)=b_:=f_ (λq=>nomatch q)
theorem key_rl(a:o_)(b:Int):q_ ((HL a:Key)=Hg b)=b_:=f_ (λq=>nomatch q)
noncomputable def wL(prog:Ec)(w:Ek):PySem.KeyKind prog w Key where
 is:=keyIs
 hash:=keyH w
 inj:=λv a b U I=>by
  rcases cP U with⟨i,t,rfl,rfl⟩|⟨x,t,rfl,rfl⟩
  ·rcases cP I with⟨j,u,rfl,e⟩|⟨y,u,rfl,e⟩
   ·injection e with e1 _;rw[e1]
   ·exact nomatch e
  ·rcases cP I with⟨j,u,rfl,e⟩|⟨y,u,rfl,e⟩
   ·exact nomatch e
   ·injection e with e1 _;rw[e1]
 byValue:=λk v h=>by rcases cP h with⟨i,t,rfl,rfl⟩|⟨x,t,rfl,rfl⟩<;>rfl
 pyHash:=λhv h=>by
  rcases cP hv with⟨i,t,rfl,rfl⟩|⟨x,t,rfl,rfl⟩
  ·exact wpAny_pyHash_int h
  ·exact wpAny_pyHash_str h
 eqBool:=λJ hv h=>by
  rcases cP J with⟨i,t,rfl,rfl⟩|⟨x,t,rfl,rfl⟩
  ·rcases cP hv with⟨j,u,rfl,rfl⟩|⟨y,u,rfl,rfl⟩
   ·rw[key_ll]at h;exact wpAny_eqBool_int h
   ·rw[key_lr]at h;exact SeqAt.EqAt.int_str i t y u _ _ _ _ h
  ·rcases cP hv with⟨j,u,rfl,rfl⟩|⟨y,u,rfl,rfl⟩
   ·rw[key_rl]at h;exact SeqAt.EqAt.str_int x t j u _ _ _ _ h
   ·rw[key_rr]at h;exact wpAny_eqBool_str h
 «strs»:=λk x t v h=>by
  rcases cP h with⟨i,u,rfl,e⟩|⟨y,u,rfl,e⟩
  ·exact nomatch e
  ·injection e with e1 _
   subst e1;cases v<;>rfl
inductive V where
 |non|bl (b:Bool)|int (i:Int)|str (x:o_)|byt (b:Array UInt8)|flt (b:UInt64)|ref (a:g_)|ty (n:String)
 deriving DecidableEq
variable{v y:V}{vs:List V}
noncomputable def RelV:V->j_->Prop
 |.non,u=>u=FD|.bl b,u=>u=Ii b|.int i,u=>∃t,u=Gy i t
 |.str x,u=>∃t,u=Ex x t
 |.byt b,u=>∃t,u=KL b t
 |.flt b,u=>∃t,u=Jd b t
 |.ref a,u=>u=CU a|.ty n,u=>u=FC n
abbrev Vals:List V->List j_->Prop:=Gv RelV
theorem Vals.length{xs:List V}{us:List j_}(r:Vals xs us):xs.length=us.length:=He r
theorem Vals.get:∀{xs:List V} {us:List j_} {i:Nat} {x:V},Vals xs us->xs[i]?=a_ x->∃u,us[i]?=a_ u/\RelV x u
 |_,_,_,_,.nil,e=>by simp at e|_,_,0,_,.cons r _,e=>by simp at e;subst e;exact⟨_,rfl,r⟩|_,_,i+1,x,.cons _ t,e=>by obtain⟨u,h1,h2⟩:=Vals.get (i:=i) (x:=x) t (by simpa using e);exact⟨u,by simpa using h1,h2⟩
theorem Vals.append:∀{xs ys:List V} {us ws:List j_},Vals xs us->Vals ys ws->Vals (xs++ys) (us++ws)
 |_,_,_,_,.nil,s=>s|_,_,_,_,.cons r t,s=>.cons r (Vals.append t s)
theorem Vals.take:∀{xs:List V} {us:List j_} (n:Nat),Vals xs us->Vals (xs.take n) (us.take n)
 |_,_,0,_=>.nil|_,_,_+1,.nil=>.nil|_,_,n+1,.cons r t=>.cons r (Vals.take n t)
theorem Vals.drop:∀{xs:List V} {us:List j_} (n:Nat),Vals xs us->Vals (xs.drop n) (us.drop n)
 |_,_,0,r=>r|_,_,_+1,.nil=>.nil|_,_,n+1,.cons _ t=>Vals.drop n t
noncomputable def qD:Option V->Option j_->Prop
 |some v,a_ u=>RelV v u|none,d_=>True|_,_=>False
noncomputable def KV:List (κ×V)->List (κ×j_)->Prop:=Gv λ(p:κ×V) (q:κ×j_)=>p.1=q.1/\RelV p.2 q.2
noncomputable def kV:Key->V
 |.inl i=>.int i|.inr x=>.str x
inductive HO where
  |lst (xs:List V)
  |tup (xs:List V)
  |dK (kvs:List (Key×V))|dT (kvs:List (List Key×V))
  |set (S:Int->Bool) (n:Nat)
  |ins (C dx:g_) (fs:List (o_×V))
  |own (x:g_)
  |xd (fs:List (o_×V))
  |met (f x:g_)
  |rng (lo hi:Int)
  |frz (o:G8) (u:HO)
  |tbl (ps:Array j_)
  |ext (φ:DR->Prop)
variable{o:HO}
noncomputable abbrev Hp:=g_->Option HO
variable{H H':Hp}
noncomputable def upd(H:Hp)(a:g_)(o:HO):Hp:=λb=>if b=a then a_ o else H b
theorem aq:upd H a o a=a_ o:=by unfold upd;rw[i_ rfl]
theorem ao(h:b≠a):upd H a o b=H b:=by unfold upd;rw[l_ h]
theorem aL(h:H a=a_ o)(h':H b=d_):a≠b:=by intro e;subst e;rw[h]at h';cases h'
section
variable(P:Ec)(w:Ek)
noncomputable def eo(H:Hp)(h:DR)(a:g_):HO->Prop
 |.lst xs=>xs.length<=m_/\∃(its:List j_) (n:Nat),Vals xs its/\h.get? a=a_ {cls:=.type "list",data:=.seq its.toArray n}
 |.tup xs=>xs.length<=m_/\∃its:List j_,Vals xs its/\KS h a its.toArray
 |.dK I=>I.length<=m_/\(a==FQ)=b_/\∃vs,KV I vs/\h.DictOf (wL P w) a vs
 |.dT I=>I.length<=m_/\(a==FQ)=b_/\∃xs:List (List Key×g_×j_),
   Gv (λ(p:List Key×V) (q:List Key×g_×j_)=>p.1=q.1/\H q.2.1=a_ (.tup (p.1.map kV))/\RelV p.2 q.2.2) I xs /\
   ∃o es ep,h.get? a=a_ o/\o.ExactDict/\o.data=.dict es ep/\es.toList=xs.map (entryOfKey (tupleKind (wL P w)))/\(xs.map (·.1)).Nodup
 |.set S n=>h.SetOf (JT P w) a S n|.ins C dx fs=>H dx=a_ (.own a)/\fs.length<=1000/\dx≠a/\h.get? a=a_ (ES C dx) /\
   ∃mA,h.Ns1 dx mA/\(∀f,qD (fs.lookup f) (mA f))/\Gs mA (fs.map (·.1))
 |.own _=>∃o,h.get? a=a_ o
 |.xd fs=>∃mA,h.Ns1 a mA/\∀f,qD (fs.lookup f) (mA f)
 |.rng lo hi=>∃t u v,h.get? a=a_ {cls:=.type "range",data:=.fields #[.int lo t,.int hi u,.int 1 v]}
 |.frz o u=>h.get? a=a_ o/\eo H h a u|.tbl ps=>h.get? a=a_ {cls:=.none,data:=.fields ps}|.met f x=>h.get? a=a_ (Ho (.ref f) (.ref x))|.ext J=>J h/\(∃o,h.get? a=a_ o)/\∀h1 h2:DR,J h1->(∀o,h1.get? a=a_ o->h2.get? a=a_ o)->J h2
noncomputable def HOk(H:Hp)(h:DR):Prop:=∀a o,H a=a_ o->eo P w H h a o
end
theorem eo.lt(x:eo P w H h a o):a<h.objs.size:=by
 cases o with
 |lst xs=>obtain⟨_,_,_,_,e⟩:=x;exact v_ e
 |tup xs=>obtain⟨_,_,_,p⟩:=x;exact p.lt
 |dK I=>obtain⟨_,_,_,_,o,_,_,e,_⟩:=x;exact v_ e
 |dT I=>obtain⟨_,_,_,_,o,_,_,e,_⟩:=x;exact v_ e
 |set S n=>obtain⟨o,_,_,_,e,_⟩:=x;exact v_ e
 |ins C dx fs=>obtain⟨_,_,_,e,_⟩:=x;exact v_ e
 |own y=>obtain⟨_,e⟩:=x;exact v_ e
 |xd fs=>obtain⟨_,⟨_,_,_,e,_⟩,_⟩:=x;exact v_ e
 |rng lo hi=>obtain⟨_,_,_,e⟩:=x;exact v_ e
 |frz U u=>obtain⟨e,_⟩:=x;exact v_ e
 |tbl ps=>exact v_ (show h.get? a=a_ _ from x)|met f y=>exact v_ (show h.get? a=a_ _ from x)|ext J=>obtain⟨_,⟨_,e⟩,_⟩:=x;exact v_ e
theorem Paired.mapP{α U:Type}{F G:α->U->Prop}:∀{J:List α} {I:List U},Gv F J I->(∀a b,F a b->G a b)->Gv G J I
 |_,_,.nil,_=>.nil|_,_,.cons r t,f=>.cons (f _ _ r) (Paired.mapP t f)
theorem eo.vR(x:eo P w H h a o)(k:∀b u,(b=a\/H b=a_ (.own a))->h.get? b=a_ u->h'.get? b=a_ u)(i:∀b,H b=a_ (.own a)->H' b=a_ (.own a))(g:∀b xs,H b=a_ (.tup xs)->H' b=a_ (.tup xs)):eo P w H' h' a o:=by
 induction o with
 |lst xs=>obtain⟨z,its,n,r,e⟩:=x;exact⟨z,its,n,r,k _ _ (.inl rfl) e⟩
 |tup xs=>obtain⟨z,its,r,I,e,c⟩:=x;exact⟨z,its,r,I,k _ _ (.inl rfl) e,c⟩
 |dK J=>obtain⟨z,y,vs,r,I,es,ep,e,c⟩:=x;exact⟨z,y,vs,r,I,es,ep,k _ _ (.inl rfl) e,c⟩
 |dT J=>obtain⟨z,y,xs,r,I,es,ep,e,c⟩:=x;exact⟨z,y,xs,Paired.mapP r λp q z=>⟨z.1,g _ _ z.2.1,z.2.2⟩,I,es,ep,k _ _ (.inl rfl) e,c⟩
 |set S n=>obtain⟨I,es,ep,t,e,c⟩:=x;exact⟨I,es,ep,t,k _ _ (.inl rfl) e,c⟩
 |ins C dx fs=>obtain⟨d,z,U,e,mA,⟨od,es,ep,e2,c⟩,r⟩:=x;exact⟨i _ d,z,U,k _ _ (.inl rfl) e,mA,⟨od,es,ep,k _ _ (.inr d) e2,c⟩,r⟩
 |own y=>obtain⟨I,e⟩:=x;exact⟨I,k _ _ (.inl rfl) e⟩
 |xd fs=>obtain⟨mA,⟨od,es,ep,e,c⟩,r⟩:=x;exact⟨mA,⟨od,es,ep,k _ _ (.inl rfl) e,c⟩,r⟩
 |rng lo hi=>obtain⟨t,u,v,e⟩:=x;exact⟨t,u,v,k _ _ (.inl rfl) e⟩
 |frz I u Y=>obtain⟨e,q⟩:=x;exact⟨k _ _ (.inl rfl) e,Y q⟩
 |tbl ps=>have e:h.get? a=a_ {cls:=.none,data:=.fields ps}:=x;show h'.get? a=a_ {cls:=.none,data:=.fields ps};exact k a _ (.inl rfl) e|met f y=>have e:h.get? a=a_ (Ho (.ref f) (.ref y)):=x;show h'.get? a=a_ (Ho (.ref f) (.ref y));exact k a _ (.inl rfl) e|ext j=>obtain⟨p,⟨o,e⟩,st⟩:=x;exact⟨st _ _ p λo q=>k _ _ (.inl rfl) q,⟨o,k _ _ (.inl rfl) e⟩,st⟩
theorem HOk.lt(x:HOk P w H h)(e:H a=a_ o):a<h.objs.size:=(x a o e).lt
theorem HOk.fresh(x:HOk P w H h)(e:h.objs.size<=a):H a=d_:=by
 cases q:H a with
 |none=>rfl|some u=>exact Dc (De (x.lt q) e) (D3 _)
theorem HOk.kept(x:HOk P w H h)(k:∀b u,h.get? b=a_ u->h'.get? b=a_ u):HOk P w H h':=λa o e=>(x a o e).vR (λb u _ q=>k b u q) (λ_ q=>q) λ_ _ q=>q
theorem HOk.laid(x:HOk P w H h)(k:∀b u,h.get? b=a_ u->h'.get? b=a_ u)(Y:h.objs.size<=a)(I:eo P w (upd H a o) h' a o):HOk P w (upd H a o) h':=λb u e=>by
 have J:=x.fresh Y;by_cases U:b=a
 ·subst U;rw[aq]at e;cases e;exact I
 ·rw[ao U]at e;exact(x b u e).vR (λc v _ q=>k c v q) (λc q=>by rw[ao (aL q J)];exact q) λc xs q=>by rw[ao (aL q J)];exact q
noncomputable def Rd(H:Hp)(a:g_)(u:HO):Prop:=H a=a_ u\/∃o,H a=a_ (.frz o u)
theorem Rd.ok{u:HO}(r:Rd H a u)(x:HOk P w H h):eo P w H h a u:=by
 rcases r with r|⟨o,r⟩
 ·exact x a u r
 ·obtain⟨_,q⟩:=x a _ r;exact q
noncomputable def Mut:Option HO->Prop
 |some (.lst _)=>True|some (.dK _)=>True|some (.dT _)=>True|some (.set _ _)=>True|some (.ins _ _ _)=>True|some (.ext _)=>True|_=>False
section
variable{x e:g_}{o':HO}
theorem HOk.write(l:HOk P w H h)(Y:Mut (H x))(j:e=x\/H e=a_ (.own x))(k:∀b u,b≠e->h.get? b=a_ u->h'.get? b=a_ u)(g:∃u,h'.get? e=a_ u)(f:eo P w (upd H x o') h' x o'):HOk P w (upd H x o') h':=λb u q=>by
 have J:∀c y,H c=a_ (.own y)->c≠x:=λc y r z=>by subst z;rw[r]at Y;exact Y
 have U:∀c xs,H c=a_ (.tup xs)->c≠x:=λc xs r z=>by subst z;rw[r]at Y;exact Y
 by_cases d:b=x
 ·subst d;rw[aq]at q;cases q;exact f
 ·rw[ao d]at q;by_cases I:b=e
  ·have i:H b=a_ (.own x):=by
    rcases j with z|z
    ·exact Dc (I.trans z) d
    ·rw[I];exact z
   rw[q]at i;cases i;obtain⟨v,hv⟩:=g;exact⟨v,by rw[I];exact hv⟩
  ·refine(l b u q).vR (λc v a r=>k c v ?_ r) (λc r=>by rw[ao (J c b r)];exact r) λc xs r=>by rw[ao (U c xs r)];exact r
   rcases a with rfl|a
   ·exact I
   ·rintro rfl;rcases j with z|z
    ·exact J c b a z
    ·rw[a]at z;cases z;exact d rfl
end
structure Un(fs ex:List g_)(H H':Hp)(h h':DR):Prop where
 keep:∀b o,h.get? b=a_ o->H b=d_->b∉fs->b∉ex->h'.get? b=a_ o
 slot:∀b o,h.get? b=a_ o->H b=d_->b∈fs->b∉ex->∃sl,h'.get? b=a_ {o with slots:=sl}
 free:∀b o,h.get? b=a_ o->H b=d_->b∉ex->H' b=d_
 there:∀b o,h.get? b=a_ o->b∉ex->∃o',h'.get? b=a_ o'
 tups:∀b xs,H b=a_ (.tup xs)->H' b=a_ (.tup xs)
 frzs:∀b o u,H b=a_ (.frz o u)->H' b=a_ (.frz o u)
 tbls:∀b ps,H b=a_ (.tbl ps)->∃more,H' b=a_ (.tbl (ps++more))
section
variable{fs ex:List g_}{H1 H2:Hp}{h1 h2:DR}{x e:g_} 
theorem Un.any(u:Un fs ex H H1 h h1){I:G8}(q:h.get? b=a_ I)(n:H b=d_)(J:b∉ex):∃Y,h1.get? b=a_ {I with slots:=Y}:=by
 by_cases U:b∈fs
 ·exact u.slot b I q n U J
 ·exact⟨I.slots,u.keep b I q n U J⟩
theorem Un.trans(a:Un fs ex H H1 h h1)(b:Un fs ex H1 H2 h1 h2):Un fs ex H H2 h h2 where
 keep:=λc I q n U J=>b.keep c I (a.keep c I q n U J) (a.free c I q n J) U J
 slot:=λc I q n U J=>by obtain⟨f,e1⟩:=a.slot c I q n U J;obtain⟨Y,e2⟩:=b.slot c _ e1 (a.free c I q n J) U J;exact⟨Y,e2⟩
 free:=λc I q n J=>by obtain⟨o',e1⟩:=a.there c I q J;exact b.free c o' e1 (a.free c I q n J) J
 there:=λc I q J=>by obtain⟨o',e1⟩:=a.there c I q J;exact b.there c o' e1 J
 tups:=λc xs q=>b.tups c xs (a.tups c xs q)
 frzs:=λc I xs q=>b.frzs c I xs (a.frzs c I xs q)
 tbls:=λc ps q=>by obtain⟨e,e1⟩:=a.tbls c ps q;obtain⟨d,e2⟩:=b.tbls c _ e1;exact⟨e++d,by rw[e2,Hs]⟩
theorem Un.kept(k:∀b u,h.get? b=a_ u->h'.get? b=a_ u):Un fs ex H H h h':=
 ⟨λb I q _ _ _=>k b I q,λb I q _ _ _=>⟨I.slots,k b I q⟩,λ_ _ _ n _=>n,λb I q _=>⟨I,k b I q⟩,λ_ _ q=>q,λ_ _ _ q=>q,λ_ ps q=>⟨#[],by rw[q];simp⟩⟩
theorem Un.refl:Un fs ex H H h h:=Un.kept λ_ _ q=>q
theorem Un.laid(k:∀b u,h.get? b=a_ u->h'.get? b=a_ u)(J:h.objs.size<=a)(I:H a=d_):Un fs ex H (upd H a o) h h' where
 keep:=λb u q _ _ _=>k b u q
 slot:=λb u q _ _ _=>⟨u.slots,k b u q⟩
 free:=λb u q n _=>by rw[ao (Dx (De (v_ q) J))];exact n
 there:=λb u q _=>⟨u,k b u q⟩
 tups:=λb xs q=>by rw[ao (aL q I)];exact q
 frzs:=λb u xs q=>by rw[ao (aL q I)];exact q
 tbls:=λb ps q=>⟨#[],by rw[ao (aL q I),q];simp⟩
theorem Un.write(J:Mut (H x))(d:e=x\/H e=a_ (.own x))(k:∀b u,b≠e->h.get? b=a_ u->h'.get? b=a_ u)(Y:∃u,h'.get? e=a_ u):Un fs ex H (upd H x o) h h':=by
 have a:∀b,H b=d_->b≠x:=λb n z=>by subst z;rw[n]at J;exact J
 have c:∀b,H b=d_->b≠e:=λb n z=>by
  subst z;rcases d with r|r
  ·exact a b n r
  ·rw[n]at r;cases r
 have U:∀b u,H b=a_ u->¬Mut (a_ u)->b≠x:=λb u q nm z=>by subst z;rw[q]at J;exact nm J
 refine⟨λb u q n _ _=>k b u (c b n) q,λb u q n _ _=>⟨u.slots,k b u (c b n) q⟩,λb u q n _=>by rw[ao (a b n)];exact n,λb u q _=>?_,
  λb xs q=>by rw[ao (U b _ q λz=>z)];exact q,λb u xs q=>by rw[ao (U b _ q λz=>z)];exact q,λb ps q=>⟨#[],by rw[ao (U b _ q λz=>z),q];simp⟩⟩
 by_cases I:b=e
 ·subst I;exact Y
 ·exact⟨u,k b u I q⟩
end
noncomputable def trk(h:DR)(H:Hp):List g_:=(DY h.objs.size).filter λa=>(H a).isSome
noncomputable def hidT(h:DR)(H:Hp):DR:=PySem.W.hideAll h (trk h H)
theorem BF(h:DR)(H:Hp):(hidT h H).objs.size=h.objs.size:=PySem.W.hideAll_size _ _
theorem hidT_get{o:G8}(e:h.get? b=a_ o)(n:H b=d_):(hidT h H).get? b=a_ o:=
 PySem.W.hideAll_get _ e λI=>by have q:(H b).isSome=e_:=(D9.mp I).2;rw[n]at q;simp at q
theorem of_hidT{o:G8}(e:(hidT h H).get? b=a_ o):h.get? b=a_ o/\H b=d_:=by
 have I:h.get? b=a_ o:=PySem.W.of_hideAll (trk h H) e;refine⟨I,?_⟩
 cases q:H b with
 |none=>rfl|some x=>have J:b∈trk h H:=D9.mpr ⟨List.mem_range.mpr (v_ I),by simp[q]⟩;have z:(hidT h H).get? b=d_:=PySem.W.hideAll_none (trk h H) J;rw[z]at e;cases e
structure Mod(K:Fg)(mg:Mq)(base:DR):Prop where
 kin:K.In base
 glob:base.Ns Du mg
 blt:∃mb,base.Ns Ko mb/\∀x:o_,x≠"__name__"->mb x=EO x
 nolimit:base.NoLimit
structure Cx where
 prog:Ec
 w:Ek
 K:Fg
 mg:Mq
 base:DR
 A:Fm
 N:List o_
 s₀:x_
 H₀:Hp
 env:Iq
 outer:List Iq
 stack:List Iq
 ex:List g_
 fn:o_->Bool
 calm:Bool
 pn:Pn
 xe:Vp
variable{X:Cx}
noncomputable def frs(l:List Iq):List g_:=l.filterMap (·.frame)
abbrev Cx.fs(X:Cx):List g_:=frs X.outer
noncomputable def Vis(sc:Ij)(x:o_):Prop:=sc.names.lookup x=a_ .local\/sc.names.lookup x=a_ .cell\/sc.names.lookup x=a_ .free
noncomputable def Loc(sc:Ij)(x:o_):Prop:=sc.names.lookup x=a_ .local\/sc.names.lookup x=a_ .cell
noncomputable def Look(env:Iq)(h:DR)(m:Mq)(x:o_)(u:j_):Prop:=
 (env.kindOf x=a_ .local/\m x=a_ u)\/((env.kindOf x=a_ .cell\/env.kindOf x=a_ .free)/\∃c,env.cells.lookup x=a_ c/\h.IsCell c (a_ u))
structure Cx.Ok(X:Cx):Prop where
 mod:Mod X.K X.mg X.base
 kind:X.env.scope.kind=.function
 glob:X.env.globals=Du
 blt:X.env.builtins=Ko
 above:X.s₀.heap.objs.size<=X.env.locals
 inj:∀x y c,X.env.cells.lookup x=a_ c->X.env.cells.lookup y=a_ c->x=y
 has:∀x,(X.env.kindOf x=a_ .cell\/X.env.kindOf x=a_ .free)->∃c,X.env.cells.lookup x=a_ c
 cab:∀x c,X.fn x=e_->X.env.cells.lookup x=a_ c->X.s₀.heap.objs.size<=c
 hd:X.calm=e_->X.A.handled=d_
 frames:X.A.frames=a_ X.stack
 stk:X.stack=X.outer\/(X.stack=X.env::X.outer/\X.env.frame=a_ X.env.locals)
 exf:∀b∈X.ex,b≠X.env.locals/\∀x c,X.env.cells.lookup x=a_ c->c≠b
 bs:∀b o,X.base.get? b=a_ o->X.s₀.heap.get? b=a_ o/\X.H₀ b=d_
 bsz:X.base.objs.size<=X.s₀.heap.objs.size
 noex:∀b o,X.base.get? b=a_ o->b∉X.ex
 exfs:∀b∈X.ex,b∉X.fs
 uU:X.s₀.heap.FunFrames X.base X.outer
 frf:∀b∈X.fs,X.H₀ b=d_
structure Inv(X:Cx)(pins:Pn)(σ:List (Option V))(H:Hp)(s:x_):Prop where
 ok:X.Ok
 os:s.os=X.s₀.os
 bare:G1 s.gens
 base:Un X.fs X.ex X.H₀ H X.s₀.heap s.heap
 loc:∃m,s.heap.Ns X.env.locals m/\∀(i:Nat) (x:o_) (v:V),X.N[i]?=a_ x->σ[i]?=a_ (a_ v)->Vis X.env.scope x->∃u,RelV v u/\Look X.env s.heap m x u
 cell:∀x c,X.env.cells.lookup x=a_ c->∃v,s.heap.IsCell c v
 free:H X.env.locals=d_
 freeC:∀x c,X.env.cells.lookup x=a_ c->H c=d_
 pin:∀p∈X.pn++pins,s.heap.get? p.1=a_ p.2/\H p.1=d_/\p.1≠X.env.locals/\p.1∉X.fs/\∀v,p.2.data≠.cell v
 hok:HOk X.prog X.w H s.heap
 len:σ.length=X.N.length
section
variable{σ:List (Option V)} 
theorem Cx.Ok.nofr(I:X.Ok){o:G8}(e:X.base.get? b=a_ o):b∉X.fs:=λJ=>by have:=(I.uU.mem J).1;rw[e]at this;cases this
theorem Inv.bs(I:Inv X pins σ H s):∀b o,X.base.get? b=a_ o->s.heap.get? b=a_ o/\H b=d_:=λb o e=>⟨I.base.keep b o (I.ok.bs b o e).1 (I.ok.bs b o e).2 (I.ok.nofr e) (I.ok.noex b o e),I.base.free b o (I.ok.bs b o e).1 (I.ok.bs b o e).2 (I.ok.noex b o e)⟩
theorem Inv.bk(I:Inv X pins σ H s):∀b o,X.base.get? b=a_ o->s.heap.get? b=a_ o:=λb o e=>(I.bs b o e).1
theorem Inv.mod(I:Inv X pins σ H s):Mod X.K X.mg X.base:=I.ok.mod
theorem Inv.kIn(I:Inv X pins σ H s):X.K.In s.heap:=I.ok.mod.kin.keeps I.bk
theorem Inv.lt(I:Inv X pins σ H s):X.env.locals<s.heap.objs.size:=let ⟨_,J,_⟩:=I.loc;J.lt
theorem Inv.sz(I:Inv X pins σ H s):X.s₀.heap.objs.size<=s.heap.objs.size:=Dz I.ok.above (GC I.lt)
theorem Inv.nofs(I:Inv X pins σ H s)(h:s.heap.objs.size<=a):a∉X.fs:=λU=>by obtain⟨_,o,J,_⟩:=I.ok.uU.mem U;exact Dc (De (v_ J) (Dz I.sz h)) (D3 _)
theorem Inv.cne(I:Inv X pins σ H s):∀x c,X.env.cells.lookup x=a_ c->c≠X.env.locals:=λx c e z=>by obtain⟨v,o,Y,hd⟩:=I.cell x c e;obtain⟨m,⟨o',es,ep,J,U,_⟩,_⟩:=I.loc;rw[z,J]at Y;cases Y;rw[U]at hd;cases hd
theorem Inv.uU(I:Inv X pins σ H s):s.heap.FunFrames X.base X.outer:=by
 have a:∀(l:List Iq),(∀b∈frs l,b∈X.fs)->X.s₀.heap.FunFrames X.base l->s.heap.FunFrames X.base l:=by
  intro l
  induction l with
  |nil=>intro _ _;trivial|cons env r d=>intro c i;obtain⟨j,⟨L,o,J,h,g,hd⟩,f⟩:=i;have Y:L∈X.fs:=c L (by unfold frs;rw[Hm,J];exact DO);obtain⟨k,e⟩:=I.base.slot L o g (I.ok.frf L Y) Y λz=>I.ok.exfs L z Y;exact⟨j,⟨L,_,J,h,e,hd⟩,d (λb U=>c b (by unfold frs;rw[Hm,J];exact Dl _ U)) f⟩
 exact a X.outer (λ_ U=>U) I.ok.uU
theorem Inv.stack(I:Inv X pins σ H s):s.heap.FunFrames X.base X.stack:=by
 rcases I.ok.stk with e|⟨e,U⟩
 ·rw[e];exact I.uU
 ·rw[e];obtain⟨m,J,_⟩:=I.loc;refine .cons (by rw[I.ok.kind];decide) U J ?_ I.uU;exact Heap.get?_none_of_le (Dz I.ok.bsz I.ok.above)
theorem Inv.qK(I:Inv X pins σ H s):∀b∈frs X.stack,b∈X.env.locals::X.fs:=λb J=>by
 rcases I.ok.stk with e|⟨e,U⟩
 ·rw[e]at J;exact Dl _ J
 ·rw[e]at J;unfold frs at J;rw[Hm,U]at J;exact J
theorem Inv.AG(I:Inv X pins σ H s):∀b∈frs X.stack,H b=d_:=λb J=>by
 rcases A_.mp (I.qK b J)with e|J
 ·rw[e];exact I.free
 ·obtain⟨_,o,U,_⟩:=I.ok.uU.mem J;exact I.base.free b o U (I.ok.frf b J) λz=>I.ok.exfs b z J
theorem Inv.step{t':Nat}{d':Drawn}(I:Inv X pins σ H s)(f:∀b∈ch,(b∈X.ex\/X.s₀.heap.objs.size<=b)/\b≠X.env.locals/\(∀x c,X.env.cells.lookup x=a_ c->c≠b)/\∀p∈X.pn++pins,p.1≠b)(a:∀b o,b≠X.env.locals->b∉X.fs->b∉ch->s.heap.get? b=a_ o->H b=d_->h'.get? b=a_ o)(j:∀b o,b≠X.env.locals->b∈X.fs->b∉ch->s.heap.get? b=a_ o->H b=d_->∃G,h'.get? b=a_ {o with slots:=G})(U:∀b o,b∉ch->s.heap.get? b=a_ o->H b=d_->H' b=d_)(t:∀b o,b∉ch->s.heap.get? b=a_ o->∃o',h'.get? b=a_ o')(A:∀b xs,H b=a_ (.tup xs)->H' b=a_ (.tup xs))(E:∀b o u,H b=a_ (.frz o u)->H' b=a_ (.frz o u))(B:∀b ps,H b=a_ (.tbl ps)->∃D,H' b=a_ (.tbl (ps++D)))(ns:∀m,s.heap.Ns X.env.locals m->h'.Ns X.env.locals m)(K:HOk X.prog X.w H' h')(T:G1 g'):
  Inv X pins σ H' {s with heap:=h',gens:=g',drawn:=d',toks:=t'}:=by
 have C:∀b o,X.s₀.heap.get? b=a_ o->b≠X.env.locals:=λb o e=>Dx (De (v_ e) I.ok.above);have h:∀b o,X.s₀.heap.get? b=a_ o->b∉X.ex->b∉ch:=λb o e J w=>by
  rcases(f b w).1 with z|z
  ·exact J z
  ·exact Dc (De (v_ e) z) (D3 _)
 have g:∀x c,X.env.cells.lookup x=a_ c->∀v,s.heap.IsCell c v->h'.IsCell c v:=λx c e v ⟨o,y,hd⟩=>by
  have Y:c∉ch:=λz=>(f c z).2.2.1 x c e rfl;by_cases O:c∈X.fs
  ·obtain⟨G,q⟩:=j c o (I.cne x c e) O Y y (I.freeC x c e);exact⟨_,q,hd⟩
  ·exact⟨o,a c o (I.cne x c e) O Y y (I.freeC x c e),hd⟩
 refine⟨I.ok,I.os,T,⟨λb o e n w J=>?_,λb o e n w J=>?_,λb o e n J=>?_,λb o e J=>?_,λb xs e=>A b xs (I.base.tups b xs e),λb o xs e=>E b o xs (I.base.frzs b o xs e),λb ps e=>?_⟩,?_,λx c e=>?_,?_,λx c e=>?_,λp N=>?_,K,I.len⟩
 ·exact a b o (C b o e) w (h b o e J) (I.base.keep b o e n w J) (I.base.free b o e n J)
 ·obtain⟨G,e1⟩:=I.base.slot b o e n w J;obtain⟨F,e2⟩:=j b _ (C b o e) w (h b o e J) e1 (I.base.free b o e n J);exact⟨F,e2⟩
 ·obtain⟨o',e1⟩:=I.base.there b o e J;exact U b o' (h b o e J) e1 (I.base.free b o e n J)
 ·obtain⟨o',e1⟩:=I.base.there b o e J;exact t b o' (h b o e J) e1
 ·obtain⟨Q,e1⟩:=I.base.tbls b ps e;obtain⟨P,e2⟩:=B b _ e1;exact⟨Q++P,by rw[e2,Hs]⟩
 ·obtain⟨m,R,S⟩:=I.loc;refine⟨m,ns m R,λi x v e1 e2 e3=>?_⟩
  obtain⟨u,r,l⟩:=S i x v e1 e2 e3;refine⟨u,r,?_⟩
  rcases l with l|⟨k,c,e,z⟩
  ·exact .inl l
  ·exact .inr ⟨k,c,e,g x c e _ z⟩
 ·obtain⟨v,z⟩:=I.cell x c e;exact⟨v,g x c e v z⟩
 ·obtain⟨m,⟨o,_,_,y,_⟩,_⟩:=I.loc;exact U _ o (λz=>(f _ z).2.1 rfl) y I.free
 ·obtain⟨v,o,y,hd⟩:=I.cell x c e;exact U c o (λz=>(f c z).2.2.1 x c e rfl) y (I.freeC x c e)
 ·obtain⟨e,n,L,nf,d⟩:=I.pin p N;have Y:p.1∉ch:=λz=>(f p.1 z).2.2.2 p N rfl;exact⟨a p.1 p.2 L nf Y e n,U p.1 p.2 Y e n,L,nf,d⟩
theorem Inv.un{t':Nat}(I:Inv X pins σ H s)(u:Un X.fs [] H H' s.heap h')(U:HOk X.prog X.w H' h'):Inv X pins σ H' {s with heap:=h',toks:=t'}:=by
 obtain⟨m,⟨o,es,ep,c,r⟩,_⟩:=id I.loc;obtain⟨g,f⟩:=u.any c I.free (by simp);exact I.step (g':=s.gens) (d':=s.drawn) (ch:=[]) (λ_ z=>nomatch z) (λb o _ Y _ e n=>u.keep b o e n Y (by simp)) (λb o _ Y _ e n=>u.slot b o e n Y (by simp)) (λb o _ e n=>u.free b o e n (by simp)) (λb o _ e=>u.there b o e (by simp)) u.tups u.frzs u.tbls (λh d=>by obtain⟨o',a,ep',J,r'⟩:=d;rw[c]at J;cases J;exact⟨_,a,ep',f,r'⟩) U I.bare
theorem Inv.call{t':Nat}{d':Drawn}(I:Inv X pins σ H s)(u:Un (frs X.stack) ch H H' s.heap h')(a:HOk X.prog X.w H' h')(i:G1 g')(Y:∀b∈ch,(b∈X.ex\/X.s₀.heap.objs.size<=b)/\b≠X.env.locals/\(∀x c,X.env.cells.lookup x=a_ c->c≠b)/\∀p∈X.pn++pins,p.1≠b):
  Inv X pins σ H' {s with heap:=h',gens:=g',drawn:=d',toks:=t'}:=by
 obtain⟨m,⟨o,es,ep,g,r⟩,_⟩:=id I.loc;obtain⟨k,d⟩:=u.any g I.free λz=>(Y _ z).2.1 rfl;exact I.step (ch:=ch) Y (λb o d j J e n=>u.keep b o e n (λz=>(A_.mp (I.qK b z)).elim d j) J) (λb o _ _ J e n=>u.any e n J) (λb o J e n=>u.free b o e n J) (λb o J e=>u.there b o e J) u.tups u.frzs u.tbls (λl h=>by obtain⟨o',f,ep',U,r'⟩:=h;rw[g]at U;cases U;exact⟨_,f,ep',d,r'⟩) a i
theorem Inv.turned{t':Nat}{it:g_}(I:Inv X pins σ H s)(k:∀b o,b≠it->s.heap.get? b=a_ o->h'.get? b=a_ o)(d:H it=d_)(Y:it≠X.env.locals)(h1:it∈X.ex\/X.s₀.heap.objs.size<=it)(h2:∀x c,X.env.cells.lookup x=a_ c->c≠it)(h:∀p∈X.pn++pins,p.1≠it):Inv X pins σ H {s with heap:=h',toks:=t'}:=by
 have U:∀b u,H b=a_ u->b≠it:=λb u e z=>by rw[z,d]at e;cases e
 refine I.step (g':=s.gens) (d':=s.drawn) (ch:=[it]) (λb g=>?_) (λb o _ _ J e _=>k b o (λz=>J (by simp[z])) e) (λb o _ _ J e _=>⟨o.slots,k b o (λz=>J (by simp[z])) e⟩) (λ_ _ _ _ n=>n)
  (λb o J e=>⟨o,k b o (λz=>J (by simp[z])) e⟩) (λ_ _ e=>e) (λ_ _ _ e=>e) (λb ps e=>⟨#[],by rw[e];simp⟩) (λm f=>?_) (λb u e=>?_) I.bare
 ·have e:b=it:=by simpa using g
  subst e;exact⟨h1,Y,h2,h⟩
 ·obtain⟨o,es,ep,a,r⟩:=f;exact⟨o,es,ep,k _ o (DL Y) a,r⟩
 ·refine(I.hok b u e).vR (λc v J q=>k c v ?_ q) (λ_ q=>q) λ_ _ q=>q;rcases J with z|z
  ·rw[z];exact U b u e
  ·exact U c _ z
theorem Inv.tok(I:Inv X pins σ H s)(t:Nat):Inv X pins σ H {s with toks:=t}:=I.un (h':=s.heap) (t':=t) Un.refl I.hok
theorem Inv.kept{t':Nat}(I:Inv X pins σ H s)(k:∀b u,s.heap.get? b=a_ u->h'.get? b=a_ u):Inv X pins σ H {s with heap:=h',toks:=t'}:=I.un (Un.kept k) (I.hok.kept k)
theorem Inv.laid{a:g_}{o:HO}{t':Nat}(I:Inv X pins σ H s)(k:∀b u,s.heap.get? b=a_ u->h'.get? b=a_ u)(U:s.heap.objs.size<=a)(J:eo X.prog X.w (upd H a o) h' a o):
  Inv X pins σ (upd H a o) {s with heap:=h',toks:=t'}:=I.un (Un.laid k U (I.hok.fresh U)) (I.hok.laid k U J)
theorem Inv.write{x e:g_}{o:HO}{t':Nat}(I:Inv X pins σ H s)(Y:Mut (H x))(a:e=x\/H e=a_ (.own x))(k:∀b u,b≠e->s.heap.get? b=a_ u->h'.get? b=a_ u)(J:∃u,h'.get? e=a_ u)(U:eo X.prog X.w (upd H x o) h' x o):Inv X pins σ (upd H x o) {s with heap:=h',toks:=t'}:=I.un (Un.write Y a k J) (I.hok.write Y a k J U)
theorem Inv.weak{σ':List (Option V)}(I:Inv X pins σ H s)(Y:σ'.length=σ.length)(w:∀(i:Nat) v,σ'[i]?=a_ (a_ v)->σ[i]?=a_ (a_ v)):Inv X pins σ' H s:=
 ⟨I.ok,I.os,I.bare,I.base,let ⟨m,U,J⟩:=I.loc;⟨m,U,λi x v e1 e2 e3=>J i x v e1 (w i v e2) e3⟩,I.cell,I.free,I.freeC,I.pin,I.hok,Y.trans I.len⟩
theorem Inv.su{pins':Pn}(I:Inv X pins σ H s)(h:∀p∈pins',s.heap.get? p.1=a_ p.2/\H p.1=d_/\p.1≠X.env.locals/\p.1∉X.fs/\∀v,p.2.data≠.cell v):Inv X pins' σ H s:=
 ⟨I.ok,I.os,I.bare,I.base,I.loc,I.cell,I.free,I.freeC,λp J=>(Dv.mp J).elim (λz=>I.pin p (G_ _ z)) (h p),I.hok,I.len⟩
theorem sM(I:N.Nodup)(a:N[i]?=a_ x)(b:N[j]?=a_ x):i=j:=by obtain⟨h1,e1⟩:=z_.mp a;obtain⟨h2,e2⟩:=z_.mp b;exact(List.getElem_inj I).mp (e1.trans e2.symm)
theorem ue{M:HQ}(I:Inv X pins σ H s)(hN:X.N.Nodup)(hi:X.N[i]?=a_ x)(f:Loc X.env.scope x)(r:RelV v u)(h:∀s',Inv X pins (σ.set i (a_ v)) H s'->(∃a,GZ a s.heap s'.heap/\(a=X.env.locals\/X.env.cells.lookup x=a_ a))->Q () s')(hf:autoParam (X.fn x=e_\/X.env.scope.names.lookup x=a_ .local) Jq3):CT M A (storeName X.env x u) Q E s:=by
 obtain⟨m,hn,hl⟩:=id I.loc;have K:(X.env.scope.kind==.class||(X.env.scope.kind==.module&&X.env.locals != X.env.globals))=b_:=by rw[I.ok.kind];rfl
 have t:i<σ.length:=by rw[I.len];exact(z_.mp hi).1
 have D:=I.cne;have U:∀{a:g_} {h':DR},(∃o,s.heap.get? a=a_ o/\H a=d_)->GZ a s.heap h'->HOk X.prog X.w H h':=λ{a h'} ha J b ob e=>by
  obtain⟨_,_,g⟩:=ha;refine(I.hok b ob e).vR (λc w' Y q=>(J.2 c ?_).trans q) (λ_ q=>q) λ_ _ q=>q;rintro rfl;rcases Y with rfl|Y
  ·rw[g]at e;cases e
  ·rw[g]at Y;cases Y
 rcases f with l|l
 ·refine wpAny_storeName_local l hn (λh' Z J=>?_) K;obtain⟨oL,_,_,W,_⟩:=id hn;refine h _ ⟨I.ok,I.os,I.bare,⟨λb o e n C f=>?_,λb o e n C f=>?_,I.base.free,λb o e f=>?_,I.base.tups,I.base.frzs,I.base.tbls⟩,⟨_,Z,λj y v' e1 e2 e3=>?_⟩,λy c e=>?_,I.free,I.freeC,λp T=>?_,U ⟨oL,W,I.free⟩ J,by simpa using I.len⟩ ⟨_,J,.inl rfl⟩
  ·exact(J.2 b (Dx (De (v_ e) I.ok.above))).trans (I.base.keep b o e n C f)
  ·obtain⟨S,e1⟩:=I.base.slot b o e n C f;exact⟨S,(J.2 b (Dx (De (v_ e) I.ok.above))).trans e1⟩
  ·obtain⟨o',e1⟩:=I.base.there b o e f;exact⟨o',(J.2 b (Dx (De (v_ e) I.ok.above))).trans e1⟩
  ·by_cases w:j=i
   ·subst w;rw[hi]at e1;cases e1;rw[s_ t]at e2;cases e2;exact⟨u,r,.inl ⟨l,by simp⟩⟩
   ·rw[k_ (DL w)]at e2;obtain⟨R,r',q⟩:=hl j y v' e1 e2 e3;refine⟨R,r',?_⟩
    rcases q with⟨k,e⟩|⟨k,c,e,z⟩
    ·refine .inl ⟨k,?_⟩;have:y≠x:=λe=>w (sM hN e1 (e▸hi));simp[this,e]
    ·exact .inr ⟨k,c,e,z.sameBut J (D y c e)⟩
  ·obtain⟨w',z⟩:=I.cell y c e;exact⟨w',z.sameBut J (D y c e)⟩
  ·obtain⟨e,n,O,nf,d⟩:=I.pin p T;exact⟨(J.2 p.1 O).trans e,n,O,nf,d⟩
 ·have B:X.fn x=e_:=by
   rcases hf with z|z
   ·exact z
   ·rw[z]at l;cases l
  obtain⟨c,Y⟩:=I.ok.has x (.inl l);obtain⟨w',z⟩:=I.cell x c Y;refine wpAny_storeName_cell I.ok.kind l Y z (λh' N J=>?_);obtain⟨oc,G,F⟩:=id z;refine h {s with heap:=h'} ⟨I.ok,I.os,I.bare,⟨λb o e n C f=>?_,λb o e n C f=>?_,I.base.free,λb o e f=>?_,I.base.tups,I.base.frzs,I.base.tbls⟩,⟨m,hn.sameBut J (DL (D x c Y)),λj y v' e1 e2 e3=>?_⟩,λy P e=>?_,I.free,I.freeC,λp T=>?_,U ⟨oc,G,I.freeC x c Y⟩ J,by simpa using I.len⟩ ⟨c,J,.inr Y⟩
  ·exact(J.2 b (Dx (De (v_ e) (I.ok.cab x c B Y)))).trans (I.base.keep b o e n C f)
  ·obtain⟨S,e1⟩:=I.base.slot b o e n C f;exact⟨S,(J.2 b (Dx (De (v_ e) (I.ok.cab x c B Y)))).trans e1⟩
  ·obtain⟨o',e1⟩:=I.base.there b o e f;exact⟨o',(J.2 b (Dx (De (v_ e) (I.ok.cab x c B Y)))).trans e1⟩
  ·by_cases w:j=i
   ·subst w;rw[hi]at e1;cases e1;rw[s_ t]at e2;cases e2;exact⟨u,r,.inr ⟨.inl l,c,Y,N⟩⟩
   ·rw[k_ (DL w)]at e2;obtain⟨R,r',q⟩:=hl j y v' e1 e2 e3;refine⟨R,r',?_⟩
    rcases q with q|⟨k,P,e,z'⟩
    ·exact .inl q
    ·refine .inr ⟨k,P,e,z'.sameBut J ?_⟩;rintro rfl;exact w (sM hN e1 (I.ok.inj _ _ _ e Y▸hi))
  ·by_cases L:P=c
   ·subst L;exact⟨_,N⟩
   ·obtain⟨w2,z2⟩:=I.cell y P e;exact⟨w2,z2.sameBut J L⟩
  ·obtain⟨e,n,O,nf,d⟩:=I.pin p T;refine⟨(J.2 p.1 ?_).trans e,n,O,nf,d⟩
   intro q;rw[q,G]at e;have q':oc=p.2:=Dt e;exact d w' (by rw[<- q'];exact F)
theorem nE{M:HQ}(I:Inv X pins σ H s)(Y:X.N.Nodup)(hi:X.N[i]?=a_ x)(J:Loc X.env.scope x)(r:RelV v u)(h:∀s',Inv X pins (σ.set i (a_ v)) H s'->Q () s')(U:autoParam (X.fn x=e_\/X.env.scope.names.lookup x=a_ .local) Jq3):CT M A (storeName X.env x u) Q E s:=
 ue I Y hi J r (λs' a _=>h s' a) U
theorem Inv.call'(I:Inv X pins σ H s)(Y:s'.os=s.os)(u:Un (frs X.stack) ch H H' s.heap s'.heap)(J:HOk X.prog X.w H' s'.heap)(a:G1 s'.gens)(U:∀b∈ch,(b∈X.ex\/X.s₀.heap.objs.size<=b)/\b≠X.env.locals/\(∀x c,X.env.cells.lookup x=a_ c->c≠b)/\∀p∈X.pn++pins,p.1≠b):Inv X pins σ H' s':=by obtain⟨h',g',d',t',o'⟩:=s';have e:o'=s.os:=Y;subst e;exact I.call (g':=g') (t':=t') (d':=d') u J a U
end
abbrev XK:=j_->Option g_->Hp->Prop
noncomputable abbrev St:=List (Option V)
variable{σ:St}
abbrev VK:=V->Hp->Prop
abbrev TE:=St->Hp->VK->Prop
variable{ta tb te:TE}
abbrev TT:=St->Hp->(Bool->Hp->Prop)->Prop
abbrev TA:=St->Hp->(List V->Hp->Prop)->Prop
variable{t:TA}
structure Ends where
 nx:St->Hp->Prop
 rt:VK
 bk:St->Hp->Prop:=λ_ _=>False
 ct:St->Hp->Prop:=λ_ _=>False
abbrev TS:=Ends->St->Hp->Prop
noncomputable def EP(X:Cx)(pins:Pn)(σ:St)(Q:VK)(u:j_)(s':x_):Prop:=∃v H',Inv X pins σ H' s'/\RelV v u/\Q v H'
noncomputable def TP(X:Cx)(pins:Pn)(σ:St)(Q:Bool->Hp->Prop)(b:Bool)(s':x_):Prop:=∃H',Inv X pins σ H' s'/\Q b H'
noncomputable def AP(X:Cx)(pins:Pn)(σ:St)(Q:List V->Hp->Prop)(us:List j_)(s':x_):Prop:=∃vs H',Inv X pins σ H' s'/\Vals vs us/\Q vs H'
noncomputable def SP(X:Cx)(pins:Pn)(D:Ends)(f:Flow)(s':x_):Prop:=
 match f with
 |.next=>∃σ' H',Inv X pins σ' H' s'/\D.nx σ' H'
 |.brk=>∃σ' H',Inv X pins σ' H' s'/\D.bk σ' H'
 |.cont=>∃σ' H',Inv X pins σ' H' s'/\D.ct σ' H'
 |.ret u=>∃v σ' H',Inv X pins σ' H' s'/\RelV v u/\D.rt v H'
noncomputable def PE(X:Cx)(e:Ed)(t:TE):Prop:=
 ∀(pins:Pn) (s:x_) (σ:St) (H:Hp) (Q:VK),Inv X pins σ H s->t σ H Q->CT (Dd X.prog X.w) X.A (Di e X.env) (EP X pins σ Q) X.xe s
noncomputable def PT(X:Cx)(e:Ed)(t:TT):Prop:=
 ∀(pins:Pn) (s:x_) (σ:St) (H:Hp) (Q:Bool->Hp->Prop),Inv X pins σ H s->t σ H Q->CT (Dd X.prog X.w) X.A (JS e X.env (Di e X.env)) (TP X pins σ Q) X.xe s
noncomputable def PW(X:Cx)(e:Ed)(t:TT):Prop:=
 ∀(I:KN j_) (pins:Pn) (s:x_) (σ:St) (H:Hp) (Q:Bool->Hp->Prop),Inv X pins σ H s->t σ H Q->CT (Dd X.prog X.w) X.A (JS e X.env I) (TP X pins σ Q) X.xe s
theorem PW.pt{t:TT}(h:PW X e t):PT X e t:=h _
noncomputable def PA(X:Cx)(es:List Ed)(t:TA):Prop:=
 ∀(pos:Pos) (pins:Pn) (s:x_) (σ:St) (H:Hp) (Q:List V->Hp->Prop),Inv X pins σ H s->t σ H Q->CT (Dd X.prog X.w) X.A (spliced (DB pos (h_ es X.env))) (AP X pins σ Q) X.xe s
noncomputable def PS(X:Cx)(st:DX)(t:TS):Prop:=
 ∀(pins:Pn) (s:x_) (σ:St) (H:Hp) (D:Ends),Inv X pins σ H s->t D σ H->CT (Dd X.prog X.w) X.A (exec st X.env) (SP X pins D) X.xe s
noncomputable def PSs(X:Cx)(st:List DX)(t:TS):Prop:=
 ∀(pins:Pn) (s:x_) (σ:St) (H:Hp) (D:Ends),Inv X pins σ H s->t D σ H->CT (Dd X.prog X.w) X.A (execs st X.env) (SP X pins D) X.xe s
theorem thn{α:Type}{t:KN α}{Q I:α->x_->Prop}{M:HQ}(h:CT M A t Q E s)(J:∀a s,Q a s->I a s):CT M A t I E s:=D1 h J λ_ _ x=>x
section
noncomputable def cn(i:Nat):TE:=λσ H Q=>∃v,σ[i]?=a_ (a_ v)/\Q v H
noncomputable def tC(v:V):TE:=λ_ H Q=>Q v H
theorem pe_var(j:X.N[i]?=a_ x)(hv:Vis X.env.scope x)(hd:((x==("__debug__":o_))=b_)⁻¹)(a:((x==("__classdict__":o_))=b_)⁻¹):PE X (.Name x pos) (cn i):=by
 intro pins s σ H Q I h;obtain⟨v,e,h⟩:=h;obtain⟨m,d,g⟩:=I.loc;obtain⟨u,r,l⟩:=g i x v j e hv;have Y:EP X pins σ Q u s:=⟨v,H,I,r,h⟩
 rcases l with⟨U,f⟩|⟨U,c,b,J⟩
 ·exact Kl (wpAny_loadName_local I.ok.kind U d f Y) hd
 ·rcases U with U|U
  ·exact Kl (wpAny_loadName_cell I.ok.kind U b J Y) hd
  ·exact Kl (wpAny_loadName_free I.ok.kind U b J Y a) hd
theorem Bc{i j pos}:PE X (.Constant (.int i) j pos) (tC (.int i)):=λ_ _ _ H _ I h=>wpAny_Constant_int ⟨.int i,H,I.tok _,⟨_,rfl⟩,h⟩
theorem oM{b j pos}:PE X (.Constant (.bool b) j pos) (tC (.bl b)):=λ_ _ _ H _ I h=>Constant_bool ⟨.bl b,H,I,rfl,h⟩
theorem pe_non{j pos}:PE X (.Constant .none j pos) (tC .non):=λ_ _ _ H _ I h=>JA ⟨.non,H,I,rfl,h⟩
theorem uF{x j pos}:PE X (.Constant (.str x) j pos) (tC (.str x)):=λ_ _ _ H _ I h=>Calls.Constant_str ⟨.str x,H,I.tok _,⟨_,rfl⟩,h⟩
noncomputable def Gl(X:Cx)(x:o_):Prop:=X.env.kindOf x=a_ .globalImplicit
theorem gq{Q:Vp}(I:Inv X pins σ H s)(U:Gl X x)(J:X.mg x=a_ u)(h:Q u s)(hd:((x==("__debug__":o_))=b_)⁻¹):CT (Dd X.prog X.w) X.A (Di (.Name x pos) X.env) Q E s:=
 Ik I.ok.kind U (Calls.loadGlobal_global (by rw[I.ok.glob];exact I.mod.glob.keeps I.bk) J h) hd
theorem qT{Q:Vp}(I:Inv X pins σ H s)(Y:Gl X x)(U:X.mg x=d_)(hv:EO x=a_ u)(h:Q u s)(J:(x≠"__name__")⁻¹)(hd:((x==("__debug__":o_))=b_)⁻¹):CT (Dd X.prog X.w) X.A (Di (.Name x pos) X.env) Q E s:=by obtain⟨a,h1,h2⟩:=I.mod.blt;exact Ik I.ok.kind Y (Calls.loadGlobal_builtin (by rw[I.ok.glob];exact I.mod.glob.keeps I.bk) U (by rw[I.ok.blt];exact h1.keeps I.bk) ((h2 x J).trans hv) h) hd
theorem sC(U:Gl X x)(J:X.mg x=a_ u)(r:RelV v u)(hd:((x==("__debug__":o_))=b_)⁻¹):PE X (.Name x pos) (tC v):=
 λ_ _ _ H _ I h=>gq I U J ⟨v,H,I,r,h⟩ hd
theorem pe_bltn(Y:Gl X x)(U:X.mg x=d_)(hv:EO x=a_ u)(r:RelV v u)(J:(x≠"__name__")⁻¹)(hd:((x==("__debug__":o_))=b_)⁻¹):PE X (.Name x pos) (tC v):=
 λ_ _ _ H _ I h=>qT I Y U hv ⟨v,H,I,r,h⟩ J hd
variable{a b:Ed} 
noncomputable def PC(X:Cx)(op:CmpOp)(a b:Ed)(t:TE):Prop:=
 ∀(pins:Pn) (s:x_) (σ:St) (H:Hp) (Q:VK),Inv X pins σ H s->t σ H Q ->
  CT (Dd X.prog X.w) X.A (Di a X.env) (λv J=>CT (Dd X.prog X.w) X.A (Di b X.env) (λu I=>CT (Dd X.prog X.w) X.A (Dn op v u) (EP X pins σ Q) X.xe I) X.xe J) X.xe s
theorem nobehind(b:Ed)(h:op≠.In)(h2:op≠.NotIn):Ff op b=b_:=by
 have e1:(op==CmpOp.In)=b_:=by cases op<;>first|rfl|exact Dc rfl h
 have e2:(op==KR)=b_:=by cases op<;>first|rfl|exact Dc rfl h2
 cases b<;>simp[Ff,e1,e2]
noncomputable def tIsN(ta:TE):TE:=λσ H Q=>ta σ H λx H1=>Q (.bl (q_ (x=.non))) H1
noncomputable def tNotN(ta:TE):TE:=λσ H Q=>ta σ H λx H1=>Q (.bl (!decide (x=.non))) H1
theorem RelV.ye{x:V}{v:j_}(r:RelV x v):(v==FD)=q_ (x=.non):=by
 cases x with
 |non=>cases r;rfl|bl _=>cases r;rfl|int _=>obtain⟨t,rfl⟩:=r;rfl
 |str _=>obtain⟨t,rfl⟩:=r;rfl
 |byt _=>obtain⟨t,rfl⟩:=r;rfl
 |flt _=>obtain⟨t,rfl⟩:=r;rfl
 |ref _=>cases r;rfl|ty _=>cases r;rfl
theorem pc_isN{j pos'}(b:PE X a ta):PC X .Is a (.Constant .none j pos') (tIsN ta):=by intro pins s σ H Q I h;refine thn (b pins s σ H _ I h) λv d Y=>?_;obtain⟨x,H1,c,J,U⟩:=Y;exact JA (is_none_gen ⟨.bl _,H1,c,by rw[J.ye];rfl,U⟩)
theorem wt{j pos'}(b:PE X a ta):PC X .IsNot a (.Constant .none j pos') (tNotN ta):=by intro pins s σ H Q I h;refine thn (b pins s σ H _ I h) λv d Y=>?_;obtain⟨x,H1,c,J,U⟩:=Y;exact JA (isnot_none_gen ⟨.bl _,H1,c,by rw[J.ye];rfl,U⟩)
noncomputable def tB(t:TE):TT:=λσ H Q=>t σ H λx H1=>∃c,x=.bl c/\Q c H1
theorem uC{t:TE}(h:PC X op a b t)(h1:Ff op b=b_:=by first|exact nobehind _ (by decide) (by decide)|rfl):PT X (.Compare a [op] [b] pos) (tB t):=by intro pins s σ H Q I hw;refine J7 (thn (h pins s σ H _ I hw) λv i h1=>thn h1 λu g h2=>thn h2 λc f Y=>?_) h1;obtain⟨x,H1,e,J,U⟩:=Y;obtain⟨d,rfl,q⟩:=U;cases J;exact D6 ⟨H1,e,q⟩
variable{tA tB':TT}{rest:List Ed}
noncomputable def tAnd(t u:TT):TT:=λσ H Q=>t σ H λc H1=>if c=e_ then u σ H1 Q else Q b_ H1
noncomputable def tOr(t u:TT):TT:=λσ H Q=>t σ H λc H1=>if c=e_ then Q e_ H1 else u σ H1 Q
noncomputable def tNot(t:TT):TT:=λσ H Q=>t σ H λc H1=>Q (!c) H1
theorem pw_and1(J:PT X a tA):PW X (.BoolOp .And [a] pos) tA:=by
 intro U pins s σ H Q I h;refine isTrue_and (thn (J pins s σ H Q I h) λc Y e=>?_);cases c with
 |true=>exact isTrue_and_nil e|false=>exact e
theorem B8(J:PT X a tA):PW X (.BoolOp .Or [a] pos) tA:=by
 intro U pins s σ H Q I h;refine isTrue_or (thn (J pins s σ H Q I h) λc Y e=>?_);cases c with
 |false=>exact isTrue_or_nil e|true=>exact e
theorem pw_and(g:PT X a tA)(f:PW X (.BoolOp .And (b::rest) pos) tB'):PW X (.BoolOp .And (a::b::rest) pos) (tAnd tA tB'):=by
 intro Y pins s σ H Q I h;refine isTrue_and (thn (g pins s σ H _ I h) λc d e=>?_);obtain⟨H1,U,J⟩:=e;cases c with
 |true=>exact f Y pins d σ H1 Q U J|false=>exact⟨H1,U,J⟩
theorem pw_or(g:PT X a tA)(f:PW X (.BoolOp .Or (b::rest) pos) tB'):PW X (.BoolOp .Or (a::b::rest) pos) (tOr tA tB'):=by
 intro Y pins s σ H Q I h;refine isTrue_or (thn (g pins s σ H _ I h) λc d e=>?_);obtain⟨H1,U,J⟩:=e;cases c with
 |true=>exact⟨H1,U,J⟩|false=>exact f Y pins d σ H1 Q U J
theorem ya(J:PT X a tA):PT X (.UnaryOp .Not a pos) (tNot tA):=by intro pins s σ H Q I h;exact isTrue_not (J pins s σ H (λc H1=>Q (!c) H1) I h)
noncomputable def tAndV(ta tb:TE):TE:=λσ H Q=>ta σ H λx H1=>∃c,x=.bl c/\if c=e_ then tb σ H1 Q else Q (.bl b_) H1
noncomputable def tOrV(ta tb:TE):TE:=λσ H Q=>ta σ H λx H1=>∃c,x=.bl c/\if c=e_ then Q (.bl e_) H1 else tb σ H1 Q
theorem pe_one{op}{t:TE}(h:PE X a t):PE X (.BoolOp op [a] pos) t:=λpins s σ H Q I hw=>BoolOp_one (h pins s σ H Q I hw)
theorem pe_and(g:PE X a ta)(f:PE X (.BoolOp .And (b::rest) pos) tb):PE X (.BoolOp .And (a::b::rest) pos) (tAndV ta tb):=by
 intro pins s σ H Q I h;refine BoolOp_and (thn (g pins s σ H _ I h) λv Y e=>?_);obtain⟨x,H1,U,d,J⟩:=e;obtain⟨c,rfl,J⟩:=J;cases d;refine D6 ?_;cases c with
 |true=>exact f pins Y σ H1 Q U J|false=>exact⟨.bl b_,H1,U,rfl,J⟩
theorem pe_or(g:PE X a ta)(f:PE X (.BoolOp .Or (b::rest) pos) tb):PE X (.BoolOp .Or (a::b::rest) pos) (tOrV ta tb):=by
 intro pins s σ H Q I h;refine BoolOp_or (thn (g pins s σ H _ I h) λv Y e=>?_);obtain⟨x,H1,U,d,J⟩:=e;obtain⟨c,rfl,J⟩:=J;cases d;refine D6 ?_;cases c with
 |false=>exact f pins Y σ H1 Q U J|true=>exact⟨.bl e_,H1,U,rfl,J⟩
noncomputable def tIf(t:TT)(ta tb:TE):TE:=λσ H Q=>t σ H λc H1=>if c=e_ then ta σ H1 Q else tb σ H1 Q
theorem pe_ifExp(f:PT X c tA)(i:PE X a ta)(g:PE X b tb):PE X (.IfExp c a b pos) (tIf tA ta tb):=by
 intro pins s σ H Q I h;refine wpAny_IfExp (thn (f pins s σ H _ I h) λd J e=>?_);obtain⟨H1,Y,U⟩:=e;cases d with
 |true=>exact i pins J σ H1 Q Y U|false=>exact g pins J σ H1 Q Y U
end
noncomputable def SqL(K:Fg)(H:Hp)(a:g_)(xs:List V):Prop:=
 Rd H a (.lst xs) \/
  ∃(o:G8) (its:Array j_) (n:Nat),K.lookup a=a_ o/\o.cls=.type "list"/\o.dict=d_/\o.data=.seq its n/\its.size<=m_/\Vals xs its.toList
noncomputable def SqT(K:Fg)(H:Hp)(a:g_)(xs:List V):Prop:=
 Rd H a (.tup xs) \/
  ∃(o:G8) (its:Array j_) (n:Nat),K.lookup a=a_ o/\o.cls=.type "tuple"/\o.data=.seq its n/\its.size<=m_/\Vals xs its.toList
noncomputable def absV:j_->Option V
 |.none=>a_ .non|.bool b=>a_ (.bl b)|.int i _=>a_ (.int i)|.str x _=>a_ (.str x)|.bytes b _=>a_ (.byt b)|.float b _=>a_ (.flt b)|.ref a=>a_ (.ref a)|.type n=>a_ (.ty n)|_=>d_
theorem RelV.abs{x:V}(r:RelV x u):absV u=a_ x:=by
 cases x with
 |non=>cases r;rfl|bl _=>cases r;rfl|int _=>obtain⟨t,rfl⟩:=r;rfl
 |str _=>obtain⟨t,rfl⟩:=r;rfl
 |byt _=>obtain⟨t,rfl⟩:=r;rfl
 |flt _=>obtain⟨t,rfl⟩:=r;rfl
 |ref _=>cases r;rfl|ty _=>cases r;rfl
theorem RelV.inj{x y:V}{u:j_}(r:RelV x u)(q:RelV y u):x=y:=Dt (r.abs.symm.trans q.abs)
theorem Vals.inj:∀{xs ys:List V} {us:List j_},Vals xs us->Vals ys us->xs=ys
 |_,_,_,.nil,.nil=>rfl|_,_,_,.cons r t,.cons r' t'=>by rw[r.inj r',Vals.inj t t']
section
variable{xs ys:List V}
theorem SqL.of(h:H a=a_ (.lst xs)):SqL K H a xs:=.inl (.inl h)
theorem SqT.of(h:H a=a_ (.tup xs)):SqT K H a xs:=.inl (.inl h)
theorem Inv.list(I:Inv X pins σ H s)(h:SqL X.K H a xs):∃its:List j_,Vals xs its/\PlainL s.heap a its.toArray/\xs.length<=m_:=by
 rcases h with h|⟨o,its,n,U,Y,hd,J,b,r⟩
 ·obtain⟨z,its,n,r,e⟩:=h.ok I.hok;exact⟨its,r,⟨_,n,e,rfl,rfl,rfl⟩,z⟩
 ·refine⟨its.toList,r,⟨o,n,I.kIn a o U,Y,hd,by simpa using J⟩,?_⟩
  have e:=r.length;simp only[EF]at e;omega
theorem Inv.tuple(I:Inv X pins σ H s)(h:SqT X.K H a xs):∃its:List j_,Vals xs its/\KS s.heap a its.toArray/\xs.length<=m_:=by
 rcases h with h|⟨o,its,n,U,Y,J,b,r⟩
 ·obtain⟨z,its,r,p⟩:=h.ok I.hok;exact⟨its,r,p,z⟩
 ·refine⟨its.toList,r,⟨o,I.kIn a o U,Y,n,by simpa using J⟩,?_⟩
  have e:=r.length;simp only[EF]at e;omega
theorem Inv.nM(I:Inv X pins σ H s)(h:SqL X.K H a xs)(h':SqL X.K H a ys):xs=ys:=by
 obtain⟨its,r,⟨o,n,e,_,_,d⟩,_⟩:=I.list h;obtain⟨its',r',⟨o',U,J,_,_,d'⟩,_⟩:=I.list h';rw[e]at J;cases J;rw[d]at d';injection d' with d1 _
 have:its=its':=by simpa using FT HD d1
 subst this;exact r.inj r'
theorem Inv.Ar(I:Inv X pins σ H s)(h:SqT X.K H a xs)(h':SqT X.K H a ys):xs=ys:=by
 obtain⟨its,r,⟨o,e,_,n,d⟩,_⟩:=I.tuple h;obtain⟨its',r',⟨o',J,_,U,d'⟩,_⟩:=I.tuple h';rw[e]at J;cases J;rw[d]at d';injection d' with d1 _
 have:its=its':=by simpa using FT HD d1
 subst this;exact r.inj r'
end
noncomputable abbrev Cx.qH(X:Cx)(E:Vp):Cx:={X with xe:=E}
abbrev Cx.nox(X:Cx):Cx:=X.qH λ_ _=>False
theorem Cx.Ok.qH{X:Cx}(I:X.Ok)(E:Vp):(X.qH E).Ok:=
 ⟨I.mod,I.kind,I.glob,I.blt,I.above,I.inj,I.has,I.cab,I.hd,I.frames,I.stk,I.exf,I.bs,I.bsz,I.noex,I.exfs,I.uU,I.frf⟩
theorem Cx.Ok.iT(I:(X.qH E).Ok):X.Ok:=
 ⟨I.mod,I.kind,I.glob,I.blt,I.above,I.inj,I.has,I.cab,I.hd,I.frames,I.stk,I.exf,I.bs,I.bsz,I.noex,I.exfs,I.uU,I.frf⟩
theorem Inv.qH(I:Inv X pins σ H s)(E:Vp):Inv (X.qH E) pins σ H s:=⟨I.ok.qH E,I.os,I.bare,I.base,I.loc,I.cell,I.free,I.freeC,I.pin,I.hok,I.len⟩
theorem Inv.iT(I:Inv (X.qH E) pins σ H s):Inv X pins σ H s:=⟨I.ok.iT,I.os,I.bare,I.base,I.loc,I.cell,I.free,I.freeC,I.pin,I.hok,I.len⟩
theorem SP.iT{D:Ends}{f:Flow}{s':x_}(h:SP (X.qH E) pins D f s'):SP X pins D f s':=by
 cases f with
 |next=>obtain⟨σ',H',I,q⟩:=h;exact⟨σ',H',I.iT,q⟩
 |brk=>obtain⟨σ',H',I,q⟩:=h;exact⟨σ',H',I.iT,q⟩
 |cont=>obtain⟨σ',H',I,q⟩:=h;exact⟨σ',H',I.iT,q⟩
 |ret u=>obtain⟨v,σ',H',I,r,q⟩:=h;exact⟨v,σ',H',I.iT,r,q⟩
theorem PSs.nox{st:List DX}{t:TS}(h:PSs X.nox st t):PSs X st t:=λpins s σ H D I hw=>D1 (h pins s σ H D (I.qH _) hw) (λ_ _ q=>q.iT) λ_ _ z=>DV z
section
variable{st:DX}{rest:List DX}{t u:TS} 
noncomputable def i8:TS:=λD σ H=>D.nx σ H
noncomputable def iJ(t u:TS):TS:=λD σ H=>t {D with nx:=u D} σ H
theorem dZ:PSs X [] i8:=λ_ _ σ H _ I h=>GH ⟨σ,H,I,h⟩
theorem aI(h1:PS X st t)(h2:PSs X rest u):PSs X (st::rest) (iJ t u):=by
 intro pins s σ H D I h;refine Iv (thn (h1 pins s σ H {D with nx:=u D} I h) λf J q=>?_);cases f with
 |next=>obtain⟨σ',H',U,q⟩:=q;exact h2 pins J σ' H' D U q
 |ret v=>exact q|brk=>exact q|cont=>exact q
theorem aT(h1:PS X st t):PSs X [st] t:=by
 intro pins s σ H D I h;refine Iv (thn (h1 pins s σ H D I h) λf J q=>?_);cases f with
 |next=>exact GH q|ret v=>exact q|brk=>exact q|cont=>exact q
theorem Inv.quiet(I:Inv X pins σ H s):interactive X.env=b_:=by simp[interactive,I.ok.kind]
noncomputable def pW(te:TE):TS:=λD σ H=>te σ H λ_ H1=>D.nx σ H1
theorem lZ(a:PE X e te)(U: ~~~(E_ e d_ pos.line X.env=EY b_)):PS X (.Expr e pos) (pW te):=by intro pins s σ H D I h;refine wpAny_Expr_any (thn (a pins s σ H _ I h) λv c Y=>?_) I.quiet U;obtain⟨x,H1,b,d,J⟩:=Y;exact⟨σ,H1,b,J⟩
noncomputable def qJ(te:TE):TS:=λD σ H=>te σ H D.rt
theorem eG(a:PE X e te):PS X (.Return (a_ e) pos) (qJ te):=by intro pins s σ H D I h;refine wpAny_Return_some (thn (a pins s σ H _ I h) λv c Y=>?_);obtain⟨x,H1,b,J,U⟩:=Y;exact⟨x,σ,H1,b,J,U⟩
noncomputable def nC(c:TT)(t u:TS):TS:=λD σ H=>c σ H λb H1=>if b=e_ then t D σ H1 else u D σ H1
theorem j0{a b:List DX}{tc:TT}(f:PT X c tc)(i:PSs X a t)(g:PSs X b u):PS X (.If c a b pos) (nC tc t u):=by
 intro pins s σ H D I h;refine wpAny_If (thn (f pins s σ H _ I h) λd J e=>?_);obtain⟨H1,Y,U⟩:=e;cases d with
 |true=>exact i pins J σ H1 D Y U|false=>exact g pins J σ H1 D Y U
noncomputable def Az:TS:=λ_ _ _=>False
theorem oF{sts:List DX}:PSs X sts Az:=λ_ _ _ _ _ _ h=>h.elim
end
abbrev TG:=V->St->Hp->(St->Hp->Prop)->Prop
abbrev TGs:=List V->St->Hp->(St->Hp->Prop)->Prop
noncomputable def PG(X:Cx)(I:Ed)(t:TG):Prop:=
 ∀(pins:Pn) (s:x_) (σ:St) (H:Hp) (v:V) (u:j_) (Q:St->Hp->Prop),Inv X pins σ H s->RelV v u->t v σ H Q ->
  CT (Dd X.prog X.w) X.A (Iz I X.env u) (λ_ s'=>∃σ' H',Inv X pins σ' H' s'/\Q σ' H') X.xe s
noncomputable def PGs(X:Cx)(ts:List Ed)(t:TGs):Prop:=
 ∀(pins:Pn) (s:x_) (σ:St) (H:Hp) (vs:List V) (us:List j_) (Q:St->Hp->Prop),Inv X pins σ H s->Vals vs us->t vs σ H Q ->
  CT (Dd X.prog X.w) X.A (assignInOrder ((Fv ts X.env).map (·.2)) us) (λ_ s'=>∃σ' H',Inv X pins σ' H' s'/\Q σ' H') X.xe s
noncomputable def gS(i:Nat):TG:=λv σ H Q=>Q (σ.set i (a_ v)) H
theorem oJ(Y:X.N.Nodup)(hi:X.N[i]?=a_ x)(J:Loc X.env.scope x)(U:autoParam (X.fn x=e_\/X.env.scope.names.lookup x=a_ .local) Jq3):PG X (.Name x pos) (gS i):=by intro pins s σ H v u Q I r h;exact Ky (nE I Y hi J r (λs' a=>⟨_,H,a,h⟩) U)
noncomputable def gNil:TGs:=λvs σ H Q=>vs=[]/\Q σ H
noncomputable def zK(t:TG)(u:TGs):TGs:=λvs σ H Q=>∃v r,vs=v::r/\t v σ H λσ' H'=>u r σ' H' Q
theorem Bb:PGs X [] gNil:=by intro pins s σ H vs us Q I r h;obtain⟨e,h⟩:=h;subst e;cases r;exact assignInOrder_nil ⟨σ,H,I,h⟩
theorem nH{t:TG}{u:TGs}(h1:PG X e t)(h2:PGs X es u)(b: ~~~((Fv (e::es) X.env).map (·.2)=Iz e X.env::(Fv es X.env).map (·.2))):PGs X (e::es) (zK t u):=by
 intro pins s σ H vs us Q I r h;obtain⟨v,f,e1,h⟩:=h;subst e1;cases r with
 |cons r Y=>rw[b];refine assignInOrder_cons (thn (h1 pins s σ H _ _ _ I r h) λ_ U c=>?_);obtain⟨J,H1,d,a⟩:=c;exact h2 pins U J H1 _ _ Q d Y a
noncomputable def gTup(K:Fg)(n:Nat)(t:TGs):TG:=λv σ H Q=>∃a xs,v=.ref a/\SqT K H a xs/\xs.length=n/\t xs σ H Q
theorem pg_tup{t:TGs}(i:X.calm=e_)(h:PGs X es t)(f: ~~~((Fv es X.env).length=n))(J: ~~~((Fv es X.env).findIdx? (·.1)=d_)):PG X (.Tuple es k pos) (gTup X.K n t):=by intro pins s σ H v u Q I r hw;obtain⟨a,xs,e1,d,g,hw⟩:=hw;subst e1;cases r;obtain⟨its,U,c,l⟩:=I.tuple d;refine assign_Tuple_tuple (I.ok.hd i) c (by simp[f,<- g,U.length]) J λh' Y=>?_;have j:Inv X pins σ H {s with heap:=h'}:=I.kept (t':=s.toks) λb o e=>Y b o (Dx (v_ e)) e;exact h pins _ σ H xs _ Q j (by simpa using U) hw
noncomputable def yL(te:TE)(g:TG):TS:=λD σ H=>te σ H λx H1=>g x σ H1 D.nx
theorem mG(f:X.N.Nodup)(hi:X.N[i]?=a_ x)(Y:Loc X.env.scope x)(d:PE X e te)(a: ~~~(E_ e (a_ (.Name x pos')) pos.line X.env=EY b_))(c:autoParam (X.fn x=e_\/X.env.scope.names.lookup x=a_ .local) Jq3):
  PS X (.Assign [.Name x pos'] e pos) (yL te (gS i)):=by
 intro pins s σ H D I h;refine wpAny_Assign_Name (thn (d pins s σ H _ I h) λv l b=>?_) a;obtain⟨y,H1,j,J,U⟩:=b;exact nE j f hi Y J (λk g=>⟨_,H1,g,U⟩) c
structure It where
 go:Nat->Hp->Prop
 yld:Nat->Hp->V->Hp->Prop
 stop:Nat->Hp->Prop
noncomputable def Ag(X:Cx)(pins:Pn)(H:Hp)(b:g_):Prop:=
 H b=d_/\b≠X.env.locals/\b∉X.fs/\(b∈X.ex\/X.s₀.heap.objs.size<=b)/\(∀x c,X.env.cells.lookup x=a_ c->c≠b)/\∀p∈X.pn++pins,p.1≠b
theorem Inv.fpOk(I:Inv X pins σ H s)(J:s.heap.objs.size<=b)(Y:H' b=d_):Ag X pins H' b:=by
 refine⟨Y,G3 (De I.lt J),I.nofs J,.inr (Dz I.sz J),λx c e z=>?_,λp U z=>?_⟩
 ·obtain⟨v,q⟩:=I.cell x c e;exact Dc (De q.lt (by rw[z];exact J)) (D3 _)
 ·exact Dc (De (v_ (I.pin p U).1) (by rw[z];exact J)) (D3 _)
structure Turn(P:Ec)(w:Ek)(K:Fg)(tg:Ed)(J:It)(fp:List g_)(it:g_)(tn:Nat->DR->Prop):Prop where
 mem:it∈fp
 obj:∀i h,tn i h->∀b∈fp,∃o,h.get? b=a_ o/\∀v,o.data≠.cell v
 keep:∀i h h',tn i h->(∀b∈fp,∀o,h.get? b=a_ o->h'.get? b=a_ o)->tn i h'
 item:∀(X:Cx),X.prog=P->X.w=w->X.K=K->X.calm=e_->∀(i:Nat) (pins:Pn) (s:x_) (σ:St) (H:Hp) (E:Vp),Inv X pins σ H s->(∀b∈fp,Ag X pins H b)->tn i s.heap->J.go i H ->
  CT (Dd P w) X.A (pyNext (.ref it)) (λr s1=>∃u,r=a_ u /\
   CT (Dd P w) X.A (Hi tg (.ref it) u) (λ_ s2=>∃x H',Inv X pins σ H' s2/\RelV x u/\J.yld i H x H'/\tn (i+1) s2.heap/\∀b∈fp,H' b=d_) E s1) E s
 done:∀(X:Cx),X.prog=P->X.w=w->X.K=K->X.calm=e_->∀(i:Nat) (pins:Pn) (s:x_) (σ:St) (H:Hp) (E:Vp),Inv X pins σ H s->(∀b∈fp,Ag X pins H b)->tn i s.heap->J.stop i H ->
  CT (Dd P w) X.A (pyNext (.ref it)) (λr s1=>r=d_/\Inv X pins σ H s1) E s
 self:∀(A:Fm) (i:Nat) (s:x_) (Q:Vp) (E:Vp),tn i s.heap->Q (.ref it) s->CT (Dd P w) A (pyIter (.ref it)) Q E s
abbrev TI:=St->Hp->(It->Hp->Prop)->Prop
noncomputable def PIE(X:Cx)(pins:Pn)(σ:St)(tg:Ed)(R:It->Hp->Prop)(I:j_)(Y:x_):Prop:=
 ∃(it:g_) (fp:List g_) (U:Nat->DR->Prop) (J:It) (H':Hp),I=.ref it/\Inv X pins σ H' Y/\Turn X.prog X.w X.K tg J fp it U/\U 0 Y.heap/\(∀b∈fp,Ag X pins H' b)/\R J H'
noncomputable def PI(X:Cx)(tg iter:Ed)(wi:TI):Prop:=
 ∀(pins:Pn) (s:x_) (σ:St) (H:Hp) (R:It->Hp->Prop),Inv X pins σ H s->wi σ H R ->
  CT (Dd X.prog X.w) X.A (Di iter X.env) (λv I=>CT (Dd X.prog X.w) X.A (pyIter v) (PIE X pins σ tg R) X.xe I) X.xe s
theorem go_of{M : HQ}{A : Fm}{E : j_ -> x_ -> Prop}{s : x_}{tg : Ed}{it : g_}{u : j_}{o : G8}{n : String}{vs : Array j_}{Q : Unit -> x_ -> Prop}(J : s.heap.get? it = a_ o)(Y : o.cls = .type n)(hd : o.data = .fields vs)(U : ["enumerate", "zip", "dict_itemiterator", "dict_reverseitemiterator", "odict_iterator", "itertools.zip_longest", "itertools.pairwise"].contains n = b_)(I : Q () s): CT M A (Hi tg (.ref it) u) Q E s := by
  unfold Hi;cases tg <;> first
    | exact Cb I
    | (cases u <;> first
        | exact Cb I
        | (refine p_ (wpAny_load J ?_)
           rw[Y,hd];show CT M A (if (["enumerate", "zip", "dict_itemiterator", "dict_reverseitemiterator", "odict_iterator", "itertools.zip_longest", "itertools.pairwise"].contains n && vs[0]?== a_ (HX _)) = e_ then _ else _) Q E s;rw[l_ (by intro h; rw[U,Bool.false_and]at h; cases h)];exact Cb I))
noncomputable def Itl(K:Fg)(a:g_):It:=
 ⟨λi H=>∃xs x,SqL K H a xs/\xs[i]?=a_ x,λi H x H'=>H'=H/\∀xs,SqL K H a xs->xs[i]?=a_ x,λi H=>∃xs,SqL K H a xs/\xs.length<=i⟩
noncomputable def Itt(K:Fg)(a:g_):It:=
 ⟨λi H=>∃xs x,SqT K H a xs/\xs[i]?=a_ x,λi H x H'=>H'=H/\∀xs,SqT K H a xs->xs[i]?=a_ x,λi H=>∃xs,SqT K H a xs/\xs.length<=i⟩
noncomputable def Itr(lo:Int)(n:Nat):It:=⟨λi _=>i<n,λi H x H'=>H'=H/\x=.int (lo+i),λi _=>n<=i⟩
theorem Aq(a it:g_):Turn P w K tg (Itl K a) [it] it (λi h=>h.IsListIter it a i) where
 mem:=by simp
 obj:=λi h st b J=>by
  have e:b=it:=by simpa using J
  subst e;obtain⟨o,e,c,d⟩:=st;exact⟨o,e,λv z=>by rw[d]at z;cases z⟩
 keep:=λi h h' st k=>st.at λo e=>k it (by simp) o e
 item:=by intro X m hw n r i pins s σ H E I f st l;subst m hw n;obtain⟨xs,x,Y,j⟩:=l;obtain⟨its,g,p,A⟩:=I.list Y;obtain⟨u,C,y⟩:=g.get j;obtain⟨q,f1,D,f3,f4,f5⟩:=f it (by simp);refine wpAny_pyNext_list_item st p.isList (x:=u) (by simpa using C) λh' U t=>?_;have G:Inv X pins σ H {s with heap:=h'}:=I.turned (t':=s.toks) (λb o J e=>(t.2 b J).trans e) q f1 f3 f4 f5;obtain⟨o,e,c,d⟩:=id U;exact⟨u,rfl,go_of (s:={s with heap:=h'}) e c d (by decide) ⟨x,H,G,y,⟨rfl,λys B=>by rw[I.nM B Y];exact j⟩,U,λb J=>(f b J).1⟩⟩
 done:=by intro X m hw n r i pins s σ H E I f st l;subst m hw n;obtain⟨xs,Y,j⟩:=l;obtain⟨its,g,p,A⟩:=I.list Y;obtain⟨q,f1,D,f3,f4,f5⟩:=f it (by simp);have L:=g.length;exact wpAny_pyNext_list_end (I.ok.hd r) st p.isList (by simp;omega) λh' F=>⟨rfl,I.turned (t':=s.toks) (λb o J e=>F b o J e) q f1 f3 f4 f5⟩
 self:=λ_ _ _ _ _ st h=>wpAny_pyIter_listiter st h
theorem yI(a it:g_):Turn P w K tg (Itt K a) [it] it (λi h=>h.IsTupleIter it a i) where
 mem:=by simp
 obj:=λi h st b J=>by
  have e:b=it:=by simpa using J
  subst e;obtain⟨o,e,c,d⟩:=st;exact⟨o,e,λv z=>by rw[d]at z;cases z⟩
 keep:=λi h h' st k=>st.at λo e=>k it (by simp) o e
 item:=by intro X m hw n r i pins s σ H E I f st l;subst m hw n;obtain⟨xs,x,Y,j⟩:=l;obtain⟨its,g,p,A⟩:=I.tuple Y;obtain⟨u,C,y⟩:=g.get j;obtain⟨q,f1,D,f3,f4,f5⟩:=f it (by simp);refine wpAny_pyNext_tuple_item st (show s.heap.IsTuple a its.toArray from p) (x:=u) (by simpa using C) λh' U t=>?_;have G:Inv X pins σ H {s with heap:=h'}:=I.turned (t':=s.toks) (λb o J e=>(t.2 b J).trans e) q f1 f3 f4 f5;obtain⟨o,e,c,d⟩:=id U;exact⟨u,rfl,go_of (s:={s with heap:=h'}) e c d (by decide) ⟨x,H,G,y,⟨rfl,λys B=>by rw[I.Ar B Y];exact j⟩,U,λb J=>(f b J).1⟩⟩
 done:=by intro X m hw n r i pins s σ H E I f st l;subst m hw n;obtain⟨xs,Y,j⟩:=l;obtain⟨its,g,p,A⟩:=I.tuple Y;obtain⟨q,f1,D,f3,f4,f5⟩:=f it (by simp);have L:=g.length;exact wpAny_pyNext_tuple_end (I.ok.hd r) st (show s.heap.IsTuple a its.toArray from p) (by simp;omega) λh' F=>⟨rfl,I.turned (t':=s.toks) (λb o J e=>F b o J e) q f1 f3 f4 f5⟩
 self:=λ_ _ _ _ _ st h=>wpAny_pyIter_tupleiter st h
theorem yJ(it:g_)(lo:Int)(n:Nat):Turn P w K tg (Itr lo n) [it] it (λi h=>IsRangeIter h it (lo+(i:Nat)*1) ((n:Int)-(i:Nat)) 1) where
 mem:=by simp
 obj:=λi h st b J=>by
  have e:b=it:=by simpa using J
  subst e;exact⟨_,st,λv z=>by have j:Data.fields _=Data.cell v:=z;cases j⟩
 keep:=λi h h' st k=>k it (by simp) _ st
 item:=by
  intro X d hw f c i pins s σ H E I Y st a;subst d hw f;obtain⟨g,f1,m,f3,f4,f5⟩:=Y it (by simp);have W:=Walks.range (prog:=X.prog) (w:=X.w) (I.ok.hd c) it lo 1 n;refine W.item i s _ _ a st λv h' tk hv U l=>?_;obtain⟨t,rfl⟩:=hv;have q:Inv X pins σ H {s with heap:=h',toks:=tk}:=I.turned (λb o J e=>l b o (by simpa using J) e) g f1 f3 f4 f5;refine⟨_,rfl,go_of (s:={s with heap:=h',toks:=tk}) (n:="range_iterator") U rfl rfl (by decide) ⟨.int (lo+i),H,q,⟨t,?_⟩,⟨rfl,rfl⟩,U,λb J=>(Y b J).1⟩⟩
  rw[Int.mul_one]
 done:=by intro X d hw f c i pins s σ H E I Y st a;subst d hw f;obtain⟨g,f1,m,f3,f4,f5⟩:=Y it (by simp);exact wpAny_pyNext_range_end (I.ok.hd c) st (by have:n<=i:=a;omega) λh' p=>⟨rfl,I.turned (t':=s.toks) (λb o J e=>p b o J e) g f1 f3 f4 f5⟩
 self:=λ_ _ _ _ _ st h=>wpAny_pyIter_rangeiter st h
theorem range_it{R:It->Hp->Prop}{lo hi:Int}{t u v:Tok}{tk:Nat}(I:Inv X pins σ H s)(h1: -(2^62)<=lo)(h2:lo<2^62)(a: -(2^62)<=hi)(Y:hi<2^62)(q:R (Itr lo (hi-lo).toNat) H):CT (Dd X.prog X.w) X.A (pyIter (.ref s.heap.objs.size)) (PIE X pins σ tg R) E {s with heap:=s.heap.push {cls:=.type "range",data:=.fields #[.int lo t,.int hi u,.int 1 v]},toks:=tk}:=by
 refine wpAny_pyIter_range (IsRange.new ..) (small_one h1 h2 a Y) ?_;have J:Inv X pins σ H {s with heap:=s.heap.push {cls:=.type "range",data:=.fields #[.int lo t,.int hi u,.int 1 v]},toks:=tk}:=I.kept λb o e=>t_ _ e;refine⟨(s.heap.push {cls:=.type "range",data:=.fields #[.int lo t,.int hi u,.int 1 v]}).objs.size,[(s.heap.push {cls:=.type "range",data:=.fields #[.int lo t,.int hi u,.int 1 v]}).objs.size],_,_,H,rfl,
  J.kept (t':=tk) λb o e=>t_ _ e,yJ _ lo (hi-lo).toNat,?_,λb U=>?_,q⟩
 ·have e1:lo+((0:Nat):Int)*1=lo:=by simp
  have e2:(((hi-lo).toNat:Nat):Int)-((0:Nat):Int)=La lo hi 1:=by rw[rangeSize_one];split<;>omega
  show IsRangeIter _ _ (lo+((0:Nat):Int)*1) ((((hi-lo).toNat:Nat):Int)-((0:Nat):Int)) 1;rw[e1,e2];exact Df _ rfl
 ·have e:b=(s.heap.push {cls:=.type "range",data:=.fields #[.int lo t,.int hi u,.int 1 v]}).objs.size:=by simpa using U
  subst e;exact J.fpOk (u_ _) (J.hok.fresh (u_ _))
noncomputable def iRng1(ta:TA):TI:=λσ H R=>ta σ H λvs H1=>∃j:Int,vs=[.int j]/\ -(2^62)<=j/\j<2^62/\R (Itr 0 j.toNat) H1
theorem Ba{a:Ed}{ta:TA}(g:Gl X "range")(f:X.mg "range"=d_)(i:PA X [a] ta)(c: ~~~(h_ [a] X.env=[(b_,Di a X.env)])):PI X tg (.Call (.Name "range" p) [a] [] pos) (iRng1 ta):=by
 intro pins s σ H R I h;refine Call_ (qT I g f boot_range (Gb (thn (i pos pins s σ H _ I h) λus l d=>?_) c rfl));obtain⟨vs,H1,k,Y,J⟩:=d;obtain⟨j,e,J,b,q⟩:=J;subst e;cases Y with
 |cons r U=>cases U;obtain⟨t,rfl⟩:=r;exact call_range_1 (range_it k (by omega) (by omega) J b (by simpa using q))
noncomputable def tFor(wi:TI)(g:TG)(tb:TS):TS:=λD σ H=>wi σ H λJ H1=>∃W:Nat->Nat->St->Hp->Prop,(∃m,W 0 m σ H1)/\∀i m σ H,W i m σ H ->
 (J.stop i H/\D.nx σ H)\/(J.go i H/\∃N:St->Hp->Prop,(∀σ' H',N σ' H'->∃U,U<m/\W (i+1) U σ' H')/\∀x H',J.yld i H x H'->g x σ H' λI H2=>tb {D with nx:=N,ct:=N,bk:=D.nx} I H2)
noncomputable def uE(fp:List g_)(h:DR):Pn:=fp.filterMap λb=>(h.get? b).map λo=>(b,o)
theorem jt{o:G8}(I:b∈fp)(e:h.get? b=a_ o):(b,o)∈uE fp h:=Fq.mpr ⟨b,I,by rw[e];rfl⟩
theorem Bi{p:g_×G8}(I:p∈uE fp h):p.1∈fp/\h.get? p.1=a_ p.2:=by
 obtain⟨b,J,e⟩:=Fq.mp I;cases q:h.get? b with
 |none=>rw[q]at e;cases e|some o=>rw[q]at e;have U:(b,o)=p:=Dt e;subst U;exact⟨J,q⟩
theorem Inv.pinned(I:Inv X pins σ H s)(c:∀b∈fp,Ag X pins H b)(a:∀b∈fp,∃o,s.heap.get? b=a_ o/\∀v,o.data≠.cell v):Inv X (pins++uE fp s.heap) σ H s:=
 I.su λp Y=>(Dv.mp Y).elim (λz=>I.pin p (DU _ z)) λz=>by obtain⟨J,e⟩:=Bi z;obtain⟨g,f1,f,_⟩:=c p.1 J;obtain⟨o,U,d⟩:=a p.1 J;rw[e]at U;cases U;exact⟨e,g,f1,f,d⟩
theorem Inv.rN{pl:Pn}(I:Inv X (pins++pl) σ H s):Inv X pins σ H s:=I.su λp J=>I.pin p (DU _ (G_ _ J))
theorem ps_for{iter:Ed}{wi:TI}{g:TG}{tb:TS}(Y:PassesOwn (Dd X.prog X.w) X.A X.env X.xe)(S:X.calm=e_)(hi:PI X tg iter wi)(hg:PG X tg g)(j:PSs X body tb)(hs:autoParam (∀x,FL iter X.env x=EY x) Jq6):PS X (.For tg iter body [] pos) (tFor wi g tb):=by
 intro pins s σ H D I h;refine wpAny_For (thn (hi pins s σ H _ I h) λv s1 h1=>thn h1 λitv s2 h2=>?_) hs;obtain⟨it,fp,P,J,H2,e,I2,T,st2,Z,W,⟨m0,w0⟩,w⟩:=h2;subst e;have c:∀{H':Hp},(∀b∈fp,H' b=d_)->∀b∈fp,Ag X pins H' b:=λhn b j=>⟨hn b j,(Z b j).2⟩
 refine codeAny_forLoop_any (λn s'=>∃i σ' H',Inv X pins σ' H' s'/\P i s'.heap/\(∀b∈fp,H' b=d_)/\W i n σ' H') ?_ m0 ⟨0,σ,H2,I2,st2,λb j=>(Z b j).1,w0⟩;rintro n R ⟨i,a,E,I3,A,C,w3⟩;rcases w i n a E w3 with⟨y,qn⟩|⟨go,N,hN,z⟩
 ·refine GG Y (thn (T.done X rfl rfl rfl S i pins R a E X.xe I3 (c C) A y) λr s4 Y=>?_);obtain⟨K,I4⟩:=Y;subst K;exact GH ⟨a,E,I4,qn⟩
 ·refine GG Y (thn (T.item X rfl rfl rfl S i pins R a E X.xe I3 (c C) A go) λr s4 Y=>?_);obtain⟨u,K,h4⟩:=Y;subst K;refine GG Y (thn h4 λ_ Q Y=>?_);obtain⟨x,H5,I5,r5,y5,t,L⟩:=Y;have O:=I5.pinned (c L) (T.obj _ _ t);refine GG Y (thn (hg _ Q a H5 x u _ O r5 (z x H5 y5)) λ_ s6 Y=>?_);obtain⟨F,H6,I6,q6⟩:=Y;refine GG Y (thn (j _ s6 F H6 _ I6 q6) λf G q=>?_);have k:∀{U:St} {p:Hp},Inv X (pins++uE fp Q.heap) U p G->N U p->∃m,m<n/\∃i σ' H',Inv X pins σ' H' G/\P i G.heap/\(∀b∈fp,H' b=d_)/\W i m σ' H':=λ{U p} l B=>by
   obtain⟨m',hm,w7⟩:=hN U p B;refine⟨m',hm,i+1,U,p,l.rN,T.keep _ _ _ t λb j o e=>(l.pin (b,o) (DU _ (DU _ (jt j e)))).1,λb j=>?_,w7⟩
   obtain⟨o,e,d⟩:=T.obj _ _ t b j;exact(l.pin (b,o) (DU _ (DU _ (jt j e)))).2.1
  cases f with
  |next=>obtain⟨U,p,l,B⟩:=q;exact k l B
  |cont=>obtain⟨U,p,l,B⟩:=q;exact k l B
  |brk=>obtain⟨U,p,l,q⟩:=q;exact⟨U,p,l.rN,q⟩
  |ret v=>obtain⟨x7,U,p,l,r7,q⟩:=q;exact⟨x7,U,p,l.rN,r7,q⟩
abbrev R2:=V->V->Hp->VK->Prop
variable{r r':R2}
noncomputable def OpR(X:Cx)(f:j_->j_->KN j_)(r:R2):Prop:=
 ∀(pins:Pn) (s:x_) (σ:St) (H:Hp) (x y:V) (v u:j_) (Q:VK),Inv X pins σ H s->RelV x v->RelV y u->r x y H Q ->
  CT (Dd X.prog X.w) X.A (f v u) (EP X pins σ Q) X.xe s
noncomputable def UnR(X:Cx)(f:j_->KN j_)(r:V->Hp->VK->Prop):Prop:=
 ∀(pins:Pn) (s:x_) (σ:St) (H:Hp) (x:V) (v:j_) (Q:VK),Inv X pins σ H s->RelV x v->r x H Q ->
  CT (Dd X.prog X.w) X.A (f v) (EP X pins σ Q) X.xe s
noncomputable def gm(X:Cx)(f:j_)(r:List V->Hp->VK->Prop):Prop:=
 ∀(pins:Pn) (s:x_) (σ:St) (H:Hp) (xs:List V) (us:List j_) (Q:VK),Inv X pins σ H s->Vals xs us->r xs H Q ->
  CT (Dd X.prog X.w) X.A (Gn f us) (EP X pins σ Q) X.xe s
noncomputable def TruR(X:Cx)(r:V->Hp->(Bool->Hp->Prop)->Prop):Prop:=
 ∀(pins:Pn) (s:x_) (σ:St) (H:Hp) (x:V) (v:j_) (Q:Bool->Hp->Prop),Inv X pins σ H s->RelV x v->r x H Q ->
  CT (Dd X.prog X.w) X.A (truthy v) (TP X pins σ Q) X.xe s
noncomputable def tOp(r:R2)(ta tb:TE):TE:=λσ H Q=>ta σ H λx H1=>tb σ H1 λy H2=>r x y H2 Q
noncomputable def tUn(r:V->Hp->VK->Prop)(ta:TE):TE:=λσ H Q=>ta σ H λx H1=>r x H1 Q
noncomputable def rI(C:Int->Int->Prop)(g:Int->Int->V):R2:=λx y H Q=>∃i j,x=.int i/\y=.int j/\C i j/\Q (g i j) H
noncomputable def rI0(g:Int->Int->V):R2:=λx y H Q=>∃i j,x=.int i/\y=.int j/\Q (g i j) H
noncomputable def rU(g:Int->V):V->Hp->VK->Prop:=λx H Q=>∃i,x=.int i/\Q (g i) H
section
variable{a b:Ed} 
theorem binT(l:PE X a ta)(k:PE X b tb){R:V->V->Hp->Prop}(I:Inv X pins σ H s)(h:ta σ H λx H1=>tb σ H1 λy H2=>R x y H2){Q:Vp}(j:∀v u Y x y H2,Inv X pins σ H2 Y->RelV x v->RelV y u->R x y H2->CT (Dd X.prog X.w) X.A (f v u) Q X.xe Y):
  CT (Dd X.prog X.w) X.A (Di a X.env) (λv U=>CT (Dd X.prog X.w) X.A (Di b X.env) (λu J=>CT (Dd X.prog X.w) X.A (f v u) Q X.xe J) X.xe U) X.xe s:=by
 refine thn (l pins s σ H _ I h) λv d c=>?_;obtain⟨x,H1,n,e,i⟩:=c;refine thn (k pins d σ H1 _ n i) λu Y c=>?_;obtain⟨y,H2,m,r2,g⟩:=c;exact j v u Y x y H2 m e r2 g
theorem pe_op{op:Operator}(c:OpR X (EI op) r)(e:PE X a ta)(d:PE X b tb):PE X (.BinOp a op b pos) (tOp r ta tb):=by intro pins s σ H Q I h;exact wpAny_BinOp (binT e d I h λv u J x y H2 f Y U q=>c pins J σ H2 x y v u Q f Y U q)
theorem pe_un{op:UnaryOp}{r:V->Hp->VK->Prop}(c:UnR X (Kz op) r)(d:PE X a ta):PE X (.UnaryOp op a pos) (tUn r ta):=by intro pins s σ H Q I h;refine UnaryOp_ (thn (d pins s σ H _ I h) λv J b=>?_);obtain⟨x,H1,e,U,Y⟩:=b;exact c pins J σ H1 x v Q e U Y
theorem opI{C:Int->Int->Prop}(J:∀(i j:Int) (t u:Tok) (s:x_) (Q:Vp) (E:Vp),C i j->Q (.int (g i j) s.toks) {s with toks:=s.toks+1}->CT (Dd X.prog X.w) X.A (f (.int i t) (.int j u)) Q E s):
  OpR X f (rI C λi j=>.int (g i j)):=by
 intro pins s σ H x y v u Q I Y U h;obtain⟨i,j,rfl,rfl,a,q⟩:=h;obtain⟨t,rfl⟩:=Y;obtain⟨t',rfl⟩:=U;exact J i j t t' s _ _ a ⟨.int (g i j),H,I.tok _,⟨_,rfl⟩,q⟩
theorem opI0(J:∀(i j:Int) (t u:Tok) (s:x_) (Q:Vp) (E:Vp),Q (.int (g i j) s.toks) {s with toks:=s.toks+1}->CT (Dd X.prog X.w) X.A (f (.int i t) (.int j u)) Q E s):
  OpR X f (rI0 λi j=>.int (g i j)):=by
 intro pins s σ H x y v u Q I Y U h;obtain⟨i,j,rfl,rfl,q⟩:=h;obtain⟨t,rfl⟩:=Y;obtain⟨t',rfl⟩:=U;exact J i j t t' s _ _ ⟨.int (g i j),H,I.tok _,⟨_,rfl⟩,q⟩
theorem opB0{g:Int->Int->Bool}(J:∀(i j:Int) (t u:Tok) (s:x_) (Q:Vp) (E:Vp),Q (.bool (g i j)) s->CT (Dd X.prog X.w) X.A (f (.int i t) (.int j u)) Q E s):
  OpR X f (rI0 λi j=>.bl (g i j)):=by
 intro pins s σ H x y v u Q I Y U h;obtain⟨i,j,rfl,rfl,q⟩:=h;obtain⟨t,rfl⟩:=Y;obtain⟨t',rfl⟩:=U;exact J i j t t' s _ _ ⟨.bl (g i j),H,I,rfl,q⟩
noncomputable def CPow(i j:Int):Prop:=0<=j/\j<=1000000/\i.natAbs<2^64
noncomputable def CMul(i j:Int):Prop:=(-(2^64)<i/\i<2^64)\/(-(2^64)<j/\j<2^64)
theorem CMul.ok{i j:Int}(h:CMul i j):IntMulOk i j:=by
 rcases h with⟨h1,h2⟩|⟨h1,h2⟩
 ·exact .of_left (intBits_le_64 h1 h2)
 ·exact .of_right (intBits_le_64 h1 h2)
theorem op_add:OpR X (EI .Add) (rI0 λi j=>.int (i+j)):=opI0 λ_ _ _ _ _ _ _ q=>add_int q
theorem op_mul:OpR X (EI .Mult) (rI CMul λi j=>.int (i*j)):=opI λ_ _ _ _ _ _ _ I q=>mul_int q I.ok
theorem op_mod:OpR X (EI .Mod) (rI (λ_ j=>0<j) λi j=>.int (i%j)):=opI λi j _ _ _ _ _ I q=>by have h1:(0:Int)<j:=I;exact mod_int' (by omega) (by rw[Int.fmod_eq_emod_of_nonneg i (by omega)];exact q)
theorem op_pow:OpR X (EI .Pow) (rI CPow λi j=>.int (i^j.toNat)):=opI λ_ _ _ _ _ _ _ I q=>pow_int_small I.1 I.2.1 I.2.2 q
theorem unI{f:j_->KN j_}{g:Int->Int}(J:∀(i:Int) (t:Tok) (s:x_) (Q:Vp) (E:Vp),Q (.int (g i) s.toks) {s with toks:=s.toks+1}->CT (Dd X.prog X.w) X.A (f (.int i t)) Q E s):
  UnR X f (rU λi=>.int (g i)):=by
 intro pins s σ H x v Q I U h;obtain⟨i,rfl,q⟩:=h;obtain⟨t,rfl⟩:=U;exact J i t s _ _ ⟨.int (g i),H,I.tok _,⟨_,rfl⟩,q⟩
theorem un_neg:UnR X (Kz .USub) (rU λi=>.int (-i)):=unI λ_ _ _ _ _ q=>neg_int q
end
noncomputable def scal:V->V->Bool
 |.non,.non=>e_|.non,.int _=>e_|.int _,.non=>e_|.non,.bl _=>e_|.bl _,.non=>e_|.non,.str _=>e_|.str _,.non=>e_|.int _,.int _=>e_|.bl _,.bl _=>e_|.str _,.str _=>e_|.byt _,.byt _=>e_|.int _,.str _=>e_|.str _,.int _=>e_|.bl _,.str _=>e_|.str _,.bl _=>e_|_,_=>b_
noncomputable def rNe:R2:=λx y H Q=>scal x y=e_/\Q (.bl (!decide (x=y))) H
theorem dec_int{i j:Int}:q_ (V.int i=V.int j)=(i==j):=by rw[Er];simp
theorem dec_bl{i j:Bool}:q_ (V.bl i=V.bl j)=(i==j):=by rw[Er];simp
theorem dec_str{i j:o_}:q_ (V.str i=V.str j)=(i==j):=by rw[Er];simp
theorem dec_byt{i j:Array UInt8}:q_ (V.byt i=V.byt j)=(i.toList==j.toList):=by rw[Er];cases i;cases j;simp
section
variable{a b:Ed}{tc:TE} 
theorem fm{Q:VK}{k k':Bool}(I:Inv X pins σ H s)(q:Q (.bl k) H)(e:k=k'):EP X pins σ Q (.bool k') s:=by subst e;exact⟨.bl k,H,I,rfl,q⟩
theorem op_ne:OpR X (Dn .NotEq) rNe:=by
 intro pins s σ H x y v u Q I Y J h;obtain⟨U,q⟩:=h;cases x with
 |non=>
  cases Y;cases y with
  |non=>cases J;exact PySem.EqNone.ne_none_none (fm I q (by simp))|bl j=>cases J;exact PySem.EqNone.ne_none_bool (fm I q (by simp))|int j=>obtain⟨t',rfl⟩:=J;exact PySem.EqNone.ne_none_int (fm I q (by simp))
  |str j=>obtain⟨t',rfl⟩:=J;exact PySem.EqNone.ne_none_str (fm I q (by simp))
  |_=>exact Dc (show b_=e_ from U) DZ
 |bl i=>
  cases Y;cases y with
  |non=>cases J;exact PySem.EqNone.ne_bool_none (fm I q (by simp))|bl j=>cases J;exact ne_bool (fm I q (FT not dec_bl))|str j=>obtain⟨t',rfl⟩:=J;exact K5 (fm I q (by simp))
  |_=>exact Dc (show b_=e_ from U) DZ
 |int i=>
  obtain⟨t,rfl⟩:=Y;cases y with
  |non=>cases J;exact PySem.EqNone.ne_int_none (fm I q (by simp))|int j=>obtain⟨t',rfl⟩:=J;exact ne_int (fm I q (FT not dec_int))
  |str j=>obtain⟨t',rfl⟩:=J;exact K4 (fm I q (by simp))
  |_=>exact Dc (show b_=e_ from U) DZ
 |str i=>
  obtain⟨t,rfl⟩:=Y;cases y with
  |non=>cases J;exact PySem.EqNone.ne_str_none (fm I q (by simp))|bl j=>cases J;exact K3 (fm I q (by simp))|int j=>obtain⟨t',rfl⟩:=J;exact K2 (fm I q (by simp))
  |str j=>obtain⟨t',rfl⟩:=J;exact ne_str (fm I q (FT not dec_str))
  |_=>exact Dc (show b_=e_ from U) DZ
 |byt i=>
  obtain⟨t,rfl⟩:=Y;cases y with
  |byt j=>obtain⟨t',rfl⟩:=J;exact PySem.W.ne_bytes (fm I q (FT not dec_byt))
  |_=>exact Dc (show b_=e_ from U) DZ
 |_=>cases y<;>exact Dc (show b_=e_ from U) DZ
theorem op_lt:OpR X (Dn .Lt) (rI0 λi j=>.bl (q_ (i<j))):=opB0 λ_ _ _ _ _ _ _ q=>lt_int q
theorem op_le:OpR X (Dn .LtE) (rI0 λi j=>.bl (q_ (i<=j))):=opB0 λ_ _ _ _ _ _ _ q=>le_int q
theorem op_gt:OpR X (Dn .Gt) (rI0 λi j=>.bl (q_ (j<i))):=opB0 λ_ _ _ _ _ _ _ q=>gt_int q
theorem op_ge:OpR X (Dn .GtE) (rI0 λi j=>.bl (q_ (j<=i))):=opB0 λ_ _ _ _ _ _ _ q=>ge_int q
theorem Bf:OpR X (Dn .In) (λx y H Q=>∃i j,x=.str i/\y=.str j/\Q (.bl (!(Dy j i 0 j.length 1).isEmpty)) H):=by intro pins s σ H x y v u Q I U J h;obtain⟨i,j,rfl,rfl,q⟩:=h;obtain⟨t,rfl⟩:=U;obtain⟨t',rfl⟩:=J;exact in_str (fm I q rfl)
theorem op_isN:OpR X (Dn .Is) (λx y H Q=>y=.non/\Q (.bl (q_ (x=.non))) H):=by
 intro pins s σ H x y v u Q I J U h;obtain⟨rfl,q⟩:=h;cases U;refine is_none_gen (fm I q ?_);cases x<;>first
  |(cases J;rfl)
  |(obtain⟨t,rfl⟩:=J;rfl)
theorem uG:OpR X (Dn .NotIn) (λx y H Q=>∃i j,x=.str i/\y=.str j/\Q (.bl (!(!(Dy j i 0 j.length 1).isEmpty))) H):=by intro pins s σ H x y v u Q I U J h;obtain⟨i,j,rfl,rfl,q⟩:=h;obtain⟨t,rfl⟩:=U;obtain⟨t',rfl⟩:=J;exact notIn_str (fm I q rfl)
theorem OpR.or(h:OpR X f r)(h':OpR X f r'):OpR X f (λx y H Q=>r x y H Q\/r' x y H Q):=by
 intro pins s σ H x y v u Q I U J q;rcases q with q|q
 ·exact h pins s σ H x y v u Q I U J q
 ·exact h' pins s σ H x y v u Q I U J q
theorem yf(b:Ed)(h:(op≠.In)⁻¹)(h2:(op≠.NotIn)⁻¹):Ff op b=b_:=by
 have e1:(op==CmpOp.In)=b_:=by cases op<;>first|rfl|exact Dc rfl h
 have e2:(op==KR)=b_:=by cases op<;>first|rfl|exact Dc rfl h2
 cases b<;>simp[Ff,e1,e2]
theorem pe_cmpR(c:OpR X (Dn op) r)(f:PE X a ta)(e:PE X b tb)(d:Ff op b=b_):PE X (.Compare a [op] [b] pos) (tOp r ta tb):=by intro pins s σ H Q I h;exact wpAny_Compare1 (binT f e I h λv u J x y H2 g Y U q=>c pins J σ H2 x y v u Q g Y U q) d
noncomputable def Ay(t:TE):TT:=λσ H Q=>t σ H λx H'=>∃k,x=.bl k/\Q k H'
theorem wk(j:OpR X (Dn op) r)(n:PE X a ta)(m:PE X b tb)(l:Ff op b=b_):PT X (.Compare a [op] [b] pos) (Ay (tOp r ta tb)):=by
 intro pins s σ H Q I h;refine J7 (thn (n pins s σ H _ I h) λv U ⟨x,H1,q,d,i⟩=>thn (m pins U σ H1 _ q i) λu J ⟨y,H2,p,r2,g⟩=>thn (j pins J σ H2 x y v u _ p d r2 g) λc w ⟨z,t,o,Y,k,e,f⟩=>?_) l
 subst e;cases Y;exact D6 ⟨t,o,f⟩
noncomputable def AE(r r':R2)(ta tb tc:TE):TE:=λσ H Q=>ta σ H λx H1=>tb σ H1 λy H2=>r x y H2 λz I=>∃k,z=.bl k /\
 (if k=e_ then tc σ I λw' J=>r' y w' J Q else Q (.bl b_) I)
theorem pe_chain(A:OpR X (Dn op) r)(J:OpR X (Dn op') r')(E:PE X a ta)(D:PE X b tb)(C:PE X c tc)(B:autoParam (HF [op,op'] [b,c]=b_) Jq8):PE X (.Compare a [op,op'] [b,c] pos) (AE r r' ta tb tc):=by
 intro pins s σ H Q I h;refine Compare_chain (thn (E pins s σ H _ I h) λv m ⟨x,H1,K,p,w⟩=>Kr (thn (D pins m σ H1 _ K w) λu l ⟨y,H2,G,r2,t⟩=>thn (A pins l σ H2 x y v u _ G p r2 t) λd j ⟨z,f,Y,o,k,e,U⟩=>?_)) B
 subst e;cases o;refine D6 ?_;cases k with
 |false=>exact ite_ff ⟨.bl b_,f,Y,rfl,U⟩|true=>exact ite_tt (chain_last (thn (C pins j σ f _ Y U) λw' i ⟨g,L,F,n,q⟩=>J pins i σ L y g u w' Q F r2 n q))
theorem pt_chain(E:OpR X (Dn op) r)(U:OpR X (Dn op') r')(L:PE X a ta)(K:PE X b tb)(G:PE X c tc)(F:autoParam (HF [op,op'] [b,c]=b_) Jq8):PT X (.Compare a [op,op'] [b,c] pos) (Ay (AE r r' ta tb tc)):=by
 intro pins s σ H Q I h;refine isTrue_chain (thn (L pins s σ H _ I h) λv n ⟨x,H1,S,t,C⟩=>test_link (thn (K pins n σ H1 _ S C) λu m ⟨y,H2,R,r2,B⟩=>thn (E pins m σ H2 x y v u _ R t r2 B) λd l ⟨z,g,f,q,k,e,Y⟩=>?_)) F
 subst e;cases q;refine D6 ?_;cases k with
 |false=>obtain⟨k',N,D⟩:=Y;cases N;exact ite_ff ⟨g,f,D⟩
 |true=>refine ite_tt (test_last (thn (G pins l σ g _ f Y) λw' j J=>?_));obtain⟨i,W,P,p,A⟩:=J;refine thn (U pins j σ W y i u w' _ P r2 p A) λd' s5 J=>?_;obtain⟨Z,T,O,o,k2,e2,w⟩:=J;subst e2;cases o;exact D6 ⟨T,O,w⟩
noncomputable def TruV(K:Fg)(x:V)(H:Hp)(k:Bool):Prop:=
 match x with
 |.non=>k=b_|.bl b=>k=b|.int i=>k=(i != 0)|.str y=>y.length<=m_/\k=((y.length:Int) != 0)|.byt y=>y.size<=m_/\k=((y.size:Int) != 0)|.ref p=>(∃xs,SqL K H p xs/\k= !xs.isEmpty)\/(∃xs,SqT K H p xs/\k= !xs.isEmpty)\/∃I,H p=a_ (.dK I)/\k= !I.isEmpty
 |_=>False
theorem zH{I:List (κ×V)}{vs:List (κ×j_)}(r:KV I vs):(!vs.isEmpty)= !I.isEmpty:=by cases r<;>rfl
theorem qV{xs:List V}{its:List j_}(r:Vals xs its):(!its.toArray.isEmpty)= !xs.isEmpty:=by cases r<;>simp
theorem qS:(m_:Nat)<2^63:=by rw[Dq];decide
theorem tru_ok:TruR X (λx H Q=>∃k,TruV X.K x H k/\Q k H):=by
 intro pins s σ H x v Q I a h;obtain⟨k,e,q⟩:=h;have l:=qS;have j:m_=16777216:=Dq;cases x with
 |non=>cases a;have J:k=b_:=e;subst J;exact truthy_none ⟨H,I,q⟩|bl b=>cases a;have J:k=b:=e;subst J;exact D6 ⟨H,I,q⟩|int i=>obtain⟨t,rfl⟩:=a;have J:k=(i != 0):=e;subst J;exact PySem.P.truthy_int ⟨H,I,q⟩
 |str y=>obtain⟨t,rfl⟩:=a;obtain⟨f,J⟩:y.length<=m_/\k=((y.length:Int) != 0):=e;subst J;exact PySem.P.truthy_str (by omega) ⟨H,I.tok _,q⟩
 |byt y=>obtain⟨t,rfl⟩:=a;obtain⟨f,J⟩:y.size<=m_/\k=((y.size:Int) != 0):=e;subst J;exact PySem.W.truthy_bytes (by omega) ⟨H,I.tok _,q⟩
 |ref p=>
  cases a;have J:(∃xs,SqL X.K H p xs/\k= !xs.isEmpty)\/(∃xs,SqT X.K H p xs/\k= !xs.isEmpty)\/∃U,H p=a_ (.dK U)/\k= !U.isEmpty:=e;rcases J with⟨xs,c,J⟩|⟨xs,c,J⟩|⟨U,c,J⟩
  ·subst J;obtain⟨its,r,pl,d⟩:=I.list c;have Y:=r.length;exact wpAny_truthy_list pl.isList (by simp only[B_];omega) ⟨H,I.tok _,by rw[qV r];exact q⟩
  ·subst J;obtain⟨its,r,pl,d⟩:=I.tuple c;have Y:=r.length;exact truthy_tuple pl (by simp only[B_];omega) ⟨H,I.tok _,by rw[qV r];exact q⟩
  ·subst J;obtain⟨d,g,vs,r,m⟩:U.length<=m_/\(p==FQ)=b_/\∃vs,KV U vs/\s.heap.DictOf (wL X.prog X.w) p vs:=I.hok p _ c;have Y:U.length=vs.length:=He r;exact wpAny_truthy_dict g m (by omega) ⟨H,I.tok _,by rw[zH r];exact q⟩
 |_=>exact(show False from e).elim
theorem nG(e:PE X a ta)(d:∀J,JS a X.env J=(do let v <- J;Ib a.pos;Ic [v] (truthy v))):
  PT X a (λσ H Q=>ta σ H λx H'=>∃k,TruV X.K x H' k/\Q k H'):=by
 intro pins s σ H Q I h;refine isTrue_plain (thn (e pins s σ H _ I h) λv U c=>?_) (d _);obtain⟨x,H1,f,Y,b⟩:=c;exact tru_ok pins U σ H1 x v Q f Y b
theorem zm:OpR X (EI .Add) (λx y H Q=>∃i j,x=.str i/\y=.str j/\i.length+j.length<=m_/\Q (.str (i++j)) H):=by intro pins s σ H x y v u Q I U J h;obtain⟨i,j,rfl,rfl,Y,q⟩:=h;obtain⟨t,rfl⟩:=U;obtain⟨t',rfl⟩:=J;exact add_str (λt' tk=>⟨.str (i++j),H,I.tok _,⟨_,rfl⟩,q⟩) Y
theorem vals1{x:V}(r:Vals [x] us):∃u,us=[u]/\RelV x u:=by
 cases r with
 |cons I r2=>cases r2;exact⟨_,rfl,I⟩
theorem vals2{x:V}(r:Vals [x,y] us):∃u w',us=[u,w']/\RelV x u/\RelV y w':=by
 cases r with
 |cons U r2=>
  cases r2 with
  |cons J I=>cases I;exact⟨_,_,rfl,U,J⟩
theorem Cr(U:X.calm=e_):gm X (.builtin "min") (λxs H Q=>∃i j,xs=[.int i,.int j]/\Q (.int (if j<i then j else i)) H):=by
 intro pins s σ H xs us Q I r h;obtain⟨i,j,rfl,q⟩:=h;obtain⟨u,w',rfl,⟨t,rfl⟩,⟨t',rfl⟩⟩:=vals2 r;refine min_two_ints (I.ok.hd U) λh' tk k=>⟨_,H,I.kept k,?_,q⟩
 by_cases J:j<i
 ·rw[i_ J,i_ J];exact⟨_,rfl⟩
 ·rw[l_ J,l_ J];exact⟨_,rfl⟩
theorem vm:gm X (.type "str") (λxs H Q=>∃i,xs=[.int i]/\i.natAbs.log2<1920/\Q (.str (toString i)) H):=by intro pins s σ H xs us Q I r h;obtain⟨i,rfl,J,q⟩:=h;obtain⟨u,rfl,t,rfl⟩:=vals1 r;exact PySem.P.str_of_int J ⟨.str _,H,I.tok _,⟨_,rfl⟩,q⟩
end
structure ObjM(h:DR)(x dx C:g_)(mA:Mq):Prop where
 obj:h.get? x=a_ (ES C dx)
 ns:h.Ns1 dx mA
 ne:dx≠x
theorem oY(n:h.Ns1 dx mA):∃od,h.get? dx=a_ od/\∀name,GI name od=a_ (mA name):=by
 obtain⟨o,es,ep,U,hd,b,_,Y⟩:=n;refine⟨o,U,λname=>?_⟩
 have e:=Y name;unfold nsFind findBy at e;rw[<- JG]at e;unfold GI;rw[hd];dsimp only;split
 ·rename_i y q;rw[q]at e;exact FT a_ e
 ·rename_i q;rw[q]at e;have a:es.toList.any (·.refKey)=b_:=by
   rw[List.any_eq_false];intro y J;obtain⟨z,t,I⟩:=b y (Array.mem_toList_iff.mp J);simp[DictEntry.refKey,I]
  have c:¬es.toList.any (·.refKey)=e_:=by rw[a];exact DZ
  rw[l_ c];exact FT a_ e
theorem ObjM.look{x:g_}(I:ObjM h x dx C mA):∃od,EC h x (ES C dx) C (a_ od)/\∀name,GI name od=a_ (mA name):=
 let ⟨od,J,U⟩:=oY I.ns
 ⟨od,⟨I.obj,rfl,rfl,J⟩,U⟩
section
variable{x f:g_}{v:j_}
theorem get_map{U:Bool}{Q:Vp}(X:K.In s.heap)(I:ObjM s.heap x dx C mA)(b:Ih K C name=e_)(hh:Fu K C=e_)(c:C_ K (.ref C) name=a_ d_)(hv:mA name=a_ v)(Y:IB v=e_)(h:Q v {s with toks:=s.toks+1}):
  CT (Dd prog w) A (JV (.ref x) name U) Q E s:=by
 obtain⟨od,J,a⟩:=I.look;exact PySem.W.get_value X J (G7 b).1 (Kh hh c rfl (by rw[a,hv])) Y h
theorem get_meth{Q:j_×List j_->x_->Prop}(X:K.In s.heap)(I:ObjM s.heap x dx C mA)(U:Ih K C name=e_)(b:C_ K (.ref C) name=a_ (a_ (.ref f)))(Y:isFn K (.ref f)=e_)(hv:mA name=d_)(h:Q (.ref f,[.ref x]) s):
  CT (Dd prog w) A (G6 (.ref x) name pl) Q E s:=by
 obtain⟨od,J,a⟩:=I.look;exact PySem.W.method_fn X J (G7 U).1 (G7 U).2 b (Et.mp Y) (by show(GI name od).map (·.isSome)=a_ b_;rw[a,hv];rfl) h
theorem set_map{ns:List o_}(X:K.In s.heap)(I:ObjM s.heap x dx C mA)(j:C_ K (.ref C) "__setattr__"=a_ (a_ (.builtin "object.__setattr__")))(k:JL K C=e_)(i:takerIn K C name=a_ d_)(hh:Fu K C=e_)(hw:Gs mA ns)(hsz:ns.length<=m_)(h:∀h',ObjM h' x dx C (λy=>if y=name then a_ v else mA y)->GZ dx s.heap h'->Q () {s with heap:=h',toks:=s.toks+2}):
  CT (Dd prog w) A (KC (.ref x) name v) Q E s:=by
 obtain⟨od,J,p⟩:=I.look;refine KI X J j (PySem.W.osa_open (s:={s with toks:=s.toks+1}) (r:=d_) X J k i λb=>?_);obtain⟨cd,l,e⟩:=IK hh;have g:s.heap.get? x=a_ ⟨.ref C,a_ dx,.plain,#[]⟩:=I.obj;refine p_ (Cb (p_ (p_ (IZ g (p_ (Jy (s:={s with toks:=s.toks+1}) (IJ X l) ?_))))));rw[e];refine Cb (a:=a_ dx) (p_ (Cb (p_ ?_)));refine wpAny_nsSet1 (s:={s with toks:=s.toks+1}) I.ns λh' Y U=>?_;obtain⟨o,m,n,c,d,f⟩:=Y.count (Ju name v hw);refine p_ (KY c (by rw[d];exact K0 (Dz f (by rw[CZ];omega))) ?_);exact Cb (h _ ⟨(U.2 _ (DL I.ne)).trans I.obj,Y,I.ne⟩ U)
theorem yh{R:JY->x_->Prop}{vs:List j_}(X:K.In s.heap)(J:JX K C=e_)(hi:C_ K (.ref C) "__init__"=a_ (a_ (.ref f)))(U:HZ K (.ref f)=a_ (.type "function"))(h:Gk (Dd prog w) (A.under (.builtin "type.__call__" ⟨.ref C::vs,kw⟩)) (.call (.ref f) ⟨.ref (s.heap.objs.size+1)::vs,kw⟩) (PySem.W.InitBack (s.heap.objs.size+1) R)
   {s with heap:=(s.heap.push D0).push (ES C s.heap.objs.size)}):
  Gk (Dd prog w) A (.call (.ref C) ⟨vs,kw⟩) R s:=by
 obtain⟨hh,g,d,t,os⟩:=s;exact PySem.W.make_core (PySem.W.makes_of X J) (FV X hi) (λI=>PySem.W.bind_fn X I U) (.inl rfl) h
end
noncomputable def oE(f:o_)(v:V):List (o_×V)->List (o_×V)
 |[]=>[(f,v)]|(g,x)::r=>if g=f then(g,v)::r else(g,x)::oE f v r
theorem oX(f g:o_)(v:V):∀fs:List (o_×V),(oE f v fs).lookup g=if g=f then a_ v else fs.lookup g
 |[]=>by
  show DN g [(f,v)]=_;by_cases h:g=f
  ·have I:(g==f)=e_:=Et.mpr h;simp only[DN,I,i_ h]
  ·have I:(g==f)=b_:=FF.mpr h;simp only[DN,I,l_ h]
 |(k,x)::r=>by
  have U:=oX f g v r;rw[show oE f v ((k,x)::r)=(if k=f then(k,v)::r else(k,x)::oE f v r)from rfl];by_cases J:k=f
  ·rw[i_ J];by_cases h:g=k
   ·have I:(g==k)=e_:=Et.mpr h;simp only[DN,I,i_ (h.trans J)]
   ·have I:(g==k)=b_:=FF.mpr h;simp only[DN,I,l_ (λe:g=f=>h (e.trans J.symm))]
  ·rw[l_ J];by_cases h:g=k
   ·have I:(g==k)=e_:=Et.mpr h;simp only[DN,I,l_ (λe:g=f=>J (h.symm.trans e))]
   ·have I:(g==k)=b_:=FF.mpr h;simp only[DN,I];exact U
theorem p8(f:o_)(v:V):∀fs:List (o_×V),f∈(oE f v fs).map (·.1)/\∀g,g∈fs.map (·.1)->g∈(oE f v fs).map (·.1)
 |[]=>⟨by simp[oE],λg h=>by simp at h⟩|(k,x)::r=>by
  obtain⟨U,J⟩:=p8 f v r;rw[show oE f v ((k,x)::r)=(if k=f then(k,v)::r else(k,x)::oE f v r)from rfl];by_cases I:k=f
  ·rw[i_ I];subst I;exact⟨by simp,λg h=>by simpa using h⟩
  ·rw[l_ I];refine⟨?_,λg h=>?_⟩
   ·rw[Dp];exact Dl _ U
   ·rw[Dp]at h ⊢;rcases A_.mp h with e|e
    ·exact A_.mpr (.inl e)
    ·exact Dl _ (J g e)
theorem oZ(f:o_)(v:V):∀fs:List (o_×V),(oE f v fs).length<=fs.length+1
 |[]=>by simp[oE]|(k,x)::r=>by
  have J:=oZ f v r;rw[show oE f v ((k,x)::r)=(if k=f then(k,v)::r else(k,x)::oE f v r)from rfl];by_cases I:k=f
  ·rw[i_ I,CZ,CZ];omega
  ·rw[l_ I,CZ,CZ];omega
theorem qD.some_of{o:Option j_}(r:qD (a_ v) o):∃u,o=a_ u/\RelV v u:=by
 cases o with
 |none=>exact(show False from r).elim|some u=>exact⟨u,rfl,r⟩
theorem qD.none_of{o:Option j_}(r:qD d_ o):o=d_:=by
 cases o with
 |none=>rfl|some u=>exact(show False from r).elim
theorem ph(r:RelV v u):IB u=e_:=by
 cases v with
 |non=>cases(show u=FD from r);rfl|bl b=>cases(show u=Ii b from r);rfl|int i=>obtain⟨t,e⟩:=(show ∃t,u=Gy i t from r);cases e;rfl
 |str x=>obtain⟨t,e⟩:=(show ∃t,u=Ex x t from r);cases e;rfl
 |byt b=>obtain⟨t,e⟩:=(show ∃t,u=KL b t from r);cases e;rfl
 |flt b=>obtain⟨t,e⟩:=(show ∃t,u=Jd b t from r);cases e;rfl
 |ref a=>cases(show u=CU a from r);rfl|ty n=>cases(show u=FC n from r);rfl
section
variable{fs:List (o_×V)}
theorem sX(I:HOk P w H h)(e:H a=a_ (.ins C dx fs)):∃mA,ObjM h a dx C mA/\(∀f,qD (fs.lookup f) (mA f))/\Gs mA (fs.map (·.1))/\fs.length<=1000/\H dx=a_ (.own a):=by
 obtain⟨d,z,U,J,mA,n,r,q⟩:=(show eo P w H h a (.ins C dx fs)from I a _ e)
 exact⟨mA,⟨J,n,U⟩,r,q,z,d⟩
end
structure Cls(K:Fg)(C:g_):Prop where
 pg:Ih K C Fj=e_
 hd:Fu K C=e_
 po:JL K C=e_
 sa:C_ K (.ref C) "__setattr__"=a_ (a_ (.builtin "object.__setattr__"))
theorem Cls.get(c:Cls K C)(f:o_):Ih K C f=e_:=c.pg
noncomputable def b8(K:Fg)(C:g_)(f:o_):Prop:=C_ K (.ref C) f=a_ d_
theorem b8.taker{f:o_}(n:b8 K C f):takerIn K C f=a_ d_:=by unfold takerIn;rw[show C_ K (.ref C) f=a_ d_ from n];rfl
structure Meth(K:Fg)(C:g_)(m:o_)(f:g_):Prop where
 at_:C_ K (.ref C) m=a_ (a_ (.ref f))
 fn:isFn K (.ref f)=e_
 kp:Fh K (.ref f)=e_
section
variable{fs:List (o_×V)}{f:o_} 
theorem zI{b:Bool}{Q:Vp}(I:Inv X pins σ H s)(e:H a=a_ (.ins C dx fs))(c:Cls X.K C)(n:b8 X.K C f)(l:fs.lookup f=a_ v)(h:∀u s',Inv X pins σ H s'->RelV v u->Q u s'):CT (Dd X.prog X.w) A (JV (.ref a) f b) Q E s:=by obtain⟨mA,O,r,_,_,_⟩:=sX I.hok e;obtain⟨u,U,J⟩:=qD.some_of (v:=v) (o:=mA f) (by rw[<- l];exact r f);exact get_map I.kIn O (c.get f) c.hd n U (ph J) (h u _ (I.tok _) J)
theorem m7{g:g_}{Q:j_×List j_->x_->Prop}(I:Inv X pins σ H s)(e:H a=a_ (.ins C dx fs))(c:Cls X.K C)(k:Meth X.K C m g)(l:fs.lookup m=d_)(h:Q (.ref g,[.ref a]) s):CT (Dd X.prog X.w) A (G6 (.ref a) m pl) Q E s:=by obtain⟨mA,O,r,_,_,_⟩:=sX I.hok e;have J:mA m=d_:=qD.none_of (by rw[<- l];exact r m);exact get_meth I.kIn O (c.get m) k.at_ k.fn J h
theorem yN(I:Inv X pins σ H s)(e:H a=a_ (.ins C dx fs))(c:Cls X.K C)(n:b8 X.K C f)(l:fs.length<1000)(Y:RelV y u)(h:∀s',Inv X pins σ (upd H a (.ins C dx (oE f y fs))) s'->Q () s'):CT (Dd X.prog X.w) A (KC (.ref a) f u) Q E s:=by
 obtain⟨mA,O,r,wi,_,J⟩:=sX I.hok e;have d:(fs.map (·.1)).length<=m_:=by rw[y_,Dq];omega
 refine set_map I.kIn O c.sa c.po n.taker c.hd wi d λh' O' U=>h _ ?_;have hd:∃o,h'.get? dx=a_ o:=let ⟨o,_,_,k,_⟩:=O'.ns;⟨o,k⟩;refine I.write (x:=a) (e:=dx) (by rw[e];exact EK) (.inr J) (λb q j z=>(U.2 b j).trans z) hd ?_;refine⟨by rw[ao O.ne];exact J,?_,O.ne,O'.obj,_,O'.ns,λg=>?_,λg i=>?_⟩
 ·have:=oZ f y fs;omega
 ·show qD ((oE f y fs).lookup g) (if g=f then a_ u else mA g);rw[oX];by_cases q:g=f
  ·rw[i_ q,i_ q];exact Y
  ·rw[l_ q,l_ q];exact r g
 ·by_cases q:g=f
  ·rw[q];exact(p8 f y fs).1
  ·refine(p8 f y fs).2 g (wi g λz=>i ?_);show(if g=f then a_ u else mA g)=d_;rw[l_ q];exact z
theorem Inv.made(I:Inv X pins σ H s):Inv X pins σ (upd (upd H s.heap.objs.size (.own (s.heap.objs.size+1))) (s.heap.objs.size+1) (.ins C s.heap.objs.size []))
  {s with heap:=(s.heap.push D0).push (ES C s.heap.objs.size)}:=by
 have e1:(s.heap.push D0).get? s.heap.objs.size=a_ D0:=Df s.heap rfl;have e2:((s.heap.push D0).push (ES C s.heap.objs.size)).get? (s.heap.objs.size+1)=a_ (ES C s.heap.objs.size):=by
  have:=Df (s.heap.push D0) (o:=ES C s.heap.objs.size) rfl
  rwa [Eo]at this
 have e3:(s.heap.push D0).Ns s.heap.objs.size (λ_=>d_):=⟨D0,#[],_,e1,rfl,(λe Y=>Dc Y (by simp)),λ_=>rfl⟩
 have c:=I.laid (a:=s.heap.objs.size) (o:=.own (s.heap.objs.size+1)) (h':=s.heap.push D0) (t':=s.toks) (λb u q=>t_ _ q) (u_ _) ⟨_,e1⟩;refine c.laid (a:=s.heap.objs.size+1) (o:=.ins C s.heap.objs.size []) (t':=s.toks) (λb u q=>t_ _ q) (Lb (Eo _ _)) ?_;have J:s.heap.objs.size≠s.heap.objs.size+1:=Dx (FP _);refine⟨by rw[ao J,aq],FK _,J,e2,λ_=>d_,(Je e3).at λo q=>t_ _ q,λ_=>EK,λy U=>Dc rfl U⟩
theorem xB{env:Iq}{f:o_}{Q:Vp}(J:Ei e f env (Di e env)=Di e env)(h:CT (Dd prog w) A (Di e env) (λo I=>CT (Dd prog w) A (JV o f e_) Q E I) E s):CT (Dd prog w) A (Di (.Attribute e f pos) env) Q E s:=
 Attribute_any_ h (by rw[arm_eval_Attribute,J])
end
noncomputable def pV(K:Fg)(ta:TE)(f:o_):TE:=λσ H Q=>ta σ H λx H1=>∃a C dx fs v,x=.ref a/\H1 a=a_ (.ins C dx fs)/\Cls K C/\b8 K C f/\fs.lookup f=a_ v/\Q v H1
noncomputable def tY(K:Fg)(ta tv:TE)(f:o_):TS:=λD σ H=>tv σ H λy H1=>ta σ H1 λx H2=>∃a C dx fs,x=.ref a/\H2 a=a_ (.ins C dx fs)/\Cls K C/\b8 K C f/\fs.length<1000 /\
 D.nx σ (upd H2 a (.ins C dx (oE f y fs)))
section
variable{o value:Ed}{f:o_}{tv:TE}
theorem g9(b:PE X e ta)(d:Ei e f X.env (Di e X.env)=Di e X.env):PE X (.Attribute e f pos) (pV X.K ta f):=by intro pins s σ H Q I h;refine xB d (thn (b pins s σ H _ I h) λu o Y=>?_);obtain⟨x,H1,j,J,a,C,dx,fs,v,ex,g,c,n,l,q⟩:=Y;subst ex;obtain rfl:u=CU a:=J;exact zI j g c n l λk m i U=>⟨v,H1,i,U,q⟩
theorem fj(i:PE X o ta)(hv:PE X value tv)(g:E_ value (a_ (.Attribute o f pos')) pos.line X.env=EY b_):PS X (.Assign [.Attribute o f pos'] value pos) (tY X.K ta tv f):=by intro pins s σ H D I h;refine Im (thn (hv pins s σ H _ I h) λu U J=>?_) g;obtain⟨y,H1,p,Y,q⟩:=J;refine thn (i pins U σ H1 _ p q) λe t J=>?_;obtain⟨x,H2,m,b,a,C,dx,fs,ex,j,c,n,l,d⟩:=J;subst ex;obtain rfl:e=CU a:=b;exact yN m j c n l Y λr k=>⟨σ,_,k,d⟩
end
section
variable{Q:Vp}{c:j_}{b:Bool}
inductive A7(K:Fg)(H:Hp):V->j_->Prop where
 |non:A7 K H .non (.type "NoneType")
 |bl (x:Bool):A7 K H (.bl x) (.type "bool")
 |int (i:Int):A7 K H (.int i) (.type "int")
 |str (x:o_):A7 K H (.str x) (.type "str")
 |flt (x:UInt64):A7 K H (.flt x) (.type "float")
 |lst {a:g_} {xs:List V} (e:H a=a_ (.lst xs)):A7 K H (.ref a) (.type "list")
 |frz {a:g_} {o:G8} {xs:List V} (e:H a=a_ (.frz o (.lst xs))):A7 K H (.ref a) (.type "list")
 |tup {a:g_} {xs:List V} (e:H a=a_ (.tup xs)):A7 K H (.ref a) (.type "tuple")
 |dK {a:g_} {kvs:List (Key×V)} (e:H a=a_ (.dK kvs)):A7 K H (.ref a) (.type "dict")
 |dT {a:g_} {kvs:List (List Key×V)} (e:H a=a_ (.dT kvs)):A7 K H (.ref a) (.type "dict")
 |ins {a C dx:g_} {fs:List (o_×V)} (e:H a=a_ (.ins C dx fs)) (cl:Cls K C) (ha:C_ K (.ref C) "__class__"=a_ (a_ (.builtin "object.__class__")))
   (hn:HG K (.builtin "object.__class__") "__get__"=a_ (a_ (.builtin "getset_descriptor.__get__"))) (htk:KH K (.builtin "object.__class__")=a_ e_)
   (hm:EG K C (.type "object")=a_ e_):A7 K H (.ref a) (.ref C)
theorem Bz{x:V}{t:j_}(I:Inv X pins σ H s)(U:RelV x u)(ty:A7 X.K H x t)(e:DM X.K t c=a_ b)(h:∀tk,Q (.bool b) {s with toks:=tk}):
  CT (Dd X.prog X.w) A (Gn (.builtin "isinstance") [u,c]) Q E s:=by
 cases ty with
 |non=>cases(show u=FD from U);exact Fb Jj I.kIn EK e (λz=>nomatch z) h
 |bl y=>cases(show u=Ii y from U);exact Fb Jl I.kIn EK e (λz=>nomatch z) h
 |int i=>obtain⟨t,q⟩:=(show ∃t,u=Gy i t from U);cases q;exact Fb Jw I.kIn EK e (λz=>nomatch z) h
 |str y=>obtain⟨t,q⟩:=(show ∃t,u=Ex y t from U);cases q;exact Fb Jv I.kIn EK e (λz=>nomatch z) h
 |flt y=>obtain⟨t,q⟩:=(show ∃t,u=Jd y t from U);cases q;exact Fb PySem.W.kitx_float I.kIn EK e (λz=>nomatch z) h
 |@lst a xs Y=>
  cases(show u=CU a from U);obtain⟨_,_,n,_,h1⟩:=(show eo X.prog X.w H s.heap a (.lst xs)from I.hok a _ Y)
  exact Fb Hq I.kIn ⟨_,h1,rfl⟩ e (λz=>nomatch z) h
 |@frz a j xs Y=>
  cases(show u=CU a from U);obtain⟨_,_,_,n,_,h1⟩:=(show eo X.prog X.w H s.heap a (.frz j (.lst xs))from I.hok a _ Y)
  exact Fb Hq I.kIn ⟨_,h1,rfl⟩ e (λz=>nomatch z) h
 |@tup a xs Y=>
  cases(show u=CU a from U);obtain⟨_,_,_,p⟩:=(show eo X.prog X.w H s.heap a (.tup xs)from I.hok a _ Y)
  obtain⟨o,h1,h2,_⟩:=p;exact Fb Jc I.kIn ⟨o,h1,h2⟩ e (λz=>nomatch z) h
 |@dK a d Y=>
  cases(show u=CU a from U);obtain⟨_,_,vs,_,p⟩:=(show eo X.prog X.w H s.heap a (.dK d)from I.hok a _ Y)
  obtain⟨o,es,ep,h1,h2,_⟩:=p;exact Fb Jk I.kIn ⟨o,h1,h2.1⟩ e (λz=>nomatch z) h
 |@dT a d Y=>
  cases(show u=CU a from U);obtain⟨_,_,xs,_,o,es,ep,h1,h2,_⟩:=(show eo X.prog X.w H s.heap a (.dT d)from I.hok a _ Y)
  exact Fb Jk I.kIn ⟨o,h1,h2.1⟩ e (λz=>nomatch z) h
 |@ins a C dx fs Y g m k f l=>cases(show u=CU a from U);obtain⟨mA,O,_⟩:=sX I.hok Y;obtain⟨od,J,_⟩:=O.look;exact Fb (PySem.W.kitx_own (g.get _) g.hd m k f l) I.kIn J e (λz=>nomatch z) h
end
structure fV(k:Nat)(A:Fm):Prop where
 hd:A.handled=d_
 dp:A.depth+3*k+5<recursionLimit
 un:A.units+16*k+200<E8
theorem fV.mono(r:fV k A)(h:j<=k):fV j A:=⟨r.hd,by have:=r.dp;omega,by have:=r.un;omega⟩
theorem fV.deeper{k:Nat}{A:Fm}(r:fV (k+1) A)(env:Iq):fV k (A.deeper env):=
 ⟨r.hd,by have:=r.dp;show A.depth+1+3*k+5<_;omega,by have:=r.un;show A.units+3+16*k+200<_;omega⟩
theorem zv:(A.under (.builtin "type.__call__" ⟨.ref C::us,kw⟩)).depth=A.depth+1:=by first|rfl|simp[Around.under,Code.weight,Code.isCreation,Code.isGuard,Code.isCaller,Code.frames,Code.isFrame,guardIds]
theorem zu:(A.under (.builtin "type.__call__" ⟨.ref C::us,kw⟩)).units=A.units+1:=by first|rfl|simp[Around.under,Code.cUnits,Code.frames,Code.isFrame]
theorem fV.make(r:fV (k+1) A)(C:g_)(us:List j_)(kw:List (o_×j_)):fV k (A.under (.builtin "type.__call__" ⟨.ref C::us,kw⟩)):=
 ⟨r.hd,by have:=r.dp;rw[zv];omega,by have:=r.un;rw[zu];omega⟩
theorem fV.depth{k:Nat}{A:Fm}(r:fV k A):A.depth<recursionLimit:=by have:=r.dp;omega
theorem fV.units{k:Nat}{A:Fm}(r:fV k A):A.units+64<E8:=by have:=r.un;omega
noncomputable def dR:TA:=λ_ H Q=>Q [] H
noncomputable def aM(ta:TE)(I:TA):TA:=λσ H Q=>ta σ H λx H1=>I σ H1 λxs H2=>Q (x::xs) H2
theorem aK:PA X [] dR:=λ_ _ _ _ H Q I h=>HA ⟨[],H,I,.nil,h⟩
theorem ax(f:PE X e te)(d:PA X es t)(c: ~~~(h_ (e::es) X.env=(b_,Di e X.env)::h_ es X.env)):PA X (e::es) (aM te t):=by intro pos pins s σ H Q I h;rw[c];show CT _ _ (spliced ((b_,Di e X.env)::DB pos (h_ es X.env))) _ _ s;refine GB (thn (f pins s σ H _ I h) λu U J=>?_);obtain⟨x,H1,i,Y,b⟩:=J;refine thn (d pos pins U σ H1 _ i b) λus j J=>?_;obtain⟨xs,H2,g,r2,a⟩:=J;exact⟨x::xs,H2,g,.cons Y r2,a⟩
noncomputable def tTup(t:TA):TE:=λσ H Q=>t σ H λxs H1=>xs.length<=m_/\∀p,H1 p=d_->Q (.ref p) (upd H1 p (.tup xs))
noncomputable def AA(t:TA):TE:=λσ H Q=>t σ H λxs H1=>xs.length<=m_/\∀p,H1 p=d_->Q (.ref p) (upd H1 p (.lst xs))
theorem pe_tup{Y}(h:PA X es t):PE X (.Tuple es Y pos) (tTup t):=by
 intro pins s σ H Q I a;refine wpAny_Tuple_spliced (thn (h pos pins s σ H _ I a) λus J c=>?_);obtain⟨xs,H1,U,r,z,q⟩:=c;refine⟨by rw[<- r.length];exact z,?_⟩
 have d:H1 J.heap.objs.size=d_:=U.hok.fresh (u_ _);refine⟨.ref J.heap.objs.size,upd H1 J.heap.objs.size (.tup xs),U.laid (t':=J.toks) (λb u e=>t_ _ e) (u_ _) ?_,rfl,q _ d⟩
 exact⟨z,us,r,⟨_,Df _ rfl,rfl,_,rfl⟩⟩
theorem mH(h:PA X es t):PE X (.List es pos) (AA t):=by
 intro pins s σ H Q I Y;refine wpAny_List_spliced (thn (h pos pins s σ H _ I Y) λus J a=>?_);obtain⟨xs,H1,U,r,z,q⟩:=a;refine⟨by rw[<- r.length];exact z,?_⟩
 have c:H1 J.heap.objs.size=d_:=U.hok.fresh (u_ _);refine⟨.ref J.heap.objs.size,upd H1 J.heap.objs.size (.lst xs),U.laid (t':=J.toks) (λb u e=>t_ _ e) (u_ _) ?_,rfl,q _ c⟩
 exact⟨z,us,0,r,Df _ rfl⟩
abbrev Sp:=List V->Hp->VK->XK->Prop
variable{sp:Sp}
abbrev CXT:=List Iq->Hp->x_->XK->Vp
variable{CX:CXT}
structure Env0(P:Ec)(w:Ek)(K:Fg)(mg:Mq)(base:DR)(A:Fm)(outer:List Iq)(s:x_)(H:Hp):Prop where
 frames:A.frames=a_ outer
 mod:Mod K mg base
 bs:∀b o,base.get? b=a_ o->s.heap.get? b=a_ o/\H b=d_
 bsz:base.objs.size<=s.heap.objs.size
 uU:s.heap.FunFrames base outer
 frf:∀b∈frs outer,H b=d_
 hok:HOk P w H s.heap
 bare:G1 s.gens
noncomputable def CE(outer:List Iq)(P:Ec)(w:Ek)(H:Hp)(s:x_)(Q:VK)(u:j_)(s':x_):Prop:=
 ∃v H',s'.os=s.os/\G1 s'.gens/\Un (frs outer) [] H H' s.heap s'.heap/\HOk P w H' s'.heap/\RelV v u/\Q v H'
noncomputable def CR(CX:CXT)(outer:List Iq)(P:Ec)(w:Ek)(H:Hp)(s:x_)(Q:VK)(E:XK)(r:JY)(s':x_):Prop:=
 match r with
 |.ok (.ret u)=>CE outer P w H s Q u s'|.ok _=>False|.error e=>CX outer H s E e s'
structure eZ(P:Ec)(w:Ek)(K:Fg)(mg:Mq)(base:DR)(CX:CXT)(k:Nat)(f:g_)(fd:EJ)(ps:List o_)(sp:Sp):Prop where
 len:∀vs H Q E,sp vs H Q E->vs.length=ps.length
 run:∀(A:Fm) (outer:List Iq) (s:x_) (H:Hp) (args:Args) (us:List j_) (vs:List V) (Q:VK) (E:XK),fV k A->Env0 P w K mg base A outer s H->HI s fd args (ps.zip us)->Vals vs us->sp vs H Q E ->
  Gk (Dd P w) A (.call (.ref f) args) (CR CX outer P w H s Q E) s
theorem Env0.make{base:DR}(e:Env0 P w K mg base A outer s H)(C:g_)(us:List j_)(kw:List (o_×j_)):
  Env0 P w K mg base (A.under (.builtin "type.__call__" ⟨.ref C::us,kw⟩)) outer s H:=⟨by first|exact e.frames|(simpa[Around.under,Code.envs,Code.isFrame,pushEnvs] using e.frames),e.mod,e.bs,e.bsz,e.uU,e.frf,e.hok,e.bare⟩
theorem Inv.env0(I:Inv X pins σ H s):Env0 X.prog X.w X.K X.mg X.base X.A X.stack s H:=
 ⟨I.ok.frames,I.ok.mod,I.bs,Dz I.ok.bsz I.sz,I.stack,I.AG,I.hok,I.bare⟩
theorem Inv.after{Q:VK}(I:Inv X pins σ H s)(h:CE X.stack X.prog X.w H s Q u s'):EP X pins σ Q u s':=by obtain⟨v,H',os,J,a,Y,r,q⟩:=h;obtain⟨hh,g,d,t,U⟩:=s';obtain rfl:U=s.os:=os;exact⟨v,H',I.call (h':=hh) (g':=g) (d':=d) (t':=t) (ch:=[]) a Y J (λb z=>Dc z (by simp)),r,q⟩
noncomputable def eY(sp:Sp)(dvs:List V)(E:XK)(t:TA):TE:=λσ H Q=>t σ H λvs H1=>sp (vs++dvs) H1 Q E
noncomputable def pU(C:g_)(m:o_)(sp:Sp)(dvs:List V)(E:XK)(ta:TE)(t:TA):TE:=λσ H Q=>ta σ H λx H1=>∃a dx fs,x=.ref a/\H1 a=a_ (.ins C dx fs)/\fs.lookup m=d_ /\
 t σ H1 λvs H2=>sp (x::(vs++dvs)) H2 Q E
noncomputable def uc(C:g_)(sp:Sp)(dvs:List V)(E:XK)(t:TA):TE:=λσ H Q=>t σ H λvs H1=>∀x dx,H1 x=d_->H1 dx=d_->dx≠x ->
 sp (.ref x::(vs++dvs)) (upd (upd H1 dx (.own x)) x (.ins C dx [])) (λv H2=>v=.non/\Q (.ref x) H2) E
noncomputable def Binds(K:Fg)(fd:EJ)(ps:List o_)(ds:List j_):Prop:=
 ∀(s:x_) (us:List j_),K.In s.heap->(us++ds).length=ps.length->HI s fd ⟨us,[]⟩ (ps.zip (us++ds))
theorem Binds.all(h:∀us:List j_,us.length=ps.length->Hx fd ⟨us,[]⟩=EY (ps.zip us)):Binds K fd ps []:=λs us _ I=>by rw[Ft]at I ⊢;exact .of_eq (h us I)
noncomputable def Passes(CX:CXT)(X:Cx)(E:XK):Prop:=∀(pins:Pn) (σ:St) (H:Hp) (s:x_) (e:j_) (s':x_),Inv X pins σ H s->CX X.stack H s E e s'->X.xe e s'
section
variable{f:g_}{dvs:List V}{ds:List j_}{E:XK}{apos:Pos}{o:Ed} 
theorem xT{Q:VK}(F:eZ X.prog X.w X.K X.mg X.base CX k f fd ps sp)(Y:fV k X.A)(b:Binds X.K fd ps ds)(hd:Vals dvs ds)(U:Passes CX X E)(I:Inv X pins σ H s)(r:Vals vs us)(h:sp (vs++dvs) H Q E):CT (Dd X.prog X.w) X.A (Gn (.ref f) us) (EP X pins σ Q) X.xe s:=by
 have r2:Vals (vs++dvs) (us++ds):=r.append hd;have a:(us++ds).length=ps.length:=by rw[<- r2.length];exact F.len _ _ _ _ h
 refine GR (EM (F.run X.A X.stack s H ⟨us,[]⟩ (us++ds) (vs++dvs) Q E Y I.env0 (b s us I.kIn a) r2 h) λr s' J=>?_);cases r with
 |error e=>exact U pins σ H s e s' I J|ok fl=>
  cases fl with
  |ret u=>exact I.after J|next=>exact DV J|brk=>exact DV J|cont=>exact DV J
theorem iu(F:eZ X.prog X.w X.K X.mg X.base CX k f fd ps sp)(b:fV k X.A)(i:Gl X x)(d:X.mg x=a_ (.ref f))(g:Fh X.K (.ref f)=e_)(l:Binds X.K fd ps ds)(hd:Vals dvs ds)(a:Passes CX X E)(m:PA X (e::es) t)(U:((x==("__debug__":o_))=b_)⁻¹)(j: ~~~(h_ (e::es) X.env=(b_,Di e X.env)::h_ es X.env))(J: ~~~((DB pos (h_ es X.env)).any (·.1)=b_)):
  PE X (.Call (.Name x p) (e::es) [] pos) (eY sp dvs E t):=by
 intro pins s σ H Q I h;refine El (gq I i d ?_ U);refine Gu (h₀:=X.base) I.ok.mod.kin g (thn (m pos pins s σ H _ I h) λus n c=>?_) j J;obtain⟨vs,H1,Y,r,q⟩:=c;refine⟨Y.kIn,?_⟩
 exact xT F b l hd a Y r q
theorem wo(z:PE X o ta)(c:Cls X.K C)(d:Meth X.K C m f)(F:eZ X.prog X.w X.K X.mg X.base CX k f fd ps sp)(y:fV k X.A)(A:Binds X.K fd ps ds)(hd:Vals dvs ds)(v:Passes CX X E)(B:PA X (e::es) t)(J: ~~~(h_ (e::es) X.env=(b_,Di e X.env)::h_ es X.env))(U: ~~~((DB pos (h_ es X.env)).any (·.1)=b_))(w: ~~~(Di (.Call (.Attribute o m apos) (e::es) [] pos) X.env=(do
   let b <- Di o X.env
   Ib apos.atName
   let (f,first) <- Ic [b] (G6 b m pl)
   Hw pos f first (DB pos (h_ (e::es) X.env)) (EX pos (D_ [] X.env))))):
  PE X (.Call (.Attribute o m apos) (e::es) [] pos) (pU C m sp dvs E ta t):=by
 intro pins s σ H Q I h;refine F8 (pl:=pl) (thn (z pins s σ H _ I h) λu j Y=>?_) w;obtain⟨x,H1,i,n,a,dx,fs,ex,D,l,q⟩:=Y;subst ex;obtain rfl:u=CU a:=n;refine m7 i D c d l ?_;refine Gu (first:=[.ref a]) (h₀:=X.base) I.ok.mod.kin d.kp (thn (B pos pins j σ H1 _ i q) λus G Y=>?_) J U;obtain⟨vs,H2,g,r,p⟩:=Y;refine⟨g.kIn,?_⟩
 exact xT (us:=.ref a::us) (vs:=.ref a::vs) F y A hd v g (.cons rfl r) p
theorem sv(j:PE X o ta)(c:Cls X.K C)(Y:Meth X.K C m f)(F:eZ X.prog X.w X.K X.mg X.base CX k f fd ps sp)(g:fV k X.A)(n:Binds X.K fd ps ds)(hd:Vals dvs ds)(d:Passes CX X E)(e: ~~~(Di (.Call (.Attribute o m apos) [] [] pos) X.env=(do
   let U <- Di o X.env
   Ib apos.atName
   let (f,first) <- Ic [U] (G6 U m pl)
   Hw pos f first (DB pos (h_ [] X.env)) (EX pos (D_ [] X.env))))):
  PE X (.Call (.Attribute o m apos) [] [] pos) (pU C m sp dvs E ta dR):=by
 intro pins s σ H Q I h;refine F8 (pl:=pl) (thn (j pins s σ H _ I h) λu r i=>?_) e;obtain⟨x,H1,J,b,a,dx,fs,ex,p,l,q⟩:=i;subst ex;obtain rfl:u=CU a:=b;refine m7 J p c Y l ?_;exact IW (first:=[.ref a]) J.kIn Y.kp (xT (us:=[.ref a]) (vs:=[.ref a]) F g n hd d J (.cons rfl .nil) q)
structure Mk(K:Fg)(C f:g_):Prop where
 makes:JX K C=e_
 init:C_ K (.ref C) "__init__"=a_ (a_ (.ref f))
 fn:isFn K (.ref f)=e_
 kp:Fh K (.ref C)=e_
theorem xS{Q:VK}(M:Mk X.K C f)(F:eZ X.prog X.w X.K X.mg X.base CX k f fd ps sp)(d:fV (k+1) X.A)(i:Binds X.K fd ps ds)(hd:Vals dvs ds)(c:Passes CX X E)(I:Inv X pins σ H s)(r:Vals vs us)(h:∀x dx,H x=d_->H dx=d_->dx≠x->sp (.ref x::(vs++dvs)) (upd (upd H dx (.own x)) x (.ins C dx [])) (λv H2=>v=.non/\Q (.ref x) H2) E):
  CT (Dd X.prog X.w) X.A (Gn (.ref C) us) (EP X pins σ Q) X.xe s:=by
 have Y:=h (s.heap.objs.size+1) s.heap.objs.size (I.hok.fresh (DF _)) (I.hok.fresh (u_ _)) (Dx (FP _));have U:=Inv.made (C:=C) I;have r2:Vals (V.ref (s.heap.objs.size+1)::(vs++dvs)) (CU (s.heap.objs.size+1)::(us++ds)):=.cons rfl (r.append hd);have g:(CU (s.heap.objs.size+1)::us++ds).length=ps.length:=by have e:=r2.length;rw[F.len _ _ _ _ Y]at e;exact e.symm
 refine GR (yh (f:=f) I.kIn M.makes M.init (Et.mp M.fn) (EM (F.run _ X.stack _ _ ⟨CU (s.heap.objs.size+1)::us,[]⟩ (CU (s.heap.objs.size+1)::(us++ds)) _ _ E (d.make C us [])
  (U.env0.make C us []) (i _ (CU (s.heap.objs.size+1)::us) U.kIn g) r2 Y) λr s' J=>?_))
 cases r with
 |error e=>exact c pins σ _ _ e s' U J|ok fl=>
  cases fl with
  |ret u=>obtain⟨v,H',l,a,j,b⟩:=U.after J;subst j;exact⟨a,⟨V.ref (s.heap.objs.size+1),H',l,rfl,b⟩⟩
  |next=>exact DV J|brk=>exact DV J|cont=>exact DV J
theorem sx(M:Mk X.K C f)(F:eZ X.prog X.w X.K X.mg X.base CX k f fd ps sp)(b:fV (k+1) X.A)(g:Gl X x)(d:X.mg x=a_ (.ref C))(j:Binds X.K fd ps ds)(hd:Vals dvs ds)(a:Passes CX X E)(l:PA X (e::es) t)(U:((x==("__debug__":o_))=b_)⁻¹)(i: ~~~(h_ (e::es) X.env=(b_,Di e X.env)::h_ es X.env))(J: ~~~((DB pos (h_ es X.env)).any (·.1)=b_)):
  PE X (.Call (.Name x p) (e::es) [] pos) (uc C sp dvs E t):=by
 intro pins s σ H Q I h;refine El (gq I g d ?_ U);refine Gu (h₀:=X.base) I.ok.mod.kin M.kp (thn (l pos pins s σ H _ I h) λus m c=>?_) i J;obtain⟨vs,H1,Y,r,q⟩:=c;refine⟨Y.kIn,?_⟩
 exact xS M F b j hd a Y r q
theorem pe_make0(M:Mk X.K C f)(F:eZ X.prog X.w X.K X.mg X.base CX k f fd ps sp)(Y:fV (k+1) X.A)(b:Gl X x)(a:X.mg x=a_ (.ref C))(c:Binds X.K fd ps ds)(hd:Vals dvs ds)(U:Passes CX X E)(J:((x==("__debug__":o_))=b_)⁻¹):PE X (.Call (.Name x p) [] [] pos) (uc C sp dvs E dR):=by intro pins s σ H Q I h;refine El (gq I b a ?_ J);exact IW I.kIn M.kp (xS (us:=[]) M F Y c hd U I .nil h)
end
structure eA(N P:List o_)(sc:Ij):Prop where
 kind:sc.kind=.function
 co:sc.isCoroutine=b_
 gen:sc.isGenerator=b_
 nd:N.Nodup
 pre:N.take P.length=P
 par:∀x∈P,sc.names.lookup x=a_ .local\/sc.names.lookup x=a_ .cell
 nofree:∀y∈sc.names,y.2≠.free
theorem vq{J:o_->Option FE}{x:o_}:∀{I:List (o_×j_)} {m:Mq},(∀v,(x,v)∉I)->JI J I m x=m x
 |[],_,_=>rfl|(n,v)::r,m,h=>by
  unfold JI;rw[vq λw hw=>h w (Dl _ hw)];split
  ·have:x≠n:=by rintro rfl;exact h v DO
   simp[this]
  ·rfl
theorem vx{J:o_->Option FE}{x:o_}:∀{I:List (o_×j_)} {m:Mq},(∀v,(x,v)∉I)->JJ J I m x=m x
 |[],_,_=>rfl|(n,v)::r,m,h=>by
  unfold JJ;rw[vx λw hw=>h w (Dl _ hw)];split
  ·rfl
  ·have:x≠n:=by rintro rfl;exact h v DO
   simp[this]
theorem vv{I:o_->Option FE}{x:o_}{v:j_}:∀{P:List o_} {vs:List j_} {i:Nat} {m:Mq},P.Nodup->P[i]?=a_ x->vs[i]?=a_ v->I x=a_ .local ->
  JI I (P.zip vs) m x=a_ v
 |[],_,_,_,_,h,_,_=>by simp at h|_::_,[],_,_,_,_,h,_=>by simp at h|p::P,w::vs,0,m,J,h1,h2,U=>by simp at h1 h2;subst h1;subst h2;show JI I ((p,w)::P.zip vs) m p=_;unfold JI;rw[vq λv hv=>(Gq.mp J).1 (H_ hv).1,i_ U];simp|p::P,w::vs,i+1,m,J,h1,h2,U=>by show JI I ((p,w)::P.zip vs) m x=_;unfold JI;exact vv (i:=i) (Gq.mp J).2 (by simpa using h1) (by simpa using h2) U
theorem vy{I:o_->Option FE}{x:o_}{v:j_}:∀{P:List o_} {vs:List j_} {i:Nat} {m:Mq},P.Nodup->P[i]?=a_ x->vs[i]?=a_ v->I x≠a_ .local ->
  JJ I (P.zip vs) m x=a_ v
 |[],_,_,_,_,h,_,_=>by simp at h|_::_,[],_,_,_,_,h,_=>by simp at h|p::P,w::vs,0,m,J,h1,h2,U=>by simp at h1 h2;subst h1;subst h2;show JJ I ((p,w)::P.zip vs) m p=_;unfold JJ;rw[vx λv hv=>(Gq.mp J).1 (H_ hv).1,l_ U];simp|p::P,w::vs,i+1,m,J,h1,h2,U=>by show JJ I ((p,w)::P.zip vs) m x=_;unfold JJ;exact vy (i:=i) (Gq.mp J).2 (by simpa using h1) (by simpa using h2) U
noncomputable def start(N:List o_)(vs:List V):St:=vs.map a_++D7 (N.length-vs.length) d_
noncomputable def tM(CX:CXT)(P:Ec)(w:Ek)(K:Fg)(mg:Mq)(base:DR)(N:List o_)(qual:o_)(scope:Ij)(f:g_)(cd:j_)(A:Fm)(outer:List Iq)(s:x_)(H:Hp)(E:XK):Cx where
 prog:=P
 w:=w
 K:=K
 mg:=mg
 base:=base
 A:=A.deeper (Fn qual scope s.heap.objs.size f cd)
 N:=N
 s₀:=s
 H₀:=H
 env:=Fn qual scope s.heap.objs.size f cd
 outer:=outer
 stack:=Fn qual scope s.heap.objs.size f cd::outer
 ex:=[]
 calm:=e_
 fn:=λ_=>e_
 pn:=[]
 xe:=λe s'=>CT (Dd P w) (A.deeper (Fn qual scope s.heap.objs.size f cd)) (KD (Fn qual scope s.heap.objs.size f cd) e) (λ_ I=>CX outer H s E e I) (λJ I=>CX outer H s E J I) s'
theorem yA{sc:Ij}(h:sc.names.lookup x=a_ .cell):∃c,(En n sc.names []).lookup x=a_ c:=by have q:=Fi sc.names n [] (.inl h);exact Ey.mp q
theorem BB{base:DR}{f:g_}{cd:j_}{d:x_}{E:XK}(S:eA N ps scope)(hd:A.handled=d_)(e0:Env0 P w K mg base A outer s H)(t:vs.length=ps.length)(r:Vals vs us)(x:InCallC s s.heap.objs.size (JI (Fn qual scope s.heap.objs.size f cd).kindOf (ps.zip us) λ_=>d_) (En (s.heap.objs.size+1) scope.names []) (JJ (Fn qual scope s.heap.objs.size f cd).kindOf (ps.zip us) λ_=>d_) d):
  Inv (tM CX P w K mg base N qual scope f cd A outer s H E) [] (start N vs) H d:=by
 have m:ps.length<=N.length:=by have:=FT Jp S.pre;rw[Gi]at this;omega
 obtain⟨h1,tk,rfl,j⟩:=x.done;have I:∀b:g_,b∉(tM CX P w K mg base N qual scope f cd A outer s H E).ex:=λb z=>Dc (show b∈([]:List g_)from z) (by simp);refine⟨⟨e0.mod,S.kind,rfl,rfl,u_ _,λy z c h1 h2=>?_,λy J=>?_,λy c _ h=>?_,λ_=>hd,Around.frames_deeper e0.frames,.inr ⟨rfl,rfl⟩,λb z=>Dc z (I b),e0.bs,e0.bsz,λb _ _=>I b,λb z=>Dc z (I b),e0.uU,e0.frf⟩,
  rfl,e0.bare,Un.kept j,⟨_,x.toInCall.ns,λi y v h1 h2 B=>?_⟩,λy c h=>⟨_,x.cell y c h⟩,e0.hok.fresh (u_ _),λy c h=>?_,λp Y=>Dc (show p∈([]:Pn)from Y) (by simp),e0.hok.kept j,?_⟩
 ·exact name_of_addr x.apart (Ea h1) (Ea h2)
 ·have J:scope.names.lookup y=a_ .cell\/scope.names.lookup y=a_ .free:=J;rcases J with J|J
  ·exact yA J
  ·exact Dc rfl (S.nofree _ (Ea J))
 ·exact GC (x.above y c (Ea h))
 ·have hi:i<vs.length:=by
   unfold start at h2;by_cases hi:i<vs.length
   ·exact hi
   ·rw[FH (by simpa using hi)]at h2;rw[FX]at h2;split at h2<;>cases h2
  have o:vs[i]?=a_ v:=by
   unfold start at h2;rw[EW (by simpa using hi),Ee]at h2;cases e:vs[i]? with
   |none=>rw[e]at h2;cases h2|some a=>rw[e]at h2;cases h2;rfl
  obtain⟨u,g,l⟩:=r.get o;have Y:ps[i]?=a_ y:=by rw[<- S.pre,List.getElem?_take_of_lt (by omega)];exact h1
  have U:ps.Nodup:=by rw[<- S.pre];exact S.nd.sublist (List.take_sublist _ _)
  refine⟨u,l,?_⟩
  rcases S.par y (D8 Y)with k|k
  ·exact .inl ⟨k,vv U Y g k⟩
  ·obtain⟨c,e⟩:=yA (n:=s.heap.objs.size+1) k;refine .inr ⟨.inl k,c,e,?_⟩;have q:=x.cell y c e;rw[vy U Y g (by show scope.names.lookup y≠_;rw[k];decide)]at q;exact q
 ·exact e0.hok.fresh (GC (x.above y c (Ea h)))
 ·unfold start;show _=N.length;rw[CV,y_,Ew];omega
theorem fn_of{base:DR}{f:g_}{U:Arguments}{z kV doc pm cdv ct oc:j_}{an od:Option g_}{osl:Array (Option j_)}(D:K.lookup f=a_ ⟨oc,od,.func (HM name qual U body scope z kV doc pm an cdv ct),osl⟩)(m:IC K cdv qual=e_)(S:eA N ps scope)(d:∀vs H Q E,sp vs H Q E->vs.length=ps.length)(a:∀(A:Fm) (outer:List Iq) (s:x_) (H:Hp) (vs:List V) (Q:VK) (E:XK),fV k (A.deeper (Fn qual scope s.heap.objs.size f cdv))->sp vs H Q E ->
   ∃t,PSs (tM CX P w K mg base N qual scope f cdv A outer s H E) body t/\t {nx:=λ_ H'=>Q .non H',rt:=Q} (start N vs) H):
  eZ P w K mg base CX (k+1) f (HM name qual U body scope z kV doc pm an cdv ct) ps sp:=by
 refine⟨d,λA outer s H B us vs Q E l e0 T r g=>?_⟩
 have O:=d _ _ _ _ g;have C:K.In s.heap:=e0.mod.kin.keeps λb o e=>(e0.bs b o e).1;have j:s.heap.NoLimit:=e0.mod.nolimit.keeps λb o e=>(e0.bs b o e).1;have Y:∀y∈ps.zip us,scope.names.lookup y.1=a_ .local\/(scope.names.lookup y.1=a_ .cell/\((En (s.heap.objs.size+1) scope.names []).lookup y.1).isSome=e_):=λ⟨n,v⟩ F=>by
  rcases S.par n (H_ F).1 with q|q
  ·exact .inl q
  ·exact .inr ⟨q,Fi _ _ _ (.inl q)⟩
 refine codeAny_call_function l.depth (C _ _ D) rfl S.co S.gen rfl (PySem.W.codeRec_of C m) (T _ _ _ _ ?_);refine wpAny_newFunctionEnv_cells S.kind Y λenv R p x=>?_;subst R;refine⟨j.keeps x.toInCall.keep,codeAny_func ?_⟩
 obtain⟨t,G,L⟩:=a A outer s H vs Q E (l.deeper _) g;have I:Inv (tM CX P w K mg base N qual scope f cdv A outer s H E) [] (start N vs) H p:=BB S l.hd e0 O r x;refine D1 (G [] p (start N vs) H _ I L) (λfl s' c=>?_) λe s' c=>c;have h:∀{σ':St} {H':Hp} {v:V} {u:j_},Inv (tM CX P w K mg base N qual scope f cdv A outer s H E) [] σ' H' s'->RelV v u->Q v H'->CE outer P w H s Q u s':=
  λ{σ' H' v u} J i q=>⟨v,H',J.os,J.bare,J.base,J.hok,i,q⟩
 cases fl with
 |ret u=>obtain⟨v,σ',H',J,i,q⟩:=c;exact h J i q
 |next=>obtain⟨σ',H',J,q⟩:=c;exact h (v:=V.non) (u:=FD) J rfl q
 |brk=>obtain⟨_,_,_,q⟩:=c;exact DV q
 |cont=>obtain⟨_,_,_,q⟩:=c;exact DV q
section
variable{id T:String}{r:List V->Hp->VK->Prop}
noncomputable def tCB(r:List V->Hp->VK->Prop)(t:TA):TE:=λσ H Q=>t σ H λvs H1=>r vs H1 Q
theorem gw(j:gm X (.builtin id) r)(g:Gl X x)(f:X.mg x=d_)(hv:EO x=a_ (.builtin id))(k:PA X (e::es) t)(d:(x≠"__name__")⁻¹)(U:((x==("__debug__":o_))=b_)⁻¹)(i: ~~~(h_ (e::es) X.env=(b_,Di e X.env)::h_ es X.env))(J: ~~~((DB pos (h_ es X.env)).any (·.1)=b_)):PE X (.Call (.Name x p) (e::es) [] pos) (tCB r t):=by intro pins s σ H Q I h;refine El (qT I g f hv ?_ d U);refine PyProof.Rows.callWith_builtin1 (thn (k pos pins s σ H _ I h) λus Y c=>?_) i J;obtain⟨vs,H1,l,a,b⟩:=c;exact j pins Y σ H1 vs us Q l a b
theorem j4(j:gm X (.type T) r)(g:Gl X x)(f:X.mg x=d_)(hv:EO x=a_ (.type T))(k:PA X (e::es) t)(d:(x≠"__name__")⁻¹)(U:((x==("__debug__":o_))=b_)⁻¹)(i: ~~~(h_ (e::es) X.env=(b_,Di e X.env)::h_ es X.env))(J: ~~~((DB pos (h_ es X.env)).any (·.1)=b_)):PE X (.Call (.Name x p) (e::es) [] pos) (tCB r t):=by intro pins s σ H Q I h;refine El (qT I g f hv ?_ d U);refine Gb (thn (k pos pins s σ H _ I h) λus Y c=>?_) i J;obtain⟨vs,H1,l,a,b⟩:=c;exact j pins Y σ H1 vs us Q l a b
end
end L2
namespace HT
open PySem PyProof.Rows
section
open PySem.SeqAt
open PySem.AutoSeq1 (wpAny_loadPart')
open PySem.MeetsSeq PySem.MeetsSeq2 PySem.MeetsSeq3
end
section
variable{prog:Ec}{w:Ek}{A:Fm}{E:Vp}{s:x_}
theorem cat_tup{t b:g_}{vs ws:List j_}{Q:Vp}(i:KS s.heap t vs.toArray)(j:KS s.heap b ws.toArray)(hv:vs≠[])(h1:ws=[]->Q (.ref t) s)(h2:ws≠[]->Q (.ref s.heap.objs.size) {s with heap:=s.heap.push {cls:=.type "tuple",data:=.seq (vs++ws).toArray}})(hsz:vs.length+ws.length<=m_):CT (Dd prog w) A (EI .Add (.ref t) (.ref b)) Q E s:=by
 obtain⟨⟨cls,dd,data,f⟩,c,g,n,hd⟩:=id i;obtain⟨⟨h,a,d,J⟩,I,Y,n2,U⟩:=id j;simp only at g hd Y U;subst g hd Y U;have e:vs.toArray++ws.toArray=(vs++ws).toArray:=by simp
 by_cases hw:ws=[]
 ·exact Ie ⟨_,c,rfl⟩ ⟨_,I,rfl⟩ Iw Jt GS GN (GJ _ _)
   (tuple_addW1 t b vs.toArray ws.toArray n n2 dd a f J (by simpa using hv) (by simp[hw])) ⟨c,I,h1 hw⟩
 ·refine Ie ⟨_,c,rfl⟩ ⟨_,I,rfl⟩ Iw Jt GS GN (GJ _ _)
   (tuple_addW2 t b vs.toArray ws.toArray n n2 dd a f J (by simpa using hv) (by simpa using hw) (by rw[B_,B_];exact hsz)) ⟨c,I,?_⟩
  rw[e];exact h2 hw
noncomputable def sIx(n d:Nat):Option Int->Nat
 |none=>d|some v=>if v<0 then(v+(n:Int)).toNat else min v.toNat n
theorem sIx_le(n d:Nat)(hd:d<=n)(o:Option Int):sIx n d o<=n:=by
 cases o with
 |none=>exact hd|some v=>
  show(if v<0 then(v+(n:Int)).toNat else min v.toNat n)<=n;by_cases hv:v<0
  ·rw[i_ hv];omega
  ·rw[l_ hv];exact Nat.min_le_right _ _
theorem Cp(v:Int)(n d:Nat):(if v<0 then max (v+(n:Int)) 0 else min v (n:Int))=((sIx n d (a_ v):Nat):Int):=by
 show(if v<0 then max (v+(n:Int)) 0 else min v (n:Int))=(((if v<0 then(v+(n:Int)).toNat else min v.toNat n):Nat):Int)
 by_cases hv:v<0
 ·simp only[i_ hv];omega
 ·simp only[l_ hv];omega
theorem A4(lo hi:Option Int)(n:Nat):Gm lo hi 1 (n:Int)=(((sIx n 0 lo:Nat):Int),((sIx n n hi:Nat):Int)):=by
 have h1:¬((1:Int)<0):=by omega
 unfold Gm;simp only[h1,if_false];refine Prod.ext ?_ ?_
 ·cases lo with
  |none=>rfl|some v=>exact Cp v n 0
 ·cases hi with
  |none=>rfl|some v=>exact Cp v n n
theorem zg(i j:Nat):Fs (i:Int) (j:Int) 1=j-i:=by
 unfold Fs;have h1:(1:Int)>0:=by omega
 simp only[h1,IF,Int.ediv_one];split<;>omega
theorem qM{v:j_}{o:Option Int}{Q:Option Int->x_->Prop}(p:ID v o)(h:Q o s):CT (Dd prog w) A (K9 v) Q E s:=by
 cases p with
 |none=>exact slicePart_none h|int i t=>exact slicePart_int h
theorem mW{a:g_}{Y U:j_}{lo hi:Option Int}{n:Nat}{Q:Int×Int×Nat->x_->Prop}(c:s.heap.IsSliceOf a Y U .none)(pl:ID Y lo)(b:ID U hi)(h:Q (((sIx n 0 lo:Nat):Int),1,sIx n n hi-sIx n 0 lo) s):CT (Dd prog w) A (Hr (.ref a) (EY (n:Int))) Q E s:=by obtain⟨os,I,d,J⟩:=id c;unfold Hr K_;refine p_ (p_ (Ga I J (x:=Y) rfl (p_ (Ga I J (x:=U) rfl (p_ (Ga I J (x:=.none) rfl (Cb ?_)))))));refine p_ (slicePart_none ?_);show CT _ _ (if ((1:Int)==0)=e_ then _ else _) _ _ s;rw[l_ (by decide)];refine p_ (qM pl (p_ (qM b (p_ (Cb ?_)))));show CT _ _ (match Gm lo hi 1 (n:Int)with|(lo,hi)=>EY (lo,(1:Int),Fs lo hi 1)) _ _ s;rw[A4 lo hi n];show CT _ _ (EY (((sIx n 0 lo:Nat):Int),(1:Int),Fs ((sIx n 0 lo:Nat):Int) ((sIx n n hi:Nat):Int) 1)) _ _ s;rw[zg];exact Cb h
theorem pick_gen(xs:Array j_)(i k:Nat):((DY k).filterMap λ(m:Nat)=>xs[((i:Int)+(m:Int)*1).toNat]?).toArray=((xs.toList.drop i).take k).toArray:=by
 have e:(λ(m:Nat)=>xs[((i:Int)+(m:Int)*1).toNat]?)=λm=>xs[i+m]?:=by
  funext m
  have:((i:Int)+(m:Int)*1).toNat=i+m:=by omega
  rw[this]
 rw[e];have:=pick_run xs i k;rw[List.filterMap_map]at this;have e2:((λx=>xs[x]?)∘λx=>i+x)=λm=>xs[i+m]?:=rfl;rw[e2]at this;rw[this]
theorem m8{t U:g_}{I:Array j_}{e d:j_}{lo hi:Option Int}{Q:Vp}(J:KS s.heap t I)(f:s.heap.IsSliceOf U e d .none)(pl:ID e lo)(g:ID d hi)(hw:¬(sIx I.size 0 lo=0/\sIx I.size I.size hi=I.size))(h:Q (.ref s.heap.objs.size) {s with heap:=s.heap.push {cls:=.type "tuple",data:=.seq ((I.toList.drop (sIx I.size 0 lo)).take (sIx I.size I.size hi-sIx I.size 0 lo)).toArray}})(hsz:I.size<=m_):CT (Dd prog w) A (JU (.ref t) (.ref U)) Q E s:=by
 have htake:sizeOk (.seq ((I.toList.drop (sIx I.size 0 lo)).take (sIx I.size I.size hi-sIx I.size 0 lo)).toArray):=by show((I.toList.drop (sIx I.size 0 lo)).take (sIx I.size I.size hi-sIx I.size 0 lo)).toArray.size<=m_;rw[B_,Gi,HU,EF];omega
 have l:sIx I.size I.size hi<=I.size:=sIx_le _ _ (u_ _) hi;obtain⟨os,Y,b,i⟩:=id f;have c:s.TypeIs (.ref U) "slice":=⟨os,Y,b⟩
 unfold JU
 try with_reducible refine HP ?_
 first|refine p_ (Cb ?_)|skip
 refine p_ (wpAny_sequenceKey J.typeIs (by decide) ?_);refine p_ (wpAny_callSpecial?_slot (name:=c_ "__getitem__") J.typeIs Fo
  (KZ Fo J.typeIs entry_tuple_getitem ?_ (args_tuple_getitem _ _)))
 show CT _ _ (K7 (.ref t) >>= _) _ _ s;refine p_ (tupleItemsOf_ J ?_);refine p_ (wpAny_typeOf c ?_);rw[i_ (by decide)];refine p_ (mW f pl g ?_);have a:¬((((sIx I.size 0 lo:Nat):Int)==0&&(1:Int)==1&&(sIx I.size I.size hi-sIx I.size 0 lo)==I.size)=e_):=by intro q;rw[n_,n_]at q;have k:((sIx I.size 0 lo:Nat):Int)=0:=EU q.1.1;have j:sIx I.size I.size hi-sIx I.size 0 lo=I.size:=EU q.2;exact hw ⟨by omega,by omega⟩
 show CT _ _ (if (((sIx I.size 0 lo:Nat):Int)==0&&(1:Int)==1&&(sIx I.size I.size hi-sIx I.size 0 lo)==I.size)=e_ then _ else _) _ _ s;rw[l_ a,pick_gen]
 first
  |exact p_ (m:=K8 _) (Ia (Cb ⟨_,rfl,Cb h⟩) htake)
  |exact wpAny_bind (m:=Builtin.Tuple.tupleExact _) (wpAny_newObj_type (wpAny_bind (wpAny_pure (wpAny_pure ⟨_,rfl,wpAny_pure h⟩))) htake)
  |exact wpAny_bind (wpAny_bind (m:=Builtin.Tuple.tupleExact _) (wpAny_newObj_type (wpAny_pure (wpAny_pure ⟨_,rfl,wpAny_pure h⟩)) htake))
  |exact wpAny_bind (wpAny_bind (m:=Builtin.Tuple.tupleExact _) (wpAny_newObj_type (wpAny_pure ⟨_,rfl,wpAny_pure h⟩) htake))
end
end HT
namespace L2
open PySem PySem.Spec PyProof.Rows
variable{X:Cx}{e:Ed}{pos:Pos}{r:V->Option Int->Option Int->Hp->VK->Prop}{us its:List j_}{α:Type}{n:Nat}{i:Int}{pins:Pn}{σ:St}{H:Hp}{s:x_}{T:String}{x:V}
abbrev TO:=St->Hp->(Option Int->Hp->Prop)->Prop
noncomputable def PO(X:Cx)(e:Option Ed)(t:TO):Prop:=
 ∀(pins:Pn) (s:x_) (σ:St) (H:Hp) (Q:Option Int->Hp->Prop),Inv X pins σ H s->t σ H Q ->
  CT (Dd X.prog X.w) X.A (evalPart e X.env) (λu s'=>∃o H',Inv X pins σ H' s'/\ID u o/\Q o H') X.xe s
noncomputable def tNoPart:TO:=λ_ H Q=>Q d_ H
noncomputable def tPart(t:TE):TO:=λσ H Q=>t σ H λx H1=>∃i,x=.int i/\Q (a_ i) H1
theorem intsAre_of{ns:List Int}:∀{us:List j_},Vals (ns.map V.int) us->IX us ns:=by
 induction ns with
 |nil=>intro us r;rw[HK]at r;cases r;exact .nil|cons n ns J=>
  intro us r;rw[Dp]at r;cases r with
  |cons I r2=>obtain⟨t,e⟩:=I;subst e;exact .cons n t (J r2)
section
variable{te:TE}{lo hi:Option Ed}{tl th:TO}{p2:Pos}
theorem po_none:PO X d_ tNoPart:=by intro pins s σ H Q I h;rw[evalPart_none];exact Cb ⟨d_,H,I,.none,h⟩
theorem po_some(h:PE X e te):PO X (a_ e) (tPart te):=by intro pins s σ H Q I hw;rw[evalPart_some];refine thn (h pins s σ H _ I hw) λu b Y=>?_;obtain⟨x,H1,a,J,U⟩:=Y;obtain⟨i,rfl,q⟩:=U;obtain⟨t,rfl⟩:=J;exact⟨a_ i,H1,a,.int i t,q⟩
noncomputable def SlR(X:Cx)(r:V->Option Int->Option Int->Hp->VK->Prop):Prop:=
 ∀(pins:Pn) (s:x_) (σ:St) (H:Hp) (x:V) (v J I:j_) (lo hi:Option Int) (U:g_) (Q:VK),Inv X pins σ H s->RelV x v->s.heap.IsSliceOf U J I .none->ID J lo->ID I hi->r x lo hi H Q ->
  ∃T id,typeLookup (.type T) "__getitem__"=EY (a_ (.builtin id))/\s.TypeIs v T/\CT (Dd X.prog X.w) X.A (JU v (.ref U)) (EP X pins σ Q) X.xe s
theorem SlR.or{r':V->Option Int->Option Int->Hp->VK->Prop}(h:SlR X r)(h':SlR X r'):SlR X (λx lo hi H Q=>r x lo hi H Q\/r' x lo hi H Q):=by
 intro pins s σ H x v U J lo hi Y Q I a c pl b q;rcases q with q|q
 ·exact h pins s σ H x v U J lo hi Y Q I a c pl b q
 ·exact h' pins s σ H x v U J lo hi Y Q I a c pl b q
noncomputable def tSl(r:V->Option Int->Option Int->Hp->VK->Prop)(te:TE)(tl th:TO):TE:=λσ H Q=>te σ H λx H1=>tl σ H1 λl H2=>th σ H2 λu I=>r x l u I Q
theorem pe_slice(p:SlR X r)(y:PE X e te)(t:PO X lo tl)(n:PO X hi th):PE X (.Subscript e (.Slice lo hi d_ p2) pos) (tSl r te tl th):=by intro pins s σ H Q I h;refine Subscript_ (thn (y pins s σ H _ I h) λv f U=>?_);obtain⟨x,H1,D,g,k⟩:=U;refine wpAny_Slice (thn (t pins f σ H1 _ D k) λa d U=>?_);obtain⟨l,H2,C,pl,j⟩:=U;refine thn (n pins d σ H2 _ C j) λY J U=>?_;obtain⟨u,c,B,m,i⟩:=U;rw[evalPart_none];refine Cb ?_;have A:Inv X pins σ c {J with heap:=J.heap.push {cls:=.type "slice",data:=.fields #[a,Y,.none]}}:=B.kept (t':=J.toks) λb E q=>t_ _ q;obtain⟨T,id,z,o,w⟩:=p pins {J with heap:=J.heap.push {cls:=.type "slice",data:=.fields #[a,Y,.none]}} σ c x v a Y l u J.heap.objs.size Q A g (KP ..) pl m i;show CT (Dd X.prog X.w) X.A (subscriptTail e (.Slice lo hi d_ p2) v (.ref J.heap.objs.size)) (EP X pins σ Q) X.xe {J with heap:=J.heap.push {cls:=.type "slice",data:=.fields #[a,Y,.none]}};exact tail_any (ops:=[.ref J.heap.objs.size,v]) o z w (by with_unfolding_all rfl)
noncomputable def cutV(xs:List V)(lo hi:Option Int):List V:=(xs.drop (HT.sIx xs.length 0 lo)).take (HT.sIx xs.length xs.length hi-HT.sIx xs.length 0 lo)
theorem pK(xs:List V)(lo hi:Option Int):(cutV xs lo hi).length<=xs.length:=by unfold cutV;rw[Gi,HU];omega
noncomputable def rSlT(K:Fg):V->Option Int->Option Int->Hp->VK->Prop:=λx lo hi H Q=>∃a xs,x=.ref a/\SqT K H a xs /\
 ¬(HT.sIx xs.length 0 lo=0/\HT.sIx xs.length xs.length hi=xs.length)/\∀p,H p=d_->Q (.ref p) (upd H p (.tup (cutV xs lo hi)))
theorem sl_tup:SlR X (rSlT X.K):=by
 intro pins s σ H x v i g lo hi j Q I c f pl d h;obtain⟨a,xs,rfl,e,hw,q⟩:=h;cases c;obtain⟨its,r,Y,U⟩:=I.tuple e;have J:its.toArray.size=xs.length:=by rw[B_];exact r.length.symm
 refine⟨"tuple",_,Fo.lookup,Y.typeIs,?_⟩
 refine HT.m8 Y f pl d (by rw[J];exact hw) ?_ (by rw[J];exact U);rw[J];refine⟨.ref s.heap.objs.size,_,I.laid (t':=s.toks) (o:=.tup (cutV xs lo hi)) (λb k q=>t_ _ q) (u_ _) ?_,rfl,q _ (I.hok.fresh (u_ _))⟩
 exact⟨Dz (pK xs lo hi) U,_,(r.drop (HT.sIx xs.length 0 lo)).take (HT.sIx xs.length xs.length hi-HT.sIx xs.length 0 lo),IsTup.new _ _⟩
noncomputable def rCatT(K:Fg):R2:=λx y H Q=>∃a b xs ys,x=.ref a/\y=.ref b/\SqT K H a xs/\SqT K H b ys/\xs≠[]/\xs.length+ys.length<=m_ /\
 (ys=[]->Q (.ref a) H)/\(ys≠[]->∀p,H p=d_->Q (.ref p) (upd H p (.tup (xs++ys))))
theorem Vals.wH{xs:List V}(r:Vals xs us):us=[]↔xs=[]:=by
 cases r with
 |nil=>simp|cons _ _=>simp
theorem op_catT:OpR X (EI .Add) (rCatT X.K):=by
 intro pins s σ H x y v u Q I d c h;obtain⟨a,b,xs,ys,rfl,rfl,j,i,g,Y,f,e⟩:=h;cases d;cases c;obtain⟨its,J,p1,_⟩:=I.tuple j;obtain⟨U,r2,p2,_⟩:=I.tuple i;refine HT.cat_tup p1 p2 (λz=>g (J.wH.mp z)) (λz=>⟨.ref a,H,I,rfl,f (r2.wH.mp z)⟩) (λz=>?_) (by rw[<- J.length,<- r2.length];exact Y);refine⟨.ref s.heap.objs.size,_,I.laid (t':=s.toks) (o:=.tup (xs++ys)) (λb k q=>t_ _ q) (u_ _) ?_,rfl,e (λw=>z (r2.wH.mpr w)) _ (I.hok.fresh (u_ _))⟩
 exact⟨by rw[CV];exact Y,_,J.append r2,IsTup.new _ _⟩
end
noncomputable def ixN(n:Nat)(i:Int):Option Nat:=if 0<=i then(if i<n then a_ i.toNat else d_)else if -(n:Int)<=i then a_ (i+n).toNat else d_
noncomputable def atI(xs:List α)(i:Int):Option α:=(ixN xs.length i).bind λj=>xs[j]?
theorem ixN_seq{j:Nat}(h:ixN n i=a_ j):seqIndex? i n=a_ j/\j<n/\ -(n:Int)<=i/\i<n:=by
 unfold ixN at h;by_cases I:0<=i
 ·rw[i_ I]at h;by_cases h1:i<n
  ·rw[i_ h1]at h;have e:i.toNat=j:=Dt h;exact⟨by rw[seqIndex_of I h1,e],by omega,by omega,h1⟩
  ·rw[l_ h1]at h;cases h
 ·rw[l_ I]at h;by_cases h1: -(n:Int)<=i
  ·rw[i_ h1]at h;have e:(i+n).toNat=j:=Dt h;exact⟨by rw[seqIndex_neg (by omega) h1,e],by omega,h1,by omega⟩
  ·rw[l_ h1]at h;cases h
theorem xD{xs:List α}{v:α}(h:atI xs i=a_ v):∃j,seqIndex? i xs.length=a_ j/\xs[j]?=a_ v/\j<xs.length/\ -(xs.length:Int)<=i/\i<xs.length:=by
 unfold atI at h;cases e:ixN xs.length i with
 |none=>rw[e]at h;cases h|some j=>rw[e]at h;obtain⟨h1,h2,J,I⟩:=ixN_seq e;exact⟨j,h1,h,h2,J,I⟩
noncomputable def CH(b:Ed):Prop:=∀o i,subscripted b b_ o i=operate [o,i] (JU o i)
noncomputable def IxR(X:Cx)(r:R2):Prop:=
 ∀(value I:Ed) (pins:Pn) (s:x_) (σ:St) (H:Hp) (x y:V) (v u:j_) (Q:VK),Inv X pins σ H s->RelV x v->RelV y u->r x y H Q ->
  subscripted I b_ v u=operate [v,u] (JU v u)->CT (Dd X.prog X.w) X.A (subscriptTail value I v u) (EP X pins σ Q) X.xe s
noncomputable def MtR(X:Cx)(id:String)(r:V->List V->Hp->VK->Prop):Prop:=
 ∀(pins:Pn) (s:x_) (σ:St) (H:Hp) (x:V) (xs:List V) (v:j_) (us:List j_) (Q:VK),Inv X pins σ H s->RelV x v->Vals xs us->r x xs H Q ->
  CT (Dd X.prog X.w) X.A (Gn (.builtin id) (v::us)) (EP X pins σ Q) X.xe s
section
variable{a b:Ed}{ta tb:TE} 
theorem IxR.or{r r':R2}(h:IxR X r)(h':IxR X r'):IxR X (λx y H Q=>r x y H Q\/r' x y H Q):=by
 intro value J pins s σ H x y v u Q I Y U q a;rcases q with q|q
 ·exact h value J pins s σ H x y v u Q I Y U q a
 ·exact h' value J pins s σ H x y v u Q I Y U q a
theorem pe_ix{r:R2}(d:IxR X r)(f:PE X a ta)(e:PE X b tb)(c:CH b):PE X (.Subscript a b pos) (tOp r ta tb):=by intro pins s σ H Q I h;exact Subscript_ (binT f e I h λv u J x y H2 g Y U q=>d a b pins J σ H2 x y v u Q g Y U q (c _ _))
noncomputable def rIxL(K:Fg):R2:=λx y H Q=>∃p xs i v,x=.ref p/\y=.int i/\SqL K H p xs/\atI xs i=a_ v/\Q v H
noncomputable def rIxT(K:Fg):R2:=λx y H Q=>∃p xs i v,x=.ref p/\y=.int i/\SqT K H p xs/\atI xs i=a_ v/\Q v H
noncomputable def rIxS:R2:=λx y H Q=>∃z i c,x=.str z/\y=.int i/\z.length<=m_/\atI z.cps.toList i=a_ c/\Q (.str ⟨#[c]⟩) H
theorem ix_list:IxR X (rIxL X.K):=by
 intro value U pins s σ H x y v u Q I f e h b;obtain⟨p,xs,i,z,rfl,rfl,g,l,q⟩:=h;cases f;obtain⟨t,rfl⟩:=e;obtain⟨its,r,pl,o⟩:=I.list g;obtain⟨j,h1,h2,B,n,m⟩:=xD l;obtain⟨w,d,Y⟩:=r.get h2;have k:=r.length;have A:=qS;have J:EP X pins σ Q w s:=⟨z,H,I,Y,q⟩
 by_cases c:0<=i
 ·have a:i.toNat=j:=by
   rw[seqIndex_of c m]at h1;exact Dt h1
  exact item_listR pl.isList c (by omega) (by rw[a];simpa using d) J b
 ·have a:(i+(its.toArray.size:Int)).toNat=j:=by
   rw[seqIndex_neg (by omega) n]at h1;rw[B_,<- k];exact Dt h1
  exact J0 (x:=w) pl.isList.typeIs KA.lookup
   (wpAny_getItem_list_neg (Q:=λr s'=>r=w/\EP X pins σ Q r s') pl.isList (by omega) (by rw[B_]<;>omega) (by omega) (by rw[a];simpa using d) ⟨rfl,J⟩) b
theorem ix_tup:IxR X (rIxT X.K):=by
 intro value J pins s σ H x y v u Q I b a h c;obtain⟨p,xs,i,z,rfl,rfl,d,f,q⟩:=h;cases b;obtain⟨t,rfl⟩:=a;obtain⟨its,r,pl,k⟩:=I.tuple d;obtain⟨j,h1,h2,o,n,m⟩:=xD f;obtain⟨w,g,U⟩:=r.get h2;have e:=r.length;have l:=qS;have Y:EP X pins σ Q w s:=⟨z,H,I,U,q⟩
 exact J0 (x:=w) pl.typeIs Fo.lookup
  (getItem_tuple (j:=j) (Q:=λr s'=>r=w/\EP X pins σ Q r s') pl (by omega) (by omega) (by rw[B_,<- e];exact h1) (by simpa using g) ⟨rfl,Y⟩) c
theorem ix_str:IxR X rIxS:=by
 intro value J pins s σ H x y v u Q I Y U h a;obtain⟨z,i,c,rfl,rfl,g,d,q⟩:=h;obtain⟨t,rfl⟩:=Y;obtain⟨t',rfl⟩:=U;obtain⟨j,h1,h2,l,f,e⟩:=xD d;have b:z.cps.toList.length=z.length:=by simp[Str.length]
 rw[b]at h1 f e;have k:=qS;exact tail_any (Hb s z t) slot_str_getitem.lookup (getItem_str (c:=c) (by have e1:q_ (i< -(2^63:Int))=b_:=f_ (by omega);have e2:q_ (i>=2^63)=b_:=f_ (by omega);rw[e1,e2,Bool.or_false]) (by rw[h1];simpa using h2) ⟨.str ⟨#[c]⟩,H,I.tok _,⟨_,rfl⟩,q⟩) a
noncomputable def rIx(K:Fg):R2:=λx y H Q=>rIxL K x y H Q\/rIxT K x y H Q\/rIxS x y H Q
theorem ix_seq:IxR X (rIx X.K):=ix_list.or (ix_tup.or ix_str)
theorem uh(lo hi:Option Int)(n:Nat):(GA lo hi d_ n).1=((HT.sIx n 0 lo:Nat):Int)/\(GA lo hi d_ n).2.1=((HT.sIx n n hi:Nat):Int)/\(GA lo hi d_ n).2.2=1:=by
 refine⟨?_,?_,rfl⟩
 ·cases lo with
  |none=>simp[GA,HT.sIx]|some i=>
   simp only[GA,HT.sIx,JQ,show(1:Int)>0 by decide,IF];by_cases h:i<0
   ·simp only[h,IF]<;>omega
   ·simp only[h,if_false]<;>omega
 ·cases hi with
  |none=>simp[GA,HT.sIx]|some i=>
   simp only[GA,HT.sIx,JQ,show(1:Int)>0 by decide,IF];by_cases h:i<0
   ·simp only[h,IF]<;>omega
   ·simp only[h,if_false]<;>omega
theorem rW(its:List j_)(lo hi:Option Int):slicePick its.toArray lo hi d_=((its.drop (HT.sIx its.length 0 lo)).take (HT.sIx its.length its.length hi-HT.sIx its.length 0 lo)).toArray:=by obtain⟨h1,h2,I⟩:=uh lo hi its.toArray.size;unfold slicePick;rw[h1,h2,I];simp only[sliceRange_one,pick_run,B_]<;>rfl
noncomputable def rSlL(K:Fg):V->Option Int->Option Int->Hp->VK->Prop:=λx lo hi H Q=>∃a xs,x=.ref a/\SqL K H a xs/\∀p,H p=d_->Q (.ref p) (upd H p (.lst (cutV xs lo hi)))
theorem sl_list:SlR X (rSlL X.K):=by
 intro pins s σ H x v i g lo hi j Q I Y f pl c h;obtain⟨a,xs,rfl,e,q⟩:=h;cases Y;obtain⟨its,r,U,d⟩:=I.list e;have J:=r.length;refine⟨"list",_,KA.lookup,U.isList.typeIs,?_⟩
 refine wpAny_getItem_list_slice U.isList f pl c .none (by simp) ?_ (by rw[B_]<;>omega);rw[rW,<- J];refine⟨.ref s.heap.objs.size,_,I.laid (t':=s.toks) (o:=.lst (cutV xs lo hi)) (λb k q=>t_ _ q) (u_ _) ?_,rfl,q _ (I.hok.fresh (u_ _))⟩
 exact⟨Dz (pK xs lo hi) d,_,0,(r.drop (HT.sIx xs.length 0 lo)).take (HT.sIx xs.length xs.length hi-HT.sIx xs.length 0 lo),Df _ rfl⟩
theorem jl:gm X (.builtin "len") (λxs H Q=>∃p ys,xs=[.ref p]/\(SqL X.K H p ys\/SqT X.K H p ys)/\Q (.int ys.length) H):=by
 intro pins s σ H xs us Q I r h;obtain⟨p,ys,rfl,U,q⟩:=h;obtain⟨u,rfl,Y⟩:=vals1 r;cases Y;have b:=qS;rcases U with U|U
 ·obtain⟨its,r',pl,a⟩:=I.list U;have J:=r'.length;exact Calls.call_len_list pl.isList (by simp only[B_]<;>omega) ⟨.int ys.length,H,I.tok _,⟨s.toks+1,by rw[B_,J]⟩,q⟩
 ·obtain⟨its,r',pl,a⟩:=I.tuple U;have J:=r'.length;exact len_tuple pl (by simp only[B_]<;>omega) ⟨.int ys.length,H,I.tok _,⟨s.toks+1,by rw[B_,J]⟩,q⟩
theorem vn:gm X (.builtin "len") (λxs H Q=>∃z,xs=[.str z]/\z.length<=m_/\Q (.int z.length) H):=by intro pins s σ H xs us Q I r h;obtain⟨z,rfl,J,q⟩:=h;obtain⟨u,rfl,t,rfl⟩:=vals1 r;have U:=qS;exact len_str (by omega) ⟨.int z.length,H,I.tok _,⟨_,rfl⟩,q⟩
theorem gm.or{f:j_}{r r':List V->Hp->VK->Prop}(h:gm X f r)(h':gm X f r'):gm X f (λxs H Q=>r xs H Q\/r' xs H Q):=by
 intro pins s σ H xs us Q I rs q;rcases q with q|q
 ·exact h pins s σ H xs us Q I rs q
 ·exact h' pins s σ H xs us Q I rs q
theorem gk:gm X (.type "list") (λxs H Q=>∃p ys,xs=[.ref p]/\(SqL X.K H p ys\/SqT X.K H p ys)/\∀l,H l=d_->Q (.ref l) (upd H l (.lst ys))):=by
 intro pins s σ H xs us Q I r h;obtain⟨p,ys,rfl,a,q⟩:=h;obtain⟨u,rfl,i⟩:=vals1 r;cases i;have d:∀(its:List j_),Vals ys its->ys.length<=m_->∀(h':DR) (J:Nat),(∀b o',s.heap.get? b=a_ o'->h'.get? b=a_ o') ->
   h'.get? s.heap.objs.size=a_ {cls:=.type "list",dict:=d_,data:=.seq its.toArray J,slots:=#[]}->EP X pins σ Q (.ref s.heap.objs.size) {s with heap:=h'}:=λits r' Y h' J U e=>
  ⟨.ref s.heap.objs.size,_,I.laid (t':=s.toks) U (u_ _) (show eo X.prog X.w _ h' _ (.lst ys)from⟨Y,its,J,r',e⟩),rfl,q _ (I.hok.fresh (u_ _))⟩
 rcases a with a|a
 ·obtain⟨its,r',pl,Y⟩:=I.list a;have c:=r'.length;obtain⟨o,f,g,n,hd⟩:=pl.isList;exact call_list_seq p (.inl rfl) f g hd (λh' J U e=>d its r' Y h' J U e) (by simp only[B_]<;>omega)
 ·obtain⟨its,r',pl,Y⟩:=I.tuple a;have c:=r'.length;obtain⟨o,f,g,n,hd⟩:=pl;exact call_list_seq p (.inr rfl) f g hd (λh' J U e=>d its r' Y h' J U e) (by simp only[B_]<;>omega)
noncomputable def tyV(K:Fg)(T:String)(x:V)(H:Hp):Prop:=match x with
 |.str _=>T="str"|.int _=>T="int"|.ref p=>(T="list"/\∃xs,SqL K H p xs)\/(T="tuple"/\∃o,K.lookup p=a_ o/\o.cls=.type "tuple"/\o.dict=d_) \/
   (T="dict"/\((∃I,H p=a_ (.dK I))\/∃I,H p=a_ (.dT I)))\/(T="set"/\∃S n,H p=a_ (.set S n))
 |_=>False
theorem tyV_is{v:j_}(I:Inv X pins σ H s)(r:RelV x v)(ty:tyV X.K T x H):
  s.TypeIs v T/\∀a,v=.ref a->∃Y,s.heap.get? a=a_ Y/\Y.dict=d_:=by
 cases x with
 |str z=>obtain⟨t,rfl⟩:=r;cases(show T="str" from ty);exact⟨Hb s z t,λ_ e=>nomatch e⟩
 |int i=>obtain⟨t,rfl⟩:=r;cases(show T="int" from ty);exact⟨typeIs_int s i t,λ_ e=>nomatch e⟩
 |ref p=>
  cases r;rcases ty with⟨rfl,xs,b⟩|⟨rfl,o,J,d,hd⟩|⟨rfl,J⟩|⟨rfl,S,n,J⟩
  ·obtain⟨its,_,pl,_⟩:=I.list b;refine⟨pl.isList.typeIs,λa e=>?_⟩
   cases e;obtain⟨o,n,e,c,hd,_⟩:=pl;exact⟨o,e,hd⟩
  ·refine⟨⟨o,I.kIn p o J,d⟩,λa e=>?_⟩
   cases e;exact⟨o,I.kIn _ o J,hd⟩
  ·have z:∃o,s.heap.get? p=a_ o/\o.ExactDict:=by
    rcases J with⟨U,J⟩|⟨U,J⟩
    ·obtain⟨_,_,_,_,o,_,_,e,ex,_⟩:=I.hok p _ J;exact⟨o,e,ex⟩
    ·obtain⟨_,_,_,_,o,_,_,e,ex,_⟩:=I.hok p _ J;exact⟨o,e,ex⟩
   obtain⟨o,e,ex⟩:=z;refine⟨⟨o,e,ex.1⟩,λa e2=>?_⟩
   cases e2;exact⟨o,e,ex.2.1⟩
  ·obtain⟨o,_,_,_,e,ex,_⟩:=I.hok p _ J;refine⟨⟨o,e,ex.1⟩,λa e2=>?_⟩
   cases e2;exact⟨o,e,ex.2.1⟩
 |_=>exact DV ty
noncomputable def tBM(K:Fg)(T:String)(r:V->List V->Hp->VK->Prop)(to:TE)(t:TA):TE:=λσ H Q=>to σ H λx H1=>tyV K T x H1/\t σ H1 λxs H2=>r x xs H2 Q
variable{o:Ed}{es:List Ed}{to:TE}{t:TA}{name:o_}{apos cpos:Pos}{id:String}{r:V->List V->Hp->VK->Prop}
theorem wq(n:PlainAttrs T)(a:Slot T name id)(c:typeOf (.builtin id)=EY (.type "method_descriptor"))(u:MtR X id r)(q:PE X o to)(w:PA X (e::es) t)(Y: ~~~(Ei o name X.env (Di o X.env)=Di o X.env))(b: ~~~(((DB cpos (h_ (e::es) X.env)).all (λx=> !x.1)&&(EX cpos (D_ [] X.env)).all (λx=>x.1.isSome)
   &&q_ ((e::es).length+([]:List FU).length+(if ([]:List FU).isEmpty then 0 else 1)<30))=e_))(U: ~~~((apos.endLine==cpos.line)=e_))(p: ~~~(h_ (e::es) X.env=(b_,Di e X.env)::h_ es X.env))(J: ~~~((DB cpos (h_ es X.env)).any (·.1)=b_)):
  PE X (.Call (.Attribute o name apos) (e::es) [] cpos) (tBM X.K T r to t):=by
 intro pins s σ H Q I h;refine wpAny_Call_method_late Y b U rfl (thn (q pins s σ H _ I h) λv k d=>?_);obtain⟨x,H1,i,f,ty,m⟩:=d;obtain⟨h1,h2⟩:=tyV_is i f ty;refine⟨T,id,n,a,c,h1,h2,?_⟩
 have g:=w cpos pins k σ H1 _ i m;rw[p]at g ⊢;refine IQ (by show(b_||(DB cpos (h_ es X.env)).any (·.1))=b_;rw[J]<;>rfl) (G9 ?_);refine thn g λus j d=>?_;obtain⟨vs,H2,y,r2,l⟩:=d;exact u pins j σ H2 x vs v us Q y f r2 l
/- xs.append(e),list.index on a module's tuple .. are MtR facts of 06m -/
end
noncomputable def MtM(X:Cx)(id:String)(r:V->List V->Hp->VK->Prop):Prop:=
 ∀(pins:Pn) (s:x_) (σ:St) (H:Hp) (x:V) (xs:List V) (v:j_) (us:List j_) (Q:VK),Inv X pins σ H s->RelV x v->Vals xs us->r x xs H Q ->
  CT (Dd X.prog X.w) X.A (Gn (.builtin id) (v::us)) (EP X pins σ Q) X.xe s
theorem Vals.one(h:Vals [x] us):∃u,us=[u]/\RelV x u:=by
 cases h with
 |cons r t=>cases t;exact⟨_,rfl,r⟩
theorem Vals.two{y:V}(h:Vals [x,y] us):∃u v,us=[u,v]/\RelV x u/\RelV y v:=by
 cases h with
 |cons r t=>obtain⟨v,rfl,q⟩:=Vals.one t;exact⟨_,_,rfl,r,q⟩
section
variable{l:g_}{xs ys:List V}
theorem Inv.lset{its':List j_}{f:Array j_->Array j_}{t':Nat}(I:Inv X pins σ H s)(b:H l=a_ (.lst xs))(e:s.heap.get? l=a_ {cls:=.type "list",data:=.seq its.toArray n})(Y:f its.toArray=its'.toArray)(hv:Vals ys its')(J:ys.length<=m_):
  Inv X pins σ (upd H l (.lst ys)) {s with heap:=s.heap.update l (Obj.mapSeq f),toks:=t'}:=by
 have q:=PySem.IsL.update e f;rw[Y]at q;refine I.write (x:=l) (e:=l) (by rw[b];exact trivial) (.inl rfl) (λc u a U=>(DC s.heap (Obj.mapSeq f) (DL a)).trans U) ⟨_,q⟩ ?_;exact⟨J,its',_,hv,q⟩
theorem Inv.lnew{t':Nat}(I:Inv X pins σ H s)(hv:Vals ys its)(J:ys.length<=m_):
  Inv X pins σ (upd H s.heap.objs.size (.lst ys)) {s with heap:=s.heap.push {cls:=.type "list",data:=.seq its.toArray},toks:=t'}:=
 I.laid (λ_ _ q=>t_ _ q) (u_ _) ⟨J,its,0,hv,Df _ rfl⟩
theorem Inv.fresh(I:Inv X pins σ H s):H s.heap.objs.size=d_:=I.hok.fresh (u_ _)
theorem Inv.lstM(I:Inv X pins σ H s)(J:H l=a_ (.lst xs)):xs.length<=m_/\∃(its:List j_) (n:Nat),Vals xs its/\xs.length=its.length/\s.heap.get? l=a_ {cls:=.type "list",data:=.seq its.toArray n}:=by obtain⟨z,its,n,r,e⟩:=I.hok l _ J;exact⟨z,its,n,r,r.length,e⟩
theorem notLongL(h:n<=m_):Gp n=b_:=by unfold Gp;exact f_ (by omega)
end
noncomputable def jU:V->List V->Hp->VK->Prop:=λx vs H Q=>∃l xs y,x=.ref l/\vs=[y]/\H l=a_ (.lst xs)/\xs.length<m_/\Q .non (upd H l (.lst (xs++[y])))
theorem kW:MtM X "list.append" jU:=by
 intro pins s σ H x vs v us Q I U Y h;obtain⟨l,xs,y,rfl,rfl,J,b,q⟩:=h;cases U;obtain⟨u,rfl,a⟩:=Y.one;obtain⟨z,its,n,r,c,e⟩:=I.lstM J;refine HY Fc ⟨_,e,rfl⟩ F.entry_list_append (F.args_list_append_2 _ _) (PySem.list_append l its.toArray n u (by rw[B_];omega)) ⟨e,?_⟩;refine⟨.non,_,I.lset (its':=its++[u]) J e (by simp) (r.append (.cons a .nil)) ?_,rfl,q⟩
 rw[CV,Jh];omega
noncomputable def B4:V->List V->Hp->VK->Prop:=λx vs H Q=>∃l b xs I,x=.ref l/\vs=[.ref b]/\H l=a_ (.lst xs)/\H b=a_ (.lst I)/\xs.length+I.length<=m_/\Q .non (upd H l (.lst (xs++I)))
theorem Bo:MtM X "list.extend" B4:=by
 intro pins s σ H x vs v us Q I a c h;obtain⟨l,b,xs,i,rfl,rfl,Y,g,k,q⟩:=h;cases a;obtain⟨u,rfl,d⟩:=c.one;cases d;obtain⟨z,its,n,r,m,e⟩:=I.lstM Y;obtain⟨j,J,n2,r2,f,e2⟩:=I.lstM g;have hsz:its.toArray.size+J.toArray.size<=m_:=by rw[B_,B_];omega
 have U:¬(!its.toArray.isEmpty&&Gp (its.toArray.size+J.toArray.size))=e_:=by rw[notLongL hsz,Fe];exact DZ
 refine HY Jf ⟨_,e,rfl⟩ F.entry_list_extend (F.args_list_extend_2 _ _)
  (AutoSeq1.list_extend_list_list_0 l its.toArray n b J.toArray n2 U (by rw[B_];omega) (by omega)) ⟨e,e2,?_⟩
 refine⟨.non,_,I.lset (its':=its++J) Y e (by simp) (r.append r2) ?_,rfl,q⟩
 rw[CV];omega
end L2
namespace Att
open PySem PySem.W PySem.Calls PyProof.Rows
theorem pb{P:Params}{h:DR}:∀(ns:List Int) (vs:List j_),WellAll P h vs (ns.map WData.int)->IX vs ns:=by
 intro ns
 induction ns with
 |nil=>intro vs w;rw[HK]at w;cases w;exact .nil|cons n ns I=>
  intro vs w;rw[Dp]at w;cases w with
  |cons a b=>cases a;exact .cons _ _ (I _ b)
theorem AK{l:Hy}{n:Nat}(m:l.most=a_ n){P:Params}{h:DR}{args:List WData}{I:List j_}(J:l.row.toRowW.claim.pre args=e_)(c:WellAll P h I args):
  ∃a vs ns,I=[CU a]/\args=[WData.list (ns.map WData.int)]/\h.get? a=a_ {cls:=.type "list",data:=.seq vs.toArray}/\IX vs ns/\ns.length<=n:=by
 have e:WShape.hasAll [] args [.list .int]=e_:=(pre_splitW J).1;have f:l.pre.holds [] {args:=args}=e_:=(pre_splitW J).2;obtain⟨d,r,rfl,h1,h2⟩:=hasAllW_cons e;obtain rfl:=hasAllW_nil h2;obtain⟨xs,rfl,o⟩:=hasW_list h1;obtain⟨ns,rfl⟩:=items_int o;have U:ns.length<=n:=by
  unfold OpenLaw.pre at f;have b:(WTm.not (.lt (.lit (.int (n:Int))) (.len (.arg 0)))).holds [] {args:=[.list (ns.map .int)]}=e_:=by have b:=(holds_andW f).1;rw[m]at b;exact b
  have h5:=condW_of b (w_not (w_lt w_lit (w_len_list (w_arg rfl))));rw[y_]at h5;refine Nat.le_of_not_lt λq=>?_;have j:(n:Int)<((ns.length:Nat):Int):=by omega
  first
   |(rw[r_ j]at h5;exact Dc h5 (by decide))
   |(simp at h5;omega)
 cases c with
 |cons i g=>
  cases g;cases i with
  |list k Y=>exact⟨_,_,ns,rfl,rfl,k,pb ns _ Y,U⟩
theorem B9(l:Hy)(args:List WData):l.row.toRowW.claim.post args (.bool e_) args=e_:=
 postW_of (r:=l.row.toRowW) (X:=(e_==e_))
  (show WShape.has [] (.bool e_) .bool=e_ by first|rfl|decide|simp[WShape.has,WShape.arms,WShape.armsAll])
  (show(WTm.eq .res (.lit (.bool e_))).value [] {args:=args,res:=a_ (.bool e_),after:=args}=a_ (.bool (e_==e_))from w_eq_bool (w_res rfl) w_lit) rfl
theorem xC{l:Hy}{n:Nat}{q:Ec}{U:List o_}{y:(Mq)->DR->Prop}{x:Ek->DR->Prop}{d:DefRec}(C:l.most=a_ n)(m:d.params.defaults=[])(h:∀(w:Ek) (J I:x_) (mg i:Mq) (fa:g_) (o:G8) (pm cd doc:j_) (a:g_) (vs:List j_) (ns:List Int),
   Ground q U [] y w J mg i I.heap->x w I.heap ->
   I.heap.get? fa=a_ o->o.data=.func (docDef d.name d.params d.body d.scope pm cd doc)->I.heap.CodeRec cd d.name->mg d.name=a_ (.ref fa) ->
   I.heap.get? a=a_ {cls:=.type "list",data:=.seq vs.toArray}->IX vs ns->ns.length<=n->I.gens=#[] ->
   Gk (Dd l.prog w) Ig (.call (.ref fa) ⟨[.ref a],[]⟩) (λr s'=>r=.ok (.ret (.bool e_))/\OldK I.heap s'.heap/\s'.os=I.os/\G1 s'.gens) I):
  Jx q U y x l.row.toRowW d [] (λf vs=>Gn f vs):=by
 intro w J I mg i G Y fa o pm cd doc L kV B hd p u k F v s as c t z j E;obtain rfl:L=.none:=Dflts.none u m;obtain rfl:kV=.none:=Dflts.noKw u;obtain⟨a,vs,ns,rfl,rfl,e,b,g⟩:=AK C c j;refine enter_call (EM (h w J I mg i fa o pm cd doc a vs ns G Y B (fd_plain hd) p k e b g F) λr s' A=>?_);obtain⟨rfl,h2,K,H⟩:=A;exact⟨.inl ⟨.bool e_,.bool e_,[],rfl,λ_=>rfl,.bool e_,B9 l _,λ_=>⟨Le,λ_ D=>(nomatch D)⟩⟩,h2,K,H⟩
end Att
namespace L2
open PySem PySem.Spec PyProof.Rows
variable{P prog:Ec}{w:Ek}{K:Fg}{mg:Mq}{CX:CXT}{k n j i nN nN2 n2 ep ep' lo di ni ri:Nat}{a f l b c L it C dx z fad C2 fI CN:g_}{fd fdI:EJ}{x qual y m nm mt:o_}{sp:Sp}{X:Cx}{st b₀ st1 st2:DX}{ps N' N sn:List o_}{oc doc pm cdv ct mc u hv cd:j_}{od an dd:Option g_}{osl:Array (Option j_)}{pos spos py p apos pos' q p2 np cpos p1 hpos:Pos}{A:Fm}{B T newId initId:String}{H H1 H2 H' F F' H0 F1 F0 FB G Hc:Hp}{scope sc:Ij}{env:Iq}{E E' E1 E2 E3:XK}{s:x_}{pins:Pn}{σ σ':St}{ix:List (Option Nat)}{fp as ch:List g_}{t:TA}{R:Bool->Hp->Prop}{elt tg iter e value e1 e2 e3 e4 e5:Ed}{ifs es elts:List Ed}{tt:TT}{te ta tb tc td tv:TE}{us bmB tl sub:List j_}{h h':DR}{cs:List (o_×g_)}{rows:List (List Int)}{dvs vs:List V}{pl:KN Bool}{S:g_->Prop}{v vw:V}{o:HO}{Q:VK}{O O2 OL O':List Nat}{ro bn b1 b2 b3 hdct ab:Bool}{α:Type}{op op' op'':CmpOp}{sts body suite:List DX}{r':R2}{κ:SortKind}{outer:List Iq}{oe:G8}{ts:g_->Option g_->TS}{os:OsState}{tk:Tok}{col:Option Bool}{k0 k2 k3 k5:Option j_}{k':Int}
theorem u5:∀{vs:List j_} {ns:List Int},IX vs ns->Vals (ns.map V.int) vs
 |_,_,.nil=>.nil|_,_,.cons n t h=>.cons ⟨t,rfl⟩ (u5 h)
noncomputable def Only(H:Hp):Prop:=∀b,H b=d_\/∃o xs,H b=a_ (.frz o (.lst xs))
theorem law_call{D:Mq}{fa:g_}{I:x_}{vs:List j_}{ns:List Int}(X:K.In I.heap)(p:I.heap.Ns Du mg)(U:I.heap.Ns Ko D)(L:∀x:o_,x≠"__name__"->D x=EO x)(t:I.heap.NoLimit)(hg:I.gens=#[])(B:I.heap.get? a=a_ {cls:=.type "list",data:=.seq vs.toArray})(hi:IX vs ns)(S:ns.length<=m_)(hr:fV k Ig)(F:∀base:DR,K.In base->base.Ns Du mg->eZ P w K mg base CX k fa fd [x] sp)(f:∀(s:x_) (u:j_),HI s fd ⟨[u],[]⟩ [(x,u)])(E:∀H:Hp,Only H->SqL K H a (ns.map V.int)->sp [.ref a] H (λv _=>v=.bl e_) λ_ _ _=>False)(N:∀H e s',CX [] H I (λ_ _ _=>False) e s'->False):
  Gk (Dd P w) Ig (.call (.ref fa) ⟨[.ref a],[]⟩) (λr s'=>r=.ok (.ret (.bool e_))/\OldK I.heap s'.heap/\s'.os=I.os/\G1 s'.gens) I:=by
 have R:=u5 hi;have i:=hi.length;have c:∀H:Hp,Only H->SqL K H a (ns.map V.int)->HOk P w H I.heap->(∀b,H b≠d_->b=a)->(H a≠d_->K.lookup a=d_) ->
   Gk (Dd P w) Ig (.call (.ref fa) ⟨[.ref a],[]⟩) (λr s'=>r=.ok (.ret (.bool e_))/\OldK I.heap s'.heap/\s'.os=I.os/\G1 s'.gens) I:=by
  intro H T hS l W hK;have J:∀{b:g_} {o:G8},I.heap.get? b=a_ o->H b=d_->(hidT I.heap H).get? b=a_ o:=λe n=>hidT_get e n;have C:∀{b:g_} {o:G8} {es:Array K6} {ep:Nat},I.heap.get? b=a_ o->o.data=.dict es ep->H b=d_:=λ{b o es ep} e d=>by
   cases q:H b with
   |none=>rfl|some u=>have O:b=a:=W b (by rw[q];simp);subst O;rw[B]at e;cases e;have d':Data.seq vs.toArray _=Data.dict es ep:=d;cases d'
  have Y:∀{b:g_} {m:Mq},I.heap.Ns b m->(hidT I.heap H).Ns b m:=λ{b m} ⟨o,es,ep,e,d,r⟩=>⟨o,es,ep,J e (C e d),d,r⟩
  have y:K.In (hidT I.heap H):=λb o e=>J (X b o e) (by
   cases q:H b with
   |none=>rfl|some u=>have O:b=a:=W b (by rw[q];simp);subst O;rw[hK (by rw[q];simp)]at e;cases e)
  have hM:Mod K mg (hidT I.heap H):=⟨y,Y p,⟨D,Y U,L⟩,let ⟨mc,h1,h2⟩:=t;⟨mc,Y h1,h2⟩⟩
  have e0:Env0 P w K mg (hidT I.heap H) Ig [] I H:=⟨rfl,hM,λb o e=>of_hidT e,Lb (BF _ _),trivial,λb U=>Dc (show b∈([]:List g_)from U) (by simp),l,.of_eq hg⟩
  refine EM ((F _ y (Y p)).run Ig [] I H ⟨[.ref a],[]⟩ [.ref a] [.ref a] _ _ hr e0 (f I (.ref a)) (.cons rfl .nil) (E H T hS)) λr s' h=>?_;cases r with
  |error e=>exact(N H e s' h).elim|ok fl=>
   cases fl with
   |next=>exact DV h|brk=>exact DV h|cont=>exact DV h|ret u=>
    obtain⟨v,H',os,A,Q,j,r',q⟩:=h;have q':v=.bl e_:=q;subst q';obtain rfl:u=Ii e_:=r';refine⟨rfl,OldK.of_keep λb o e=>?_,os,A⟩
    cases q:H b with
    |none=>exact Q.keep b o e q (by intro z;exact Dc (show b∈([]:List g_)from z) (by simp)) (by simp)|some u=>
     rcases T b with z|⟨ob,xs,z⟩
     ·rw[q]at z;cases z
     ·have Z:=Q.frzs b ob _ z;obtain⟨e1,_⟩:=l b _ z;obtain⟨e2,_⟩:=j b _ Z;rw[e]at e1;cases e1;exact e2
 cases G:K.lookup a with
 |some o=>have e:=X a o G;rw[B]at e;cases e;refine c (λ_=>d_) (λ_=>.inl rfl) (.inr ⟨_,vs.toArray,_,G,rfl,rfl,rfl,by rw[B_,i];exact S,by simpa using R⟩) (λb u z=>by have g:(d_:Option HO)=a_ u:=z;cases g) (λb z=>Dc rfl z) λz=>Dc rfl z|none=>
  refine c (λb=>if b=a then a_ (.frz {cls:=.type "list",data:=.seq vs.toArray} (.lst (ns.map V.int)))else d_) (λb=>?_) (.inl (.inr ⟨{cls:=.type "list",data:=.seq vs.toArray},i_ rfl⟩)) (λb u z=>?_) (λb z=>?_) λ_=>G
  ·by_cases U:b=a
   ·exact .inr ⟨_,_,i_ U⟩
   ·exact .inl (l_ U)
  ·by_cases U:b=a
   ·have g:=(i_ U).symm.trans z;cases g;subst U;exact⟨B,by rw[y_];exact S,vs,_,R,B⟩
   ·have g:=(l_ U).symm.trans z;cases g
  ·by_cases U:b=a
   ·exact U
   ·exact Dc (l_ U) z
theorem walk_of{l:Hy}{q:Ec}{J:List o_}{P:(Mq)->DR->Prop}{t:Ek->DR->Prop}{d:DefRec}{K:Params->Fg}{CX:Ek->CXT}{sp:Ek->Sp}(A:l.most=a_ n)(i:n<=m_)(m:d.params.defaults=[])(z:fV k Ig)(E:∀(w:Ek) (h:DR),t w h->(K w.params).In h)(F:∀(w:Ek) (mg:Mq) (fa:g_) (h:DR),(K w.params).In h->h.Ns Du mg->mg d.name=a_ (.ref fa) ->
   ∃fd:EJ,(∀(s:x_) (u:j_),HI s fd ⟨[u],[]⟩ [(x,u)]) /\
    ∀base:DR,(K w.params).In base->base.Ns Du mg->eZ l.prog w (K w.params) mg base (CX w) k fa fd [x] (sp w))(g:∀(w:Ek) (H:Hp) (a:g_) (ns:List Int),ns.length<=n->Only H->SqL (K w.params) H a (ns.map V.int)->sp w [.ref a] H (λv _=>v=.bl e_) λ_ _ _=>False)(p:∀(w:Ek) (H:Hp) (s:x_) (e:j_) (s':x_),CX w [] H s (λ_ _ _=>False) e s'->False):
  Jx q J P t l.row.toRowW d [] (λf vs=>Gn f vs):=by
 refine Att.xC A m λw r b mg Q fa o pm cd doc a vs ns G Y R hd C j c U I B=>?_;have y:=E w _ Y;obtain⟨fd,D,O⟩:=F w mg fa _ y G.T.g j;exact law_call y G.T.g G.T.b G.T.builtins G.T.nolimit B c U (Dz I i) z O D (λH N L=>g w H a ns I N L) λH e s'=>p w H b e s'
noncomputable def inClass(s:DX)(j:Nat):DX:=match s with
 |.ClassDef _ _ _ body _ _ _ _ _ _ _=>body.getD j (.Pass ⟨0,0,0,0⟩)|_=>.Pass ⟨0,0,0,0⟩
noncomputable def dP(s:DX):Arguments:=match s with
 |.FunctionDef _ a _ _ _ _ _ _ _ _=>a|_=>{posonlyargs:=[],args:=[],vararg:=d_,kwonlyargs:=[],kw_defaults:=[],kwarg:=d_,defaults:=[]}
noncomputable def bQ(s:DX):List DX:=match s with
 |.FunctionDef _ _ b _ _ _ _ _ _ _=>b|_=>[]
noncomputable def aA(s:DX):Ij:=match s with
 |.FunctionDef _ _ _ _ _ _ sc _ _ _=>sc|_=>{kind:=.function,names:=[],isGenerator:=b_,isCoroutine:=b_}
noncomputable abbrev CX0:CXT:=λ_ _ _ _ _ _=>False
noncomputable abbrev E0:XK:=λ_ _ _=>False
theorem mX:Passes CX0 X E0:=λ_ _ _ _ _ _ _ h=>h.elim
structure Fun(K:Fg)(x qual:o_)(st:DX)(f:g_)(fd:EJ):Prop where
 ex:∃(oc:j_) (od:Option g_) (kV doc pm:j_) (an:Option g_) (cdv ct:j_) (osl:Array (Option j_)),
  fd=HM x qual (dP st) (bQ st) (aA st) .none kV doc pm an cdv ct/\K.lookup f=a_ ⟨oc,od,.func fd,osl⟩/\IC K cdv qual=e_
 kp:Fh K (.ref f)=e_
theorem Fun.binds(F:Fun K x qual st f fd)(h:∀(kV doc pm:j_) (an:Option g_) (cdv ct:j_) (us:List j_),us.length=ps.length->Hx (HM x qual (dP st) (bQ st) (aA st) .none kV doc pm an cdv ct) ⟨us,[]⟩=EY (ps.zip us)):Binds K fd ps []:=by obtain⟨oc,od,kV,doc,pm,an,cdv,ct,osl,rfl,J,I⟩:=F.ex;exact .all (h kV doc pm an cdv ct)
theorem yp{kV:j_}(l:K.lookup f=a_ ⟨oc,od,.func (HM x qual (dP st) (bQ st) (aA st) .none kV doc pm an cdv ct),osl⟩)(c:IC K cdv qual=e_)(k:Fh K (.ref f)=e_):Fun K x qual st f (HM x qual (dP st) (bQ st) (aA st) .none kV doc pm an cdv ct):=⟨⟨oc,od,kV,doc,pm,an,cdv,ct,osl,rfl,l,c⟩,k⟩
theorem pv(i:Nat)(J: ~~~(X.N[i]?=a_ x))(hv:autoParam (Vis X.env.scope x) Jq4)(hd:((x==("__debug__":o_))=b_)⁻¹)(I:((x==("__classdict__":o_))=b_)⁻¹):PE X (.Name x pos) (cn i):=pe_var J hv hd I
theorem iteF{A B:Prop}(h:B):if b_=e_ then A else B:=by rw[l_ DZ];exact h
theorem iteNS{c A B:Prop}[Decidable c](I:c)(h:B):if (!decide c)=e_ then A else B:=by rw[r_ I];exact iteF h
noncomputable def aO(H H':Hp):Prop:=∀b o,H b=a_ o->H' b=a_ o
theorem aO.refl(H:Hp):aO H H:=λ_ _ h=>h
theorem aO.trans(a:aO H H1)(b:aO H1 H2):aO H H2:=λc o h=>b c o (a c o h)
theorem aO.free(e:aO H H')(h:H' l=d_):H l=d_:=by
 cases q:H l with
 |none=>rfl|some o=>rw[e l o q]at h;cases h
noncomputable def rB(cells:List (o_×g_)):List (o_×FE)->List (o_×g_)->List (o_×g_)
 |[],I=>I|(x,k)::r,I=>rB cells r (if (k==NameKind.free)=e_ then(x,(cells.lookup x).getD 0)::I else I)
theorem gt_ne(h1:b<a)(h2:a<c):c≠b:=by rintro rfl;exact Dc (G4 h1 h2) (D3 _)
theorem zC(h1:a<n)(h2:n<=b):a≠b:=by rintro rfl;exact Dc (De h1 h2) (D3 _)
theorem rA{cells:List (o_×g_)}{x:o_}{c:g_}:∀(ns:List (o_×FE)) (I:List (o_×g_)),(rB cells ns I).lookup x=a_ c ->
  ((x,NameKind.free)∈ns/\c=(cells.lookup x).getD 0)\/I.lookup x=a_ c
 |[],_,h=>.inr h|(y,k)::r,I,h=>by
  unfold rB at h;rcases rA r _ h with⟨m,e⟩|q
  ·exact .inl ⟨Dl _ m,e⟩
  ·by_cases U:(k==NameKind.free)=e_
   ·rw[i_ U,w_]at q;cases J:x==y with
    |true=>rw[J]at q;have e1:=EU J;have e2:=EU U;subst e1 e2;exact .inl ⟨DO,(Dt q).symm⟩|false=>rw[J]at q;exact .inr q
   ·rw[l_ U]at q;exact .inr q
theorem pO{cells:List (o_×g_)}{x:o_}:∀(ns:List (o_×FE)) (I:List (o_×g_)),((x,NameKind.free)∈ns\/(I.lookup x).isSome=e_)->((rB cells ns I).lookup x).isSome=e_
 |[],_,h=>h.elim (λz=>nomatch z) id
 |(y,k)::r,I,h=>by
  unfold rB;refine pO r _ ?_;rcases h with h|h
  ·rcases A_.mp h with e|h
   ·cases e;refine .inr ?_;rw[i_ (by decide),w_];simp
   ·exact .inl h
  ·refine .inr ?_;by_cases J:(k==NameKind.free)=e_
   ·rw[i_ J,w_];cases U:x==y with
    |true=>rfl|false=>exact h
   ·rw[l_ J];exact h
theorem ku{x:o_}{c:g_}:∀(ns:List (o_×FE)) (n:Nat) (I:List (o_×g_)),(En n ns I).lookup x=a_ c->(n<=c/\(x,Eu)∈ns)\/I.lookup x=a_ c
 |[],_,_,h=>.inr h|(y,k)::r,n,I,h=>by
  unfold En at h;by_cases U:(k==Eu)=e_
  ·rw[i_ U]at h;rcases ku r (n+1) _ h with⟨a,m⟩|q
   ·exact .inl ⟨by omega,Dl _ m⟩
   ·rw[w_]at q;cases J:x==y with
    |true=>rw[J]at q;have e1:=EU J;have e2:=EU U;have e3:=Dt q;subst e1 e2 e3;exact .inl ⟨u_ _,DO⟩|false=>rw[J]at q;exact .inr q
  ·rw[l_ U]at h;rcases ku r n I h with⟨a,m⟩|q
   ·exact .inl ⟨a,Dl _ m⟩
   ·exact .inr q
theorem pP:∀(ns:List (o_×FE)) (n:Nat) (I:List (o_×g_)),(∀x y c,I.lookup x=a_ c->I.lookup y=a_ c->x=y)->(∀x c,I.lookup x=a_ c->c<n) ->
  ∀x y c,(En n ns I).lookup x=a_ c->(En n ns I).lookup y=a_ c->x=y
 |[],_,_,hi,_=>hi|(z,k)::r,n,I,hi,a=>by
  unfold En;by_cases b:(k==Eu)=e_
  ·rw[i_ b];refine pP r (n+1) _ (λx y c h1 h2=>?_) (λx c h1=>?_)
   ·rw[w_]at h1 h2;cases J:x==z with
    |true=>
     rw[J]at h1;have e1:=Dt h1;cases U:y==z with
     |true=>rw[EU J,EU U]|false=>rw[U]at h2;have Y:=a y c h2;rw[<- e1]at Y;exact Dc Y (D3 _)
    |false=>
     rw[J]at h1;cases U:y==z with
     |true=>rw[U]at h2;have e2:=Dt h2;have Y:=a x c h1;rw[<- e2]at Y;exact Dc Y (D3 _)|false=>rw[U]at h2;exact hi x y c h1 h2
   ·rw[w_]at h1;cases J:x==z with
    |true=>rw[J]at h1;have e1:=Dt h1;rw[<- e1];exact FP _|false=>rw[J]at h1;exact J9 (a x c h1)
  ·rw[l_ b];exact pP r n I hi a
theorem lY{x:o_}{c:g_}:∀(ns:List (o_×FE)) (h:DR) (I:List (o_×g_)),(En h.objs.size ns I).lookup x=a_ c ->
  I.lookup x=a_ c\/(h.objs.size<=c/\(pushCells h ns).IsCell c d_)
 |[],_,_,e=>.inl e|(y,k)::r,h,I,e=>by
  unfold En at e;unfold pushCells;by_cases U:(k==Eu)=e_
  ·rw[i_ U]at e ⊢;have q:=lY (x:=x) (c:=c) r (h.push {cls:=.type "cell",data:=.cell d_}) ((y,h.objs.size)::I) (by rw[Eo];exact e);rcases q with q|⟨a,Y⟩
   ·rw[w_]at q;cases J:x==y with
    |true=>rw[J]at q;have e1:=Dt q;subst e1;exact .inr ⟨u_ _,Heap.IsCell.keeps ⟨_,Df _ rfl,rfl⟩ (II r _)⟩|false=>rw[J]at q;exact .inl q
   ·rw[Eo]at a;exact .inr ⟨by omega,Y⟩
  ·rw[l_ U]at e ⊢;exact lY r h I e
theorem ma{env:Iq}(f:o_×FE->List (o_×g_)->KN (ForInStep (List (o_×g_))))(U:∀n k cs,f (n,k) cs=if (k==NameKind.free)=e_ then(do let a <- cellOf env n;EY (.yield ((n,a)::cs)))else EY (.yield cs)):
  ∀(ns:List (o_×FE)) (I:List (o_×g_)),(∀x∈ns,x.2=NameKind.free->∃c,env.cells.lookup x.1=a_ c)->forIn ns I f=(EY (rB env.cells ns I):KN _)
 |[],I,_=>by rw[Kk];rfl|(y,k)::r,I,b=>by
  have Y:∀x∈r,x.2=NameKind.free->∃c,env.cells.lookup x.1=a_ c:=λx g=>b x (Dl _ g);rw[List.forIn_cons,U];unfold rB;by_cases J:(k==NameKind.free)=e_
  ·rw[i_ J,i_ J];obtain⟨c,e⟩:=b (y,k) DO (EU J);have d:env.cells.lookup y=a_ c:=e;have e2:cellOf env y=EY c:=by unfold cellOf;rw[d]
   rw[e2,d];exact ma f U r _ Y
  ·rw[l_ J,l_ J];exact ma f U r _ Y
theorem rq(I:∀x∈scope.names,x.2=NameKind.free->∃c,env.cells.lookup x.1=a_ c):closureFor scope env=EY (rB env.cells scope.names []):=by simp only[closureFor];rw[ma (env:=env) _ (λn k cs=>by cases h:(k==NameKind.free)<;>simp[h]) scope.names [] I];rfl
theorem Bl{M:HQ}{E:Vp}{d:g_}{U:List (o_×g_)}{I:Iq}{Q:Iq->x_->Prop}(g:∀h1:DR,(∀b o,s.heap.get? b=a_ o->h1.get? b=a_ o)->h1.Ns s.heap.objs.size (λ_=>d_) ->
   (∀x c,(En (s.heap.objs.size+1) scope.names U).lookup x=a_ c->U.lookup x=a_ c\/(s.heap.objs.size<c/\h1.IsCell c d_)) ->
   Q {scope:=scope,locals:=s.heap.objs.size,globals:=d,cells:=En (s.heap.objs.size+1) scope.names U,qual:=qual,func:=d_,code:=I.code,frame:=I.frame,builtins:=I.builtins} {s with heap:=h1}):
  CT M A (I_ scope d U [] qual d_ .none (a_ I)) Q E s:=by
 simp only[I_,Option.isSome_some,IF];refine p_ (wpAny_alloc ?_);refine p_ (wpAny_layCells _ (λname J cells=>by cases Y:J==Eu<;>simp[Y]) _ _ _ _ ?_);rw[show({s with heap:=s.heap.push {cls:=.type "dict",data:=.dict #[]}}:x_).heap.objs.size=s.heap.objs.size+1 from Eo ..];rw[Kk];refine p_ (Cb (Cb ?_));refine g _ (λb o e=>II _ _ b o (t_ _ e)) ((Heap.Ns.new s.heap (.type "dict")).keeps (II _ _)) λx c e=>?_;have q:=lY (x:=x) (c:=c) scope.names (s.heap.push {cls:=.type "dict",data:=.dict #[]}) U (by rw[Eo];exact e);rw[Eo]at q;refine q.imp id λf=>?_;obtain⟨a,b⟩:=f;exact⟨by omega,b⟩
theorem qP{env:Iq}{x:o_}:∀{ns:List (o_×FE)},ns.lookup x=a_ .free ->
  (ns.map λ(n,k)=>if (k==NameKind.free&&env.scope.kind==.function&&env.kindOf n==a_ .cell)then(n,Eu)else(n,k)).lookup x=a_ .cell \/
  (ns.map λ(n,k)=>if (k==NameKind.free&&env.scope.kind==.function&&env.kindOf n==a_ .cell)then(n,Eu)else(n,k)).lookup x=a_ .free
 |[],h=>by simp at h|(n,k)::r,h=>by
  have J:=@qP env x r;rw[Dp];dsimp only;by_cases U:(k==NameKind.free&&env.scope.kind==.function&&env.kindOf n==a_ .cell)=e_
  ·rw[i_ U,w_];cases I:x==n with
   |true=>exact .inl rfl|false=>rw[w_,I]at h;exact J h
  ·rw[l_ U,w_];cases I:x==n with
   |true=>rw[w_,I]at h;have e:=Dt h;subst e;exact .inr rfl|false=>rw[w_,I]at h;exact J h
theorem qQ{env:Iq}{x:o_}:∀{ns:List (o_×FE)},
  ((ns.map λ(n,k)=>if (k==NameKind.free&&env.scope.kind==.function&&env.kindOf n==a_ .cell)then(n,Eu)else(n,k)).lookup x=a_ .cell \/
  (ns.map λ(n,k)=>if (k==NameKind.free&&env.scope.kind==.function&&env.kindOf n==a_ .cell)then(n,Eu)else(n,k)).lookup x=a_ .free) ->
  ns.lookup x=a_ .cell\/ns.lookup x=a_ .free
 |[],h=>by simp at h|(n,k)::r,h=>by
  have U:=@qQ env x r;rw[Dp]at h;dsimp only at h;by_cases J:(k==NameKind.free&&env.scope.kind==.function&&env.kindOf n==a_ .cell)=e_
  ·rw[i_ J,w_]at h;rw[w_];cases I:x==n with
   |true=>
    have:k=NameKind.free:=by rw[n_,n_]at J;exact EU J.1.1
    subst this;exact .inr rfl
   |false=>rw[I]at h;exact U h
  ·rw[l_ J,w_]at h;rw[w_];cases I:x==n with
   |true=>rw[I]at h;exact h|false=>rw[I]at h;exact U h
noncomputable def bL(X:Cx)(N':List o_)(sc:Ij)(L:g_)(cs:List (o_×g_))(s:x_)(H:Hp)(fp:List g_):Cx:=
 {X with
  N:=N',s₀:=s,H₀:=H,outer:=X.stack,ex:=fp,pn:=[],xe:=λ_ _=>False
  fn:=λx=> !(sc.names.any λp=>p.1==x&&p.2==NameKind.free)
  env:={scope:=relabel sc X.env,locals:=L,globals:=X.env.globals,cells:=cs,qual:=X.env.qual,func:=d_,code:=X.env.code,frame:=X.env.frame,builtins:=X.env.builtins}}
noncomputable def inS(ix:List (Option Nat))(σ:St):St:=ix.map λo=>match o with
 |none=>d_|some j=>(σ[j]?).join
noncomputable def cf(N:List o_)(I:Ij)(N':List o_)(sc:Ij)(ix:List (Option Nat)):Bool:=
 q_ (ix.length=N'.length) &&
 ((DY ix.length).all λi=>match ix[i]? with
  |some (a_ j)=>(match N'[i]?,N[j]? with
   |some x,a_ y=>x==y&&sc.names.lookup x==a_ NameKind.free|_,_=>b_)
  |_=>e_) &&
 (sc.names.all λp=>(p.2 != NameKind.free||(I.names.lookup p.1==a_ Eu||I.names.lookup p.1==a_ NameKind.free))&&(p.2 != NameKind.local||sc.names.lookup p.1==a_ NameKind.local)) &&
 (sc.names.all λp=>sc.names.all λq=> !(p.1==q.1)||p.2==q.2)
theorem cf.len(I:cf X.N X.env.scope N' sc ix=e_):ix.length=N'.length:=by unfold cf at I;rw[n_,n_,n_]at I;exact EV I.1.1.1
theorem cf.at(I:cf X.N X.env.scope N' sc ix=e_){i j:Nat}{x:o_}(h:ix[i]?=a_ (a_ j))(J:N'[i]?=a_ x):X.N[j]?=a_ x/\sc.names.lookup x=a_ .free:=by
 unfold cf at I;rw[n_,n_,n_]at I;have q:=EA.mp I.1.1.2 i (List.mem_range.mpr (z_.mp h).1);rw[h,J]at q;dsimp only at q;cases e:X.N[j]? with
 |none=>rw[e]at q;cases q|some y=>rw[e]at q;dsimp only at q;rw[n_]at q;exact⟨by rw[EU q.1],EU q.2⟩
theorem cf.fr(I:cf X.N X.env.scope N' sc ix=e_)(h:(x,NameKind.free)∈sc.names):X.env.kindOf x=a_ .cell\/X.env.kindOf x=a_ .free:=by
 unfold cf at I;rw[n_,n_]at I;have q:=EA.mp I.1.2 _ h;rw[n_]at q;have J:=q.1;rw[G5]at J;rcases J with z|z
 ·exact Dc z (by simp)
 ·rw[G5]at z;exact z.imp (λe=>EU e) λe=>EU e
theorem cf.loc(I:cf X.N X.env.scope N' sc ix=e_):∀x∈sc.names,x.2=NameKind.local->sc.names.lookup x.1=a_ .local:=λx U e=>by
 unfold cf at I;rw[n_,n_]at I;have q:=EA.mp I.1.2 _ U;rw[n_]at q;have J:=q.2;rw[G5]at J;rcases J with z|z
 ·rw[e]at z;exact Dc z (by decide)
 ·exact EU z
theorem cf.apart(I:cf X.N X.env.scope N' sc ix=e_)(h1:(x,Eu)∈sc.names)(h2:(x,NameKind.free)∈sc.names):False:=by unfold cf at I;rw[n_]at I;have q:=EA.mp (EA.mp I.2 _ h1) _ h2;simp at q
theorem pM(I:Inv X pins σ H s)(J:cf X.N X.env.scope N' sc ix=e_):∀x∈sc.names,x.2=NameKind.free->∃c,X.env.cells.lookup x.1=a_ c:=λx U e=>by obtain⟨n,k⟩:=x;have Y:k=NameKind.free:=e;subst Y;exact I.ok.has n (cf.fr J U)
theorem Co(I:Inv X pins σ H s)(U:cf X.N X.env.scope N' sc ix=e_)(h:(rB X.env.cells sc.names []).lookup x=a_ c):(x,NameKind.free)∈sc.names/\X.env.cells.lookup x=a_ c:=by
 rcases rA _ _ h with⟨m,e⟩|z
 ·obtain⟨d,hd⟩:=pM I U _ m rfl;have J:X.env.cells.lookup x=a_ d:=hd;rw[J]at e;have e2:c=d:=e;subst e2;exact⟨m,J⟩
 ·simp at z
theorem comp_inv{h1:DR}(I:Inv X pins σ H s)(D:∀b∈fp,Ag X pins H b)(hb:∀b∈fp,∃o,s.heap.get? b=a_ o)(f:cf X.N X.env.scope N' sc ix=e_)(hk:sc.kind=.function)(a:s.heap.objs.size<=L)(C:∀b o,s.heap.get? b=a_ o->h1.get? b=a_ o)(ns:h1.Ns L λ_=>d_)(h:∀x c,(En (L+1) sc.names (rB X.env.cells sc.names [])).lookup x=a_ c->(rB X.env.cells sc.names []).lookup x=a_ c\/(L<c/\h1.IsCell c d_)):
  Inv (bL X N' sc L (En (L+1) sc.names (rB X.env.cells sc.names [])) s H fp) [] (inS ix σ) H {s with heap:=h1}:=by
 have U:∀x c,(rB X.env.cells sc.names []).lookup x=a_ c->(x,NameKind.free)∈sc.names/\X.env.cells.lookup x=a_ c/\(∃v,s.heap.IsCell c v)/\c<s.heap.objs.size:=λx c e=>by obtain⟨m,T⟩:=Co I f e;obtain⟨v,z⟩:=I.cell x c T;exact⟨m,T,⟨v,z⟩,z.lt⟩
 have t:∀b∈fp,b<s.heap.objs.size:=λb z=>let ⟨o,e⟩:=hb b z;v_ e;have P:∀b∈fp,∀x c,(En (L+1) sc.names (rB X.env.cells sc.names [])).lookup x=a_ c->c≠b:=λb z x c e=>by
  have d:=t b z;rcases h x c e with q|⟨q,_⟩
  ·exact(D b z).2.2.2.2.1 x c (U x c q).2.1
  ·exact gt_ne (De d a) q
 have F:(bL X N' sc L (En (L+1) sc.names (rB X.env.cells sc.names [])) s H fp).Ok:=by
  refine⟨I.ok.mod,hk,I.ok.glob,I.ok.blt,a,?_,?_,?_,I.ok.hd,I.ok.frames,.inl rfl,?_,I.bs,Dz I.ok.bsz I.sz,?_,?_,I.stack,I.AG⟩
  ·refine pP sc.names (L+1) _ (λx y c e1 e2=>I.ok.inj x y c (U x c e1).2.1 (U y c e2).2.1) λx c e=>?_;exact J9 (De (U x c e).2.2.2 a)
  ·intro x hx;have G:=qQ (env:=X.env) (x:=x) (ns:=sc.names) hx;have q:((En (L+1) sc.names (rB X.env.cells sc.names [])).lookup x).isSome=e_:=by
    rcases G with z|z
    ·exact Fi _ _ _ (.inl z)
    ·exact Fi _ _ _ (.inr (pO _ _ (.inl (Ea z))))
   exact Ey.mp q
  ·intro x c N e;show s.heap.objs.size<=c;rcases h x c e with q|⟨q,_⟩
   ·have m:=(U x c q).1;have Y:(!(sc.names.any λp=>p.1==x&&p.2==NameKind.free))=e_:=N;have z:(sc.names.any λp=>p.1==x&&p.2==NameKind.free)=e_:=HV.mpr ⟨_,m,by simp⟩;rw[z]at Y;cases Y
   ·exact Dz a (GC q)
  ·intro b z;have d:=t b z;exact⟨Dx (De d a),P b z⟩
  ·intro b o e z;rcases(D b z).2.2.2.1 with q|q
   ·exact I.ok.noex b o e q
   ·exact Dc (De (v_ e) (Dz I.ok.bsz q)) (D3 _)
  ·intro b z hs;rcases A_.mp (I.qK b hs)with q|q
   ·exact(D b z).2.1 q
   ·exact(D b z).2.2.1 q
 refine⟨F,rfl,I.bare,Un.kept C,⟨_,ns,λi x v O h2 h3=>?_⟩,λx c e=>?_,I.hok.fresh a,λx c e=>?_,λp hp=>Dc hp (by simp[bL]),I.hok.kept C,?_⟩
 ·have K:∃j,ix[i]?=a_ (a_ j)/\σ[j]?=a_ (a_ v):=by
   unfold inS at h2;rw[Ee]at h2;cases e:ix[i]? with
   |none=>rw[e]at h2;cases h2|some o=>
    rw[e]at h2;cases o with
    |none=>cases h2|some j=>
     have J:(σ[j]?).join=a_ v:=Dt h2;refine⟨j,rfl,?_⟩
     cases e2:σ[j]? with
     |none=>rw[e2]at J;cases J|some w=>rw[e2]at J;have n:w=a_ v:=J;rw[n]
  obtain⟨j,e1,e2⟩:=K;obtain⟨e3,e4⟩:=cf.at f e1 O;have g:=cf.fr f (Ea e4);obtain⟨m,hn,hl⟩:=I.loc;obtain⟨u,r,l⟩:=hl j x v e3 e2 (g.elim (λz=>.inr (.inl z)) λz=>.inr (.inr z));refine⟨u,r,.inr ⟨qP (env:=X.env) (x:=x) (ns:=sc.names) e4,?_⟩⟩
  rcases l with⟨k,_⟩|⟨k,c,e,z⟩
  ·rcases g with q|q<;>rw[q]at k<;>cases k
  ·have S:=pO (cells:=X.env.cells) sc.names [] (.inl (Ea e4));obtain⟨c2,B⟩:=Ey.mp S;have R:=(U x c2 B).2.1;rw[e]at R;cases R;have W:=Fi (x:=x) sc.names (L+1) (rB X.env.cells sc.names []) (.inr S);obtain⟨c3,E⟩:=Ey.mp W;rcases h x c3 E with A|⟨A,q7⟩
   ·rw[B]at A;cases A;exact⟨c,E,z.keeps C⟩
   ·exfalso;rcases ku _ _ _ E with⟨_,Z⟩|Q
    ·exact cf.apart f Z (Ea e4)
    ·rw[B]at Q;cases Q;exact Dc (G4 (De (U x c B).2.2.2 a) A) (D3 _)
 ·rcases h x c e with q|⟨_,q⟩
  ·obtain⟨v,z⟩:=(U x c q).2.2.1;exact⟨v,z.keeps C⟩
  ·exact⟨_,q⟩
 ·rcases h x c e with q|⟨q,_⟩
  ·exact I.freeC x c (U x c q).2.1
  ·exact I.hok.fresh (Dz a (GC q))
 ·show(inS ix σ).length=N'.length;unfold inS;rw[y_];exact cf.len f
noncomputable def PTs(X:Cx)(ifs:List Ed)(t:TT):Prop:=
 ∀(pins:Pn) (s:x_) (σ:St) (H:Hp) (Q:Bool->Hp->Prop),Inv X pins σ H s->t σ H Q ->
  CT (Dd X.prog X.w) X.A (forIn ifs e_ λc r=>if r=e_ then do let I <- JS c X.env (Di c X.env);EY (GP I)else EY (GP r)) (TP X pins σ Q) X.xe s
noncomputable def tYes:TT:=λ_ H Q=>Q e_ H
theorem pts_nil:PTs X [] tYes:=λ_ _ _ H _ I h=>wpAny_tests_nil ⟨H,I,h⟩
theorem so{c:Ed}{t:TT}(h:PT X c t):PTs X [c] t:=λpins s σ H Q I q=>wpAny_tests_one (h pins s σ H Q I q)
theorem vk{R:JY->x_->Prop}{it I:j_}(J:Nat->x_->Prop)(U:∀n s,J n s->CT (Dd prog w) A (pyNext it) (λr d=>match r with
   |none=>R (.ok .next) d|some v=>CT (Dd prog w) A (Hi tg it v) (λ_ Y=>CT (Dd prog w) A (Iz tg env v) (λ_ i=>
     CT (Dd prog w) A (forIn ifs e_ λc r=>if r=e_ then do let a <- JS c env (Di c env);EY (GP a)else EY (GP r)) (λa b=>
      if a=e_ then CT (Dd prog w) A (Di elt env) (λx g=>CT (Dd prog w) A (Gn (.builtin "list.append") [I,x]) (λ_ f=>∃m,m<n/\J m f) (λ_ _=>False) g) (λ_ _=>False) b
      else ∃m,m<n/\J m b) (λ_ _=>False) i) (λ_ _=>False) Y) (λ_ _=>False) d) (λ_ _=>False) s)(n:Nat)(h:J n s):Gk (Dd prog w) A (.compLoop (.ListComp elt [⟨tg,iter,ifs,0⟩] scope pos) 0 it I env) R s:=by
 refine codeAny_loop rfl J (λn s k=>?_) n h;show CT _ A ((compTurn (.ListComp elt [⟨tg,iter,ifs,0⟩] scope pos) 0 it I env).onRaise (λx=>do JH x env;theTreesLotGoes x)) _ _ s;refine wpAny_noted ?_;rw[compTurn_list];refine p_ (G2 (p_ (D1 (U n s k) (λr d h1=>?_) λ_ _ z=>z.elim)));cases r with
 |none=>exact Cb h1|some v=>
  refine p_ (D1 h1 (λ_ Y e=>?_) λ_ _ z=>z.elim);refine p_ (D1 e (λ_ i h2=>p_ (D1 h2 (λa b j=>?_) λ_ _ z=>z.elim)) λ_ _ z=>z.elim);cases a with
  |false=>exact Cb ⟨rfl,j⟩|true=>exact p_ (p_ (D1 j (λx g o=>p_ (D1 o (λ_ f l=>Cb (Cb ⟨rfl,l⟩)) λ_ _ z=>z.elim)) λ_ _ z=>z.elim))
noncomputable def pN(J:It)(ix:List (Option Nat))(g:TG)(tt:TT)(te:TE)(σ:St)(F:List V->Hp->Prop)(H:Hp):Prop:=
 ∃W:Nat->Nat->List V->Hp->Prop,(∃m,W 0 m [] H)/\∀i m ys H,W i m ys H ->
  (J.stop i H/\ys.length<=m_/\F ys H)\/(J.go i H/\ys.length<=m_/\∃N:List V->Hp->Prop,(∀U H',N U H'->∃Y,Y<m/\W (i+1) Y U H') /\
   ∀x H',J.yld i H x H'->g x (inS ix σ) H' λI H2=>tt I H2 λb a=>if b=e_ then te I a λy c=>N (ys++[y]) c else N ys a)
theorem Inv.slots0(I:Inv X pins σ' H s)(h:∀(i:Nat) v,(inS ix σ)[i]?=a_ (a_ v)->σ'[i]?=a_ (a_ v))(J:(inS ix σ).length=X.N.length):Inv X pins (inS ix σ) H s:=
 I.weak (by rw[J,I.len]) h
theorem vj{g:TG}{J:It}{tn:Nat->DR->Prop}{F:List V->Hp->Prop}{E:Vp}(hc:X.calm=e_)(I:Inv X pins σ H s)(T:Turn X.prog X.w X.K tg J fp it tn)(st:tn 0 s.heap)(hf:∀b∈fp,Ag X pins H b)(ok:cf X.N X.env.scope N' sc ix=e_)(hk:sc.kind=.function)(hg:∀L cs s H fp,PG (bL X N' sc L cs s H fp) tg g)(hkeep:∀x σ' H' (Q:St->Hp->Prop),g x σ' H' Q->g x σ' H' λσ2 H2=>Q σ2 H2/\∀(i:Nat) v,σ'[i]?=a_ (a_ v)->(∃j,ix[i]?=a_ (a_ j))->σ2[i]?=a_ (a_ v))(ht:∀L cs s H fp,PTs (bL X N' sc L cs s H fp) ifs tt)(he:∀L cs s H fp,PE (bL X N' sc L cs s H fp) elt te)(tr:pN J ix g tt te σ F H):
  CT (Dd X.prog X.w) X.A (newList []) (λacc s3=>CT (Dd X.prog X.w) X.A (I_ sc X.env.globals (rB X.env.cells sc.names []) [] X.env.qual d_ .none (a_ X.env)) (λa s4=>
   Gk (Dd X.prog X.w) X.A (.compStart (.ListComp elt [⟨tg,iter,ifs,0⟩] sc pos) 0 (.ref it) acc {a with scope:=relabel sc X.env}) (λr s'=>(∃fl,r=.ok fl) /\
    ∃(p:g_) (ys:List V) (H2:Hp),acc=.ref p/\Inv X pins σ (upd H2 p (.lst ys)) s'/\H2 p=d_/\F ys H2/\(∃m,s'.heap.Ns a.locals m)/\(upd H2 p (.lst ys)) a.locals=d_/\a.locals≠X.env.locals /\
     X.s₀.heap.objs.size<=a.locals/\(∀x c,X.env.cells.lookup x=a_ c->c≠a.locals)/\∀q∈X.pn++pins,q.1≠a.locals) s4) E s3) E s:=by
 obtain⟨W,⟨m0,w0⟩,turn⟩:=tr;refine Ia (Bl λh1 kp ns hcl=>?_);dsimp only at kp ns hcl ⊢;generalize hH2:s.heap.push {cls:=.type "list",dict:=d_,data:=.seq ([]:List j_).toArray}=t at kp ns hcl ⊢;have eL:t.objs.size=s.heap.objs.size+1:=by rw[<- hH2,Eo]
 have kp0:∀b o,s.heap.get? b=a_ o->h1.get? b=a_ o:=λb o e=>kp b o (hH2▸t_ _ e);have hD0:h1.PlainList s.heap.objs.size #[]:=⟨_,kp _ _ (hH2▸Df _ rfl)⟩
 have fpo:∀b∈fp,∃o,s.heap.get? b=a_ o:=λb z=>let ⟨o,e,_⟩:=T.obj 0 _ st b z;⟨o,e⟩;have fpl:∀b∈fp,b<s.heap.objs.size:=λb z=>let ⟨o,e⟩:=fpo b z;v_ e;have sL:s.heap.objs.size<=t.objs.size:=by rw[eL];exact DF _
 have S:s.heap.objs.size<t.objs.size:=by rw[eL];exact FP _
 have I0:=comp_inv (h1:=h1) I hf fpo ok hk sL kp0 ns hcl;generalize U:bL X N' sc t.objs.size (En (t.objs.size+1) sc.names (rB X.env.cells sc.names [])) s H fp=Y at I0;have A:Y.prog=X.prog:=by subst U;rfl
 have w:Y.w=X.w:=by subst U;rfl
 have eY3:Y.K=X.K:=by subst U;rfl
 have eY4:Y.calm=e_:=by subst U;exact hc
 have G:Y.A=X.A:=by subst U;rfl
 have h:Y.env={scope:=relabel sc X.env,locals:=t.objs.size,globals:=X.env.globals,cells:=En (t.objs.size+1) sc.names (rB X.env.cells sc.names []),qual:=X.env.qual,func:=d_,code:=X.env.code,frame:=X.env.frame,builtins:=X.env.builtins}:=by subst U;rfl
 have eY7:Y.xe=λ_ _=>False:=by subst U;rfl
 have eY8:Y.pn=[]:=by subst U;rfl
 have eY9:Y.fs=frs X.stack:=by subst U;rfl
 have K:Y.s₀=s:=by subst U;rfl
 have eY11:Y.H₀=H:=by subst U;rfl
 have eY12:Y.ex=fp:=by subst U;rfl
 have eY13:Y.N=N':=by subst U;rfl
 have hgY:PG Y tg g:=by subst U;exact hg _ _ _ _ _
 have htY:PTs Y ifs tt:=by subst U;exact ht _ _ _ _ _
 have heY:PE Y elt te:=by subst U;exact he _ _ _ _ _
 have lenI:(inS ix σ).length=Y.N.length:=by rw[eY13];unfold inS;rw[y_];exact cf.len ok
 have N:∀(b:g_),b<=t.objs.size->(∀x c,X.env.cells.lookup x=a_ c->c≠b)->∀x c,Y.env.cells.lookup x=a_ c->c≠b:=λb f hx x c e=>by
  rw[h]at e;rcases hcl x c e with q|⟨q,_⟩
  ·exact hx x c (Co I ok q).2
  ·exact(zC (Nat.lt_of_le_of_lt f (FP _)) q).symm
 have oldc:∀x c,X.env.cells.lookup x=a_ c->c<s.heap.objs.size:=λx c e=>let ⟨v,z⟩:=I.cell x c e;z.lt;have nfs:∀b,s.heap.objs.size<=b->b∉frs X.stack:=λb f z=>by
  rcases A_.mp (I.qK b z)with q|q
  ·exact zC I.lt f q.symm
  ·exact I.nofs f q
 have fpY:∀(pp:Pn) (H':Hp),(∀b∈fp,H' b=d_)->(∀q∈pp,q.1∉fp)->∀b∈fp,Ag Y pp H' b:=λpp H' hn hq b z=>by
  have hlt:=fpl b z;refine⟨hn b z,?_,?_,.inl (by rw[eY12];exact z),N b (GC (G4 hlt S)) ((hf b z).2.2.2.2.1),λq C e=>?_⟩
  ·rw[h];exact zC hlt sL
  ·rw[eY9];intro hs;rcases A_.mp (I.qK b hs)with q|q
   ·exact(hf b z).2.1 q
   ·exact(hf b z).2.2.1 q
  ·rw[eY8]at C;exact hq q (by simpa using C) (by rw[e];exact z)
 have Dfp:s.heap.objs.size∉fp:=λz=>Dc (fpl _ z) (D3 _);have Dok:∀(pp:Pn) (H':Hp),H' s.heap.objs.size=d_->(∀q∈pp,q.1≠s.heap.objs.size)->Ag Y pp H' s.heap.objs.size:=λpp H' hn hq=>by
  refine⟨hn,?_,by rw[eY9];exact nfs _ (u_ _),.inr (by rw[K];exact u_ _),N _ sL (λx c e=>Dx (oldc x c e)),λq C=>?_⟩
  ·rw[h];exact Dx S
  ·rw[eY8]at C;exact hq q (by simpa using C)
 have B:Gk (Dd X.prog X.w) X.A (.compLoop (.ListComp elt [⟨tg,iter,ifs,0⟩] sc pos) 0 (.ref it) (.ref s.heap.objs.size) Y.env) (λr s'=>(∃fl,r=.ok fl) /\
    ∃(p:g_) (ys:List V) (H2:Hp),CU s.heap.objs.size=.ref p/\Inv X pins σ (upd H2 p (.lst ys)) s'/\H2 p=d_/\F ys H2/\(∃m,s'.heap.Ns t.objs.size m)/\(upd H2 p (.lst ys)) t.objs.size=d_/\t.objs.size≠X.env.locals /\
     X.s₀.heap.objs.size<=t.objs.size/\(∀x c,X.env.cells.lookup x=a_ c->c≠t.objs.size)/\∀q∈X.pn++pins,q.1≠t.objs.size) {s with heap:=h1}:=by
  refine vk (λn s'=>∃i ys its H',Inv Y [] (inS ix σ) H' s'/\tn i s'.heap/\(∀b∈fp,H' b=d_)/\H' s.heap.objs.size=d_/\s'.heap.PlainList s.heap.objs.size its/\Vals ys its.toList/\W i n ys H') ?_ m0
   ⟨0,[],#[],H,I0,T.keep _ _ _ st λb _ o e=>kp0 b o e,λb z=>(hf b z).1,I.hok.fresh (u_ _),hD0,.nil,w0⟩
  rintro n s3 ⟨i,ys,its,O,I3,st3,fr3,l,pl3,P,w3⟩;obtain⟨Z,oD⟩:=pl3;have hpD:∀q∈[((s.heap.objs.size:g_),({cls:=.type "list",data:=.seq its Z}:G8))],q.1∉fp:=λq hq=>by have:q=_:=DK.mp hq;rw[this];exact Dfp
  have I3':Inv Y [((s.heap.objs.size:g_),({cls:=.type "list",data:=.seq its Z}:G8))] (inS ix σ) O s3:=I3.su λq hq=>by have e:q=_:=DK.mp hq;obtain⟨d0,d1,d2,_⟩:=Dok [] O l (λ_ z=>nomatch z);rw[e];exact⟨oD,d0,d1,d2,λv z=>by cases z⟩
  rcases turn i n ys O w3 with⟨stop,ln,qn⟩|⟨go,ln,NN,hNN,step⟩
  ·have h1:=T.done Y A w eY3 eY4 i _ s3 _ O (λ_ _=>False) I3' (fpY _ O fr3 hpD) st3 stop;rw[G]at h1;refine D1 h1 (λr s4 D=>?_) λ_ _ z=>z;obtain⟨hr,I4⟩:=D;subst hr;obtain⟨oD4,hD4,_⟩:=I4.pin ((s.heap.objs.size:g_),({cls:=.type "list",data:=.seq its Z}:G8)) (by rw[eY8];simp);refine⟨⟨_,rfl⟩,s.heap.objs.size,ys,O,rfl,?_,l,qn,?_,?_,?_,?_,?_,?_⟩
   ·have R:Un (frs X.stack) fp H O s.heap s4.heap:=by
     have:=I4.base;rw[eY9,K,eY11,eY12]at this;exact this
    have hok4:HOk X.prog X.w O s4.heap:=by have:=I4.hok;rw[A,w]at this;exact this
    refine I.call' (ch:=fp) (by have:=I4.os;rw[K]at this;exact this) ⟨R.keep,R.slot,λb o e nn hx=>?_,R.there,λb xs q=>?_,λb o u q=>?_,λb ps q=>?_⟩ (λb u e=>?_) I4.bare (λb f=>?_)
    ·rw[ao (Dx (v_ e))];exact R.free b o e nn hx
    ·rw[ao (aL (R.tups b xs q) l)];exact R.tups b xs q
    ·rw[ao (aL (R.frzs b o u q) l)];exact R.frzs b o u q
    ·obtain⟨more,z⟩:=R.tbls b ps q;exact⟨more,by rw[ao (aL z l)];exact z⟩
    ·by_cases f:b=s.heap.objs.size
     ·subst f;rw[aq]at e;cases e;exact⟨ln,its.toList,Z,P,by simpa using oD4⟩
     ·rw[ao f]at e;exact(hok4 b u e).vR (λ_ _ _ q=>q) (λc q=>by rw[ao (aL q l)];exact q) λc xs q=>by rw[ao (aL q l)];exact q
    ·obtain⟨f0,f1,f2,f3,f4,f5⟩:=hf b f;exact⟨f3,f1,f4,f5⟩
   ·obtain⟨m,hn,_⟩:=I4.loc;rw[h]at hn;exact⟨m,hn⟩
   ·rw[ao (G3 S)];have:=I4.free;rw[h]at this;exact this
   ·exact G3 (G4 I.lt S)
   ·exact Dz I.sz sL
   ·exact λx c e=>zC (oldc x c e) sL
   ·exact λq hq=>zC (v_ (I.pin q hq).1) sL
  ·have h1:=T.item Y A w eY3 eY4 i _ s3 _ O (λ_ _=>False) I3' (fpY _ O fr3 hpD) st3 go;rw[G]at h1;refine D1 h1 (λr s4 D=>?_) λ_ _ z=>z;obtain⟨u,hr,h4⟩:=D;subst hr;refine D1 h4 (λ_ s5 D=>?_) λ_ _ z=>z;obtain⟨x,H5,I5,r5,y5,st5,fr5⟩:=D;have I5':=I5.pinned (fpY _ H5 fr5 hpD) (T.obj _ _ st5);have h5:=hgY _ s5 _ H5 x u _ I5' r5 (hkeep x _ H5 _ (step x H5 y5));rw[A,w,G,eY7]at h5;refine D1 h5 (λ_ s6 D=>?_) λ_ _ z=>z;obtain⟨σ6,H6,I6,q6,k6⟩:=D;have h6:=htY _ s6 σ6 H6 _ I6 q6;rw[A,w,G,eY7]at h6;refine D1 h6 (λb s7 D=>?_) λ_ _ z=>z;obtain⟨H7,I7,q7⟩:=D;have back:∀{s8:x_} {H8:Hp},Inv Y ([((s.heap.objs.size:g_),({cls:=.type "list",data:=.seq its Z}:G8))]++uE fp s5.heap) σ6 H8 s8->Inv Y [] (inS ix σ) H8 s8/\tn (i+1) s8.heap/\(∀b∈fp,H8 b=d_)/\H8 s.heap.objs.size=d_/\s8.heap.get? s.heap.objs.size=a_ {cls:=.type "list",data:=.seq its Z}:=λ{s8 H8} I8=>by
    obtain⟨a1,a2,_⟩:=I8.pin ((s.heap.objs.size:g_),({cls:=.type "list",data:=.seq its Z}:G8)) (by rw[eY8];simp);refine⟨(I8.su (pins':=[]) λ_ z=>nomatch z).slots0 (λk v e=>?_) lenI,T.keep _ _ _ st5 λb f o e=>(I8.pin (b,o) (DU _ (DU _ (jt f e)))).1,λb f=>?_,a2,a1⟩
    ·refine k6 k v e ?_;unfold inS at e;rw[Ee]at e;cases e2:ix[k]? with
     |none=>rw[e2]at e;cases e|some o=>
      cases o with
      |none=>rw[e2]at e;cases e|some j=>exact⟨j,rfl⟩
    ·obtain⟨o,e,d⟩:=T.obj _ _ st5 b f;exact(I8.pin (b,o) (DU _ (DU _ (jt f e)))).2.1
   cases b with
   |false=>rw[l_ DZ]at q7 ⊢;obtain⟨m',hm,w7⟩:=hNN _ _ q7;obtain⟨b1,b2,b3,b4,b5⟩:=back I7;exact⟨m',hm,i+1,ys,its,H7,b1,b2,b3,b4,⟨Z,b5⟩,P,w7⟩
   |true=>
    rw[i_ rfl]at q7 ⊢;have h7:=heY _ s7 σ6 H7 _ I7 q7;rw[A,w,G,eY7,h]at h7;rw[h];refine D1 h7 (λuu s8 D=>?_) λ_ _ z=>z;obtain⟨y,H8,I8,r8,q8⟩:=D;obtain⟨m',hm,w8⟩:=hNN _ _ q8;obtain⟨b1,b2,b3,b4,b5⟩:=back I8;have ez:its.size<=m_:=by
     have h1:=P.length;have h2:its.toList.length=its.size:=by simp
     omega
    refine wpAny_list_append_plain (hsz:=ez) ⟨Z,b5⟩ λh9 pl9 sb9=>?_;obtain⟨d0,d1,d2,d3,d4,d5⟩:=Dok [] H8 b4 (λ_ z=>nomatch z);refine⟨m',hm,i+1,ys++[y],its.push uu,H8,b1.turned (t':=s8.toks) (λb o f e=>(sb9.2 b f).trans e) d0 d1 d3 d4 d5,T.keep _ _ _ b2 λb f o e=>(sb9.2 b ?_).trans e,b3,b4,pl9,?_,w8⟩
    ·exact zC (fpl b f) (u_ _)
    ·rw[Array.toList_push];exact P.append (.cons r8 .nil)
 rw[h]at B;exact codeAny_compStart_list B (T.self X.A 0 _ _ _ (T.keep _ _ _ st λb _ o e=>kp0 b o e) B)
noncomputable def tComp(wi:TI)(ix:List (Option Nat))(g:TG)(tt:TT)(te:TE):TE:=λσ H Q=>wi σ H λJ H1=>pN J ix g tt te σ (λys H2=>∀p,H2 p=d_->Q (.ref p) (upd H2 p (.lst ys))) H1
noncomputable def rJ(ix:List (Option Nat))(g:TG):Prop:=∀x σ' H' (Q:St->Hp->Prop),g x σ' H' Q->g x σ' H' λI H2=>Q I H2/\∀(i:Nat) v,σ'[i]?=a_ (a_ v)->(∃j,ix[i]?=a_ (a_ j))->I[i]?=a_ (a_ v)
theorem aR(h:ix[k]?=a_ d_):rJ ix (gS k):=λx σ' H' Q q=>⟨q,λi v e ⟨j,I⟩=>by
 have:k≠i:=by rintro rfl;rw[h]at I;cases I
 rw[k_ this];exact e⟩
section
variable{wi:TI}{g:TG} 
theorem pe_comp(N':List o_)(ix:List (Option Nat))(z:X.calm=e_)(hi:PI X tg iter wi)(w:∀L cs s H fp,PG (bL X N' sc L cs s H fp) tg g)(u:rJ ix g)(j:∀L cs s H fp,PTs (bL X N' sc L cs s H fp) ifs tt)(y:∀L cs s H fp,PE (bL X N' sc L cs s H fp) elt te)(U: ~~~(cf X.N X.env.scope N' sc ix=e_))(Y: ~~~(sc.kind=.function))(k:autoParam (∀x,FL iter X.env x=EY x) Jq6):
  PE X (.ListComp elt [⟨tg,iter,ifs,0⟩] sc pos) (tComp wi ix g tt te):=by
 intro pins s σ H Q I h;rw[eval_ListComp];refine Js (use:=d_) rfl k (rq (pM I U)) Y (cf.loc U) (thn (hi pins s σ H _ I h) λv s1 h1=>thn h1 λi s2 h2=>?_);obtain⟨it,fp,S,J,H2,e,R,T,st2,D,c⟩:=h2;subst e;refine thn (vj z R T st2 D U Y w u j y c) λO Z C=>thn C λa W B=>EM B λr f l=>?_;obtain⟨⟨fl,e1⟩,p,ys,H5,e2,P,n,q,⟨m,t⟩,N,K,G,F,E⟩:=l;subst e1;subst e2;exact⟨m,t,λh' d=>⟨.ref p,_,P.turned (t':=f.toks) (λb o A e=>(d.2 b A).trans e) N K (.inr G) F E,rfl,q p n⟩⟩
noncomputable def tSetComp(j:Nat)(wi:TI)(ix:List (Option Nat))(g:TG)(tt:TT)(te:TE):TS:=λD σ H=>wi σ H λJ H1=>pN J ix g tt te σ (λys H2=>∀p,H2 p=d_->D.nx (σ.set j (a_ (.ref p))) (upd H2 p (.lst ys))) H1
theorem zf(N':List o_)(ix:List (Option Nat))(hN:X.N.Nodup)(O:X.N[j]?=a_ y)(i:X.env.scope.names.lookup y=a_ .local)(S:X.calm=e_)(hi:PI X tg iter wi)(P:∀L cs s H fp,PG (bL X N' sc L cs s H fp) tg g)(N:rJ ix g)(C:∀L cs s H fp,PTs (bL X N' sc L cs s H fp) ifs tt)(R:∀L cs s H fp,PE (bL X N' sc L cs s H fp) elt te)(d: ~~~(E_ (.ListComp elt [⟨tg,iter,ifs,0⟩] sc pos) (a_ (.Name y py)) spos.line X.env=EY e_))(c: ~~~(cf X.N X.env.scope N' sc ix=e_))(k: ~~~(sc.kind=.function))(E:autoParam (∀x,FL iter X.env x=EY x) Jq6):
  PS X (.Assign [.Name y py] (.ListComp elt [⟨tg,iter,ifs,0⟩] sc pos) spos) (tSetComp j wi ix g tt te):=by
 intro pins s σ H D I h;rw[exec_Assign_Name_used _ _ _ _ d];refine p_ (G2 (p_ ?_));show CT _ X.A (do let _ <- comprehension (.ListComp elt [⟨tg,iter,ifs,0⟩] sc pos) sc X.env _ (newList []) b_ (Di iter X.env) (a_ (Iz (.Name y py) X.env))) _ _ s;refine p_ (D1 (Js (use:=a_ (Iz (.Name y py) X.env)) (Q:=λ_ s'=>SP X pins D .next s') rfl E (rq (pM I c)) k (cf.loc c) (thn (hi pins s σ H _ I h) λv s1 h1=>thn h1 λB s2 h2=>?_)) (λ_ s' G=>Cb (Cb G)) λ_ _ z=>z);obtain⟨it,fp,tn,J,H2,e,I2,T,st2,f2,t⟩:=h2;subst e;refine thn (vj S I2 T st2 f2 c k P N C R t) λacc s3 h3=>thn h3 λU s4 h4=>EM h4 λr A F=>?_;obtain⟨⟨fl,e1⟩,p,ys,H5,e2,I5,f,q,⟨m,K⟩,c0,n,c2,l,c4⟩:=F;subst e1;subst e2;show CT _ X.A (Iz (.Name y py) X.env (.ref p)) _ _ A;refine Ky (ue (v:=.ref p) I5 hN O (.inl i) rfl (λw I6 f=>?_) (.inr i));obtain⟨a,u,Z⟩:=f;have ea:U.locals≠a:=by
  rcases Z with z|z
  ·rw[z];exact n
  ·exact λe=>l y a z e.symm
 refine⟨m,K.sameBut u ea,λh' Y=>?_⟩
 exact⟨_,_,I6.turned (t':=w.toks) (λb o W e=>(Y.2 b W).trans e) c0 n (.inr c2) l c4,q p f⟩
end
theorem yC:∀{bs:List Bool} {us:List j_},Vals (bs.map V.bl) us->LSm.BoolsAre us bs
 |[],_,.nil=>.nil|b::r,_,.cons e t=>by cases e;exact .cons b (yC t)
theorem call_all(k:X.calm=e_):gm X (.builtin "all") (λxs H Q=>∃(a:g_) (bs:List Bool),xs=[.ref a]/\SqL X.K H a (bs.map V.bl)/\Q (.bl (bs.all id)) H):=by
 intro pins s σ H xs us Q I r h;obtain⟨a,bs,rfl,g,q⟩:=h;obtain⟨u,rfl,f⟩:=r.one;cases f;obtain⟨its,d,p,m⟩:=I.list g;have Y:=yC d;have U:=p.isList;have J:a<s.heap.objs.size:=by obtain⟨_,e,_⟩:=U;exact v_ e
 refine call_all_walk (GX U ?_);refine⟨s.heap.objs.size,[s.heap.objs.size,a],[s.heap.objs.size],its.toArray.size,_,_,λi=>(bs[i]?).getD e_,rfl,Walks.list (A:=X.A.in1) (I.ok.hd k) _ a (Dx J) its.toArray,
  ⟨⟨_,Df _ rfl,rfl,rfl⟩,U.push _⟩,λi v s' n E' l c=>?_,λh' tk j=>?_⟩
 ·obtain⟨b,e,rfl⟩:=Y.get i v (by simpa using l);simp only[e,Option.getD_some]at c;exact D6 c
 ·have e:((DY its.toArray.size).all λi=>(bs[i]?).getD e_)=bs.all id:=by
   rw[B_,Y.length];exact LSm.range_all bs
  rw[e];exact⟨.bl (bs.all id),H,I.kept (LSm.kept_iter j),rfl,q⟩
theorem Vals.atA{xs:List V}(r:Vals xs us)(h:j<us.toArray.size):∃x,xs[j]?=a_ x/\RelV x us.toArray[j]:=by
 have J:=r.length;have I:j<xs.length:=by rw[J];simpa using h
 obtain⟨u,e1,e2⟩:=r.get (i:=j) (x:=xs[j]) (by simp[I]);refine⟨xs[j],by simp[I],?_⟩
 have:us.toArray[j]=u:=by
  have h':j<us.length:=by simpa using h
  rw[DD h']at e1;simpa using Dt e1
 rw[this];exact e2
theorem pe_tyN(U:Gl X x)(J:X.mg x=d_)(hv:EO x=a_ (.type T))(I:(x≠"__name__")⁻¹)(hd:((x==("__debug__":o_))=b_)⁻¹):PE X (.Name x pos) (tC (.ty T)):=pe_bltn (v:=.ty T) U J hv rfl I hd
theorem pe_gint{n:Int}(J:Gl X x)(I:∃t,X.mg x=a_ (.int n t))(hd:((x==("__debug__":o_))=b_)⁻¹):PE X (.Name x pos) (tC (.int n)):=by obtain⟨t,e⟩:=I;exact sC (v:=.int n) J e ⟨t,rfl⟩ hd
section
variable{base:DR} 
theorem Fun.okX(F:Fun K x qual st f fd)(S:eA N ps (aA st))(J:∀vs H Q E,sp vs H Q E->vs.length=ps.length)(I:∀(cdv:j_) (A:Fm) (outer:List Iq) (s:x_) (H:Hp) (vs:List V) (Q:VK) (E:XK),fV k (A.deeper (Fn qual (aA st) s.heap.objs.size f cdv))->sp vs H Q E ->
   ∃t,PSs (tM CX P w K mg base N qual (aA st) f cdv A outer s H E).nox (bQ st) t/\t {nx:=λ_ H'=>Q .non H',rt:=Q} (start N vs) H):eZ P w K mg base CX (k+1) f fd ps sp:=by
 obtain⟨oc,od,kV,doc,pm,an,cdv,ct,osl,rfl,a,Y⟩:=F.ex;refine fn_of a Y S J λA outer s H vs Q E b U=>?_;obtain⟨t,h,q⟩:=I cdv A outer s H vs Q E b U;exact⟨t,h.nox,q⟩
structure Def(K:Fg)(mg:Mq)(x:o_)(st:DX)(ps:List o_)(f:g_)(fd:EJ):Prop where
 fn:Fun K x x st f fd
 mg:mg x=a_ (.ref f)
 bd:Binds K fd ps []
theorem def_of(J:K.In h)(G:h.Ns Du mg){kV:j_}(a:JW K Du x=a_ (a_ (.ref f)))(l:K.lookup f=a_ ⟨oc,od,.func (HM x x (dP st) (bQ st) (aA st) .none kV doc pm an cdv ct),osl⟩)(c:IC K cdv x=e_)(k:Fh K (.ref f)=e_)(I:∀(kV doc pm:j_) (an:Option g_) (cdv ct:j_) (us:List j_),us.length=ps.length->Hx (HM x x (dP st) (bQ st) (aA st) .none kV doc pm an cdv ct) ⟨us,[]⟩=EY (ps.zip us)):
  Def K mg x st ps f (HM x x (dP st) (bQ st) (aA st) .none kV doc pm an cdv ct):=
 ⟨yp l c k,mg_of J G a,(yp l c k).binds I⟩
structure Mth(K:Fg)(C:g_)(x qual:o_)(st:DX)(ps:List o_)(f:g_)(fd:EJ):Prop where
 fn:Fun K x qual st f fd
 mt:Meth K C x f
 bd:Binds K fd ps []
theorem mth_of{kV:j_}(a:C_ K (.ref C) x=a_ (a_ (.ref f)))(i:isFn K (.ref f)=e_)(l:K.lookup f=a_ ⟨oc,od,.func (HM x qual (dP st) (bQ st) (aA st) .none kV doc pm an cdv ct),osl⟩)(c:IC K cdv qual=e_)(k:Fh K (.ref f)=e_)(I:∀(kV doc pm:j_) (an:Option g_) (cdv ct:j_) (us:List j_),us.length=ps.length->Hx (HM x qual (dP st) (bQ st) (aA st) .none kV doc pm an cdv ct) ⟨us,[]⟩=EY (ps.zip us)):
  Mth K C x qual st ps f (HM x qual (dP st) (bQ st) (aA st) .none kV doc pm an cdv ct):=
 ⟨yp l c k,⟨a,i,k⟩,(yp l c k).binds I⟩
structure Kls(K:Fg)(mg:Mq)(x:o_)(C:g_):Prop where
 cl:Cls K C
 mg:mg x=a_ (.ref C)
 mks:JX K C=e_
 kp:Fh K (.ref C)=e_
 c1:C_ K (.ref C) "__class__"=a_ (a_ (.builtin "object.__class__"))
 c2:HG K (.builtin "object.__class__") "__get__"=a_ (a_ (.builtin "getset_descriptor.__get__"))
 c3:KH K (.builtin "object.__class__")=a_ e_
 c4:EG K C (.type "object")=a_ e_
theorem Kls.ty{fs:List (o_×V)}(k:Kls K mg x C)(e:H a=a_ (.ins C dx fs)):A7 K H (.ref a) (.ref C):=.ins e k.cl k.c1 k.c2 k.c3 k.c4
theorem kls_of(f:K.In h)(G:h.Ns Du mg)(a:JW K Du x=a_ (a_ (.ref C)))(U:Ih K C Fj=e_)(hd:Fu K C=e_)(J:JL K C=e_)(I:C_ K (.ref C) "__setattr__"=a_ (a_ (.builtin "object.__setattr__")))(mk:JX K C=e_)(Y:Fh K (.ref C)=e_)(e:C_ K (.ref C) "__class__"=a_ (a_ (.builtin "object.__class__")))(d:HG K (.builtin "object.__class__") "__get__"=a_ (a_ (.builtin "getset_descriptor.__get__")))(c:KH K (.builtin "object.__class__")=a_ e_)(b:EG K C (.type "object")=a_ e_):Kls K mg x C:=
 ⟨⟨U,hd,J,I⟩,mg_of f G a,mk,Y,e,d,c,b⟩
end
theorem pg_c(U:N'.Nodup)(hi:N'[i]?=a_ x)(I:Loc (bL X N' sc L cs s H fp).env.scope x)(J:autoParam ((bL X N' sc L cs s H fp).fn x=e_\/(bL X N' sc L cs s H fp).env.scope.names.lookup x=a_ .local) Jq3):PG (bL X N' sc L cs s H fp) (.Name x pos) (gS i):=oJ U hi I J
structure Grid(H:Hp)(a:g_)(as:List g_)(rows:List (List Int)):Prop where
 top:H a=a_ (.lst (as.map V.ref))
 len:as.length=rows.length
 row:∀(i:Nat) (b:g_) (r:List Int),as[i]?=a_ b->rows[i]?=a_ r->H b=a_ (.lst (r.map V.int))
theorem Grid.same(g:Grid H a as rows)(h:aO H H'):Grid H' a as rows:=
 ⟨h _ _ g.top,g.len,λi b r e1 e2=>h _ _ (g.row i b r e1 e2)⟩
theorem aO.upd{H:Hp}{a:g_}{o:HO}(h:H a=d_):aO H (upd H a o):=λb u e=>by rw[ao (aL e h)];exact e
section
variable{ds:List j_} 
structure Stat(K:Fg)(C:g_)(mc:j_)(m:o_)(f:g_):Prop where
 s1:HG K (.ref C) "__getattribute__"=a_ (a_ (.builtin "type.__getattribute__"))
 s2:JK K C mc=e_
 s3:JN K (.ref C) mc m=a_ (.val (.ref f))
 s4:Fh K (.ref f)=e_
theorem pe_cmeth(S:Stat X.K C mc m f)(n:Gl X x)(l:X.mg x=a_ (.ref C))(F:eZ X.prog X.w X.K X.mg X.base CX k f fd ps sp)(i:fV k X.A)(o:Binds X.K fd ps ds)(hd:Vals dvs ds)(d:Passes CX X E)(q:PA X (e::es) t)(Y:((x==("__debug__":o_))=b_)⁻¹)(J: ~~~(h_ (e::es) X.env=(b_,Di e X.env)::h_ es X.env))(U: ~~~((DB pos (h_ es X.env)).any (·.1)=b_))(g: ~~~(Di (.Call (.Attribute (.Name x p) m apos) (e::es) [] pos) X.env=(do
   let a <- Di (.Name x p) X.env
   Ib apos.atName
   let (f,first) <- Ic [a] (G6 a m pl)
   Hw pos f first (DB pos (h_ (e::es) X.env)) (EX pos (D_ [] X.env))))):
  PE X (.Call (.Attribute (.Name x p) m apos) (e::es) [] pos) (eY sp dvs E t):=by
 intro pins s σ H Q I h;refine F8 (pl:=pl) (gq I n l ?_ Y) g;refine PySem.W.method_cls I.kIn S.s1 (PySem.W.cls_value I.kIn S.s2 S.s3 rfl ?_);refine Gu (first:=[]) (h₀:=X.base) I.ok.mod.kin S.s4 (thn (q pos pins _ σ H _ (I.tok (s.toks+1)) h) λus u j=>?_) J U;obtain⟨vs,H2,b,r,c⟩:=j;refine⟨b.kIn,?_⟩
 exact xT (us:=us) (vs:=vs) F i o hd d b r c
end
noncomputable def Keeps(S:g_->Prop)(H H':Hp):Prop:=∀b o,H b=a_ o->¬S b->H' b=a_ o
theorem Keeps.same(k:Keeps S H H1)(s:aO H1 H2):Keeps S H H2:=λb o e n=>s b o (k b o e n)
theorem Grid.keeps(g:Grid H a as rows)(k:Keeps S H H')(h1:¬S a)(h2:∀x∈as,¬S x):Grid H' a as rows:=
 ⟨k _ _ g.top h1,g.len,λi b r e1 e2=>k _ _ (g.row i b r e1 e2) (h2 b (D8 e1))⟩
section
variable{a:Ed} 
noncomputable def AD(r r' I:R2)(ta tb tc td:TE):TE:=λσ H Q=>ta σ H λx H1=>tb σ H1 λy H2=>r x y H2 λz Y=>∃k,z=.bl k /\
 (if k=e_ then tc σ Y λJ d=>r' y J d λa U=>∃k',a=.bl k'/\(if k'=e_ then td σ U λb c=>I J b c Q else Q (.bl b_) U)else Q (.bl b_) Y)
theorem aO.tup{a:g_}{xs:List V}(e:aO H H')(h:SqT K H a xs):SqT K H' a xs:=by
 rcases h with(h|⟨o,h⟩)|h
 ·exact .inl (.inl (e _ _ h))
 ·exact .inl (.inr ⟨o,e _ _ h⟩)
 ·exact .inr h
end
theorem kE{xs:List V}(h:H a=a_ (.lst xs)):tyV K "list" (.ref a) H:=.inl ⟨rfl,_,SqL.of h⟩
inductive Dat where
 |non|bl (b:Bool)|int (i:Int)|str (x:o_)|tup (ds:List Dat)|lst (ds:List Dat)|ins (C:g_) (fs:List (o_×Dat))|dic (ks:List (List Int×Dat))|dil (ks:List (Int×List (List Int)))
variable{r:Bool×List Dat}{d' S':Dat}{ds' ws:List Dat}{ks:List (List Int×Dat)}
noncomputable abbrev lR:=List Int×g_×V
noncomputable def tHash(ks:List Int):Int:=I9 (EL (ks.map KG))
noncomputable def rowE(x:List Int×g_×j_):K6:=⟨tHash x.1,.ref x.2.1,x.2.2⟩
noncomputable def lN(p:lR)(q:List Int×g_×j_):Prop:=p.1=q.1/\p.2.1=q.2.1/\RelV p.2.2 q.2.2
noncomputable def mC(h:DR)(a:g_)(xs:List lR)(ep:Nat):Prop:=∃vs:List (List Int×g_×j_),Gv lN xs vs/\(a==FQ)=b_/\xs.length<=m_/\(vs.map (·.1)).Nodup/\∃o es,h.get? a=a_ o/\o.ExactDict/\o.data=.dict es ep/\es.toList=vs.map rowE
noncomputable def vE(a:g_)(xs:List lR)(ep:Nat):HO:=.ext λh=>mC h a xs ep
noncomputable abbrev LK:=Int×List (List Int)
noncomputable def lHash(k:LK):Int:=I9 (EL [KG k.1,I9 (EL (k.2.map tHash))])
noncomputable def rowL(x:LK×g_):K6:=⟨lHash x.1,.ref x.2,.bool e_⟩
noncomputable def DilOk(h:DR)(a:g_)(xs:List (LK×g_))(ep:Nat):Prop:=(a==FQ)=b_/\xs.length<=m_/\(xs.map (·.1)).Nodup/\∃o es,h.get? a=a_ o/\o.ExactDict/\o.data=.dict es ep/\es.toList=xs.map rowL
noncomputable def DilO(a:g_)(xs:List (LK×g_))(ep:Nat):HO:=.ext λh=>DilOk h a xs ep
noncomputable def LabAt(K:Fg)(F:Hp)(b:g_)(k:LK):Prop:=∃(r:g_) (bs:List g_),SqT K F b [V.int k.1,V.ref r]/\SqT K F r (bs.map V.ref)/\bs.length=k.2.length/\∀(j:Nat) (I:List Int) (c:g_),k.2[j]?=a_ I->bs[j]?=a_ c->SqT K F c (I.map V.int)
noncomputable def A9(K:Fg)(F:Hp)(ks:List LK)(xs:List (LK×g_)):Prop:=xs.map (·.1)=ks/\∀x∈xs,LabAt K F x.2 x.1
mutual
noncomputable def aP(K:Fg)(F:Hp):Dat->V->Prop
 |.non,v=>v=.non|.bl b,v=>v=.bl b|.int i,v=>v=.int i|.str x,v=>v=.str x|.tup ds,v=>∃a xs,v=.ref a/\SqT K F a xs/\aB K F ds xs
 |.lst ds,v=>∃a xs,v=.ref a/\SqL K F a xs/\aB K F ds xs
 |.ins C gs,v=>∃a dx fs,v=.ref a/\F a=a_ (.ins C dx fs)/\ir K F gs fs
 |.dic ks,v=>∃a xs,v=.ref a/\(∃ep,F a=a_ (vE a xs ep))/\d8 K F ks xs
 |.dil ks,v=>∃a xs,v=.ref a/\(∃ep,F a=a_ (DilO a xs ep))/\A9 K F ks xs
noncomputable def aB(K:Fg)(F:Hp):List Dat->List V->Prop
 |[],xs=>xs=[]|d::ds,xs=>∃v vs,xs=v::vs/\aP K F d v/\aB K F ds vs
noncomputable def ir(K:Fg)(F:Hp):List (o_×Dat)->List (o_×V)->Prop
 |[],fs=>fs=[]|(f,d)::gs,fs=>∃v r,fs=(f,v)::r/\aP K F d v/\ir K F gs r
noncomputable def d8(K:Fg)(F:Hp):List (List Int×Dat)->List lR->Prop
 |[],xs=>xs=[]|(k,d)::ks,xs=>∃b v r,xs=(k,b,v)::r/\SqT K F b (k.map .int)/\aP K F d v/\d8 K F ks r
end
mutual
noncomputable def kj:Dat->Bool
 |.tup ds=>rh ds|.lst _=>b_|.ins _ _=>b_|.dic _=>b_|.dil _=>b_|_=>e_
noncomputable def rh:List Dat->Bool
 |[]=>e_|d::ds=>kj d&&rh ds
end
theorem aO.lst{xs:List V}(e:aO H H')(h:SqL K H a xs):SqL K H' a xs:=by
 rcases h with(h|⟨o,h⟩)|h
 ·exact .inl (.inl (e _ _ h))
 ·exact .inl (.inr ⟨o,e _ _ h⟩)
 ·exact .inr h
theorem LabAt.mono(s:aO F F'){k:LK}(h:LabAt K F b k):LabAt K F' b k:=
 let ⟨r,bs,t1,t2,l,J⟩:=h;⟨r,bs,s.tup t1,s.tup t2,l,λj I c e1 e2=>s.tup (J j I c e1 e2)⟩
theorem A9.mono{K:Fg}{F F':Hp}(s:aO F F'){ks:List LK}{xs:List (LK×g_)}(h:A9 K F ks xs):A9 K F' ks xs:=⟨h.1,λx I=>(h.2 x I).mono s⟩
mutual
theorem aP.mono{K:Fg}{F F':Hp}(s:aO F F'):∀{d:Dat} {v:V},aP K F d v->aP K F' d v
 |.non,_,h=>h|.bl _,_,h=>h|.int _,_,h=>h|.str _,_,h=>h|.tup _,_,⟨a,xs,e,q,r⟩=>⟨a,xs,e,s.tup q,aB.mono s r⟩|.lst _,_,⟨a,xs,e,q,r⟩=>⟨a,xs,e,s.lst q,aB.mono s r⟩|.ins _ _,_,⟨a,dx,fs,e,q,r⟩=>⟨a,dx,fs,e,s _ _ q,ir.mono s r⟩|.dic _,_,⟨a,xs,e,⟨ep,q⟩,r⟩=>⟨a,xs,e,⟨ep,s _ _ q⟩,d8.mono s r⟩|.dil _,_,⟨a,xs,e,⟨ep,q⟩,r⟩=>⟨a,xs,e,⟨ep,s _ _ q⟩,A9.mono s r⟩
theorem aB.mono{K:Fg}{F F':Hp}(s:aO F F'):∀{ds:List Dat} {xs:List V},aB K F ds xs->aB K F' ds xs
 |[],_,h=>h|_::_,_,⟨v,vs,e,q,r⟩=>⟨v,vs,e,aP.mono s q,aB.mono s r⟩
theorem ir.mono{K:Fg}{F F':Hp}(s:aO F F'):∀{gs:List (o_×Dat)} {fs:List (o_×V)},ir K F gs fs->ir K F' gs fs
 |[],_,h=>h|(_,_)::_,_,⟨v,r,e,q,t⟩=>⟨v,r,e,aP.mono s q,ir.mono s t⟩
theorem d8.mono{K:Fg}{F F':Hp}(s:aO F F'):∀{ks:List (List Int×Dat)} {xs:List lR},d8 K F ks xs->d8 K F' ks xs
 |[],_,h=>h|(_,_)::_,_,⟨b,v,r,e,t,q,z⟩=>⟨b,v,r,e,s.tup t,aP.mono s q,d8.mono s z⟩
end
mutual
theorem aP.flat{K:Fg}{F F':Hp}(s:∀a xs,SqT K F a xs->SqT K F' a xs):∀{d:Dat} {v:V},kj d=e_->aP K F d v->aP K F' d v
 |.non,_,_,h=>h|.bl _,_,_,h=>h|.int _,_,_,h=>h|.str _,_,_,h=>h|.tup ds,_,f,⟨a,xs,e,q,r⟩=>⟨a,xs,e,s _ _ q,aB.flat s (by simpa[kj] using f) r⟩|.lst _,_,f,_=>by simp[kj]at f|.ins _ _,_,f,_=>by simp[kj]at f|.dic _,_,f,_=>by simp[kj]at f|.dil _,_,f,_=>by simp[kj]at f
theorem aB.flat{K:Fg}{F F':Hp}(s:∀a xs,SqT K F a xs->SqT K F' a xs):∀{ds:List Dat} {xs:List V},rh ds=e_->aB K F ds xs->aB K F' ds xs
 |[],_,_,h=>h|d::ds,_,f,⟨v,vs,e,q,r⟩=>by simp only[rh,n_]at f;exact⟨v,vs,e,aP.flat s f.1 q,aB.flat s f.2 r⟩
end
theorem aB.length{K:Fg}{F:Hp}:∀{ds:List Dat} {xs:List V},aB K F ds xs->xs.length=ds.length
 |[],_,h=>by rw[show _=[]from h];rfl|_::_,_,⟨_,_,e,_,r⟩=>by rw[e,CZ,CZ,aB.length r]
theorem aB.get{K:Fg}{F:Hp}:∀{ds:List Dat} {xs:List V} {i:Nat} {d:Dat},aB K F ds xs->ds[i]?=a_ d->∃v,xs[i]?=a_ v/\aP K F d v
 |[],_,_,_,_,e=>by simp at e|_::_,_,0,_,⟨v,vs,e,q,_⟩,h=>by simp only[List.getElem?_cons_zero,IH]at h;subst h e;exact⟨v,rfl,q⟩|_::_,_,i+1,_,⟨v,vs,e,_,r⟩,h=>by subst e;simp only[FY]at h ⊢;exact aB.get r h
theorem aB.at{K:Fg}{F:Hp}{ds:List Dat}{xs:List V}{i:Nat}{v:V}(r:aB K F ds xs)(h:xs[i]?=a_ v):∃d,ds[i]?=a_ d/\aP K F d v:=by
 have hi:i<ds.length:=by rw[<- r.length];exact(z_.mp h).1
 obtain⟨w,e,q⟩:=r.get (i:=i) (d:=ds[i]) (by simp[hi]);rw[h]at e;have I:=Dt e;subst I;exact⟨ds[i],by simp[hi],q⟩
theorem aB.cons{d:Dat}{ds:List Dat}{xs:List V}(q:aP K F d v)(r:aB K F ds xs):aB K F (d::ds) (v::xs):=⟨v,xs,rfl,q,r⟩
theorem aB.append{K:Fg}{F:Hp}:∀{ds es:List Dat} {xs ys:List V},aB K F ds xs->aB K F es ys->aB K F (ds++es) (xs++ys)
 |[],_,_,_,h,r=>by rw[show _=[]from h];exact r|_::_,_,_,_,⟨v,vs,e,q,t⟩,r=>by subst e;exact⟨v,_,rfl,q,aB.append t r⟩
theorem aB.take{K:Fg}{F:Hp}:∀{ds:List Dat} {xs:List V} (n:Nat),aB K F ds xs->aB K F (ds.take n) (xs.take n)
 |_,_,0,_=>rfl|[],_,_+1,h=>by rw[show _=[]from h];rfl|_::_,_,n+1,⟨v,vs,e,q,r⟩=>by subst e;exact⟨v,_,rfl,q,aB.take n r⟩
theorem aB.drop{K:Fg}{F:Hp}:∀{ds:List Dat} {xs:List V} (n:Nat),aB K F ds xs->aB K F (ds.drop n) (xs.drop n)
 |_,_,0,h=>h|[],_,_+1,h=>by rw[show _=[]from h];rfl|_::_,_,n+1,⟨v,vs,e,q,r⟩=>by subst e;exact aB.drop n r
structure Step(F H F' H':Hp):Prop where
 ff:aO F F'
 hh:aO H H'
 fh:aO F' H'
 nw:∀b o,F' b=a_ o->F b=a_ o\/H b=d_
theorem Step.refl{F H:Hp}(s:aO F H):Step F H F H:=⟨aO.refl _,aO.refl _,s,λ_ _ h=>.inl h⟩
theorem Step.trans{F H F1 H1 F2 H2:Hp}(a:Step F H F1 H1)(b:Step F1 H1 F2 H2):Step F H F2 H2:=
 ⟨a.ff.trans b.ff,a.hh.trans b.hh,b.fh,λx o h=>(b.nw x o h).elim (λz=>a.nw x o z) λz=>.inr (a.hh.free z)⟩
theorem Step.lay{p:g_}(s:aO F H)(I:H p=d_):Step F H (upd F p o) (upd H p o):=
 ⟨aO.upd (s.free I),aO.upd I,λb u h=>by
  by_cases e:b=p
  ·subst e;rw[aq]at h ⊢;exact h
  ·rw[ao e]at h ⊢;exact s b u h,λb u h=>by
  by_cases e:b=p
  ·subst e;exact .inr I
  ·rw[ao e]at h;exact .inl h⟩
theorem Step.grow{p:g_}(s:aO F H)(I:H p=d_):Step F H F (upd H p o):=
 ⟨aO.refl _,aO.upd I,s.trans (aO.upd I),λ_ _ h=>.inl h⟩
theorem Step.same(s:aO F H)(h:aO H H'):Step F H F H':=⟨aO.refl _,h,s.trans h,λ_ _ z=>.inl z⟩
noncomputable def ky(K:Fg)(F H0 H:Hp):Dat->V->Prop
 |.lst ds,v=>∃a xs,v=.ref a/\H a=a_ (.lst xs)/\F a=d_/\H0 a=d_/\aB K F ds xs
 |.dic ks,v=>∃a xs,v=.ref a/\(∃ep,H a=a_ (vE a xs ep))/\F a=d_/\H0 a=d_/\d8 K F ks xs
 |.dil ks,v=>∃a xs,v=.ref a/\(∃ep,H a=a_ (DilO a xs ep))/\F a=d_/\H0 a=d_/\A9 K F ks xs
 |d,v=>aP K F d v
noncomputable def isO:Dat->Bool
 |.lst _=>e_|.dic _=>e_|.dil _=>e_|_=>b_
noncomputable def isMu:HO->Bool
 |.lst _=>e_|.ext _=>e_|_=>b_
theorem ky.non{d:Dat}(hd:isO d=b_):ky K F H0 H d v=aP K F d v:=by cases d<;>first|rfl|cases hd
theorem ky.top{d:Dat}(hd:isO d=e_)(q:ky K F H0 H d v):∃a o,v=.ref a/\H a=a_ o/\isMu o=e_/\F a=d_/\H0 a=d_:=by
 cases d with
 |lst ds=>obtain⟨a,xs,e,p,f,z,_⟩:=q;exact⟨a,_,e,p,rfl,f,z⟩
 |dic ks=>obtain⟨a,xs,e,⟨ep,p⟩,f,z,_⟩:=q;exact⟨a,_,e,p,rfl,f,z⟩
 |dil ks=>obtain⟨a,xs,e,⟨ep,p⟩,f,z,_⟩:=q;exact⟨a,_,e,p,rfl,f,z⟩
 |_=>cases hd
theorem ky.re{d:Dat}(hd:isO d=e_)(q:ky K F H0 H d (.ref a))(I:aO F F')(fa:F' a=d_)(hh:∀o,H a=a_ o->H' a=a_ o):ky K F' H0 H' d (.ref a):=by
 cases d with
 |lst ds=>obtain⟨b,xs,e,p,f,z,r⟩:=q;cases e;exact⟨a,xs,rfl,hh _ p,fa,z,r.mono I⟩
 |dic ks=>obtain⟨b,xs,e,⟨ep,p⟩,f,z,r⟩:=q;cases e;exact⟨a,xs,rfl,⟨ep,hh _ p⟩,fa,z,r.mono I⟩
 |dil ks=>obtain⟨b,xs,e,⟨ep,p⟩,f,z,r⟩:=q;cases e;exact⟨a,xs,rfl,⟨ep,hh _ p⟩,fa,z,r.mono I⟩
 |_=>cases hd
theorem ky.give{d:Dat}(hd:isO d=e_)(q:ky K F H0 H d (.ref a))(I:aO F F')(fa:F' a=H a):aP K F' d (.ref a):=by
 cases d with
 |lst ds=>obtain⟨b,xs,e,p,f,z,r⟩:=q;cases e;exact⟨a,xs,rfl,SqL.of (fa.trans p),r.mono I⟩
 |dic ks=>obtain⟨b,xs,e,⟨ep,p⟩,f,z,r⟩:=q;cases e;exact⟨a,xs,rfl,⟨ep,fa.trans p⟩,r.mono I⟩
 |dil ks=>obtain⟨b,xs,e,⟨ep,p⟩,f,z,r⟩:=q;cases e;exact⟨a,xs,rfl,⟨ep,fa.trans p⟩,r.mono I⟩
 |_=>cases hd
noncomputable def Val(K:Fg)(own:Bool)(F H0 H:Hp)(d:Dat)(v:V):Prop:=if own=e_ then ky K F H0 H d v else aP K F d v
theorem ky.back{d:Dat}(s:aO H0 H1)(h:ky K F H1 H d v):ky K F H0 H d v:=by
 cases d with
 |lst ds=>obtain⟨a,xs,e,p,q,z,r⟩:=h;exact⟨a,xs,e,p,q,s.free z,r⟩
 |dic ks=>obtain⟨a,xs,e,p,q,z,r⟩:=h;exact⟨a,xs,e,p,q,s.free z,r⟩
 |dil ks=>obtain⟨a,xs,e,p,q,z,r⟩:=h;exact⟨a,xs,e,p,q,s.free z,r⟩
 |_=>exact h
theorem Val.back{K:Fg}{own:Bool}{F H0 H1 H:Hp}{d:Dat}{v:V}(s:aO H0 H1)(h:Val K own F H1 H d v):Val K own F H0 H d v:=by
 cases own with
 |true=>exact ky.back s h|false=>exact h
theorem ky.freeze{d:Dat}(s:aO F H)(h:ky K F H0 H d v):∃F',aO F F'/\aO F' H/\(∀b o,F' b=a_ o->F b=a_ o\/H0 b=d_)/\aP K F' d v:=by
 cases hd:isO d with
 |true=>
  obtain⟨a,u,e,p,_,q,z⟩:=h.top hd;subst e;refine⟨upd F a u,aO.upd q,λb o h=>?_,λb o h=>?_,h.give hd (aO.upd q) (by rw[aq,p])⟩
  ·by_cases e:b=a
   ·subst e;rw[aq]at h;rw[p,<- h]
   ·rw[ao e]at h;exact s b o h
  ·by_cases e:b=a
   ·subst e;exact .inr z
   ·rw[ao e]at h;exact .inl h
 |false=>rw[ky.non hd]at h;exact⟨F,aO.refl _,s,λ_ _ z=>.inl z,h⟩
inductive Err where
 |stuck|exc (C:g_) (fs:List (o_×Dat))
noncomputable abbrev M:=Except Err
variable{g mk mf ms mw gR:List Dat->M Dat}{g' g'':Dat->Dat->M Dat}{mr:List Dat->List Dat->M (Bool×List Dat)}{sy:Dat->Int->Dat->M (Dat×Int)}
noncomputable abbrev ai:=List (Option Dat)
variable{ρ ρ':ai}{fa fb fc fe fo fk f3 f4 f5:ai->M Dat}{ft fu t1 t2 fg:ai->M Bool}{fi:ai->M (List Dat)}{fl:ai->M (Option Int)}{fx:List (o_×Dat)->ai->M ai}
structure dS where
 p:Err->Hp->Hp->Prop
 mono:∀{e:Err} {F H F' H':Hp},p e F H->Step F H F' H'->p e F' H'
 ns:∀{F H:Hp},p .stuck F H->False
noncomputable def Wno:dS:=⟨λ_ _ _=>False,λh _=>h,λh=>h⟩
noncomputable def aH(K:Fg)(W:dS)(own:Bool)(F H:Hp)(r:M Dat)(Q:VK):Prop:=match r with
 |.ok d=>∀v F' H',Step F H F' H'->Val K own F' H H' d v->Q v H'|.error e=>W.p e F H
theorem aH.step{W:dS}{own:Bool}{r:M Dat}(p:aH K W own F H r Q)(s:Step F H F1 H1):aH K W own F1 H1 r Q:=by
 cases r with
 |ok d=>exact λv F' H' t q=>p v F' H' (s.trans t) (q.back s.hh)|error e=>exact W.mono p s
theorem aH.frz{W:dS}{r:M Dat}(p:aH K W b_ F H r Q):aH K W e_ F H r Q:=by
 cases r with
 |ok d=>intro v F' H' t q;obtain⟨F2,J,I,n,z⟩:=ky.freeze t.fh q;exact p v F2 H' ⟨t.ff.trans J,t.hh,I,λb o h=>(n b o h).elim (λz=>t.nw b o z) .inr⟩ z
 |error e=>exact p
structure gz(K:Fg)(F:Hp)(σ:St)(ρ:ai):Prop where
 len:ρ.length=σ.length
 sl:∀(i:Nat) (d:Dat),ρ[i]?=a_ (a_ d)->∃v,σ[i]?=a_ (a_ v)/\aP K F d v
theorem gz.mono{K:Fg}{F F':Hp}{σ:St}{ρ:ai}(r:gz K F σ ρ)(s:aO F F'):gz K F' σ ρ:=
 ⟨r.len,λi d e=>let ⟨v,h,q⟩:=r.sl i d e;⟨v,h,q.mono s⟩⟩
theorem gz.set{K:Fg}{F:Hp}{σ:St}{ρ:ai}{d:Dat}{v:V}(r:gz K F σ ρ)(q:aP K F d v)(i:Nat):gz K F (σ.set i (a_ v)) (ρ.set i (a_ d)):=
 ⟨by rw[CY,CY,r.len],λj e h=>by
  by_cases I:i=j
  ·subst I;have hi:i<ρ.length:=by
    have:=(z_.mp h).1;simpa using this
   rw[s_ hi]at h;cases h;exact⟨v,by rw[s_ (by rw[<- r.len];exact hi)],q⟩
  ·rw[k_ I]at h;obtain⟨w,h1,h2⟩:=r.sl j e h;exact⟨w,by rw[k_ I];exact h1,h2⟩⟩
noncomputable def tD(K:Fg)(W:dS)(own:Bool)(f:ai->M Dat):TE:=λσ H Q=>∃F ρ,gz K F σ ρ/\aO F H/\aH K W own F H (f ρ) Q
theorem b6{W:dS}{own:Bool}{f:ai->M Dat}{R:VK}(r:gz K F σ ρ)(s:aO F H)(J:∀e,f ρ=.error e->W.p e F H)(I:∀d,f ρ=.ok d->∀v F1 H1,Step F H F1 H1->Val K own F1 H H1 d v->R v H1):tD K W own f σ H R:=by
 refine⟨F,ρ,r,s,?_⟩
 cases e:f ρ with
 |ok d=>exact I d e|error x=>exact J x e
noncomputable def tDT(K:Fg)(W:dS)(f:ai->M Bool):TT:=λσ H Q=>∃F ρ,gz K F σ ρ/\aO F H/\(match f ρ with
 |.ok b=>∀F' H',Step F H F' H'->Q b H'|.error e=>W.p e F H)
theorem hX{W:dS}{f:ai->M Bool}(r:gz K F σ ρ)(s:aO F H)(J:∀e,f ρ=.error e->W.p e F H)(I:∀b,f ρ=.ok b->∀F1 H1,Step F H F1 H1->R b H1):tDT K W f σ H R:=by
 refine⟨F,ρ,r,s,?_⟩
 cases e:f ρ with
 |ok d=>exact I d e|error x=>exact J x e
noncomputable def tDA(K:Fg)(W:dS)(f:ai->M (List Dat)):TA:=λσ H Q=>∃F ρ,gz K F σ ρ/\aO F H/\(match f ρ with
 |.ok ds=>∀vs F' H',Step F H F' H'->aB K F' ds vs->Q vs H'|.error e=>W.p e F H)
theorem o8{W:dS}{f:ai->M (List Dat)}{R:List V->Hp->Prop}(r:gz K F σ ρ)(s:aO F H)(J:∀e,f ρ=.error e->W.p e F H)(I:∀ds,f ρ=.ok ds->∀vs F1 H1,Step F H F1 H1->aB K F1 ds vs->R vs H1):tDA K W f σ H R:=by
 refine⟨F,ρ,r,s,?_⟩
 cases e:f ρ with
 |ok d=>exact I d e|error x=>exact J x e
noncomputable def ah(i:Nat):ai->M Dat:=λρ=>match ρ[i]? with
 |some (a_ d)=>.ok d|_=>.error .stuck
noncomputable def fC(d:Dat):ai->M Dat:=λ_=>.ok d
noncomputable def f1(g:Dat->M Dat)(fa:ai->M Dat):ai->M Dat:=λρ=>(fa ρ).bind g
noncomputable def f2(g:Dat->Dat->M Dat)(fa fb:ai->M Dat):ai->M Dat:=λρ=>(fa ρ).bind λa=>(fb ρ).bind λb=>g a b
noncomputable def aJ:ai->M (List Dat):=λ_=>.ok []
noncomputable def aa(fa:ai->M Dat)(fr:ai->M (List Dat)):ai->M (List Dat):=λρ=>(fa ρ).bind λa=>(fr ρ).bind λr=>.ok (a::r)
noncomputable def fL(g:List Dat->M Dat)(fr:ai->M (List Dat)):ai->M Dat:=λρ=>(fr ρ).bind g
noncomputable def k7(ds:List Dat):M Dat:=if ds.length<=m_ then .ok (.tup ds)else .error .stuck
noncomputable def bT(ds:List Dat):M Dat:=if ds.length<=m_ then .ok (.lst ds)else .error .stuck
noncomputable def Af(ft:ai->M Bool)(fa fb:ai->M Dat):ai->M Dat:=λρ=>(ft ρ).bind λb=>if b=e_ then fa ρ else fb ρ
noncomputable def vH(ft fu:ai->M Bool):ai->M Bool:=λρ=>(ft ρ).bind λb=>if b=e_ then fu ρ else .ok b_
noncomputable def fOr(ft fu:ai->M Bool):ai->M Bool:=λρ=>(ft ρ).bind λb=>if b=e_ then .ok e_ else fu ρ
noncomputable def yr(ft:ai->M Bool):ai->M Bool:=λρ=>(ft ρ).bind λb=>.ok (!b)
noncomputable def asB:Dat->M Bool
 |.bl b=>.ok b|_=>.error .stuck
noncomputable def fB(fa:ai->M Dat):ai->M Bool:=λρ=>(fa ρ).bind asB
noncomputable def jD(fa fb:ai->M Dat):ai->M Dat:=λρ=>(fa ρ).bind λa=>(asB a).bind λb=>if b=e_ then fb ρ else .ok (.bl b_)
noncomputable def fOrV(fa fb:ai->M Dat):ai->M Dat:=λρ=>(fa ρ).bind λa=>(asB a).bind λb=>if b=e_ then .ok (.bl e_)else fb ρ
noncomputable def truD:Dat->M Bool
 |.non=>.ok b_|.bl b=>.ok b|.int i=>.ok (i != 0)|.str x=>if x.length<=m_ then .ok ((x.length:Int) != 0)else .error .stuck
 |.tup ds=>.ok (!ds.isEmpty)|.lst ds=>.ok (!ds.isEmpty)|_=>.error .stuck
noncomputable def nB(fa:ai->M Dat):ai->M Bool:=λρ=>(fa ρ).bind truD
noncomputable def hI(g g':Dat->Dat->M Dat)(fa fb fc:ai->M Dat):ai->M Dat:=λρ=>(fa ρ).bind λa=>(fb ρ).bind λb=>(g a b).bind λx=>(asB x).bind λk=>if k=e_ then(fc ρ).bind λc=>g' b c else .ok (.bl b_)
noncomputable def rD2(K:Fg)(W:dS)(own:Bool)(g:Dat->Dat->M Dat):R2:=λx y H Q=>∃F a b,aO F H/\aP K F a x/\aP K F b y/\aH K W own F H (g a b) Q
noncomputable def rD1(K:Fg)(W:dS)(own:Bool)(g:Dat->M Dat):V->Hp->VK->Prop:=λx H Q=>∃F a,aO F H/\aP K F a x/\aH K W own F H (g a) Q
noncomputable def rDL(K:Fg)(W:dS)(own:Bool)(g:List Dat->M Dat):List V->Hp->VK->Prop:=λxs H Q=>∃F ds,aO F H/\aB K F ds xs/\aH K W own F H (g ds) Q
section
variable{W:dS}{own:Bool} 
theorem rd_var(h:tD K W b_ (ah i) σ H Q):cn i σ H Q:=by
 obtain⟨F,ρ,r,s,p⟩:=h;unfold ah at p
 match e:ρ[i]? with
 |some (a_ d)=>rw[e]at p;obtain⟨v,e1,q⟩:=r.sl i d e;exact⟨v,e1,p v F H (Step.refl s) q⟩
 |some d_=>rw[e]at p;exact(W.ns p).elim|none=>rw[e]at p;exact(W.ns p).elim
theorem rd_c{d:Dat}(hd:∀F,aP K F d v)(h:tD K W b_ (fC d) σ H Q):tC v σ H Q:=by obtain⟨F,ρ,r,s,p⟩:=h;exact p v F H (Step.refl s) (hd F)
theorem aH.err{x:M Dat}{e:Err}(p:aH K W own F H x Q)(h:x=.error e):W.p e F H:=by rw[h]at p;exact p
theorem rd_1{g:Dat->M Dat}(h:tD K W own (f1 g fa) σ H Q):tUn (rD1 K W own g) (tD K W b_ fa) σ H Q:=by
 obtain⟨F,ρ,r,s,p⟩:=h;refine b6 r s (λe U=>p.err (by unfold f1;rw[U];rfl)) λa Y x F1 H1 I J=>?_;refine⟨F1,a,I.fh,J,?_⟩
 have e:f1 g fa ρ=g a:=by unfold f1;rw[Y];rfl
 rw[e]at p;exact p.step I
theorem rd_2{g:Dat->Dat->M Dat}(h:tD K W own (f2 g fa fb) σ H Q):tOp (rD2 K W own g) (tD K W b_ fa) (tD K W b_ fb) σ H Q:=by
 obtain⟨F,ρ,r,s,p⟩:=h;refine b6 r s (λe U=>p.err (by unfold f2;rw[U];rfl)) λa Y x F1 H1 I d=>?_;refine b6 (r.mono I.ff) I.fh (λe U=>(p.step I).err (by unfold f2;rw[Y];show(fb ρ).bind _=_;rw[U];rfl)) λb f y F2 H2 J c=>?_;refine⟨F2,a,b,J.fh,aP.mono J.ff d,c,?_⟩
 have e:f2 g fa fb ρ=g a b:=by unfold f2;rw[Y];show(fb ρ).bind _=_;rw[f];rfl
 rw[e]at p;exact p.step (I.trans J)
theorem rd_nil{R:List V->Hp->Prop}(h:tDA K W aJ σ H R):dR σ H R:=by obtain⟨F,ρ,r,s,p⟩:=h;exact p [] F H (Step.refl s) rfl
theorem rd_cons{fr:ai->M (List Dat)}{R:List V->Hp->Prop}(h:tDA K W (aa fa fr) σ H R):aM (tD K W b_ fa) (tDA K W fr) σ H R:=by
 obtain⟨F,ρ,r,s,p⟩:=h;refine b6 r s (λe J=>?_) λa Y x F1 H1 I c=>o8 (r.mono I.ff) I.fh (λe J=>?_) λds hd xs F2 H2 U b=>?_
 ·have z:aa fa fr ρ=.error e:=by unfold aa;rw[J];rfl
  rw[z]at p;exact p
 ·have z:aa fa fr ρ=.error e:=by unfold aa;rw[Y];show(fr ρ).bind _=_;rw[J];rfl
  rw[z]at p;exact W.mono p I
 ·have z:aa fa fr ρ=.ok (a::ds):=by unfold aa;rw[Y];show(fr ρ).bind _=_;rw[hd];rfl
  rw[z]at p;exact p (x::xs) F2 H2 (I.trans U) ⟨x,xs,rfl,aP.mono U.ff c,b⟩
theorem rd_L{fr:ai->M (List Dat)}(h:tD K W own (fL g fr) σ H Q):tDA K W fr σ H λxs H1=>rDL K W own g xs H1 Q:=by
 obtain⟨F,ρ,r,s,p⟩:=h;refine o8 r s (λe U=>p.err (by unfold fL;rw[U];rfl)) λds hd xs F1 H1 I J=>⟨F1,ds,I.fh,J,?_⟩
 have e:fL g fr ρ=g ds:=by unfold fL;rw[hd];rfl
 rw[e]at p;exact p.step I
theorem rd_tup{fr:ai->M (List Dat)}(h:tD K W own (fL k7 fr) σ H Q):tTup (tDA K W fr) σ H Q:=by
 obtain⟨F,ρ,r,s,p⟩:=rd_L h;refine⟨F,ρ,r,s,?_⟩
 cases e:fr ρ with
 |error x=>rw[e]at p;exact p|ok ds=>
  rw[e]at p;intro vs F' H' t q;obtain⟨F1,es,J,U,z⟩:=p vs F' H' t q;unfold k7 at z;by_cases I:es.length<=m_
  ·rw[i_ I]at z;refine⟨by rw[U.length];exact I,λa Y=>z (.ref a) _ _ (Step.lay J Y) ?_⟩
   have:aP K (upd F1 a (.tup vs)) (.tup es) (.ref a):=⟨a,vs,rfl,SqT.of aq,U.mono (aO.upd (J.free Y))⟩
   cases own with
   |true=>exact this|false=>exact this
  ·rw[l_ I]at z;exact(W.ns z).elim
theorem rd_lst{fr:ai->M (List Dat)}(h:tD K W e_ (fL bT fr) σ H Q):AA (tDA K W fr) σ H Q:=by
 obtain⟨F,ρ,r,s,p⟩:=rd_L h;refine⟨F,ρ,r,s,?_⟩
 cases e:fr ρ with
 |error x=>rw[e]at p;exact p|ok ds=>
  rw[e]at p;intro vs F' H' t q;obtain⟨F1,es,U,Y,z⟩:=p vs F' H' t q;unfold bT at z;by_cases I:es.length<=m_
  ·rw[i_ I]at z;exact⟨by rw[Y.length];exact I,λa J=>z (.ref a) F1 _ (Step.grow U J) ⟨a,vs,rfl,aq,U.free J,J,Y⟩⟩
  ·rw[l_ I]at z;exact(W.ns z).elim
theorem rd_ite(h:tD K W own (Af ft fa fb) σ H Q):tIf (tDT K W ft) (tD K W own fa) (tD K W own fb) σ H Q:=by
 obtain⟨F,ρ,r,s,p⟩:=h;refine hX r s (λe J=>p.err (by unfold Af;rw[J];rfl)) λb U F1 H1 I=>?_;have e:Af ft fa fb ρ=if b=e_ then fa ρ else fb ρ:=by unfold Af;rw[U];rfl
 rw[e]at p;cases b with
 |true=>exact⟨F1,ρ,r.mono I.ff,I.fh,p.step I⟩|false=>exact⟨F1,ρ,r.mono I.ff,I.fh,p.step I⟩
theorem xO{f:ai->M Bool}(r:gz K F σ ρ)(I:Step F H F1 H1)(p:match f ρ with
 |.ok b=>∀F' H',Step F H F' H'->R b H'|.error e=>W.p e F H):tDT K W f σ H1 R:=by
 refine⟨F1,ρ,r.mono I.ff,I.fh,?_⟩
 cases e:f ρ with
 |ok b=>rw[e]at p;exact λF' H' t=>p F' H' (I.trans t)|error x=>rw[e]at p;exact W.mono p I
theorem rd_and(h:tDT K W (vH ft fu) σ H R):tAnd (tDT K W ft) (tDT K W fu) σ H R:=by
 obtain⟨F,ρ,r,s,p⟩:=h;refine hX r s (λe J=>?_) λb U F1 H1 I=>?_
 ·have z:vH ft fu ρ=.error e:=by unfold vH;rw[J];rfl
  rw[z]at p;exact p
 ·have z:vH ft fu ρ=if b=e_ then fu ρ else .ok b_:=by unfold vH;rw[U];rfl
  rw[z]at p;cases b with
  |true=>exact xO r I p|false=>exact p F1 H1 I
theorem rd_or(h:tDT K W (fOr ft fu) σ H R):tOr (tDT K W ft) (tDT K W fu) σ H R:=by
 obtain⟨F,ρ,r,s,p⟩:=h;refine hX r s (λe J=>?_) λb U F1 H1 I=>?_
 ·have z:fOr ft fu ρ=.error e:=by unfold fOr;rw[J];rfl
  rw[z]at p;exact p
 ·have z:fOr ft fu ρ=if b=e_ then .ok e_ else fu ρ:=by unfold fOr;rw[U];rfl
  rw[z]at p;cases b with
  |false=>exact xO r I p|true=>exact p F1 H1 I
theorem rd_not(h:tDT K W (yr ft) σ H R):tNot (tDT K W ft) σ H R:=by
 obtain⟨F,ρ,r,s,p⟩:=h;refine hX r s (λe J=>?_) λb U F1 H1 I=>?_
 ·have z:yr ft ρ=.error e:=by unfold yr;rw[J];rfl
  rw[z]at p;exact p
 ·have z:yr ft ρ=.ok (!b):=by unfold yr;rw[U];rfl
  rw[z]at p;exact p F1 H1 I
theorem rd_B(h:tDT K W (fB fa) σ H R):Ay (tD K W b_ fa) σ H R:=by
 obtain⟨F,ρ,r,s,p⟩:=h;refine b6 r s (λe U=>?_) λa Y x F1 H1 I J=>?_
 ·have z:fB fa ρ=.error e:=by unfold fB;rw[U];rfl
  rw[z]at p;exact p
 ·have z:fB fa ρ=asB a:=by unfold fB;rw[Y];rfl
  rw[z]at p;cases a with
  |bl b=>exact⟨b,J,p F1 H1 I⟩|_=>exact(W.ns p).elim
theorem tru_of{a:Dat}{x:V}{b:Bool}(s:aO F H1)(q:aP K F a x)(h:truD a=.ok b):TruV K x H1 b:=by
 cases a with
 |non=>rw[show x=.non from q];exact(ED h).symm|bl c=>rw[show x=.bl c from q];exact(ED h).symm|int i=>rw[show x=.int i from q];exact(ED h).symm|str y=>
  rw[show x=.str y from q];have h':(if y.length<=m_ then Ds ((y.length:Int) != 0)else Fp Err.stuck)=Ds b:=h;by_cases I:y.length<=m_
  ·rw[i_ I]at h';exact⟨I,(ED h').symm⟩
  ·rw[l_ I]at h';cases h'
 |tup ds=>
  obtain⟨p,xs,e,t,r⟩:=q;subst e;refine .inr (.inl ⟨xs,s.tup t,?_⟩);rw[<- ED h];cases ds with
  |nil=>rw[show xs=[]from r];rfl|cons d ds=>obtain⟨v,vs,e,_⟩:=r;rw[e];rfl
 |lst ds=>
  obtain⟨p,xs,e,t,r⟩:=q;subst e;refine .inl ⟨xs,s.lst t,?_⟩;rw[<- ED h];cases ds with
  |nil=>rw[show xs=[]from r];rfl|cons d ds=>obtain⟨v,vs,e,_⟩:=r;rw[e];rfl
 |ins C fs=>cases h|dic ks=>cases h|dil ks=>cases h
theorem rd_tru(h:tDT K W (nB fa) σ H R):tD K W b_ fa σ H λx H1=>∃k,TruV K x H1 k/\R k H1:=by
 obtain⟨F,ρ,r,s,p⟩:=h;refine b6 r s (λe c=>?_) λa d x F1 H1 J Y=>?_
 ·have z:nB fa ρ=.error e:=by unfold nB;rw[c];rfl
  rw[z]at p;exact p
 ·have z:nB fa ρ=truD a:=by unfold nB;rw[d];rfl
  rw[z]at p;cases e:truD a with
  |ok b=>rw[e]at p;exact⟨b,tru_of J.fh Y e,p F1 H1 J⟩|error x=>
   rw[e]at p;have:x=.stuck:=by
    cases a with
    |str y=>
     have I:(if y.length<=m_ then Ds ((y.length:Int) != 0)else Fp Err.stuck)=Fp x:=e;by_cases U:y.length<=m_
     ·rw[i_ U]at I;cases I
     ·rw[l_ U]at I;cases I;rfl
    |ins C fs=>cases e;rfl|dic ks=>cases e;rfl|dil ks=>cases e;rfl|_=>cases e
   subst this;exact(W.ns p).elim
theorem rd_andV(h:tD K W b_ (jD fa fb) σ H Q):tAndV (tD K W b_ fa) (tD K W b_ fb) σ H Q:=by
 obtain⟨F,ρ,r,s,p⟩:=h;refine b6 r s (λe U=>p.err (by unfold jD;rw[U];rfl)) λa Y x F1 H1 I J=>?_;have z:jD fa fb ρ=(asB a).bind λb=>if b=e_ then fb ρ else .ok (.bl b_):=by unfold jD;rw[Y];rfl
 rw[z]at p;cases a with
 |bl b=>
  refine⟨b,J,?_⟩
  cases b with
  |true=>exact⟨F1,ρ,r.mono I.ff,I.fh,aH.step (own:=b_) (r:=fb ρ) p I⟩|false=>exact p (.bl b_) F1 H1 I rfl
 |_=>exact(W.ns p).elim
theorem rd_orV(h:tD K W b_ (fOrV fa fb) σ H Q):tOrV (tD K W b_ fa) (tD K W b_ fb) σ H Q:=by
 obtain⟨F,ρ,r,s,p⟩:=h;refine b6 r s (λe U=>p.err (by unfold fOrV;rw[U];rfl)) λa Y x F1 H1 I J=>?_;have z:fOrV fa fb ρ=(asB a).bind λb=>if b=e_ then .ok (.bl e_)else fb ρ:=by unfold fOrV;rw[Y];rfl
 rw[z]at p;cases a with
 |bl b=>
  refine⟨b,J,?_⟩
  cases b with
  |false=>exact⟨F1,ρ,r.mono I.ff,I.fh,aH.step (own:=b_) (r:=fb ρ) p I⟩|true=>exact p (.bl e_) F1 H1 I rfl
 |_=>exact(W.ns p).elim
theorem xZ{g:Dat->Dat->M Dat}(h:tD K W b_ (hI g g' fa fb fc) σ H Q):AE (rD2 K W b_ g) (rD2 K W b_ g') (tD K W b_ fa) (tD K W b_ fb) (tD K W b_ fc) σ H Q:=by
 obtain⟨F,ρ,r,s,p⟩:=h;refine b6 r s (λe U=>p.err (by unfold hI;rw[U];rfl)) λa n x F1 H1 J t=>?_;refine b6 (r.mono J.ff) J.fh (λe U=>(p.step J).err (by unfold hI;rw[n];show(fb ρ).bind _=_;rw[U];rfl)) λb A y F2 H2 Y m=>?_;have z:hI g g' fa fb fc ρ=(g a b).bind λx=>(asB x).bind λk=>if k=e_ then(fc ρ).bind λc=>g' b c else .ok (.bl b_):=by unfold hI;rw[n];show(fb ρ).bind _=_;rw[A];rfl
 rw[z]at p;refine⟨F2,a,b,Y.fh,aP.mono Y.ff t,m,?_⟩
 have p2:=p.step (J.trans Y);cases e:g a b with
 |error x=>rw[e]at p2;exact p2|ok d=>
  rw[e]at p2;intro v l j I q;have p3:aH K W b_ l j ((asB d).bind λk=>if k=e_ then(fc ρ).bind λc=>g' b c else .ok (.bl b_)) Q:=aH.step p2 I;cases d with
  |bl k=>
   refine⟨k,q,?_⟩
   cases k with
   |false=>exact p3 (.bl b_) l j (Step.refl I.fh) rfl|true=>
    have i:aH K W b_ l j ((fc ρ).bind λc=>g' b c) Q:=p3;refine b6 (r.mono (J.trans (Y.trans I)).ff) I.fh (λe U=>i.err (by rw[U];rfl)) λc u w B C f o=>⟨B,b,c,f.fh,aP.mono (I.trans f).ff m,o,?_⟩
    rw[u]at i;exact i.step f
  |_=>exact(W.ns p3).elim
end
inductive Pat where
 |nm (i:Nat)|tp (is:List Nat)
noncomputable def iY:List Nat->List Dat->ai->ai
 |i::is,d::ds,ρ=>iY is ds (ρ.set i (a_ d))|_,_,ρ=>ρ
noncomputable def lL:Pat->Dat->ai->M ai
 |.nm i,d,ρ=>.ok (ρ.set i (a_ d))|.tp is,.tup ds,ρ=>if ds.length=is.length then .ok (iY is ds ρ)else .error .stuck
 |.tp _,_,_=>.error .stuck
noncomputable def gZ:List Nat->TGs
 |[]=>gNil|i::is=>zK (gS i) (gZ is)
noncomputable def gP(K:Fg):Pat->TG
 |.nm i=>gS i|.tp is=>gTup K is.length (gZ is)
theorem qY{K:Fg}{F H:Hp}{R:St->Hp->Prop}:∀{is:List Nat} {ds:List Dat} {vs:List V} {σ:St} {ρ:ai},gz K F σ ρ->aB K F ds vs->ds.length=is.length->(∀σ',gz K F σ' (iY is ds ρ)->R σ' H)->gZ is vs σ H R
 |[],[],_,σ,ρ,r,q,_,h=>⟨q,h σ r⟩|[],_::_,_,_,_,_,_,e,_=>by simp at e|_::_,[],_,_,_,_,_,e,_=>by simp at e|i::is,d::ds,_,σ,ρ,r,⟨v,vs,e,q,t⟩,l,h=>⟨v,vs,e,qY (r.set q i) t (by simpa using l) h⟩
theorem gP_run{R:St->Hp->Prop}{p:Pat}{d:Dat}(r:gz K F σ ρ)(s:aO F H)(q:aP K F d v)(e:lL p d ρ=.ok ρ')(h:∀σ',gz K F σ' ρ'->R σ' H):gP K p v σ H R:=by
 cases p with
 |nm i=>have:=ED e;subst this;exact h _ (r.set q i)|tp is=>
  cases d with
  |tup ds=>
   have J:(if ds.length=is.length then Ds (iY is ds ρ)else Fp Err.stuck)=Ds ρ':=e;by_cases I:ds.length=is.length
   ·rw[i_ I]at J;have:=ED J;subst this;obtain⟨a,xs,U,t,z⟩:=q;exact⟨a,xs,U,s.tup t,by rw[z.length,I],qY r z I h⟩
   ·rw[l_ I]at J;cases J
  |_=>cases e
theorem vp{p:Pat}{d:Dat}{e:Err}(h:lL p d ρ=.error e):e=.stuck:=by
 cases p with
 |nm i=>cases h|tp is=>
  cases d with
  |tup ds=>
   have I:(if ds.length=is.length then Ds (iY is ds ρ)else Fp Err.stuck)=Fp e:=h;by_cases J:ds.length=is.length
   ·rw[i_ J]at I;cases I
   ·rw[l_ J]at I;cases I;rfl
  |_=>cases h;rfl
structure vC(K:Fg)(F1:Hp)(J:It)(ds:List Dat):Prop where
 go:∀(i:Nat) (F H:Hp),aO F1 F->aO F H->i<ds.length->J.go i H
 yl:∀(i:Nat) (F H:Hp) (x:V) (H':Hp) (d:Dat),aO F1 F->aO F H->ds[i]?=a_ d->J.yld i H x H'->∃F',Step F H F' H'/\aP K F' d x
 st:∀(F H:Hp),aO F1 F->aO F H->J.stop ds.length H
noncomputable def iD(K:Fg)(W:dS)(f:ai->M (List Dat)):TI:=λσ H R=>∃F ρ,gz K F σ ρ/\aO F H/\(match f ρ with
 |.ok ds=>∀J F1 H1,Step F H F1 H1->vC K F1 J ds->R J H1|.error e=>W.p e F H)
noncomputable def gV:Dat->M (List Dat)
 |.lst ds=>.ok ds|.tup ds=>.ok ds|_=>.error .stuck
noncomputable def fIt(fa:ai->M Dat):ai->M (List Dat):=λρ=>(fa ρ).bind gV
noncomputable def iSeq(K:Fg)(tl:TE):TI:=λσ H R=>tl σ H λx H1=>∃a,x=.ref a/\((∃xs,SqL K H1 a xs)/\R (Itl K a) H1\/(∃xs,SqT K H1 a xs)/\R (Itt K a) H1)
theorem By{xs:List V}{ds:List Dat}(t:SqL K F a xs)(z:aB K F ds xs):vC K F (Itl K a) ds where
 go:=λi F' H' J I hi=>⟨xs,xs[i]'(by rw[z.length];exact hi),I.lst (J.lst t),by simp[z.length,hi]⟩
 yl:=λi F' H' x H2 d J I hd U=>by obtain⟨e,U⟩:=U;subst e;obtain⟨v,e1,q⟩:=z.get hd;have e2:=U xs (I.lst (J.lst t));rw[e1]at e2;cases e2;exact⟨F',Step.refl I,q.mono J⟩
 st:=λF' H' J I=>⟨xs,I.lst (J.lst t),by rw[z.length];exact u_ _⟩
theorem iter_tup{xs:List V}{ds:List Dat}(t:SqT K F a xs)(z:aB K F ds xs):vC K F (Itt K a) ds where
 go:=λi F' H' J I hi=>⟨xs,xs[i]'(by rw[z.length];exact hi),I.tup (J.tup t),by simp[z.length,hi]⟩
 yl:=λi F' H' x H2 d J I hd U=>by obtain⟨e,U⟩:=U;subst e;obtain⟨v,e1,q⟩:=z.get hd;have e2:=U xs (I.tup (J.tup t));rw[e1]at e2;cases e2;exact⟨F',Step.refl I,q.mono J⟩
 st:=λF' H' J I=>⟨xs,I.tup (J.tup t),by rw[z.length];exact u_ _⟩
noncomputable def gD(lo:Int)(n:Nat):List Dat:=(DY n).map λk:Nat=>Dat.int (lo+k)
theorem zE{lo:Int}:vC K F (Itr lo n) (gD lo n) where
 go:=λi F' H' U I hi=>by show i<n;simpa[gD] using hi
 yl:=λi F' H' x H2 d U I hd J=>by
  obtain⟨e,J⟩:=J;subst e J;unfold gD at hd;rw[Ee]at hd;have hi:i<n:=by have:=(z_.mp (show((DY n).map λk:Nat=>Dat.int (lo+k))[i]?=a_ d by rw[Ee];exact hd)).1;simpa using this
  rw[JE hi]at hd;cases hd;exact⟨F',Step.refl I,rfl⟩
 st:=λF' H' U I=>by show n<=_;simp[gD]
noncomputable def jQ(i:Int):Bool:=q_ (-(2^62)<=i)&&q_ (i<2^62)
noncomputable def rng1:List Dat->M (List Dat)
 |[.int j]=>if jQ j=e_ then .ok (gD 0 j.toNat)else .error .stuck
 |_=>.error .stuck
noncomputable def fRng(g:List Dat->M (List Dat))(fr:ai->M (List Dat)):ai->M (List Dat):=λρ=>(fr ρ).bind g
section
variable{W:dS} 
theorem ri_seq{R:It->Hp->Prop}(h:iD K W (fIt fa) σ H R):iSeq K (tD K W b_ fa) σ H R:=by
 obtain⟨F,ρ,r,s,p⟩:=h;refine b6 r s (λe U=>?_) λa Y x F1 H1 I J=>?_
 ·have z:fIt fa ρ=.error e:=by unfold fIt;rw[U];rfl
  rw[z]at p;exact p
 ·have z:fIt fa ρ=gV a:=by unfold fIt;rw[Y];rfl
  rw[z]at p;cases a with
  |lst ds=>obtain⟨b,xs,e,t,z⟩:=J;exact⟨b,e,.inl ⟨⟨xs,I.fh.lst t⟩,p _ F1 H1 I (By t z)⟩⟩
  |tup ds=>obtain⟨b,xs,e,t,z⟩:=J;exact⟨b,e,.inr ⟨⟨xs,I.fh.tup t⟩,p _ F1 H1 I (iter_tup t z)⟩⟩
  |_=>exact(W.ns p).elim
theorem ri_rng1{fr:ai->M (List Dat)}{R:It->Hp->Prop}(h:iD K W (fRng rng1 fr) σ H R):iRng1 (tDA K W fr) σ H R:=by
 obtain⟨F,ρ,r,s,p⟩:=h;refine o8 r s (λe b=>?_) λds hd xs F1 H1 Y a=>?_
 ·have z:fRng rng1 fr ρ=.error e:=by unfold fRng;rw[b];rfl
  rw[z]at p;exact p
 ·have z:fRng rng1 fr ρ=rng1 ds:=by unfold fRng;rw[hd];rfl
  rw[z]at p;cases ds with
  |nil=>exact(W.ns p).elim|cons d ds=>
   cases d with
   |int j=>
    cases ds with
    |cons _ _=>exact(W.ns p).elim|nil=>
     obtain⟨v,vs,e,q,t⟩:=a;have U:match (if jQ j=e_ then Ds (gD 0 j.toNat)else Fp Err.stuck:M (List Dat))with
      |.ok ds=>∀J F1 H1,Step F H F1 H1->vC K F1 J ds->R J H1|.error e=>W.p e F H:=p
     by_cases I:jQ j=e_
     ·rw[i_ I]at U;unfold jQ at I;simp only[n_,Dh]at I;exact⟨j,by rw[e,show v=.int j from q,show vs=[]from t],I.1,I.2,U _ F1 H1 Y zE⟩
     ·rw[l_ I]at U;exact(W.ns U).elim
   |_=>exact(W.ns p).elim
noncomputable def jC(ix:List (Option Nat))(ρ:ai):ai:=ix.map λo=>match o with
 |none=>d_|some j=>(ρ[j]?).join
noncomputable def bM(p:Pat)(ft:ai->M Bool)(fe:ai->M Dat)(ρ0:ai):List Dat->M (List Dat)
 |[]=>.ok []|d::ds=>(lL p d ρ0).bind λρ=>(ft ρ).bind λb=>if b=e_ then(fe ρ).bind λy=>(bM p ft fe ρ0 ds).bind λr=>.ok (y::r)else bM p ft fe ρ0 ds
noncomputable def eF(fi:ai->M (List Dat))(ix:List (Option Nat))(p:Pat)(ft:ai->M Bool)(fe:ai->M Dat):ai->M Dat:=λρ=>(fi ρ).bind λds=>if ds.length<=m_ then(bM p ft fe (jC ix ρ) ds).bind λr=>.ok (.lst r)else .error .stuck
noncomputable def ik:ai->M Bool:=λ_=>.ok e_
theorem gz.inS{F:Hp}{ρ:ai}(r:gz K F σ ρ)(ix:List (Option Nat)):gz K F (L2.inS ix σ) (jC ix ρ):=
 ⟨by simp[L2.inS,jC],λi d e=>by
  unfold jC at e;unfold L2.inS;rw[Ee]at e ⊢;cases h:ix[i]? with
  |none=>rw[h]at e;cases e|some o=>
   rw[h]at e;cases o with
   |none=>cases e|some j=>
    simp only[HS,IH]at e ⊢;have e1:ρ[j]?=a_ (a_ d):=by
     cases z:ρ[j]? with
     |none=>rw[z]at e;cases e|some w=>rw[z]at e;simp at e;rw[e]
    obtain⟨v,h1,h2⟩:=r.sl j d e1;exact⟨v,by rw[h1];rfl,h2⟩⟩
theorem B0{p:Pat}(h:tD K W e_ (eF fi ix p ft fe) σ H Q):
  tComp (iD K W fi) ix (gP K p) (tDT K W ft) (tD K W b_ fe) σ H Q:=by
 obtain⟨F,ρ,r,s,q⟩:=h;refine⟨F,ρ,r,s,?_⟩
 cases R:fi ρ with
 |error e=>exact q.err (by unfold eF;rw[R];rfl)|ok ds=>
  intro J F1 H1 B it;have e0:eF fi ix p ft fe ρ=if ds.length<=m_ then(bM p ft fe (jC ix ρ) ds).bind λr=>.ok (.lst r)else .error .stuck:=by unfold eF;rw[R];rfl
  rw[e0]at q;by_cases P:ds.length<=m_
  ·rw[i_ P]at q;refine⟨λi m ys H2=>m=ds.length-i/\i<=ds.length/\∃F2 I,Step F1 H1 F2 H2/\aB K F2 I ys/\I.length<=i /\
    (match bM p ft fe (jC ix ρ) (ds.drop i)with
     |.ok U=>bM p ft fe (jC ix ρ) ds=.ok (I++U)|.error e=>W.p e F H),⟨ds.length,by omega,FK _,F1,[],Step.refl B.fh,rfl,FK _,?_⟩,?_⟩
   ·rw[Iu];cases e:bM p ft fe (jC ix ρ) ds with
    |ok U=>rfl|error x=>exact q.err (by rw[e];rfl)
   ·rintro i m ys H2 ⟨rfl,hi,F2,I,c,D,ly,o⟩;have z:ys.length<=m_:=by rw[D.length];omega
    by_cases g:i<ds.length
    ·have ed:ds.drop i=ds[i]::ds.drop (i+1):=GL g;rw[ed]at o;refine .inr ⟨it.go i F2 H2 c.ff c.fh g,z,λu H'=>(i+1<=ds.length/\∃F2 I,Step F1 H1 F2 H'/\aB K F2 I u/\I.length<=i+1 /\
      (match bM p ft fe (jC ix ρ) (ds.drop (i+1))with
       |.ok U=>bM p ft fe (jC ix ρ) ds=.ok (I++U)|.error e=>W.p e F H)),λu H' n=>⟨ds.length-(i+1),by omega,rfl,n⟩,λx H' y=>?_⟩
     obtain⟨T,l,q3⟩:=it.yl i F2 H2 x H' ds[i] c.ff c.fh (by simp[g]) y;have Z:gz K T (L2.inS ix σ) (jC ix ρ):=(r.mono (B.trans (c.trans l)).ff).inS ix;have w:Step F H T H':=B.trans (c.trans l);have ec:bM p ft fe (jC ix ρ) (ds[i]::ds.drop (i+1))=(lL p ds[i] (jC ix ρ)).bind λY=>(ft Y).bind λb=>if b=e_ then(fe Y).bind λy=>(bM p ft fe (jC ix ρ) (ds.drop (i+1))).bind λr=>.ok (y::r)else bM p ft fe (jC ix ρ) (ds.drop (i+1)):=by rw[bM]
     rw[ec]at o;cases C:lL p ds[i] (jC ix ρ)with
     |error e=>rw[C]at o;have:=vp C;subst this;exact(W.ns o).elim|ok Y=>
      rw[C]at o;refine gP_run Z l.fh q3 C λX O=>?_;have j:match ((ft Y).bind λb=>if b=e_ then(fe Y).bind λy=>(bM p ft fe (jC ix ρ) (ds.drop (i+1))).bind λr=>.ok (y::r)else bM p ft fe (jC ix ρ) (ds.drop (i+1)))with
       |.ok U=>bM p ft fe (jC ix ρ) ds=.ok (I++U)|.error e=>W.p e F H:=o
      refine hX O l.fh (λe E=>by rw[E]at j;exact W.mono j w) λb G F5 H5 t=>?_;rw[G]at j;cases b with
      |false=>
       have f:match bM p ft fe (jC ix ρ) (ds.drop (i+1))with
        |.ok U=>bM p ft fe (jC ix ρ) ds=.ok (I++U)|.error e=>W.p e F H:=j
       exact⟨g,F5,I,c.trans (l.trans t),D.mono (l.trans t).ff,by omega,f⟩
      |true=>
       have f:match ((fe Y).bind λy=>(bM p ft fe (jC ix ρ) (ds.drop (i+1))).bind λr=>.ok (y::r))with
        |.ok U=>bM p ft fe (jC ix ρ) ds=.ok (I++U)|.error e=>W.p e F H:=j
       refine b6 (O.mono t.ff) t.fh (λe E=>by rw[E]at f;exact W.mono f (w.trans t)) λd hd v F6 H6 N q6=>?_;rw[hd]at f;refine⟨g,F6,I++[d],c.trans (l.trans (t.trans N)),aB.append (D.mono (l.trans (t.trans N)).ff) ⟨v,[],rfl,q6,rfl⟩,by simp;omega,?_⟩
       have k:match ((bM p ft fe (jC ix ρ) (ds.drop (i+1))).bind λr=>.ok (d::r):M (List Dat))with
        |.ok U=>bM p ft fe (jC ix ρ) ds=.ok (I++U)|.error e=>W.p e F H:=f
       cases S:bM p ft fe (jC ix ρ) (ds.drop (i+1))with
       |ok U=>rw[S]at k;show _=Ds ((I++[d])++U);rw[F_];exact k|error x=>rw[S]at k;exact k
    ·have:i=ds.length:=by omega
     subst this;rw[Kb]at o;have A:bM p ft fe (jC ix ρ) ds=.ok (I++[]):=o;rw[Ft]at A;rw[A]at q;refine .inl ⟨it.st F2 H2 c.ff c.fh,z,λa L=>?_⟩;have st:Step F H F2 H2:=B.trans c;exact q (.ref a) F2 _ (st.trans (Step.grow c.fh L)) ⟨a,ys,rfl,aq,c.fh.free L,st.hh.free L,D⟩
  ·rw[l_ P]at q;exact(W.ns q).elim
end
inductive Flo where
 |nx (ρ:ai)|rt (d:Dat)|bk (ρ:ai)|ct (ρ:ai)
variable{g2:ai->M Flo}
structure Rep(K:Fg)(F0 H0 FB:Hp)(O:List Nat)(F H:Hp)(σ:St)(ρ:ai):Prop where
 st:Step F0 H0 F H
 fb:aO FB F
 len:ρ.length=σ.length
 fz:∀(i:Nat) (d:Dat),ρ[i]?=a_ (a_ d)->i∉O->∃v,σ[i]?=a_ (a_ v)/\aP K F d v
 ow:∀(i:Nat) (d:Dat),ρ[i]?=a_ (a_ d)->i∈O->∃v,σ[i]?=a_ (a_ v)/\ky K F H0 H d v
 ap:∀(i j:Nat) (d e:Dat) (a:g_),i∈O->j∈O->(ρ[i]?=a_ (a_ d)/\isO d=e_)->(ρ[j]?=a_ (a_ e)/\isO e=e_)->σ[i]?=a_ (a_ (.ref a))->σ[j]?=a_ (a_ (.ref a))->i=j
noncomputable def vI(O O2:List Nat)(σ:St)(ρ:ai)(b:g_):Prop:=∃(i:Nat) (d:Dat),i∈O/\i∉O2/\isO d=e_/\ρ[i]?=a_ (a_ d)/\σ[i]?=a_ (a_ (.ref b))
open Classical in
noncomputable def plus(F H:Hp)(A:Addr->Prop):Hp:=λb=>if A b then H b else F b
open Classical in
noncomputable def minus(F:Hp)(A:Addr->Prop):Hp:=λb=>if A b then none else F b
theorem j3{A:g_->Prop}(h:A b):plus F H A b=H b:=by unfold plus;rw[i_ h]
theorem dz{A:g_->Prop}(h:¬A b):plus F H A b=F b:=by unfold plus;rw[l_ h]
theorem nK{A:g_->Prop}(h:A b):minus F A b=d_:=by unfold minus;rw[i_ h]
theorem gE{A:g_->Prop}(h:¬A b):minus F A b=F b:=by unfold minus;rw[l_ h]
theorem Rep.own(r:Rep K F0 H0 FB O F H σ ρ)(h:vI O O2 σ ρ b):F b=d_/\H0 b=d_/\∃o,H b=a_ o/\isMu o=e_:=by obtain⟨i,d,hi,_,hd,e1,e2⟩:=h;obtain⟨v,e3,q⟩:=r.ow i _ e1 hi;rw[e2]at e3;cases e3;obtain⟨a,o,e,p,m,f,z⟩:=q.top hd;cases e;exact⟨f,z,o,p,m⟩
theorem Rep.jV(r:Rep K F0 H0 FB O F H σ ρ):aO F (plus F H (vI O O2 σ ρ)):=λb o h=>by
 by_cases I:vI O O2 σ ρ b
 ·rw[(r.own I).1]at h;cases h
 ·rw[dz I];exact h
theorem Rep.sr(r:Rep K F0 H0 FB O F H σ ρ):aO (plus F H (vI O O2 σ ρ)) H:=λb o h=>by
 by_cases I:vI O O2 σ ρ b
 ·rw[j3 I]at h;exact h
 ·rw[dz I]at h;exact r.st.fh b o h
theorem Rep.freeze(r:Rep K F0 H0 FB O F H σ ρ)(I:∀i∈O2,i∈O):Rep K F0 H0 FB O2 (plus F H (vI O O2 σ ρ)) H σ ρ where
 st:=⟨r.st.ff.trans r.jV,r.st.hh,r.sr,λb o h=>by
  by_cases k:vI O O2 σ ρ b
  ·exact .inr (r.own k).2.1
  ·rw[dz k]at h;exact r.st.nw b o h⟩
 fb:=r.fb.trans r.jV
 len:=r.len
 fz:=λi d e hi=>by
  by_cases J:i∈O
  ·obtain⟨v,e3,q⟩:=r.ow i d e J;refine⟨v,e3,?_⟩
   cases hd:isO d with
   |true=>obtain⟨a,_,g,_⟩:=q.top hd;subst g;exact q.give hd r.jV (j3 ⟨i,d,J,hi,hd,e,e3⟩)
   |false=>rw[ky.non hd]at q;exact q.mono r.jV
  ·obtain⟨v,e3,q⟩:=r.fz i d e J;exact⟨v,e3,q.mono r.jV⟩
 ow:=λi d e hi=>by
  obtain⟨v,e3,q⟩:=r.ow i d e (I i hi);refine⟨v,e3,?_⟩
  cases hd:isO d with
  |true=>
   obtain⟨a,o,g,p,_,f,z⟩:=q.top hd;subst g;refine q.re hd r.jV ?_ λ_ h=>h;have:¬vI O O2 σ ρ a:=λ⟨j,d',Y,U,c,f1,l⟩=>by have:=r.ap i j d d' a (I i hi) Y ⟨e,hd⟩ ⟨f1,c⟩ e3 l;subst this;exact U hi
   rw[dz this];exact f
  |false=>rw[ky.non hd]at q ⊢;exact q.mono r.jV
 ap:=λi j d e a hi Y=>r.ap i j d e a (I i hi) (I j Y)
theorem Rep.repE(r:Rep K F0 H0 FB [] F H σ ρ):gz K F σ ρ:=⟨r.len,λi d e=>r.fz i d e (by simp)⟩
theorem Rep.AZ(r:Rep K F0 H0 FB O F H σ ρ):gz K (plus F H (vI O [] σ ρ)) σ ρ:=(r.freeze (O2:=[]) (by simp)).repE
noncomputable def erase:List Nat->ai->ai
 |[],ρ=>ρ|i::is,ρ=>erase is (ρ.set i d_)
theorem uY:∀(O:List Nat) (ρ:ai),(erase O ρ).length=ρ.length
 |[],_=>rfl|i::is,ρ=>by rw[erase,uY,CY]
theorem uZ:∀(O:List Nat) (ρ:ai) (i:Nat) (d:Dat),(erase O ρ)[i]?=a_ (a_ d)->ρ[i]?=a_ (a_ d)/\i∉O
 |[],_,_,_,h=>⟨h,by simp⟩|j::is,ρ,i,d,h=>by
  obtain⟨h1,h2⟩:=uZ is (ρ.set j d_) i d h;by_cases e:j=i
  ·subst e;have I:j<ρ.length:=by
    have:=(z_.mp h1).1;simpa using this
   rw[s_ I]at h1;cases h1
  ·rw[k_ e]at h1;exact⟨h1,by simp[h2];omega⟩
theorem Rep.jo(r:Rep K F0 H0 FB O F H σ ρ):gz K F σ (erase O ρ):=
 ⟨by rw[uY,r.len],λi d e=>let ⟨h1,h2⟩:=uZ O ρ i d e;r.fz i d h1 h2⟩
theorem Rep.step(r:Rep K F0 H0 FB O F H σ ρ)(s:Step F H F1 H1):Rep K F0 H0 FB O F1 H1 σ ρ where
 st:=r.st.trans s
 fb:=r.fb.trans s.ff
 len:=r.len
 fz:=λi d e hi=>let ⟨v,e3,q⟩:=r.fz i d e hi;⟨v,e3,q.mono s.ff⟩
 ow:=λi d e hi=>by
  obtain⟨v,e3,q⟩:=r.ow i d e hi;refine⟨v,e3,?_⟩
  cases hd:isO d with
  |true=>
   obtain⟨a,u,I,p,_,f,z⟩:=q.top hd;subst I;refine q.re hd s.ff ?_ (s.hh a);cases e1:F1 a with
   |none=>rfl|some o=>
    rcases s.nw a o e1 with h|h
    ·rw[f]at h;cases h
    ·rw[p]at h;cases h
  |false=>rw[ky.non hd]at q ⊢;exact q.mono s.ff
 ap:=r.ap
theorem Rep.AH(r:Rep K F0 H0 FB O F H σ ρ)(s:Step (plus F H (vI O [] σ ρ)) H F1 H1):Rep K F0 H0 FB O (minus F1 (vI O [] σ ρ)) H1 σ ρ:=by
 refine r.step ⟨λb o h=>?_,s.hh,λb o h=>?_,λb o h=>?_⟩
 ·by_cases I:vI O [] σ ρ b
  ·rw[(r.own I).1]at h;cases h
  ·rw[gE I];exact s.ff b o (by rw[dz I];exact h)
 ·by_cases I:vI O [] σ ρ b
  ·rw[nK I]at h;cases h
  ·rw[gE I]at h;exact s.fh b o h
 ·by_cases I:vI O [] σ ρ b
  ·rw[nK I]at h;cases h
  ·rw[gE I]at h;rcases s.nw b o h with z|z
   ·rw[dz I]at z;exact .inl z
   ·exact .inr z
theorem Rep.set{d:Dat}{v:V}(r:Rep K F0 H0 FB O F H σ ρ)(q:aP K F d v)(i:Nat):Rep K F0 H0 FB (O.filter (· != i)) F H (σ.set i (a_ v)) (ρ.set i (a_ d)) where
 st:=r.st
 fb:=r.fb
 len:=by rw[CY,CY,r.len]
 fz:=λj e h J=>by
  by_cases I:i=j
  ·subst I;have hi:i<ρ.length:=by
    have:=(z_.mp h).1;simpa using this
   rw[s_ hi]at h;cases h;exact⟨v,by rw[s_ (by rw[<- r.len];exact hi)],q⟩
  ·rw[k_ I]at h;rw[k_ I];exact r.fz j e h λz=>J (D9.mpr ⟨z,by simpa using DL I⟩)
 ow:=λj e h J=>by
  obtain⟨h1,h2⟩:=D9.mp J;have I:i≠j:=λz=>by simp[z]at h2
  rw[k_ I]at h ⊢;exact r.ow j e h h1
 ap:=λj k ds es a J b e1 e2 e3 e4=>by
  obtain⟨j1,Y⟩:=D9.mp J;obtain⟨k1,k2⟩:=D9.mp b;have I:i≠j:=λz=>by simp[z]at Y
  have U:i≠k:=λz=>by simp[z]at k2
  rw[k_ I]at e1 e3;rw[k_ U]at e2 e4;exact r.ap j k ds es a j1 k1 e1 e2 e3 e4
theorem Rep.setOwn{d:Dat}(r:Rep K F0 H0 FB O F H σ ρ)(q:ky K F H0 H d v)(p:∀a,v=.ref a->isO d=e_->¬vI O [i] σ ρ a):Rep K F0 H0 FB (i::O.filter (· != i)) F H (σ.set i (a_ v)) (ρ.set i (a_ d)) where
 st:=r.st
 fb:=r.fb
 len:=by rw[CY,CY,r.len]
 fz:=λj e h Y=>by simp only[A_,not_or]at Y;have I:i≠j:=λz=>Y.1 z.symm;rw[k_ I]at h ⊢;exact r.fz j e h λz=>Y.2 (D9.mpr ⟨z,by simpa using DL I⟩)
 ow:=λj e h Y=>by
  by_cases I:i=j
  ·subst I;have hi:i<ρ.length:=by
    have:=(z_.mp h).1;simpa using this
   rw[s_ hi]at h;cases h;exact⟨v,by rw[s_ (by rw[<- r.len];exact hi)],q⟩
  ·rw[k_ I]at h ⊢;rcases A_.mp Y with z|z
   ·exact Dc z.symm I
   ·exact r.ow j e h (D9.mp z).1
 ap:=λj k ds es a Y m e1 e2 e3 e4=>by
  have key:∀{k':Nat} {ds' J:Dat},k'∈O->k'≠i->((ρ.set i (a_ d))[i]?=a_ (a_ ds')/\isO ds'=e_)->((ρ.set i (a_ d))[k']?=a_ (a_ J)/\isO J=e_)->(σ.set i (a_ v))[i]?=a_ (a_ (.ref a))->(σ.set i (a_ v))[k']?=a_ (a_ (.ref a))->False:=by
   intro k' ds' J f b f1 l f3 f4;have hi:i<ρ.length:=by have:=(z_.mp f1.1).1;simpa using this
   rw[s_ hi]at f1;rw[s_ (by rw[<- r.len];exact hi)]at f3;rw[k_ (DL b)]at l f4;have o:v=.ref a:=by simpa using f3
   have n:d=ds':=by simpa using f1.1
   exact p a o (n▸f1.2) ⟨k',J,f,by simpa using b,l.2,l.1,f4⟩
  rcases A_.mp Y with c|c
  ·rcases A_.mp m with U|U
   ·rw[c,U]
   ·obtain⟨k1,k2⟩:=D9.mp U;subst c;exact(key k1 (by simpa using k2) e1 e2 e3 e4).elim
  ·obtain⟨j1,s⟩:=D9.mp c;have I:i≠j:=λz=>by simp[z]at s
   rcases A_.mp m with U|U
   ·subst U;exact(key j1 (DL I) e2 e1 e4 e3).elim
   ·obtain⟨k1,k2⟩:=D9.mp U;have g:i≠k:=λz=>by simp[z]at k2
    rw[k_ I]at e1 e3;rw[k_ g]at e2 e4;exact r.ap j k ds es a j1 k1 e1 e2 e3 e4
theorem zM(h:i∉O):O.filter (· != i)=O:=by rw[List.filter_eq_self];intro a I;simp;intro e;exact h (e▸I)
theorem Rep.set'{d:Dat}(r:Rep K F0 H0 FB O F H σ ρ)(q:aP K F d v)(hi:i∉O):Rep K F0 H0 FB O F H (σ.set i (a_ v)) (ρ.set i (a_ d)):=by have:=r.set q i;rw[zM hi]at this;exact this
theorem Rep.base{I:Hp}(r:Rep K F0 H0 FB O F H σ ρ)(s:aO I FB):Rep K F0 H0 I O F H σ ρ:=⟨r.st,s.trans r.fb,r.len,r.fz,r.ow,r.ap⟩
theorem Rep.writeO{d:Dat}{u:HO}(r:Rep K F0 H0 FB O F H σ ρ)(hi:i∈O)(e1:ρ[i]?=a_ (a_ d))(hd:isO d=e_)(e2:σ[i]?=a_ (a_ (.ref a)))(q:F a=d_->H0 a=d_->ky K F H0 (upd H a u) d' (.ref a)):Rep K F0 H0 FB O F (upd H a u) σ (ρ.set i (a_ d')):=by
 have Y:F a=d_/\H0 a=d_/\∃o,H a=a_ o/\isMu o=e_:=r.own (O2:=[]) ⟨i,d,hi,by simp,hd,e1,e2⟩;have g:i<ρ.length:=(z_.mp e1).1;refine⟨⟨r.st.ff,λb o h=>?_,λb o h=>?_,r.st.nw⟩,r.fb,by rw[CY,r.len],λj e h J=>?_,λj e h J=>?_,λj k es fs b J t f1 x f3 f4=>?_⟩
 ·rw[ao (aL h Y.2.1)];exact r.st.hh b o h
 ·rw[ao (aL h Y.1)];exact r.st.fh b o h
 ·have I:i≠j:=λz=>J (z▸hi);rw[k_ I]at h;exact r.fz j e h J
 ·by_cases I:i=j
  ·subst I;rw[s_ g]at h;cases h;exact⟨.ref a,e2,q Y.1 Y.2.1⟩
  ·rw[k_ I]at h;obtain⟨v,e3,z⟩:=r.ow j e h J;refine⟨v,e3,?_⟩
   cases c:isO e with
   |true=>
    obtain⟨b,o,y,p,_,f,_⟩:=z.top c;subst y;have l:b≠a:=λz=>by subst z;exact I (r.ap i j d e b hi J ⟨e1,hd⟩ ⟨h,c⟩ e2 e3)
    exact z.re c (aO.refl _) f λo h=>by rw[ao l];exact h
   |false=>rw[ky.non c]at z ⊢;exact z
 ·have U:∀{j:Nat} {e:Dat},((ρ.set i (a_ d'))[j]?=a_ (a_ e)/\isO e=e_)->∃s,ρ[j]?=a_ (a_ s)/\isO s=e_:=λ{j e} f=>by
   by_cases I:i=j
   ·subst I;exact⟨d,e1,hd⟩
   ·rw[k_ I]at f;exact⟨e,f⟩
  obtain⟨n,w⟩:=U f1;obtain⟨m,g2⟩:=U x;exact r.ap j k n m b J t w g2 f3 f4
theorem Rep.write{ds:List Dat}{I:List V}(r:Rep K F0 H0 FB O F H σ ρ)(hi:i∈O)(e1:ρ[i]?=a_ (a_ (.lst ds)))(e2:σ[i]?=a_ (a_ (.ref a)))(q:aB K F ds' I):Rep K F0 H0 FB O F (upd H a (.lst I)) σ (ρ.set i (a_ (.lst ds'))):=
 r.writeO hi e1 rfl e2 λf z=>⟨a,I,rfl,aq,f,z,q⟩
noncomputable def Pat.names:Pat->List Nat
 |.nm i=>[i]|.tp is=>is
theorem qZ{R:St->Hp->Prop}:∀{is:List Nat} {ds:List Dat} {vs:List V} {σ:St} {ρ:ai},Rep K F0 H0 FB O F H σ ρ->(∀i∈is,i∉O)->aB K F ds vs->ds.length=is.length->(∀σ',Rep K F0 H0 FB O F H σ' (iY is ds ρ)->R σ' H)->gZ is vs σ H R
 |[],[],_,σ,ρ,r,_,q,_,h=>⟨q,h σ r⟩|[],_::_,_,_,_,_,_,_,e,_=>by simp at e|_::_,[],_,_,_,_,_,_,e,_=>by simp at e|i::is,d::ds,_,σ,ρ,r,n,⟨v,vs,e,q,t⟩,l,h=>⟨v,vs,e,qZ (r.set' q (n i (by simp))) (λj I=>n j (by simp[I])) t (by simpa using l) h⟩
theorem gP_rep{R:St->Hp->Prop}{p:Pat}{d:Dat}(r:Rep K F0 H0 FB O F H σ ρ)(n:∀i∈p.names,i∉O)(q:aP K F d v)(e:lL p d ρ=.ok ρ')(h:∀σ',Rep K F0 H0 FB O F H σ' ρ'->R σ' H):gP K p v σ H R:=by
 cases p with
 |nm i=>have:=ED e;subst this;exact h _ (r.set' q (n i (by simp[Pat.names])))|tp is=>
  cases d with
  |tup ds=>
   have J:(if ds.length=is.length then Ds (iY is ds ρ)else Fp Err.stuck)=Ds ρ':=e;by_cases I:ds.length=is.length
   ·rw[i_ I]at J;have:=ED J;subst this;obtain⟨a,xs,U,t,z⟩:=q;exact⟨a,xs,U,r.st.fh.tup t,by rw[z.length,I],qZ r n z I h⟩
   ·rw[l_ I]at J;cases J
  |_=>cases e
noncomputable def gT(K:Fg)(W:dS)(ro:Bool)(F0 H0 FB:Hp)(OL O':List Nat)(D:Ends)(r:M Flo):Prop:=match r with
 |.ok (.nx ρ)=>∀σ F H,Rep K F0 H0 FB O' F H σ ρ->D.nx σ H|.ok (.rt d)=>∀v F H,Step F0 H0 F H->Val K ro F H0 H d v->D.rt v H|.ok (.bk ρ)=>∀σ F H,Rep K F0 H0 FB OL F H σ ρ->D.bk σ H|.ok (.ct ρ)=>∀σ F H,Rep K F0 H0 FB OL F H σ ρ->D.ct σ H|.error e=>W.p e F0 H0
noncomputable def tS(K:Fg)(W:dS)(ro:Bool)(F0 H0:Hp)(OL O O':List Nat)(g:ai->M Flo):TS:=λD σ H=>∃FB F ρ,Rep K F0 H0 FB O F H σ ρ/\gT K W ro F0 H0 FB OL O' D (g ρ)
noncomputable def bW:ai->M Flo:=λρ=>.ok (.nx ρ)
noncomputable def bH(g h:ai->M Flo):ai->M Flo:=λρ=>(g ρ).bind λfl=>match fl with
 |.nx ρ'=>h ρ'|fl=>.ok fl
noncomputable def sIf(ft:ai->M Bool)(g h:ai->M Flo):ai->M Flo:=λρ=>(ft ρ).bind λb=>if b=e_ then g ρ else h ρ
noncomputable def bP(O:List Nat)(i:Nat)(f:ai->M Dat):ai->M Flo:=λρ=>(f (erase O ρ)).bind λd=>.ok (.nx (ρ.set i (a_ d)))
noncomputable def kZ(ρ:ai)(i:Nat):M (List Dat):=match ρ[i]? with
 |some (a_ (.lst ds))=>.ok ds|_=>.error .stuck
noncomputable def put(ρ:ai)(i:Nat)(ds:List Dat):M Flo:=.ok (.nx (ρ.set i (a_ (.lst ds))))
noncomputable def uw(O:List Nat)(i:Nat)(f:ai->M Dat):ai->M Flo:=λρ=>(kZ ρ i).bind λds=>(f (erase O ρ)).bind λd=>if ds.length<m_ then put ρ i (ds++[d])else .error .stuck
noncomputable def asI:Dat->M Int
 |.int i=>.ok i|_=>.error .stuck
noncomputable def cy(f:ai->M Dat):ai->M Flo:=λρ=>(f ρ).bind λd=>.ok (.rt d)
noncomputable def isL:Dat->Bool
 |.lst _=>e_|_=>b_
noncomputable def mh(p:Pat)(g:ai->M Flo):List Dat->ai->M Flo
 |[],ρ=>.ok (.nx ρ)|d::ds,ρ=>(lL p d ρ).bind λJ=>(g J).bind λfl=>match fl with
  |.nx I=>mh p g ds I|.ct I=>mh p g ds I|.bk I=>.ok (.nx I)|.rt d=>.ok (.rt d)
noncomputable def sFor(O:List Nat)(fi:ai->M (List Dat))(p:Pat)(g:ai->M Flo):ai->M Flo:=λρ=>(fi (erase O ρ)).bind λds=>mh p g ds ρ
section
variable{W:dS}{own:Bool}{D:Ends}{g h:ai->M Flo}{f:ai->M Dat} 
theorem gT.err{x:M Flo}{e:Err}(p:gT K W ro F0 H0 FB OL O' D x)(h:x=.error e):W.p e F0 H0:=by rw[h]at p;exact p
theorem gT.uX{x:M Flo}{e:Err}(p:gT K W ro F0 H0 FB OL O' D x)(s:Step F0 H0 F H)(h:x=.error e):W.p e F H:=W.mono (p.err h) s
theorem gT.stuck{x:M Flo}{P:Prop}(p:gT K W ro F0 H0 FB OL O' D x)(h:x=.error .stuck):P:=(W.ns (p.err h)).elim
theorem tS.enter(I:∀i∈O2,i∈O)(t:tS K W ro F0 H0 OL O O' g D σ H):tS K W ro F0 H0 OL O2 O' g D σ H:=by obtain⟨FB,F,ρ,r,p⟩:=t;exact⟨FB,_,ρ,r.freeze I,p⟩
theorem rs_next(t:tS K W ro F0 H0 OL O O bW D σ H):i8 D σ H:=by obtain⟨FB,F,ρ,r,p⟩:=t;exact p σ F H r
theorem rs_seq(t:tS K W ro F0 H0 OL O O2 (bH g h) D σ H):iJ (tS K W ro F0 H0 OL O O' g) (tS K W ro F0 H0 OL O' O2 h) D σ H:=by
 obtain⟨FB,F,ρ,r,p⟩:=t;refine⟨FB,F,ρ,r,?_⟩
 unfold bH at p;cases e:g ρ with
 |error x=>exact p.err (by rw[e];rfl)|ok fl=>
  rw[e]at p;cases fl with
  |nx ρ'=>exact λσ' F' H' r'=>⟨FB,F',ρ',r',p⟩|rt d=>exact p|bk ρ'=>exact p|ct ρ'=>exact p
theorem rs_if(t:tS K W ro F0 H0 OL O O' (sIf ft g h) D σ H):nC (tDT K W ft) (tS K W ro F0 H0 OL O O' g) (tS K W ro F0 H0 OL O O' h) D σ H:=by
 obtain⟨FB,F,ρ,r,p⟩:=t;refine hX r.AZ r.sr (λe J=>p.uX (r.freeze (O2:=[]) (by simp)).st (by unfold sIf;rw[J];rfl)) λb U F1 H1 I=>?_;have z:sIf ft g h ρ=if b=e_ then g ρ else h ρ:=by unfold sIf;rw[U];rfl
 rw[z]at p;cases b with
 |true=>exact⟨FB,_,ρ,r.AH I,p⟩|false=>exact⟨FB,_,ρ,r.AH I,p⟩
noncomputable def aft(own:Bool)(i:Nat)(O:List Nat):List Nat:=if own=e_ then i::O.filter (· != i)else O.filter (· != i)
theorem Rep.bindV{d:Dat}(r:Rep K F0 H0 FB O F H σ ρ)(q:Val K own F H2 H d v)(h2:aO H0 H2)(J:∀a,vI O [] σ ρ a->∃o,H2 a=a_ o):Rep K F0 H0 FB (aft own i O) F H (σ.set i (a_ v)) (ρ.set i (a_ d)):=by
 cases own with
 |false=>exact r.set q i|true=>refine r.setOwn (ky.back h2 q) λa U hd z=>?_;subst U;obtain⟨b,_,e,_,_,_,n⟩:=ky.top hd q;cases e;obtain⟨j,es,h1,h2,f,c,Y⟩:=z;obtain⟨o,I⟩:=J a ⟨j,es,h1,by simp,f,c,Y⟩;rw[n]at I;cases I
theorem AU(t:tS K W ro F0 H0 OL O (aft own i O) (bP O i f) D σ H):yL (tD K W own f) (gS i) D σ H:=by
 obtain⟨FB,F,ρ,r,p⟩:=t;refine b6 r.jo r.st.fh (λe J=>p.uX r.st (by unfold bP;rw[J];rfl)) λd hd v F1 H1 I q=>?_;have z:bP O i f ρ=.ok (.nx (ρ.set i (a_ d))):=by unfold bP;rw[hd];rfl
 rw[z]at p;exact p _ F1 H1 ((r.step I).bindV q r.st.hh λa U=>let ⟨_,_,_,e,_⟩:=r.own U;⟨_,e⟩)
theorem nL{ds:List Dat}(h:kZ ρ i=.ok ds):ρ[i]?=a_ (a_ (.lst ds)):=by
 unfold kZ at h;split at h
 ·cases h;assumption
 ·cases h
theorem uO{e:Err}(h:kZ ρ i=.error e):e=.stuck:=by
 unfold kZ at h;split at h
 ·cases h
 ·cases h;rfl
theorem Rep.lstOwn{ds:List Dat}(r:Rep K F0 H0 FB O F H σ ρ)(hi:i∈O)(e:ρ[i]?=a_ (a_ (.lst ds))):∃a xs,σ[i]?=a_ (a_ (.ref a))/\H a=a_ (.lst xs)/\aB K F ds xs:=by obtain⟨v,e3,a,xs,I,p,_,_,t⟩:=r.ow i _ e hi;subst I;exact⟨a,xs,e3,p,t⟩
noncomputable def tApp(K:Fg)(i:Nat)(te:TE):TS:=pW (tBM K "list" jU (cn i) (aM te dR))
theorem rs_appB(hi:i∈O)(t:tS K W ro F0 H0 OL O O (uw O i f) D σ H):tApp K i (tD K W b_ f) D σ H:=by
 obtain⟨FB,F,ρ,r,p⟩:=t;cases I:kZ ρ i with
 |error e=>have:=uO I;subst this;exact p.stuck (by unfold uw;rw[I];rfl)|ok ds=>
  obtain⟨a,xs,e2,Y,z⟩:=r.lstOwn hi (nL I);refine⟨.ref a,e2,kE Y,?_⟩
  refine b6 r.jo r.st.fh (λe b=>p.uX r.st (by unfold uw;rw[I];show(f (erase O ρ)).bind _=_;rw[b];rfl)) λd hd v F1 H1 J q=>?_;have c:uw O i f ρ=if ds.length<m_ then put ρ i (ds++[d])else .error .stuck:=by unfold uw;rw[I];show(f (erase O ρ)).bind _=_;rw[hd];rfl
  rw[c]at p;by_cases U:ds.length<m_
  ·rw[i_ U]at p;exact⟨a,xs,v,rfl,rfl,J.hh _ _ Y,by rw[z.length];exact U,p σ F1 _ ((r.step J).write hi (nL I) e2 (aB.append (z.mono J.ff) ⟨v,[],rfl,q,rfl⟩))⟩
  ·rw[l_ U]at p;exact p.stuck rfl
theorem rs_ret(t:tS K W ro F0 H0 OL O O' (cy f) D σ H):qJ (tD K W ro f) D σ H:=by
 obtain⟨FB,F,ρ,r,p⟩:=t;have I:=r.freeze (O2:=[]) (by simp);refine b6 r.AZ r.sr (λe U=>p.uX I.st (by unfold cy;rw[U];rfl)) λd hd v F1 H1 J q=>?_;have z:cy f ρ=.ok (.rt d):=by unfold cy;rw[hd];rfl
 rw[z]at p;exact p v F1 H1 (I.st.trans J) (q.back r.st.hh)
theorem rs_retV(hi:i∈O)(t:tS K W e_ F0 H0 OL O O' (cy (ah i)) D σ H):qJ (cn i) D σ H:=by
 obtain⟨FB,F,ρ,r,p⟩:=t;unfold cy ah at p
 match e:ρ[i]? with
 |some (a_ d)=>rw[e]at p;obtain⟨v,e3,q⟩:=r.ow i d e hi;exact⟨v,e3,p v F H r.st q⟩
 |some d_=>rw[e]at p;exact p.stuck rfl|none=>rw[e]at p;exact p.stuck rfl
theorem rs_for{fs:ai->M (List Dat)}{pt:Pat}(n:∀i∈pt.names,i∉O)(t:tS K W ro F0 H0 OL O O (sFor O fs pt g) D σ H):tFor (iD K W fs) (gP K pt) (tS K W ro F0 H0 O O O g) D σ H:=by
 obtain⟨FB,F,ρ,r,p⟩:=t;refine⟨F,erase O ρ,r.jo,r.st.fh,?_⟩
 cases e:fs (erase O ρ)with
 |error x=>exact p.uX r.st (by unfold sFor;rw[e];rfl)|ok ds=>
  have z:sFor O fs pt g ρ=mh pt g ds ρ:=by unfold sFor;rw[e];rfl
  rw[z]at p;intro J F1 H1 j it;refine⟨λi m σ H=>∃F ρ,Rep K F0 H0 F1 O F H σ ρ/\i<=ds.length/\m=ds.length-i/\gT K W ro F0 H0 FB OL O D (mh pt g (ds.drop i) ρ),⟨ds.length,F1,ρ,?_,FK _,by omega,by rw[Iu];exact p⟩,?_⟩
  ·have b:=r.step j;exact⟨b.st,aO.refl _,b.len,b.fz,b.ow,b.ap⟩
  ·rintro i m f H2 ⟨F2,I,r2,hi,rfl,p2⟩;by_cases Y:i<ds.length
   ·have w:ds.drop i=ds[i]::ds.drop (i+1):=GL Y;rw[w]at p2;refine .inr ⟨it.go i F2 H2 r2.fb r2.st.fh Y,λσ' H'=>(∃F ρ,Rep K F0 H0 F1 O F H' σ' ρ/\gT K W ro F0 H0 FB OL O D (mh pt g (ds.drop (i+1)) ρ)),λσ' H' ⟨F,ρ,r,p⟩=>⟨ds.length-(i+1),by omega,F,ρ,r,Y,rfl,p⟩,λx H' y=>?_⟩;obtain⟨A,q,u⟩:=it.yl i F2 H2 x H' ds[i] r2.fb r2.st.fh (by simp[Y]) y;have v:mh pt g (ds[i]::ds.drop (i+1)) I=(lL pt ds[i] I).bind λh=>(g h).bind λfl=>match fl with
     |.nx I=>mh pt g (ds.drop (i+1)) I|.ct I=>mh pt g (ds.drop (i+1)) I|.bk I=>.ok (.nx I)|.rt d=>.ok (.rt d):=by rw[mh]
    rw[v]at p2;cases c:lL pt ds[i] I with
    |error x=>have:=vp c;subst this;exact p2.stuck (by rw[c];rfl)|ok a=>
     rw[c]at p2;have p2:gT K W ro F0 H0 FB OL O D ((g a).bind λfl=>match fl with
      |.nx I=>mh pt g (ds.drop (i+1)) I|.ct I=>mh pt g (ds.drop (i+1)) I|.bk I=>.ok (.nx I)|.rt d=>.ok (.rt d)):=p2
     refine gP_rep (r2.step q) n u c λo s=>⟨F1,A,a,s,?_⟩
     have k:aO FB F1:=(r.step j).fb;cases l:g a with
     |error x=>exact p2.err (by rw[l];rfl)|ok fl=>
      rw[l]at p2;cases fl with
      |nx U=>exact λσ' F' H' r'=>⟨F',U,r',p2⟩|ct U=>exact λσ' F' H' r'=>⟨F',U,r',p2⟩|bk U=>exact λσ' F' H' r'=>p2 σ' F' H' (r'.base k)|rt d=>exact p2
   ·have:i=ds.length:=by omega
    subst this;rw[Kb]at p2;exact .inl ⟨it.st F2 H2 r2.fb r2.st.fh,p2 f F2 H2 (r2.base (r.step j).fb)⟩
end
noncomputable def stk:M α:=.error .stuck
noncomputable def cT:Dat->Dat->M Dat
 |.int i,.int j=>.ok (.int (i+j))|.str x,.str y=>if x.length+y.length<=m_ then .ok (.str (x++y))else stk
 |.lst xs,.lst ys=>if xs.length+ys.length<=m_ then .ok (.lst (xs++ys))else stk
 |.tup xs,.tup ys=>if xs.length+ys.length<=m_ then .ok (.tup (xs++ys))else stk
 |_,_=>stk
noncomputable def gC(i:Int):Bool:=q_ (-(2^64)<i)&&q_ (i<2^64)
noncomputable def mulD:Dat->Dat->M Dat
 |.int i,.int j=>if (gC i||gC j)=e_ then .ok (.int (i*j))else stk
 |_,_=>stk
noncomputable def gK:Dat->Dat->M Dat
 |.int i,.int j=>if (q_ (0<j)&&q_ (j<18446744073709551616))=e_ then .ok (.int (i/j))else stk
 |_,_=>stk
noncomputable def kY:Dat->Dat->M Dat
 |.int i,.int j=>if 0<j then .ok (.int (i%j))else stk
 |_,_=>stk
noncomputable def powD:Dat->Dat->M Dat
 |.int i,.int j=>if (q_ (0<=j)&&q_ (j<=1000000)&&q_ (i.natAbs<2^64))=e_ then .ok (.int (i^j.toNat))else stk
 |_,_=>stk
noncomputable def negD:Dat->M Dat
 |.int i=>.ok (.int (-i))|_=>stk
noncomputable def ltD:Dat->Dat->M Dat
 |.int i,.int j=>.ok (.bl (q_ (i<j)))|_,_=>stk
noncomputable def leD:Dat->Dat->M Dat
 |.int i,.int j=>.ok (.bl (q_ (i<=j)))|_,_=>stk
noncomputable def gtD:Dat->Dat->M Dat
 |.int i,.int j=>.ok (.bl (q_ (j<i)))|_,_=>stk
noncomputable def geD:Dat->Dat->M Dat
 |.int i,.int j=>.ok (.bl (q_ (j<=i)))|_,_=>stk
noncomputable def b2z(b:Bool):Int:=if b then 1 else 0
mutual
noncomputable def eqD:Dat->Dat->Bool
 |.non,.non=>e_|.bl a,.bl b=>a==b|.bl a,.int b=>b2z a==b|.int a,.bl b=>a==b2z b|.int a,.int b=>a==b|.str a,.str b=>a==b|.tup xs,.tup ys=>zO xs ys|.lst xs,.lst ys=>zO xs ys|_,_=>b_
noncomputable def zO:List Dat->List Dat->Bool
 |[],[]=>e_|d::ds,e::es=>eqD d e&&zO ds es|_,_=>b_
end
mutual
noncomputable def okE:Dat->Nat->Bool
 |.tup ds,n=>(match n with
  |0=>b_|n+1=>jY ds n)
 |.lst ds,n=>(match n with
  |0=>b_|n+1=>jY ds n)
 |.ins _ _,_=>b_|.dic _,_=>b_|.dil _,_=>b_|.non,_=>e_|.bl _,_=>e_|.int _,_=>e_|.str _,_=>e_
noncomputable def jY:List Dat->Nat->Bool
 |[],_=>e_|d::ds,n=>okE d n&&jY ds n
end
noncomputable def eqM(a b:Dat):M Dat:=if (okE a 40&&okE b 40)=e_ then .ok (.bl (eqD a b))else stk
noncomputable def neM(a b:Dat):M Dat:=if (okE a 40&&okE b 40)=e_ then .ok (.bl (!eqD a b))else stk
noncomputable def inM(a b:Dat):M Dat:=(gV b).bind λds=>if (okE a 40&&jY ds 40)=e_ then .ok (.bl (ds.any λd=>eqD d a))else stk
noncomputable def ic(a b:Dat):M Dat:=(gV b).bind λds=>if (okE a 40&&jY ds 40)=e_ then .ok (.bl (!ds.any λd=>eqD d a))else stk
noncomputable def isND:Dat->Dat->M Dat
 |.non,.non=>.ok (.bl e_)|_,.non=>.ok (.bl b_)|_,_=>stk
noncomputable def iA(ds:List Dat)(i:Int):M Dat:=match atI ds i with
 |some d=>.ok d|none=>stk
noncomputable def ixD:Dat->Dat->M Dat
 |.lst ds,.int i=>iA ds i|.tup ds,.int i=>iA ds i|_,_=>stk
noncomputable def pT:List Dat->M Dat
 |[.lst ds]=>.ok (.int ds.length)|[.tup ds]=>.ok (.int ds.length)|_=>stk
noncomputable def gQ:List Dat->M (List Bool)
 |[]=>.ok []|d::ds=>(asB d).bind λb=>(gQ ds).bind λr=>.ok (b::r)
noncomputable def m6:List Dat->M (List Int)
 |[]=>.ok []|d::ds=>(asI d).bind λb=>(m6 ds).bind λr=>.ok (b::r)
noncomputable def allD:List Dat->M Dat
 |[.lst ds]=>(gQ ds).bind λbs=>.ok (.bl (bs.all id))|_=>stk
noncomputable def Bt:List Dat->M Dat
 |[.lst ds]=>.ok (.lst ds)|[.tup ds]=>.ok (.lst ds)|_=>stk
noncomputable def jK(i j:Int):Int:=if j<i then j else i
noncomputable def minL:List Int->M Dat
 |[]=>stk|i::is=>.ok (.int (is.foldl jK i))
noncomputable def minD:List Dat->M Dat
 |[.int i,.int j]=>.ok (.int (jK i j))|[.lst ds]=>(m6 ds).bind minL|_=>stk
noncomputable def lg:Dat->M Dat
 |.int _=>.ok (.bl e_)|.bl _=>.ok (.bl e_)|.ins _ _=>stk|.dic _=>stk|.dil _=>stk|_=>.ok (.bl b_)
noncomputable def lh:Dat->M Dat
 |.bl _=>.ok (.bl e_)|.ins _ _=>stk|.dic _=>stk|.dil _=>stk|_=>.ok (.bl b_)
noncomputable def la:Dat->M Dat
 |.lst _=>.ok (.bl e_)|.ins _ _=>stk|.dic _=>stk|.dil _=>stk|_=>.ok (.bl b_)
noncomputable def l7:Dat->M (List Dat)
 |.lst ds=>.ok ds|_=>.error .stuck
noncomputable def mV:List Dat->List Dat->List Dat
 |d::ds,e::es=>.tup [d,e]::mV ds es|_,_=>[]
noncomputable def Ae(fa fb:ai->M Dat):ai->M (List Dat):=λρ=>(fa ρ).bind λa=>(fb ρ).bind λb=>(l7 a).bind λds=>(l7 b).bind λes=>.ok (mV ds es)
noncomputable def cv(nN n:Nat)(g:ai->M Flo)(ds:List Dat):M Dat:=if ds.length=n then(g (ds.map a_++D7 (nN-ds.length) d_)).bind λfl=>match fl with
 |.nx _=>.ok .non|.rt d=>.ok d|_=>stk else stk
@[simp] theorem ae{α I:Type}(a:α)(f:α->M I):Kt (Ds a:M α) f=f a:=id rfl
@[simp] theorem tT{α I:Type}(e:Err)(f:α->M I):Kt (Fp e:M α) f=.error e:=id rfl
@[simp] theorem A2:∀is:List Bool,gQ (is.map Dat.bl)=.ok is
 |[]=>rfl|i::is=>by simp[gQ,asB,A2 is]
theorem getI_nat{ds:List Dat}(h:k<ds.length):iA ds (k:Int)=.ok ds[k]:=by unfold iA atI ixN;rw[i_ (by omega),i_ (by omega)];simp[h]
theorem lK{p:Pat}{fe:ai->M Dat}{ρ0:ai}(f:Dat->Dat):∀(ds:List Dat),(∀d∈ds,∃ρ,lL p d ρ0=.ok ρ/\fe ρ=.ok (f d))->bM p ik fe ρ0 ds=.ok (ds.map f)
 |[],_=>rfl|d::ds,h=>by obtain⟨ρ,e1,e2⟩:=h d (by simp);rw[bM,e1];simp only[ae,ik,e2,lK f ds λx I=>h x (by simp[I])];simp
@[simp] theorem small_def(i:Int):gC i=(q_ (-(2^64)<i)&&q_ (i<2^64)):=id rfl
@[simp] theorem yM(i:Int):jQ i=(q_ (-(2^62)<=i)&&q_ (i<2^62)):=id rfl
section
variable{fr:ai->M (List Dat)}{g h:ai->M Flo}
@[simp] theorem e_var0(d:Dat)(r:ai):ah 0 (a_ d::r)=.ok d:=id rfl
@[simp] theorem e_varS(i:Nat)(o:Option Dat)(r:ai):ah (i+1) (o::r)=ah i r:=by simp[ah]
@[simp] theorem e_c(d:Dat):fC d ρ=.ok d:=id rfl
@[simp] theorem e_1(k:Dat->M Dat):f1 k fa ρ=(fa ρ).bind k:=id rfl
@[simp] theorem e_2(k:Dat->Dat->M Dat):f2 k fa fb ρ=(fa ρ).bind λa=>(fb ρ).bind λb=>k a b:=id rfl
@[simp] theorem e_nil:aJ ρ=.ok []:=id rfl
@[simp] theorem e_cons:aa fa fr ρ=(fa ρ).bind λa=>(fr ρ).bind λr=>.ok (a::r):=id rfl
@[simp] theorem e_L(k:List Dat->M Dat):fL k fr ρ=(fr ρ).bind k:=id rfl
@[simp] theorem e_ite:Af ft fa fb ρ=(ft ρ).bind λb=>if b=e_ then fa ρ else fb ρ:=id rfl
@[simp] theorem e_and:vH ft fu ρ=(ft ρ).bind λb=>if b=e_ then fu ρ else .ok b_:=id rfl
@[simp] theorem e_or:fOr ft fu ρ=(ft ρ).bind λb=>if b=e_ then .ok e_ else fu ρ:=id rfl
@[simp] theorem e_not:yr ft ρ=(ft ρ).bind λb=>.ok (!b):=id rfl
@[simp] theorem e_B:fB fa ρ=(fa ρ).bind asB:=id rfl
@[simp] theorem e_andV:jD fa fb ρ=(fa ρ).bind λa=>(asB a).bind λb=>if b=e_ then fb ρ else .ok (.bl b_):=id rfl
@[simp] theorem e_tru:nB fa ρ=(fa ρ).bind truD:=id rfl
@[simp] theorem e_chain(k k':Dat->Dat->M Dat):hI k k' fa fb fc ρ=(fa ρ).bind λa=>(fb ρ).bind λb=>(k a b).bind λx=>(asB x).bind λz=>if z=e_ then(fc ρ).bind λc=>k' b c else .ok (.bl b_):=id rfl
@[simp] theorem e_yes:ik ρ=.ok e_:=id rfl
@[simp] theorem e_it:fIt fa ρ=(fa ρ).bind gV:=id rfl
@[simp] theorem e_rng(k:List Dat->M (List Dat)):fRng k fr ρ=(fr ρ).bind k:=id rfl
@[simp] theorem e_zip:Ae fa fb ρ=(fa ρ).bind λa=>(fb ρ).bind λb=>(l7 a).bind λds=>(l7 b).bind λes=>.ok (mV ds es):=id rfl
@[simp] theorem e_comp(fi:ai->M (List Dat))(ix:List (Option Nat))(p:Pat):eF fi ix p ft fa ρ=(fi ρ).bind λds=>if ds.length<=m_ then(bM p ft fa (jC ix ρ) ds).bind λr=>.ok (.lst r)else .error .stuck:=id rfl
@[simp] theorem e_asB(b:Bool):asB (.bl b)=.ok b:=id rfl
@[simp] theorem e_asI(b:Int):asI (.int b)=.ok b:=id rfl
@[simp] theorem e_itemsL(ds:List Dat):gV (.lst ds)=.ok ds:=id rfl
@[simp] theorem e_itemsT(ds:List Dat):gV (.tup ds)=.ok ds:=id rfl
@[simp] theorem e_truB(b:Bool):truD (.bl b)=.ok b:=id rfl
@[simp] theorem e_truL(ds:List Dat):truD (.lst ds)=.ok (!ds.isEmpty):=id rfl
@[simp] theorem e_addI(i j:Int):cT (.int i) (.int j)=.ok (.int (i+j)):=id rfl
@[simp] theorem e_negI(i:Int):negD (.int i)=.ok (.int (-i)):=id rfl
@[simp] theorem e_ltI(i j:Int):ltD (.int i) (.int j)=.ok (.bl (q_ (i<j))):=id rfl
@[simp] theorem e_leI(i j:Int):leD (.int i) (.int j)=.ok (.bl (q_ (i<=j))):=id rfl
@[simp] theorem e_geI(i j:Int):geD (.int i) (.int j)=.ok (.bl (q_ (j<=i))):=id rfl
@[simp] theorem e_ixL(ds:List Dat)(i:Int):ixD (.lst ds) (.int i)=iA ds i:=id rfl
@[simp] theorem e_ixT(ds:List Dat)(i:Int):ixD (.tup ds) (.int i)=iA ds i:=id rfl
@[simp] theorem e_lenL(ds:List Dat):pT [.lst ds]=.ok (.int ds.length):=id rfl
@[simp] theorem e_all(ds:List Dat):allD [.lst ds]=(gQ ds).bind λbs=>.ok (.bl (bs.all id)):=id rfl
@[simp] theorem e_listL(ds:List Dat):Bt [.lst ds]=.ok (.lst ds):=id rfl
@[simp] theorem e_isiBI(i:Int):lh (.int i)=.ok (.bl b_):=id rfl
@[simp] theorem e_isiII(i:Int):lg (.int i)=.ok (.bl e_):=id rfl
@[simp] theorem e_isiLL(ds:List Dat):la (.lst ds)=.ok (.bl e_):=id rfl
@[simp] theorem e_isN(d:Dat):isND d .non=.ok (.bl (match d with|.non=>e_|_=>b_)):=by cases d<;>rfl
@[simp] theorem e_next:bW ρ=.ok (.nx ρ):=id rfl
@[simp] theorem eN:bH g h ρ=(g ρ).bind λfl=>match fl with
 |.nx ρ'=>h ρ'|fl=>.ok fl:=id rfl
@[simp] theorem BX:sIf ft g h ρ=(ft ρ).bind λb=>if b=e_ then g ρ else h ρ:=id rfl
@[simp] theorem e_setB(O:List Nat)(i:Nat):bP O i fa ρ=(fa (erase O ρ)).bind λd=>.ok (.nx (ρ.set i (a_ d))):=id rfl
@[simp] theorem e_ret:cy fa ρ=(fa ρ).bind λd=>.ok (.rt d):=id rfl
@[simp] theorem e_for(O:List Nat)(fi:ai->M (List Dat))(p:Pat):sFor O fi p g ρ=(fi (erase O ρ)).bind λds=>mh p g ds ρ:=id rfl
@[simp] theorem e_appB(O:List Nat)(i:Nat):uw O i fa ρ=(kZ ρ i).bind λds=>(fa (erase O ρ)).bind λd=>if ds.length<m_ then put ρ i (ds++[d])else .error .stuck:=id rfl
@[simp] theorem e_put(i:Nat)(ds:List Dat):put ρ i ds=.ok (.nx (ρ.set i (a_ (.lst ds)))):=id rfl
@[simp] theorem e_lst0(ds:List Dat)(r:ai):kZ (a_ (.lst ds)::r) 0=.ok ds:=id rfl
@[simp] theorem e_lstS(i:Nat)(o:Option Dat)(r:ai):kZ (o::r) (i+1)=kZ r i:=by simp[kZ]
@[simp] theorem e_er0:erase [] ρ=ρ:=id rfl
@[simp] theorem e_erS(i:Nat)(O:List Nat):erase (i::O) ρ=erase O (ρ.set i d_):=id rfl
@[simp] theorem e_bnm(i:Nat)(d:Dat):lL (.nm i) d ρ=.ok (ρ.set i (a_ d)):=id rfl
@[simp] theorem e_btp(is:List Nat)(ds:List Dat):lL (.tp is) (.tup ds) ρ=if ds.length=is.length then .ok (iY is ds ρ)else .error .stuck:=id rfl
@[simp] theorem e_sa0(ds:List Dat):iY [] ds ρ=ρ:=by cases ds<;>rfl
@[simp] theorem e_saS(i:Nat)(is:List Nat)(d:Dat)(ds:List Dat):iY (i::is) (d::ds) ρ=iY is ds (ρ.set i (a_ d)):=id rfl
@[simp] theorem e_in0:jC [] ρ=[]:=id rfl
@[simp] theorem e_inN(ix:List (Option Nat)):jC (d_::ix) ρ=d_::jC ix ρ:=id rfl
@[simp] theorem e_inS(j:Nat)(ix:List (Option Nat)):jC (a_ j::ix) ρ=(ρ[j]?).join::jC ix ρ:=id rfl
@[simp] theorem e_tup(ds:List Dat):k7 ds=if ds.length<=m_ then .ok (.tup ds)else .error .stuck:=id rfl
@[simp] theorem e_lst(ds:List Dat):bT ds=if ds.length<=m_ then .ok (.lst ds)else .error .stuck:=id rfl
@[simp] theorem e_line:m_=16777216:=Dq
@[simp] theorem e_run(a b:Nat)(ds:List Dat):cv a b g ds=if ds.length=b then(g (ds.map a_++D7 (a-ds.length) d_)).bind λfl=>match fl with
 |.nx _=>.ok .non|.rt d=>.ok d|_=>stk else stk:=id rfl
@[simp] theorem e_rng1{j:Int}(h:jQ j=e_):rng1 [.int j]=.ok (gD 0 j.toNat):=by show(if jQ j=e_ then _ else _)=_;rw[i_ h]
@[simp] theorem e_mod{i j:Int}(h:0<j):kY (.int i) (.int j)=.ok (.int (i%j)):=by simp[kY,h]
@[simp] theorem e_fdiv{i j:Int}(h:0<j)(h2:j<18446744073709551616):gK (.int i) (.int j)=.ok (.int (i/j)):=by simp[gK,h,h2]
@[simp] theorem e_mulR{i j:Int}(h:gC j=e_):mulD (.int i) (.int j)=.ok (.int (i*j)):=by show(if (gC i||gC j)=e_ then _ else _)=_;rw[h,IY,i_ rfl]
end
section
variable{W:dS}{own:Bool}{a b c:Ed}{rest:List Ed}{f:ai->M Dat}{fr:ai->M (List Dat)} 
theorem PE.imp{t t':TE}(h:PE X e t)(q:∀σ H Q,t' σ H Q->t σ H Q):PE X e t':=λpins s σ H Q I z=>h pins s σ H Q I (q σ H Q z)
theorem PT.imp{t t':TT}(h:PT X e t)(q:∀σ H Q,t' σ H Q->t σ H Q):PT X e t':=λpins s σ H Q I z=>h pins s σ H Q I (q σ H Q z)
theorem PW.imp{t t':TT}(h:PW X e t)(q:∀σ H Q,t' σ H Q->t σ H Q):PW X e t':=λJ pins s σ H Q I z=>h J pins s σ H Q I (q σ H Q z)
theorem PA.imp{t':TA}(h:PA X es t)(q:∀σ H Q,t' σ H Q->t σ H Q):PA X es t':=λps pins s σ H Q I z=>h ps pins s σ H Q I (q σ H Q z)
theorem PI.imp{t t':TI}(h:PI X tg e t)(q:∀σ H Q,t' σ H Q->t σ H Q):PI X tg e t':=λpins s σ H Q I z=>h pins s σ H Q I (q σ H Q z)
theorem PS.imp{t t':TS}(h:PS X st t)(q:∀D σ H,t' D σ H->t D σ H):PS X st t':=λpins s σ H D I z=>h pins s σ H D I (q D σ H z)
theorem PSs.imp{st:List DX}{t t':TS}(h:PSs X st t)(q:∀D σ H,t' D σ H->t D σ H):PSs X st t':=λpins s σ H D I z=>h pins s σ H D I (q D σ H z)
abbrev DE(K:Fg)(W:dS)(own:Bool)(X:Cx)(e:Ed)(f:ai->M Dat):Prop:=PE X e (tD K W own f)
abbrev DT(K:Fg)(W:dS)(X:Cx)(e:Ed)(f:ai->M Bool):Prop:=PT X e (tDT K W f)
abbrev DW(K:Fg)(W:dS)(X:Cx)(e:Ed)(f:ai->M Bool):Prop:=PW X e (tDT K W f)
abbrev DA(K:Fg)(W:dS)(X:Cx)(es:List Ed)(f:ai->M (List Dat)):Prop:=PA X es (tDA K W f)
abbrev DI(K:Fg)(W:dS)(X:Cx)(tg e:Ed)(f:ai->M (List Dat)):Prop:=PI X tg e (iD K W f)
abbrev DG(K:Fg)(X:Cx)(tg:Ed)(p:Pat):Prop:=PG X tg (gP K p)
abbrev DS(K:Fg)(W:dS)(ro:Bool)(X:Cx)(OL O O':List Nat)(st:DX)(g:ai->M Flo):Prop:=∀F0 H0:Hp,PS X st (tS K W ro F0 H0 OL O O' g)
abbrev DSs(K:Fg)(W:dS)(ro:Bool)(X:Cx)(OL O O':List Nat)(st:List DX)(g:ai->M Flo):Prop:=∀F0 H0:Hp,PSs X st (tS K W ro F0 H0 OL O O' g)
abbrev Op2(K:Fg)(W:dS)(own:Bool)(X:Cx)(o:j_->j_->KN j_)(g:Dat->Dat->M Dat):Prop:=OpR X o (rD2 K W own g)
abbrev tX(K:Fg)(W:dS)(own:Bool)(X:Cx)(v:j_)(g:List Dat->M Dat):Prop:=gm X v (rDL K W own g)
theorem av(i:Nat)(J: ~~~(X.N[i]?=a_ x))(hv:autoParam (Vis X.env.scope x) Jq4)(hd:((x==("__debug__":o_))=b_)⁻¹)(I:((x==("__classdict__":o_))=b_)⁻¹):DE K W b_ X (.Name x pos) (ah i):=(pv i J hv hd I).imp λ_ _ _=>rd_var
theorem aj{i:Int}{j}:DE K W b_ X (.Constant (.int i) j pos) (fC (.int i)):=Bc.imp λ_ _ _=>rd_c λ_=>rfl
theorem pD{k:Bool}{j}:DE K W b_ X (.Constant (.bool k) j pos) (fC (.bl k)):=oM.imp λ_ _ _=>rd_c λ_=>rfl
theorem fw{j}:DE K W b_ X (.Constant .none j pos) (fC .non):=pe_non.imp λ_ _ _=>rd_c λ_=>rfl
theorem ay{z:o_}{j}:DE K W b_ X (.Constant (.str z) j pos) (fC (.str z)):=uF.imp λ_ _ _=>rd_c λ_=>rfl
theorem i5{n:Int}(I:∃t,X.mg x=a_ (.int n t))(J: ~~~(Gl X x))(hd:((x==("__debug__":o_))=b_)⁻¹):DE K W b_ X (.Name x pos) (fC (.int n)):=(pe_gint J I hd).imp λ_ _ _=>rd_c λ_=>rfl
theorem aw(h:DE K W e_ X e f):DE K W b_ X e f:=PE.imp h λ_ _ _ ⟨F,ρ,r,s,p⟩=>⟨F,ρ,r,s,p.frz⟩
theorem aZ{op:Operator}{g:Dat->Dat->M Dat}(I:Op2 K W own X (EI op) g)(U:DE K W b_ X a fa)(J:DE K W b_ X b fb):DE K W own X (.BinOp a op b pos) (f2 g fa fb):=(pe_op I U J).imp λ_ _ _=>rd_2
theorem de_un{op:UnaryOp}{g:Dat->M Dat}(I:UnR X (Kz op) (rD1 K W own g))(J:DE K W b_ X a fa):DE K W own X (.UnaryOp op a pos) (f1 g fa):=(pe_un I J).imp λ_ _ _=>rd_1
theorem gv{g:Dat->Dat->M Dat}(I:Op2 K W b_ X (Dn op) g)(Y:DE K W b_ X a fa)(U:DE K W b_ X b fb)(J:autoParam (Ff op b=b_) Jq11):DE K W b_ X (.Compare a [op] [b] pos) (f2 g fa fb):=
 (pe_cmpR I Y U J).imp λ_ _ _=>rd_2
theorem aD{g:Dat->Dat->M Dat}(I:Op2 K W b_ X (Dn op) g)(Y:DE K W b_ X a fa)(U:DE K W b_ X b fb)(J:autoParam (Ff op b=b_) Jq11):DT K W X (.Compare a [op] [b] pos) (fB (f2 g fa fb)):=
 (wk I Y U J).imp λσ H Q h=>by have q:=rd_B h;exact rd_2 (own:=b_) q
theorem tu{g:Dat->Dat->M Dat}(J:Op2 K W b_ X (Dn op) g)(I:Op2 K W b_ X (Dn op') g')(e:DE K W b_ X a fa)(d:DE K W b_ X b fb)(Y:DE K W b_ X c fc)(U:autoParam (HF [op,op'] [b,c]=b_) Jq8):DE K W b_ X (.Compare a [op,op'] [b,c] pos) (hI g g' fa fb fc):=(pe_chain J I e d Y U).imp λ_ _ _=>xZ
theorem dt_chain{g:Dat->Dat->M Dat}(J:Op2 K W b_ X (Dn op) g)(I:Op2 K W b_ X (Dn op') g')(e:DE K W b_ X a fa)(d:DE K W b_ X b fb)(Y:DE K W b_ X c fc)(U:autoParam (HF [op,op'] [b,c]=b_) Jq8):DT K W X (.Compare a [op,op'] [b,c] pos) (fB (hI g g' fa fb fc)):=(pt_chain J I e d Y U).imp λσ H Q h=>by have q:=rd_B h;exact xZ q
theorem gM(U:DE K W b_ X a fa)(Y: ~~~(X.K=K))(J:autoParam (∀I,JS a X.env I=(do let v <- I;Ib a.pos;Ic [v] (truthy v))) Jq6):DT K W X a (nB fa):=by subst Y;exact(nG U J).imp λ_ _ _=>rd_tru
theorem pA(I:DT K W X a ft):DT K W X (.UnaryOp .Not a pos) (yr ft):=(ya I).imp λ_ _ _=>rd_not
theorem ko(I:DT K W X a ft):DW K W X (.BoolOp .And [a] pos) ft:=pw_and1 I
theorem gL(I:DT K W X a ft):DW K W X (.BoolOp .Or [a] pos) ft:=B8 I
theorem pz(J:DT K W X a ft)(I:DW K W X (.BoolOp .And (b::rest) pos) fu):DW K W X (.BoolOp .And (a::b::rest) pos) (vH ft fu):=(pw_and J I).imp λ_ _ _=>rd_and
theorem il(J:DT K W X a ft)(I:DW K W X (.BoolOp .Or (b::rest) pos) fu):DW K W X (.BoolOp .Or (a::b::rest) pos) (fOr ft fu):=(pw_or J I).imp λ_ _ _=>rd_or
theorem rl{op}(h:DE K W b_ X a f):DE K W b_ X (.BoolOp op [a] pos) f:=pe_one h
theorem rn(J:DE K W b_ X a fa)(I:DE K W b_ X (.BoolOp .And (b::rest) pos) fb):DE K W b_ X (.BoolOp .And (a::b::rest) pos) (jD fa fb):=(pe_and J I).imp λ_ _ _=>rd_andV
theorem de_or(J:DE K W b_ X a fa)(I:DE K W b_ X (.BoolOp .Or (b::rest) pos) fb):DE K W b_ X (.BoolOp .Or (a::b::rest) pos) (fOrV fa fb):=(pe_or J I).imp λ_ _ _=>rd_orV
theorem rm(I:DT K W X c ft)(U:DE K W own X a fa)(J:DE K W own X b fb):DE K W own X (.IfExp c a b pos) (Af ft fa fb):=(pe_ifExp I U J).imp λ_ _ _=>rd_ite
theorem ip:DA K W X [] aJ:=aK.imp λ_ _ _=>rd_nil
theorem cq(U:DE K W b_ X e fa)(J:DA K W X es fr)(I: ~~~(h_ (e::es) X.env=(b_,Di e X.env)::h_ es X.env)):DA K W X (e::es) (aa fa fr):=(ax U J I).imp λ_ _ _=>rd_cons
theorem v9{I}(h:DA K W X es fr):DE K W own X (.Tuple es I pos) (fL k7 fr):=(pe_tup h).imp λ_ _ _=>rd_tup
theorem cb(h:DA K W X es fr):DE K W e_ X (.List es pos) (fL bT fr):=(mH h).imp λ_ _ _=>rd_lst
theorem aS{id:String}(c:tX K W own X (.builtin id) g)(a:X.mg x=d_)(hv:EO x=a_ (.builtin id))(d:DA K W X (e::es) fr)(b: ~~~(Gl X x))(Y:(x≠"__name__")⁻¹)(U:((x==("__debug__":o_))=b_)⁻¹)(I: ~~~(h_ (e::es) X.env=(b_,Di e X.env)::h_ es X.env))(J: ~~~((DB pos (h_ es X.env)).any (·.1)=b_)):DE K W own X (.Call (.Name x p) (e::es) [] pos) (fL g fr):=
 (gw c b a hv d Y U I J).imp λ_ _ _=>rd_L
theorem jj(c:tX K W own X (.type T) g)(a:X.mg x=d_)(hv:EO x=a_ (.type T))(d:DA K W X (e::es) fr)(b: ~~~(Gl X x))(Y:(x≠"__name__")⁻¹)(U:((x==("__debug__":o_))=b_)⁻¹)(I: ~~~(h_ (e::es) X.env=(b_,Di e X.env)::h_ es X.env))(J: ~~~((DB pos (h_ es X.env)).any (·.1)=b_)):DE K W own X (.Call (.Name x p) (e::es) [] pos) (fL g fr):=
 (j4 c b a hv d Y U I J).imp λ_ _ _=>rd_L
theorem br{g:Dat->Dat->M Dat}(J:IxR X (rD2 K W own g))(Y:DE K W b_ X a fa)(U:DE K W b_ X b fb)(I:CH b:=by exact λ_ _=>rfl):DE K W own X (.Subscript a b pos) (f2 g fa fb):=(pe_ix J Y U I).imp λ_ _ _=>rd_2
theorem dg_nm(U:X.N.Nodup)(hi: ~~~(X.N[i]?=a_ x))(I:autoParam (Loc X.env.scope x) Jq7)(J:autoParam (X.fn x=e_\/X.env.scope.names.lookup x=a_ .local) Jq3):DG K X (.Name x pos) (.nm i):=oJ U hi I J
theorem hV(j:DE K W b_ X e fa)(k: ~~~(X.K=K)):DI K W X tg e (fIt fa):=by
 subst k;refine PI.imp (t:=iSeq X.K (tD X.K W b_ fa)) ?_ λ_ _ _=>ri_seq;intro pins s σ H R I h;refine thn (j pins s σ H _ I h) λv J i=>?_;obtain⟨y,H1,U,d,f⟩:=i;obtain⟨l,e1,q⟩:=f;subst e1;cases d;rcases q with⟨⟨xs,Y⟩,q⟩|⟨⟨xs,Y⟩,q⟩
 ·obtain⟨its,c,p,g⟩:=U.list Y;refine GX p.isList ?_;refine⟨J.heap.objs.size,[J.heap.objs.size],_,_,H1,rfl,U.kept (t':=J.toks) λb o e=>t_ _ e,Aq l _,⟨_,Df _ rfl,rfl,rfl⟩,λb a=>?_,q⟩
  have e:b=J.heap.objs.size:=by simpa using a
  subst e;exact U.fpOk (u_ _) (U.hok.fresh (u_ _))
 ·obtain⟨its,c,p,g⟩:=U.tuple Y;refine wpAny_pyIter_tuple (show J.heap.IsTuple l its.toArray from p) ?_;refine⟨J.heap.objs.size,[J.heap.objs.size],_,_,H1,rfl,U.kept (t':=J.toks) λb o e=>t_ _ e,yI l _,⟨_,Df _ rfl,rfl,rfl⟩,λb a=>?_,q⟩
  have e:b=J.heap.objs.size:=by simpa using a
  subst e;exact U.fpOk (u_ _) (U.hok.fresh (u_ _))
theorem xf(J:X.mg "range"=d_)(Y:DA K W X [a] fr)(U: ~~~(Gl X "range"))(I: ~~~(h_ [a] X.env=[(b_,Di a X.env)])):DI K W X tg (.Call (.Name "range" p) [a] [] pos) (fRng rng1 fr):=(Ba U J Y I).imp λ_ _ _=>ri_rng1
variable{g h:ai->M Flo}
theorem b7:DSs K W ro X OL O O [] bW:=λ_ _=>dZ.imp λ_ _ _=>rs_next
theorem au(h1:DS K W ro X OL O O' st g)(h2:DSs K W ro X OL O' O2 sts h):DSs K W ro X OL O O2 (st::sts) (bH g h):=λF0 H0=>(aI (h1 F0 H0) (h2 F0 H0)).imp λ_ _ _=>rs_seq
theorem az(h1:DS K W ro X OL O O' st g):DSs K W ro X OL O O' [st] g:=λF0 H0=>aT (h1 F0 H0)
theorem ds_enter(h1:DSs K W ro X OL O2 O' sts g)(I:(∀i∈O2,i∈O)⁻¹):DSs K W ro X OL O O' sts g:=λF0 H0=>PSs.imp (h1 F0 H0) λ_ _ _=>tS.enter I
theorem cE{J I:List DX}(U:DT K W X c ft)(a:DSs K W ro X OL O O' J g)(Y:DSs K W ro X OL O O' I h):DS K W ro X OL O O' (.If c J I pos) (sIf ft g h):=λF0 H0=>(j0 U (a F0 H0) (Y F0 H0)).imp λ_ _ _=>rs_if
theorem BY(a:X.N.Nodup)(Y:DE K W own X e f)(hi: ~~~(X.N[i]?=a_ x))(I:autoParam (Loc X.env.scope x) Jq7)(J: ~~~(E_ e (a_ (.Name x pos')) pos.line X.env=EY b_))(U:autoParam (X.fn x=e_\/X.env.scope.names.lookup x=a_ .local) Jq3):
  DS K W ro X OL O (aft own i O) (.Assign [.Name x pos'] e pos) (bP O i f):=λF0 H0=>(mG a hi I Y J U).imp λ_ _ _=>AU
theorem aE(I:DE K W ro X e f):DS K W ro X OL O O' (.Return (a_ e) pos) (cy f):=λF0 H0=>(eG I).imp λ_ _ _=>rs_ret
theorem ds_retV(J:(i∈O)⁻¹)(U: ~~~(X.N[i]?=a_ x))(hv:autoParam (Vis X.env.scope x) Jq4)(hd:((x==("__debug__":o_))=b_)⁻¹)(I:((x==("__classdict__":o_))=b_)⁻¹):DS K W e_ X OL O O' (.Return (a_ (.Name x p)) pos) (cy (ah i)):=λF0 H0=>(eG (pv i U hv hd I)).imp λ_ _ _=>rs_retV J
theorem yv{fs:ai->M (List Dat)}{pt:Pat}(hi:DI K W X tg iter fs)(U:DG K X tg pt)(a:DSs K W ro X O O O body g)(n:(∀i∈pt.names,i∉O)⁻¹)(J:PassesOwn (Dd X.prog X.w) X.A X.env X.xe:=by exact PassesOwn.never)(Y: ~~~(X.calm=e_))(I:autoParam (∀x,FL iter X.env x=EY x) Jq6):DS K W ro X OL O O (.For tg iter body [] pos) (sFor O fs pt g):=λF0 H0=>(ps_for J Y hi U (a F0 H0) I).imp λ_ _ _=>rs_for n
theorem ds_appB(g:DE K W b_ X e f)(d:(i∈O)⁻¹)(h: ~~~(X.N[i]?=a_ x))(hv:autoParam (Vis X.env.scope x) Jq4)(hd:((x==("__debug__":o_))=b_)⁻¹)(c:((x==("__classdict__":o_))=b_)⁻¹)(j: ~~~(X.K=K))(Y: ~~~(h_ [e] X.env=[(b_,Di e X.env)]))(U: ~~~(Ei (.Name x p) "append" X.env (Di (.Name x p) X.env)=Di (.Name x p) X.env))(a: ~~~(((DB q (h_ [e] X.env)).all (λx=> !x.1)&&(EX q (D_ [] X.env)).all (λx=>x.1.isSome)&&q_ ([e].length+([]:List FU).length+(if ([]:List FU).isEmpty then 0 else 1)<30))=e_))(I: ~~~((DB q (h_ [] X.env)).any (·.1)=b_))(J: ~~~((apos.endLine==q.line)=e_))(b: ~~~(E_ (.Call (.Attribute (.Name x p) "append" apos) [e] [] q) d_ pos.line X.env=EY b_)):
  DS K W ro X OL O O (.Expr (.Call (.Attribute (.Name x p) "append" apos) [e] [] q) pos) (uw O i f):=λF0 H0=>by
 subst j;exact PS.imp (lZ (wq EB Fc FO kW (pv i h hv hd c) (ax g aK Y) U a J Y I) b) λ_ _ _=>rs_appB d
end
section
variable{W:dS}{own:Bool}
theorem OpR.imp{f:j_->j_->KN j_}{r:R2}(h:OpR X f r)(q:∀x y H Q,r' x y H Q->r x y H Q):OpR X f r':=λpins s σ H x y v u Q I U J z=>h pins s σ H x y v u Q I U J (q x y H Q z)
theorem UnR.imp{f:j_->KN j_}{r r':V->Hp->VK->Prop}(h:UnR X f r)(q:∀x H Q,r' x H Q->r x H Q):UnR X f r':=λpins s σ H x v Q I J z=>h pins s σ H x v Q I J (q x H Q z)
theorem gm.imp{f:j_}{r r':List V->Hp->VK->Prop}(h:gm X f r)(q:∀x H Q,r' x H Q->r x H Q):gm X f r':=λpins s σ H x v Q I J z=>h pins s σ H x v Q I J (q x H Q z)
theorem IxR.imp{r:R2}(h:IxR X r)(q:∀x y H Q,r' x y H Q->r x y H Q):IxR X r':=λJ U pins s σ H x y v u Q I a Y z e=>h J U pins s σ H x y v u Q I a Y (q x y H Q z) e
theorem aH.stuck{P:Prop}(p:aH K W own F H (stk) Q):P:=(W.ns p).elim
theorem aH.int{F H:Hp}{Q:VK}{i:Int}(p:aH K W own F H (.ok (.int i)) Q)(s:aO F H):Q (.int i) H:=p _ F H (Step.refl s) (by cases own<;>rfl)
theorem aH.bl{F H:Hp}{Q:VK}{b:Bool}(p:aH K W own F H (.ok (.bl b)) Q)(s:aO F H):Q (.bl b) H:=p _ F H (Step.refl s) (by cases own<;>rfl)
theorem aH.str{F H:Hp}{Q:VK}{x:o_}(p:aH K W own F H (.ok (.str x)) Q)(s:aO F H):Q (.str x) H:=p _ F H (Step.refl s) (by cases own<;>rfl)
theorem aH.tup{F H:Hp}{Q:VK}{ds:List Dat}{xs:List V}{a:g_}(p:aH K W own F H (.ok (.tup ds)) Q)(s:aO F H)(q:aB K F ds xs)(I:H a=d_):Q (.ref a) (upd H a (.tup xs)):=
 p _ _ _ (Step.lay s I) (by
  have:aP K (upd F a (.tup xs)) (.tup ds) (.ref a):=⟨a,xs,rfl,SqT.of aq,q.mono (aO.upd (s.free I))⟩
  cases own<;>exact this)
theorem aH.same{ds:List Dat}(p:aH K W own F H (.ok (.tup ds)) Q)(s:aO F H)(q:aP K F (.tup ds) v):Q v H:=p _ F H (Step.refl s) (by cases own<;>exact q)
theorem aH.lst{F H:Hp}{Q:VK}{ds:List Dat}{xs:List V}{a:g_}(p:aH K W e_ F H (.ok (.lst ds)) Q)(s:aO F H)(q:aB K F ds xs)(I:H a=d_):Q (.ref a) (upd H a (.lst xs)):=
 p _ F _ (Step.grow s I) ⟨a,xs,rfl,aq,s.free I,I,q⟩
theorem gU{g:Dat->Dat->M Dat}(U:∀a b,(∃i j,a=.int i/\b=.int j)\/g a b=stk){x y:V}(h:rD2 K W own g x y H Q):∃F i j,aO F H/\x=.int i/\y=.int j/\aH K W own F H (g (.int i) (.int j)) Q:=by
 obtain⟨F,a,b,s,J,I,p⟩:=h;rcases U a b with⟨i,j,rfl,rfl⟩|e
 ·exact⟨F,i,j,s,J,I,p⟩
 ·rw[e]at p;exact p.stuck
theorem o_mul:Op2 K W own X (EI .Mult) mulD:=op_mul.imp λx y H Q h=>by
 obtain⟨F,i,j,s,e1,e2,p⟩:=gU (λa b=>by cases a<;>cases b<;>first|exact .inr rfl|exact .inl ⟨_,_,rfl,rfl⟩) h;have J:aH K W own F H (if (gC i||gC j)=e_ then .ok (.int (i*j))else stk) Q:=p;by_cases I:(gC i||gC j)=e_
 ·rw[i_ I]at J;refine⟨i,j,e1,e2,?_,J.int s⟩
  unfold gC at I;simp only[G5,n_,Dh]at I;exact I
 ·rw[l_ I]at J;exact J.stuck
theorem Br{j:Int}(I:0<j)(h1:j<18446744073709551616):j.natAbs.log2<9000:=by
 have a:j.natAbs<2^64:=by omega
 have b:=(Nat.log2_lt (n:=j.natAbs) (k:=64) (by omega)).mpr a;omega
theorem Bg:OpR X (EI .FloorDiv) (rI (λ_ j=>0<j/\j<18446744073709551616) λi j=>.int (i/j)):=opI λi j _ _ _ _ _ I q=>by obtain⟨U,J⟩:=I;exact floordiv_int (by omega) (by rw[Int.fdiv_eq_ediv_of_nonneg i (by omega)];exact q) (.inl (PyProof.noPylong_of_log2 (Br U J)))
theorem oV:Op2 K W own X (EI .FloorDiv) gK:=Bg.imp λx y H Q h=>by
 obtain⟨F,i,j,s,e1,e2,p⟩:=gU (λa b=>by cases a<;>cases b<;>first|exact .inr rfl|exact .inl ⟨_,_,rfl,rfl⟩) h;have I:aH K W own F H (if (q_ (0<j)&&q_ (j<18446744073709551616))=e_ then .ok (.int (i/j))else stk) Q:=p;by_cases J:(q_ (0<j)&&q_ (j<18446744073709551616))=e_
 ·rw[i_ J]at I;simp only[n_,Dh]at J;exact⟨i,j,e1,e2,J,I.int s⟩
 ·rw[l_ J]at I;exact I.stuck
theorem kT:Op2 K W own X (EI .Mod) kY:=op_mod.imp λx y H Q h=>by
 obtain⟨F,i,j,s,e1,e2,p⟩:=gU (λa b=>by cases a<;>cases b<;>first|exact .inr rfl|exact .inl ⟨_,_,rfl,rfl⟩) h;have I:aH K W own F H (if 0<j then .ok (.int (i%j))else stk) Q:=p;by_cases J:0<j
 ·rw[i_ J]at I;exact⟨i,j,e1,e2,J,I.int s⟩
 ·rw[l_ J]at I;exact I.stuck
theorem o_pow:Op2 K W own X (EI .Pow) powD:=op_pow.imp λx y H Q h=>by
 obtain⟨F,i,j,s,e1,e2,p⟩:=gU (λa b=>by cases a<;>cases b<;>first|exact .inr rfl|exact .inl ⟨_,_,rfl,rfl⟩) h;have J:aH K W own F H (if (q_ (0<=j)&&q_ (j<=1000000)&&q_ (i.natAbs<2^64))=e_ then .ok (.int (i^j.toNat))else stk) Q:=p;by_cases I:(q_ (0<=j)&&q_ (j<=1000000)&&q_ (i.natAbs<2^64))=e_
 ·rw[i_ I]at J;simp only[n_,Dh]at I;exact⟨i,j,e1,e2,⟨I.1.1,I.1.2,I.2⟩,J.int s⟩
 ·rw[l_ I]at J;exact J.stuck
theorem o_neg:UnR X (Kz .USub) (rD1 K W own negD):=un_neg.imp λx H Q h=>by
 obtain⟨F,a,s,I,p⟩:=h;cases a with
 |int i=>exact⟨i,I,aH.int (own:=own) p s⟩|_=>exact aH.stuck p
theorem o_lt:Op2 K W own X (Dn .Lt) ltD:=op_lt.imp λx y H Q h=>by obtain⟨F,i,j,s,e1,e2,p⟩:=gU (λa b=>by cases a<;>cases b<;>first|exact .inr rfl|exact .inl ⟨_,_,rfl,rfl⟩) h;exact⟨i,j,e1,e2,p.bl s⟩
theorem Ac:Op2 K W own X (Dn .LtE) leD:=op_le.imp λx y H Q h=>by obtain⟨F,i,j,s,e1,e2,p⟩:=gU (λa b=>by cases a<;>cases b<;>first|exact .inr rfl|exact .inl ⟨_,_,rfl,rfl⟩) h;exact⟨i,j,e1,e2,p.bl s⟩
theorem o_gt:Op2 K W own X (Dn .Gt) gtD:=op_gt.imp λx y H Q h=>by obtain⟨F,i,j,s,e1,e2,p⟩:=gU (λa b=>by cases a<;>cases b<;>first|exact .inr rfl|exact .inl ⟨_,_,rfl,rfl⟩) h;exact⟨i,j,e1,e2,p.bl s⟩
theorem o_ge:Op2 K W own X (Dn .GtE) geD:=op_ge.imp λx y H Q h=>by obtain⟨F,i,j,s,e1,e2,p⟩:=gU (λa b=>by cases a<;>cases b<;>first|exact .inr rfl|exact .inl ⟨_,_,rfl,rfl⟩) h;exact⟨i,j,e1,e2,p.bl s⟩
theorem op_catL:OpR X (EI .Add) (λx y H Q=>∃l b xs c,x=.ref l/\y=.ref b/\SqL X.K H l xs/\SqL X.K H b c/\xs.length+c.length<=m_/\∀p,H p=d_->Q (.ref p) (upd H p (.lst (xs++c)))):=by
 intro pins s σ H x y v u Q I t o h;obtain⟨l,b,xs,c,rfl,rfl,z,A,F,q⟩:=h;cases t;cases o;obtain⟨its,r,p1,G⟩:=I.list z;obtain⟨J,r2,p2,w⟩:=I.list A;have E:=r.length;have D:=r2.length;obtain⟨⟨C,dd,j,m⟩,g,i,n,hd⟩:=id p1.isList;obtain⟨⟨k,e,f,d⟩,U,a,n2,Y⟩:=id p2.isList;simp only at i hd a Y;subst i hd a Y;refine Ie ⟨_,g,rfl⟩ ⟨_,U,rfl⟩ noFill_list_add seq_list_add PySem.F.slot_list_add PySem.F.entry_list_add (PySem.F.args_list_add_2 _ _) (list_addW l b its.toArray J.toArray n n2 dd e m d (by simp only[B_];omega)) ⟨g,U,?_⟩;have B:its.toArray++J.toArray=(its++J).toArray:=by simp
 rw[B];exact⟨.ref _,_,I.lnew (t':=s.toks) (r.append r2) (by rw[CV];omega),rfl,q _ I.fresh⟩
theorem op_cat3:OpR X (EI .Add) (λx y H Q=>∃a b xs ys,x=.ref a/\y=.ref b/\SqT X.K H a xs/\SqT X.K H b ys/\xs.length+ys.length<=m_/\(xs=[]->Q (.ref b) H)/\(ys=[]->Q (.ref a) H)/\∀p,H p=d_->Q (.ref p) (upd H p (.tup (xs++ys)))):=by
 intro pins s σ H x y v u Q I j i h;obtain⟨a,b,xs,ys,rfl,rfl,q,o,D,C,B,A⟩:=h;by_cases k:xs=[]
 ·subst k;cases j;cases i;obtain⟨its,z,p1,_⟩:=I.tuple q;obtain⟨J,r2,p2,_⟩:=I.tuple o;cases z;obtain⟨⟨F,dd,r,w⟩,l,m,n,hd⟩:=id p1;obtain⟨⟨t,f,g,d⟩,U,c,n2,Y⟩:=id p2;simp only at m hd c Y;subst m hd c Y;exact Ie ⟨_,l,rfl⟩ ⟨_,U,rfl⟩ Iw Jt GS GN (GJ _ _)
   (tuple_addW0 a b #[] J.toArray n n2 dd f w d rfl) ⟨l,U,⟨.ref b,H,I,rfl,C rfl⟩⟩
 ·exact op_catT pins s σ H _ _ v u Q I j i ⟨a,b,xs,ys,rfl,rfl,q,o,k,D,λe=>B e,λ_ p E=>A p E⟩
theorem cN(f: ~~~(X.K=K)):Op2 K W e_ X (EI .Add) cT:=by
 subst f;refine(op_add.or (zm.or (op_catL.or op_cat3))).imp λx y H Q h=>?_;obtain⟨F,a,b,s,c,Y,p⟩:=h;cases a with
 |int i=>
  cases b with
  |int j=>exact .inl ⟨i,j,c,Y,p.int s⟩|_=>exact aH.stuck p
 |str z=>
  cases b with
  |str w=>
   have I:aH X.K W e_ F H (if z.length+w.length<=m_ then .ok (.str (z++w))else stk) Q:=p;by_cases J:z.length+w.length<=m_
   ·rw[i_ J]at I;exact .inr (.inl ⟨z,w,c,Y,J,I.str s⟩)
   ·rw[l_ J]at I;exact I.stuck
  |_=>exact aH.stuck p
 |lst ds=>
  cases b with
  |lst es=>
   obtain⟨a,xs,e1,t1,U⟩:=c;obtain⟨b,ys,e2,t2,r2⟩:=Y;have I:aH X.K W e_ F H (if ds.length+es.length<=m_ then .ok (.lst (ds++es))else stk) Q:=p;by_cases J:ds.length+es.length<=m_
   ·rw[i_ J]at I;exact .inr (.inr (.inl ⟨a,b,xs,ys,e1,e2,s.lst t1,s.lst t2,by rw[U.length,r2.length];exact J,λl d=>I.lst s (U.append r2) d⟩))
   ·rw[l_ J]at I;exact I.stuck
  |_=>exact aH.stuck p
 |tup ds=>
  cases b with
  |tup es=>
   obtain⟨a,xs,e1,t1,U⟩:=c;obtain⟨b,ys,e2,t2,r2⟩:=Y;have I:aH X.K W e_ F H (if ds.length+es.length<=m_ then .ok (.tup (ds++es))else stk) Q:=p;by_cases J:ds.length+es.length<=m_
   ·rw[i_ J]at I;refine .inr (.inr (.inr ⟨a,b,xs,ys,e1,e2,s.tup t1,s.tup t2,by rw[U.length,r2.length];exact J,λe=>?_,λe=>?_,λl d=>I.tup s (U.append r2) d⟩))
    ·have z:ds=[]:=by have:=U.length;rw[e]at this;exact FW.mp this.symm
     subst z;exact I.same s ⟨b,ys,rfl,t2,r2⟩
    ·have z:es=[]:=by have:=r2.length;rw[e]at this;exact FW.mp this.symm
     subst z;rw[Ft]at I;exact I.same s ⟨a,xs,rfl,t1,U⟩
   ·rw[l_ J]at I;exact I.stuck
  |_=>exact aH.stuck p
 |_=>exact aH.stuck p
theorem o_isN:Op2 K W own X (Dn .Is) isND:=op_isN.imp λx y H Q h=>by
 obtain⟨F,a,b,s,I,J,p⟩:=h;have key:∀{k:Bool},isND a b=.ok (.bl k)->b=.non->(q_ (x=V.non)=k)->y=V.non/\Q (.bl (q_ (x=V.non))) H:=λ{k} e1 e2 e3=>by subst e2;rw[e1]at p;rw[e3];exact⟨J,p.bl s⟩
 cases b with
 |non=>
  cases a with
  |non=>exact key rfl rfl (by rw[show x=.non from I];rfl)|bl k=>exact key rfl rfl (by rw[show x=.bl k from I];rfl)|int k=>exact key rfl rfl (by rw[show x=.int k from I];rfl)|str k=>exact key rfl rfl (by rw[show x=.str k from I];rfl)|tup ds=>obtain⟨l,xs,e,_⟩:=I;exact key rfl rfl (by rw[e];rfl)
  |lst ds=>obtain⟨l,xs,e,_⟩:=I;exact key rfl rfl (by rw[e];rfl)
  |ins C fs=>obtain⟨l,dx,xs,e,_⟩:=I;exact key rfl rfl (by rw[e];rfl)
  |dic ks=>obtain⟨l,xs,e,_⟩:=I;exact key rfl rfl (by rw[e];rfl)
  |dil ks=>obtain⟨l,xs,e,_⟩:=I;exact key rfl rfl (by rw[e];rfl)
 |_=>cases a<;>exact aH.stuck p
theorem BH{ds:List Dat}{xs:List V}{i:Int}(p:aH K W b_ F H (iA ds i) Q)(s:aO F H)(r:aB K F ds xs):∃v,atI xs i=a_ v/\Q v H:=by
 unfold iA at p;cases e:atI ds i with
 |none=>rw[e]at p;exact aH.stuck p|some d=>
  rw[e]at p;unfold atI at e;cases I:ixN ds.length i with
  |none=>rw[I]at e;cases e|some j=>
   rw[I]at e;obtain⟨v,e1,q⟩:=r.get (show ds[j]?=a_ d from e);refine⟨v,?_,p v F H (Step.refl s) q⟩
   unfold atI;rw[r.length,I];exact e1
theorem f9(Y: ~~~(X.K=K)):IxR X (rD2 K W b_ ixD):=by
 subst Y;refine ix_seq.imp λx y H Q h=>?_;obtain⟨F,a,b,s,U,J,p⟩:=h;cases a with
 |lst ds=>
  cases b with
  |int i=>obtain⟨a,xs,e1,t1,I⟩:=U;obtain⟨v,e2,q⟩:=BH p s I;exact .inl ⟨a,xs,i,v,e1,J,s.lst t1,e2,q⟩
  |_=>exact aH.stuck p
 |tup ds=>
  cases b with
  |int i=>obtain⟨a,xs,e1,t1,I⟩:=U;obtain⟨v,e2,q⟩:=BH p s I;exact .inr (.inl ⟨a,xs,i,v,e1,J,s.tup t1,e2,q⟩)
  |_=>exact aH.stuck p
 |_=>exact aH.stuck p
theorem jG(I: ~~~(X.K=K)):tX K W own X (.builtin "len") pT:=by
 subst I;refine jl.imp λxs H Q h=>?_;obtain⟨F,ds,s,q,p⟩:=h;cases ds with
 |nil=>exact aH.stuck p|cons d ds=>
  cases ds with
  |cons _ _=>cases d<;>exact aH.stuck p
  |nil=>
   obtain⟨v,vs,e,q,e2⟩:=q;cases d with
   |lst es=>
    obtain⟨a,ys,e1,t,r⟩:=q;refine⟨a,ys,by rw[e,e1,show vs=[]from e2],.inl (s.lst t),?_⟩
    rw[r.length];exact aH.int (own:=own) p s
   |tup es=>
    obtain⟨a,ys,e1,t,r⟩:=q;refine⟨a,ys,by rw[e,e1,show vs=[]from e2],.inr (s.tup t),?_⟩
    rw[r.length];exact aH.int (own:=own) p s
   |_=>exact aH.stuck p
end
section
variable{W:dS}{own:Bool}
theorem oO(J:∀ds,(∃d,ds=[d])\/g ds=stk){xs:List V}(h:rDL K W own g xs H Q):∃F d x,aO F H/\xs=[x]/\aP K F d x/\aH K W own F H (g [d]) Q:=by
 obtain⟨F,ds,s,q,p⟩:=h;rcases J ds with⟨d,rfl⟩|e
 ·obtain⟨v,vs,e,I,e2⟩:=q;exact⟨F,d,v,s,by rw[e,show vs=[]from e2],I,p⟩
 ·rw[e]at p;exact p.stuck
theorem two_arg(U:∀ds,(∃d,ds=[d])\/(∃d e,ds=[d,e])\/g ds=stk){xs:List V}(h:rDL K W own g xs H Q):(∃F d x,aO F H/\xs=[x]/\aP K F d x/\aH K W own F H (g [d]) Q)\/∃F d e x y,aO F H/\xs=[x,y]/\aP K F d x/\aP K F e y/\aH K W own F H (g [d,e]) Q:=by
 obtain⟨F,ds,s,q,p⟩:=h;rcases U ds with⟨d,rfl⟩|⟨d,e,rfl⟩|e
 ·obtain⟨v,vs,e,I,e2⟩:=q;exact .inl ⟨F,d,v,s,by rw[e,show vs=[]from e2],I,p⟩
 ·obtain⟨v,vs,e1,I,w,ws,e2,J,e3⟩:=q;exact .inr ⟨F,d,e,v,w,s,by rw[e1,e2,show ws=[]from e3],I,J,p⟩
 ·rw[e]at p;exact p.stuck
theorem rD{F:Hp}:∀{ds:List Dat} {xs:List V} {bs:List Bool},aB K F ds xs->gQ ds=.ok bs->xs=bs.map V.bl
 |[],_,_,q,e=>by cases e;exact q|d::ds,_,bs,⟨v,vs,e1,q,r⟩,e=>by
  cases d with
  |bl b=>
   cases e2:gQ ds with
   |error x=>simp only[gQ,asB,ae,e2,tT]at e;cases e|ok cs=>simp only[gQ,asB,ae,e2]at e;cases e;rw[e1,show v=.bl b from q,rD r e2];rfl
  |_=>cases e
theorem rF:∀{ds:List Dat} {e:Err},gQ ds=.error e->e=.stuck
 |[],_,h=>by cases h|d::ds,e,h=>by
  cases d with
  |bl b=>
   cases e2:gQ ds with
   |error x=>simp only[gQ,asB,ae,e2,tT]at h;cases h;exact rF e2|ok cs=>simp only[gQ,asB,ae,e2]at h;cases h
  |_=>cases h;rfl
theorem pe{F:Hp}:∀{ds:List Dat} {xs:List V} {bs:List Int},aB K F ds xs->m6 ds=.ok bs->xs=bs.map V.int
 |[],_,_,q,e=>by cases e;exact q|d::ds,_,bs,⟨v,vs,e1,q,r⟩,e=>by
  cases d with
  |int b=>
   cases e2:m6 ds with
   |error x=>simp only[m6,asI,ae,e2,tT]at e;cases e|ok cs=>simp only[m6,asI,ae,e2]at e;cases e;rw[e1,show v=.int b from q,pe r e2];rfl
  |_=>cases e
theorem pf:∀{ds:List Dat} {e:Err},m6 ds=.error e->e=.stuck
 |[],_,h=>by cases h|d::ds,e,h=>by
  cases d with
  |int b=>
   cases e2:m6 ds with
   |error x=>simp only[m6,asI,ae,e2,tT]at h;cases h;exact pf e2|ok cs=>simp only[m6,asI,ae,e2]at h;cases h
  |_=>cases h;rfl
theorem A1(U:X.calm=e_)(Y: ~~~(X.K=K)):tX K W own X (.builtin "all") allD:=by
 subst Y;refine(call_all U).imp λxs H Q h=>?_;obtain⟨F,d,x,s,e,q,p⟩:=oO (λds=>by match ds with|[d]=>exact .inl ⟨d,rfl⟩|[]=>exact .inr rfl|a::b::c=>exact .inr (by cases a<;>rfl)) h;cases d with
 |lst ds=>
  obtain⟨a,ys,e1,t,r⟩:=q;have I:aH X.K W own F H ((gQ ds).bind λbs=>.ok (.bl (bs.all id))) Q:=p;cases J:gQ ds with
  |error z=>rw[J]at I;have:=rF J;subst this;exact aH.stuck I|ok bs=>
   rw[J]at I;refine⟨a,bs,by rw[e,e1],?_,aH.bl (own:=own) I s⟩
   rw[<- rD r J];exact s.lst t
 |_=>exact aH.stuck p
theorem c_list(J: ~~~(X.K=K)):tX K W e_ X (.type "list") Bt:=by
 subst J;refine gk.imp λxs H Q h=>?_;obtain⟨F,d,x,s,e,q,p⟩:=oO (λds=>by match ds with|[d]=>exact .inl ⟨d,rfl⟩|[]=>exact .inr rfl|a::b::c=>exact .inr (by cases a<;>rfl)) h;cases d with
 |lst ds=>obtain⟨a,ys,e1,t,r⟩:=q;exact⟨a,ys,by rw[e,e1],.inl (s.lst t),λl I=>aH.lst p s r I⟩
 |tup ds=>obtain⟨a,ys,e1,t,r⟩:=q;exact⟨a,ys,by rw[e,e1],.inr (s.tup t),λl I=>aH.lst p s r I⟩
 |_=>exact aH.stuck p
theorem fold_min:∀(is:List Int) (i:Int),(is.foldl jK i=i\/is.foldl jK i∈is)/\is.foldl jK i<=i/\∀a∈is,is.foldl jK i<=a
 |[],i=>⟨.inl rfl,JF _,λ_ h=>nomatch h⟩
 |j::is,i=>by
  obtain⟨h1,h2,J⟩:=fold_min is (jK i j);have z:(jK i j=i\/jK i j=j)/\jK i j<=i/\jK i j<=j:=by unfold jK;split<;>(refine⟨?_,?_,?_⟩<;>first|exact .inl rfl|exact .inr rfl|omega)
  rw[List.foldl_cons];refine⟨?_,Lf h2 z.2.1,λa I=>?_⟩
  ·rcases h1 with h1|h1
   ·rw[h1];rcases z.1 with z|z
    ·exact .inl z
    ·exact .inr (by rw[z];exact DO)
   ·exact .inr (Dl _ h1)
  ·rcases A_.mp I with e|e
   ·rw[e];exact Lf h2 z.2.2
   ·exact J a e
theorem wZ{is:List Int}{i m:Int}(h1:m∈i::is)(h2:∀a∈i::is,m<=a):is.foldl jK i=m:=by
 obtain⟨J,g2,I⟩:=fold_min is i;have Y:m<=is.foldl jK i:=by
  rcases J with g|g
  ·rw[g];exact h2 i DO
  ·exact h2 _ (Dl _ g)
 have U:is.foldl jK i<=m:=by
  rcases A_.mp h1 with e|e
  ·rw[e];exact g2
  ·exact I m e
 omega
theorem Cq(k:X.calm=e_):gm X (.builtin "min") (λxs H Q=>∃a i is,xs=[.ref a]/\SqL X.K H a ((i::is).map V.int)/\Q (.int (is.foldl jK i)) H):=by
 intro pins s σ H xs us Q I r h;obtain⟨a,i,is,rfl,d,q⟩:=h;obtain⟨u,rfl,c⟩:=r.one;cases c;obtain⟨its,b,p,n⟩:=I.list d;have hi:=intsAre_of b;obtain⟨xs,e⟩:=hi.allInts.items;have J:i::is=xs.toList.map (·.1):=by rw[<- hi.numsOf,<- nums_intItems,<- e]
 have hsz:0<xs.size:=by have l:=FT Jp J;simp at l;omega
 have U:=p.isList;rw[e]at U;refine min_intList (I.ok.hd k) U hsz λv h' tk hv f=>?_;obtain⟨t,rfl⟩:=intItems_at hv;obtain⟨h1,h2⟩:=argBest_lt (numAt xs) (xs.size-1);refine⟨.int _,H,I.kept f,⟨t,rfl⟩,?_⟩
 have:=wZ (is:=is) (i:=i) (m:=numAt xs (argBest (λi j=>q_ (numAt xs i<numAt xs j)) (xs.size-1))) (by
   rw[J,numAt_eq];exact getD_mem (by rw[y_,EF];omega)) (λa Y=>by
   rw[J]at Y;obtain⟨j,g,rfl⟩:=mem_getD Y;rw[y_,EF]at g;rw[<- numAt_eq];exact h2 j (by omega))
 rw[<- this];exact q
theorem c_min(U:X.calm=e_)(g: ~~~(X.K=K)):tX K W own X (.builtin "min") minD:=by
 subst g;refine((Cr U).or (Cq U)).imp λxs H Q h=>?_;rcases two_arg (λds=>by match ds with|[d]=>exact .inl ⟨d,rfl⟩|[d,e]=>exact .inr (.inl ⟨d,e,rfl⟩)|[]=>exact .inr (.inr rfl)|a::b::c::d=>exact .inr (.inr (by cases a<;>cases b<;>rfl))) h with⟨F,d,x,s,e,q,p⟩|⟨F,d,Y,x,y,s,e,q,f,p⟩
 ·cases d with
  |lst ds=>
   obtain⟨a,ys,e1,t,r⟩:=q;have I:aH X.K W own F H ((m6 ds).bind minL) Q:=p;cases J:m6 ds with
   |error z=>rw[J]at I;have:=pf J;subst this;exact aH.stuck I|ok is=>
    rw[J]at I;cases is with
    |nil=>exact aH.stuck I|cons i is=>refine .inr ⟨a,i,is,by rw[e,e1],?_,aH.int (own:=own) I s⟩;rw[<- pe r J];exact s.lst t
  |_=>exact aH.stuck p
 ·cases d with
  |int i=>
   cases Y with
   |int j=>exact .inl ⟨i,j,by rw[e,show x=.int i from q,show y=.int j from f],aH.int (own:=own) p s⟩|_=>exact aH.stuck p
  |_=>cases Y<;>exact aH.stuck p
end
theorem SqL.inj{pins:Pn}{σ:St}{H:Hp}{s:x_}{a:g_}{xs ys:List V}(I:Inv X pins σ H s)(h:SqL X.K H a xs)(h':SqL X.K H a ys):xs=ys:=by
 obtain⟨b,U,p1,_⟩:=I.list h;obtain⟨Y,r2,p2,_⟩:=I.list h';obtain⟨o,n,e,_,_,d⟩:=p1;obtain⟨o',c,J,_,_,d'⟩:=p2;rw[e]at J;cases J;rw[d]at d';injection d' with d1 _
 have:b=Y:=by simpa using FT HD d1
 subst this;exact U.inj r2
theorem SqT.inj{pins:Pn}{σ:St}{H:Hp}{s:x_}{a:g_}{xs ys:List V}(I:Inv X pins σ H s)(h:SqT X.K H a xs)(h':SqT X.K H a ys):xs=ys:=by
 obtain⟨b,U,p1,_⟩:=I.tuple h;obtain⟨Y,r2,p2,_⟩:=I.tuple h';obtain⟨o,e,_,n,d⟩:=p1;obtain⟨o',J,_,c,d'⟩:=p2;rw[e]at J;cases J;rw[d]at d';injection d' with d1 _
 have:b=Y:=by simpa using FT HD d1
 subst this;exact U.inj r2
theorem aB.all_eq{F:Hp}(e:Nat->Bool):∀{ds es:List Dat},ds.length=es.length->(∀(j:Nat) a b,ds[j]?=a_ a->es[j]?=a_ b->e j=eqD a b)->(DY ds.length).all e=zO ds es:=by
 intro ds
 induction ds generalizing e with
 |nil=>intro es h _;cases es with
  |nil=>rfl|cons _ _=>simp at h
 |cons d ds I=>
  intro es h q;cases es with
  |nil=>simp at h|cons b es=>
   rw[CZ,List.range_succ_eq_map,GO,Gz,zO];rw[q 0 d b rfl rfl]
   congr 1
   exact I (e∘Nat.succ) (by simpa using h) λj x y U J=>q (j+1) x y (by simpa using U) (by simpa using J)
theorem nR:∀{ds es:List Dat},ds.length≠es.length->zO ds es=b_
 |[],[],h=>Dc rfl h|[],_::_,_=>rfl|_::_,[],_=>rfl|d::ds,e::es,h=>by rw[zO,nR (ds:=ds) (es:=es) (λz=>h (by simp[z])),Fe]
theorem yt(e:Nat->Bool):∀{ds es:List Dat},(∀(j:Nat) a b,ds[j]?=a_ a->es[j]?=a_ b->e j=eqD a b)->((DY (min ds.length es.length)).all e&&ds.length==es.length)=zO ds es:=by
 intro ds es q;by_cases I:ds.length=es.length
 ·have e1:min ds.length es.length=ds.length:=by omega
  rw[e1,aB.all_eq (F:=λ_=>d_) e I q,I,GQ,Kv]
 ·rw[nR I];have:(ds.length==es.length)=b_:=by simpa using I
  rw[this,Fe]
mutual
theorem nS:∀{d:Dat} {n:Nat},okE d n=e_->eqD d d=e_
 |.non,_,_=>rfl|.bl b,_,_=>by simp[eqD]|.int i,_,_=>by simp[eqD]|.str x,_,_=>by simp[eqD]|.tup ds,0,h=>by simp[okE]at h|.tup ds,n+1,h=>by simp only[okE]at h;simp only[eqD];exact px h|.lst ds,0,h=>by simp[okE]at h|.lst ds,n+1,h=>by simp only[okE]at h;simp only[eqD];exact px h|.ins _ _,_,h=>by simp[okE]at h|.dic _,_,h=>by simp[okE]at h|.dil _,_,h=>by simp[okE]at h
theorem px:∀{ds:List Dat} {n:Nat},jY ds n=e_->zO ds ds=e_
 |[],_,_=>rfl|d::ds,n,h=>by simp only[jY,n_]at h;simp only[zO,nS h.1,px h.2,Bool.and_self]
end
theorem sJ:∀{ds:List Dat} {n i:Nat} {d:Dat},jY ds n=e_->ds[i]?=a_ d->okE d n=e_
 |[],_,_,_,_,h=>by simp at h|_::_,_,0,_,h,e=>by simp only[jY,n_]at h;simp at e;rw[<- e];exact h.1|_::_,_,i+1,_,h,e=>by simp only[jY,n_]at h;exact sJ h.2 (by simpa using e)
noncomputable def jE(ds es:List Dat)(j:Nat):Bool:=match ds[j]?,es[j]? with
 |some a,a_ b=>eqD a b|_,_=>e_
inductive Sh(s:x_):Dat->j_->Prop
 |non:Sh s .non .none
 |bl (b:Bool):Sh s (.bl b) (.bool b)
 |int (i:Int) (t:Nat):Sh s (.int i) (.int i t)
 |str (x:o_) (t:Nat):Sh s (.str x) (.str x t)
 |tup {ds:List Dat} {l:g_} {is:Array j_} (p:s.heap.IsTuple l is):Sh s (.tup ds) (.ref l)
 |lst {ds:List Dat} {l:g_} {is:Array j_} (p:s.heap.IsList l is):Sh s (.lst ds) (.ref l)
noncomputable def sq:Dat->Dat->Bool
 |.tup _,.tup _=>e_|.lst _,.lst _=>e_|_,_=>b_
theorem ug{a b:Dat}(h:sq a b=e_):(∃ds es,a=.tup ds/\b=.tup es)\/∃ds es,a=.lst ds/\b=.lst es:=by
 unfold sq at h;split at h
 ·exact .inl ⟨_,_,rfl,rfl⟩
 ·exact .inr ⟨_,_,rfl,rfl⟩
 ·cases h
theorem eqAt_U{a b:Dat}{v:j_}(U:Sh s a u)(J:Sh s b v)(I:A.units<E8):sq a b=e_\/GV A s u v (eqD a b):=match U,J with
 |.non,.non=>.inr (.same _)|.non,.bl b=>.inr (.none_bool b)|.non,.int b t2=>.inr (.none_int b t2)|.non,.str b t2=>.inr (.none_str b t2)|.non,.tup q=>.inr (.none_tuple q I)|.non,.lst q=>.inr (.none_list q I)|.bl a,.non=>.inr (.bool_none a)|.bl a,.bl b=>.inr (.bool_bool a b)|.bl a,.int b t2=>.inr (.bool_int a b t2)|.bl a,.str b t2=>.inr (.bool_str a b t2)|.bl a,.tup q=>.inr (.bool_tuple a q I)|.bl a,.lst q=>.inr (.bool_list a q I)|.int a t,.non=>.inr (.int_none a t)|.int a t,.bl b=>.inr (.int_bool a t b)|.int a t,.int b t2=>.inr (.int_int a t b t2)|.int a t,.str b t2=>.inr (.int_str a t b t2)|.int a t,.tup q=>.inr (.int_tuple a t q I)|.int a t,.lst q=>.inr (.int_list a t q I)|.str a t,.non=>.inr (.str_none a t)|.str a t,.bl b=>.inr (.str_bool a t b)|.str a t,.int b t2=>.inr (.str_int a t b t2)|.str a t,.str b t2=>.inr (.str_str a t b t2)|.str a t,.tup q=>.inr (.str_tuple a t q I)|.str a t,.lst q=>.inr (.str_list a t q I)|.tup p,.non=>.inr (.tuple_none p I)|.tup p,.bl b=>.inr (.tuple_bool b p I)|.tup p,.int b t2=>.inr (.tuple_int b t2 p I)|.tup p,.str b t2=>.inr (.tuple_str b t2 p I)|.tup _,.tup _=>.inl rfl|.tup p,.lst q=>.inr (.tuple_list p q I)|.lst p,.non=>.inr (.list_none p I)|.lst p,.bl b=>.inr (.list_bool b p I)|.lst p,.int b t2=>.inr (.list_int b t2 p I)|.lst p,.str b t2=>.inr (.list_str b t2 p I)|.lst p,.tup q=>.inr (.list_tuple p q I)|.lst _,.lst _=>.inl rfl
theorem rcAt_U{a b:Dat}{v:j_}(U:Sh s a u)(J:Sh s b v)(I:A.units<E8):sq a b=e_\/Jz A s u v (eqD a b):=match U,J with
 |.non,.non=>.inr (.none_none)|.non,.bl b=>.inr (.none_bool b)|.non,.int b t2=>.inr (.none_int b t2)|.non,.str b t2=>.inr (.none_str b t2)|.non,.tup q=>.inr (.none_tuple q I)|.non,.lst q=>.inr (.none_list q I)|.bl a,.non=>.inr (.bool_none a)|.bl a,.bl b=>.inr (.bool_bool a b)|.bl a,.int b t2=>.inr (.bool_int a b t2)|.bl a,.str b t2=>.inr (.bool_str a b t2)|.bl a,.tup q=>.inr (.bool_tuple a q I)|.bl a,.lst q=>.inr (.bool_list a q I)|.int a t,.non=>.inr (.int_none a t)|.int a t,.bl b=>.inr (.int_bool a t b)|.int a t,.int b t2=>.inr (.int_int a t b t2)|.int a t,.str b t2=>.inr (.int_str a t b t2)|.int a t,.tup q=>.inr (.int_tuple a t q I)|.int a t,.lst q=>.inr (.int_list a t q I)|.str a t,.non=>.inr (.str_none a t)|.str a t,.bl b=>.inr (.str_bool a t b)|.str a t,.int b t2=>.inr (.str_int a t b t2)|.str a t,.str b t2=>.inr (.str_str a t b t2)|.str a t,.tup q=>.inr (.str_tuple a t q I)|.str a t,.lst q=>.inr (.str_list a t q I)|.tup p,.non=>.inr (.tuple_none p I)|.tup p,.bl b=>.inr (.tuple_bool b p I)|.tup p,.int b t2=>.inr (.tuple_int b t2 p I)|.tup p,.str b t2=>.inr (.tuple_str b t2 p I)|.tup _,.tup _=>.inl rfl|.tup p,.lst q=>.inr (.tuple_list p q I)|.lst p,.non=>.inr (.list_none p I)|.lst p,.bl b=>.inr (.list_bool b p I)|.lst p,.int b t2=>.inr (.list_int b t2 p I)|.lst p,.str b t2=>.inr (.list_str b t2 p I)|.lst p,.tup q=>.inr (.list_tuple p q I)|.lst _,.lst _=>.inl rfl
theorem rcNeAt_U{a b:Dat}{v:j_}(U:Sh s a u)(J:Sh s b v)(I:A.units<E8):sq a b=e_\/IM A s u v (!eqD a b):=match U,J with
 |.non,.non=>.inr (.none_none)|.non,.bl b=>.inr (.none_bool b)|.non,.int b t2=>.inr (.none_int b t2)|.non,.str b t2=>.inr (.none_str b t2)|.non,.tup q=>.inr (.none_tuple q I)|.non,.lst q=>.inr (.none_list q I)|.bl a,.non=>.inr (.bool_none a)|.bl a,.bl b=>.inr (.bool_bool a b)|.bl a,.int b t2=>.inr (.bool_int a b t2)|.bl a,.str b t2=>.inr (.bool_str a b t2)|.bl a,.tup q=>.inr (.bool_tuple a q I)|.bl a,.lst q=>.inr (.bool_list a q I)|.int a t,.non=>.inr (.int_none a t)|.int a t,.bl b=>.inr (.int_bool a t b)|.int a t,.int b t2=>.inr (.int_int a t b t2)|.int a t,.str b t2=>.inr (.int_str a t b t2)|.int a t,.tup q=>.inr (.int_tuple a t q I)|.int a t,.lst q=>.inr (.int_list a t q I)|.str a t,.non=>.inr (.str_none a t)|.str a t,.bl b=>.inr (.str_bool a t b)|.str a t,.int b t2=>.inr (.str_int a t b t2)|.str a t,.str b t2=>.inr (.str_str a t b t2)|.str a t,.tup q=>.inr (.str_tuple a t q I)|.str a t,.lst q=>.inr (.str_list a t q I)|.tup p,.non=>.inr (.tuple_none p I)|.tup p,.bl b=>.inr (.tuple_bool b p I)|.tup p,.int b t2=>.inr (.tuple_int b t2 p I)|.tup p,.str b t2=>.inr (.tuple_str b t2 p I)|.tup _,.tup _=>.inl rfl|.tup p,.lst q=>.inr (.tuple_list p q I)|.lst p,.non=>.inr (.list_none p I)|.lst p,.bl b=>.inr (.list_bool b p I)|.lst p,.int b t2=>.inr (.list_int b t2 p I)|.lst p,.str b t2=>.inr (.list_str b t2 p I)|.lst p,.tup q=>.inr (.list_tuple p q I)|.lst _,.lst _=>.inl rfl
theorem ui(I:Inv X pins σ H s)(J:aO F H){d:Dat}{x:V}(o:okE d n=e_)(q:aP X.K F d x)(r:RelV x u):Sh s d u:=by
 cases d with
 |non=>cases(show x=.non from q);cases r;exact .non|bl b=>cases(show x=.bl b from q);cases r;exact .bl b|int i=>cases(show x=.int i from q);obtain⟨t,rfl⟩:=r;exact .int i t
 |str y=>cases(show x=.str y from q);obtain⟨t,rfl⟩:=r;exact .str y t
 |tup ds=>obtain⟨l,xs,e,t,_⟩:=q;subst e;cases r;obtain⟨is,_,p,_⟩:=I.tuple (J.tup t);exact .tup (show s.heap.IsTuple l is.toArray from p)
 |lst ds=>obtain⟨l,xs,e,t,_⟩:=q;subst e;cases r;obtain⟨is,_,p,_⟩:=I.list (J.lst t);exact .lst p.isList
 |_=>simp[okE]at o
theorem pB{n:Nat}(U:∀(d e:Dat) {v:V},aP X.K F d v->aP X.K F e v->okE d n=e_->okE e n=e_->d=e):∀(ds es:List Dat) {xs:List V},aB X.K F ds xs->aB X.K F es xs->jY ds n=e_->jY es n=e_->ds=es
 |[],[],_,_,_,_,_=>rfl|[],_::_,_,q,⟨_,_,e,_⟩,_,_=>by rw[show _=[]from q]at e;cases e|_::_,[],_,⟨_,_,e,_⟩,q,_,_=>by rw[show _=[]from q]at e;cases e|d::ds,e::es,_,⟨v,vs,e1,b,Y⟩,⟨w,ws,e2,a,r2⟩,J,I=>by rw[e1]at e2;cases e2;simp only[jY,n_]at J I;rw[U d e b a J.1 I.1,pB U ds es Y r2 J.2 I.2]
theorem nW{d e:Dat}(hd:sq d d=b_)(q:aP X.K F d v)(r:aP X.K F e v)(J:okE d n=e_)(I:okE e n=e_):d=e:=by
 cases d<;>first|(cases hd;done)|(simp[okE]at J;done)|(simp only[aP]at q;subst q)
 all_goals cases e<;>first|(simp[okE]at I;done)|(simp only[aP]at r;first|(obtain⟨_,_,z,_⟩:=r;cases z;done)|(cases r<;>rfl))
theorem ti(I:Inv X pins σ H s)(Y:aO F H):∀(n:Nat) (d e:Dat) {v:V},aP X.K F d v->aP X.K F e v->okE d n=e_->okE e n=e_->d=e
 |n,.tup ds,e,v,⟨l,xs,e1,h1,a⟩,r,J,U=>by
  subst e1;cases n with
  |zero=>simp[okE]at J|succ n=>
   cases e with
   |tup es=>obtain⟨b,ys,e2,h2,r2⟩:=r;cases e2;cases SqT.inj I (Y.tup h1) (Y.tup h2);rw[pB (ti I Y n) _ _ a r2 (by simpa only[okE] using J) (by simpa only[okE] using U)]
   |lst es=>obtain⟨b,ys,e2,h2,r2⟩:=r;cases e2;obtain⟨f,_,p1,_⟩:=I.list (Y.lst h2);obtain⟨c,_,p2,_⟩:=I.tuple (Y.tup h1);exact Dc rfl (IL p1.isList (show s.heap.IsTuple l c.toArray from p2))
   |_=>first|(simp[okE]at U;done)|(simp only[aP]at r;cases r)
 |n,.lst ds,e,v,⟨l,xs,e1,h1,a⟩,r,J,U=>by
  subst e1;cases n with
  |zero=>simp[okE]at J|succ n=>
   cases e with
   |lst es=>obtain⟨b,ys,e2,h2,r2⟩:=r;cases e2;cases SqL.inj I (Y.lst h1) (Y.lst h2);rw[pB (ti I Y n) _ _ a r2 (by simpa only[okE] using J) (by simpa only[okE] using U)]
   |tup es=>obtain⟨b,ys,e2,h2,r2⟩:=r;cases e2;obtain⟨f,_,p1,_⟩:=I.list (Y.lst h1);obtain⟨c,_,p2,_⟩:=I.tuple (Y.tup h2);exact Dc rfl (IL p1.isList (show s.heap.IsTuple l c.toArray from p2))
   |_=>first|(simp[okE]at U;done)|(simp only[aP]at r;cases r)
 |_,.non,_,_,q,r,J,U=>nW rfl q r J U|_,.bl _,_,_,q,r,J,U=>nW rfl q r J U|_,.int _,_,_,q,r,J,U=>nW rfl q r J U|_,.str _,_,_,q,r,J,U=>nW rfl q r J U|_,.ins _ _,_,_,_,_,J,_=>by simp[okE]at J|_,.dic _,_,_,_,_,J,_=>by simp[okE]at J|_,.dil _,_,_,_,_,J,_=>by simp[okE]at J
termination_by n=>n
theorem rcAt_S{a b:Dat}{x y:V}{v:j_}(I:Inv X pins σ H s)(f:aO F H)(N:sq a b=e_)(w:aP X.K F a x)(t:aP X.K F b y)(r:RelV x u)(p:RelV y v)(m:A.units<E8)(C:∀(ds es:List Dat) (j:Nat) (U J:Dat) (x y:V) (u v:j_),(a=.tup ds/\b=.tup es\/a=.lst ds/\b=.lst es)->ds[j]?=a_ U->es[j]?=a_ J->aP X.K F U x->aP X.K F J y->RelV x u->RelV y v->GV A.in1 s u v (eqD U J)):Jz A s u v (eqD a b):=by
 rcases ug N with⟨ds,es,rfl,rfl⟩|⟨ds,es,rfl,rfl⟩
 ·skip;obtain⟨B,xs,e1,h1,d⟩:=w;subst e1;cases r;obtain⟨is,c,p1,_⟩:=I.tuple (f.tup h1);obtain⟨z,ys,e2,h2,r2⟩:=t;subst e2;cases p;obtain⟨l,Y,p2,_⟩:=I.tuple (f.tup h2);have G:=c.length;have E:=Y.length;have L:=d.length;have K:=r2.length;have q:=SeqAt.RcAt.tuples (A:=A) (e:=jE ds es) (show s.heap.IsTuple B is.toArray from p1) (show s.heap.IsTuple z l.toArray from p2) m (λj h1 h2=>by
   obtain⟨h,f1,n⟩:=c.atA h1;obtain⟨g,o,g2⟩:=Y.atA h2;obtain⟨U,k1,k⟩:=d.at f1;obtain⟨J,k2,i⟩:=r2.at o;rw[show jE ds es j=eqD U J by simp only[jE,k1,k2]];exact C ds es j U J h g _ _ (.inl ⟨rfl,rfl⟩) k1 k2 k i n g2)
  rw[show is.toArray.size=ds.length by simp;omega,show l.toArray.size=es.length by simp;omega,yt _ (λj a b h1 h2=>by simp only[jE,h1,h2])]at q;exact q
 ·skip;obtain⟨B,xs,e1,h1,d⟩:=w;subst e1;cases r;obtain⟨is,c,p1,_⟩:=I.list (f.lst h1);obtain⟨z,ys,e2,h2,r2⟩:=t;subst e2;cases p;obtain⟨l,Y,p2,_⟩:=I.list (f.lst h2);have G:=c.length;have E:=Y.length;have L:=d.length;have K:=r2.length;by_cases D:ds.length=es.length
  ·have q:=SeqAt.RcAt.lists (A:=A) (e:=jE ds es) p1.isList p2.isList (by simp;omega) m (λj h1 h2=>by
   obtain⟨h,f1,n⟩:=c.atA h1;obtain⟨g,o,g2⟩:=Y.atA h2;obtain⟨U,k1,k⟩:=d.at f1;obtain⟨J,k2,i⟩:=r2.at o;rw[show jE ds es j=eqD U J by simp only[jE,k1,k2]];exact C ds es j U J h g _ _ (.inr ⟨rfl,rfl⟩) k1 k2 k i n g2)
   rw[show is.toArray.size=ds.length by simp;omega,aB.all_eq (F:=F) _ D (λj a b h1 h2=>by simp only[jE,h1,h2])]at q;exact q
  ·rw[show eqD (.lst ds) (.lst es)=b_ from nR D];exact SeqAt.RcAt.lists_lengths (A:=A) p1.isList p2.isList (by simp;omega) m
theorem rcNeAt_S{a b:Dat}{x y:V}{v:j_}(I:Inv X pins σ H s)(f:aO F H)(N:sq a b=e_)(w:aP X.K F a x)(t:aP X.K F b y)(r:RelV x u)(p:RelV y v)(m:A.units<E8)(C:∀(ds es:List Dat) (j:Nat) (U J:Dat) (x y:V) (u v:j_),(a=.tup ds/\b=.tup es\/a=.lst ds/\b=.lst es)->ds[j]?=a_ U->es[j]?=a_ J->aP X.K F U x->aP X.K F J y->RelV x u->RelV y v->GV A.in1 s u v (eqD U J)):IM A s u v (!eqD a b):=by
 rcases ug N with⟨ds,es,rfl,rfl⟩|⟨ds,es,rfl,rfl⟩
 ·skip;obtain⟨B,xs,e1,h1,d⟩:=w;subst e1;cases r;obtain⟨is,c,p1,_⟩:=I.tuple (f.tup h1);obtain⟨z,ys,e2,h2,r2⟩:=t;subst e2;cases p;obtain⟨l,Y,p2,_⟩:=I.tuple (f.tup h2);have G:=c.length;have E:=Y.length;have L:=d.length;have K:=r2.length;have q:=SeqAt.RcNeAt.tuples (A:=A) (e:=jE ds es) (show s.heap.IsTuple B is.toArray from p1) (show s.heap.IsTuple z l.toArray from p2) m (λj h1 h2=>by
   obtain⟨h,f1,n⟩:=c.atA h1;obtain⟨g,o,g2⟩:=Y.atA h2;obtain⟨U,k1,k⟩:=d.at f1;obtain⟨J,k2,i⟩:=r2.at o;rw[show jE ds es j=eqD U J by simp only[jE,k1,k2]];exact C ds es j U J h g _ _ (.inl ⟨rfl,rfl⟩) k1 k2 k i n g2)
  rw[show is.toArray.size=ds.length by simp;omega,show l.toArray.size=es.length by simp;omega,yt _ (λj a b h1 h2=>by simp only[jE,h1,h2])]at q;exact q
 ·skip;obtain⟨B,xs,e1,h1,d⟩:=w;subst e1;cases r;obtain⟨is,c,p1,_⟩:=I.list (f.lst h1);obtain⟨z,ys,e2,h2,r2⟩:=t;subst e2;cases p;obtain⟨l,Y,p2,_⟩:=I.list (f.lst h2);have G:=c.length;have E:=Y.length;have L:=d.length;have K:=r2.length;by_cases D:ds.length=es.length
  ·have q:=SeqAt.RcNeAt.lists (A:=A) (e:=jE ds es) p1.isList p2.isList (by simp;omega) m (λj h1 h2=>by
   obtain⟨h,f1,n⟩:=c.atA h1;obtain⟨g,o,g2⟩:=Y.atA h2;obtain⟨U,k1,k⟩:=d.at f1;obtain⟨J,k2,i⟩:=r2.at o;rw[show jE ds es j=eqD U J by simp only[jE,k1,k2]];exact C ds es j U J h g _ _ (.inr ⟨rfl,rfl⟩) k1 k2 k i n g2)
   rw[show is.toArray.size=ds.length by simp;omega,aB.all_eq (F:=F) _ D (λj a b h1 h2=>by simp only[jE,h1,h2])]at q;exact q
  ·rw[show eqD (.lst ds) (.lst es)=b_ from nR D];exact SeqAt.RcNeAt.lists_lengths (A:=A) p1.isList p2.isList (by simp;omega) m
theorem ok_sub{a b Y U:Dat}{ds es:List Dat}(I:okE a n=e_)(J:okE b n=e_)(h:a=.tup ds/\b=.tup es\/a=.lst ds/\b=.lst es)(k1:ds[j]?=a_ Y)(k2:es[j]?=a_ U):∃m,n=m+1/\okE Y m=e_/\okE U m=e_:=by
 cases n with
 |zero=>rcases h with⟨rfl,rfl⟩|⟨rfl,rfl⟩<;>simp[okE]at I
 |succ m=>exact⟨m,rfl,by rcases h with⟨rfl,rfl⟩|⟨rfl,rfl⟩<;>simp only[okE]at I J<;>exact⟨sJ I k1,sJ J k2⟩⟩
theorem eqAt_N(I:Inv X pins σ H s)(f:aO F H):∀(n:Nat) (a b:Dat) {x y:V} {u v:j_} {A:Fm},okE a n=e_->okE b n=e_->aP X.K F a x->aP X.K F b y->RelV x u->RelV y v->A.units+n<E8->GV A s u v (eqD a b):=by
 intro n
 induction n with
 |zero=>intro a b x y u v A U g J d c Y w;refine(eqAt_U (ui I f U J c) (ui I f g d Y) (by omega)).resolve_left λh=>?_;rcases ug h with⟨ds,es,rfl,rfl⟩|⟨ds,es,rfl,rfl⟩<;>simp[okE]at U
 |succ n t=>
  intro a b x y u v A U g J d c Y w;rcases eqAt_U (A:=A) (ui I f U J c) (ui I f g d Y) (by omega)with h|h
  ·by_cases i:x=y
   ·subst i;cases(show a=b from ti I f (n+1) a b J d U g);rw[nS U];rcases ug h with⟨ds,es,rfl,_⟩|⟨ds,es,rfl,_⟩<;>(obtain⟨r,xs,e1,_⟩:=J;subst e1;cases c;cases Y;exact SeqAt.EqAt.same _)
   ·have q:=rcAt_S (A:=A) I f h J d c Y (by omega) λds es j E D K G L v' B k1 k2 p o C g2=>by
     obtain⟨m,e,l,k⟩:=ok_sub U g B k1 k2;cases e;exact t E D l k p o C g2 (by show A.units+1+n<E8;omega)
    rcases ug h with⟨ds,es,rfl,rfl⟩|⟨ds,es,rfl,rfl⟩<;>(obtain⟨r,xs,e1,_⟩:=J;obtain⟨N,ys,e2,_⟩:=d;subst e1;subst e2;cases c;cases Y;exact SeqAt.EqAt.of_refs (λz=>i (by rw[z])) q)
  ·exact h
theorem BQ(I:Inv X pins σ H s)(g:aO F H)(a b:Dat){x y:V}{v:j_}(e:okE a n=e_)(d:okE b n=e_)(c:aP X.K F a x)(Y:aP X.K F b y)(U:RelV x u)(J:RelV y v)(f:A.units+n<E8):GV A s u v (eqD a b):=eqAt_N I g n a b e d c Y U J f
theorem eqAt_I(I:Inv X pins σ H s)(i:aO F H){a b:Dat}(c:okE a n=e_)(Y:okE b n=e_)(l:A.units+n<E8)(ds es:List Dat)(j:Nat)(U J:Dat)(x y:V)(u v:j_)(h:a=.tup ds/\b=.tup es\/a=.lst ds/\b=.lst es)(k1:ds[j]?=a_ U)(k2:es[j]?=a_ J)(g:aP X.K F U x)(f:aP X.K F J y)(k:RelV x u)(g2:RelV y v):GV A.in1 s u v (eqD U J):=by obtain⟨m,rfl,e,d⟩:=ok_sub c Y h k1 k2;exact BQ I i U J e d g f k g2 (by show A.units+1+m<E8;omega)
theorem rcAt_D(I:Inv X pins σ H s)(J:aO F H)(a b:Dat){x y:V}{v:j_}(f:okE a n=e_)(e:okE b n=e_)(d:aP X.K F a x)(c:aP X.K F b y)(Y:RelV x u)(U:RelV y v)(g:A.units+n<E8):Jz A s u v (eqD a b):=
 (rcAt_U (ui I J f d Y) (ui I J e c U) (by omega)).elim (λh=>rcAt_S I J h d c Y U (by omega) (eqAt_I I J f e g)) id
theorem rcNeAt_D(I:Inv X pins σ H s)(J:aO F H)(a b:Dat){x y:V}{v:j_}(f:okE a n=e_)(e:okE b n=e_)(d:aP X.K F a x)(c:aP X.K F b y)(Y:RelV x u)(U:RelV y v)(g:A.units+n<E8):IM A s u v (!eqD a b):=
 (rcNeAt_U (ui I J f d Y) (ui I J e c U) (by omega)).elim (λh=>rcNeAt_S I J h d c Y U (by omega) (eqAt_I I J f e g)) id
section
variable{W:dS}{own:Bool}
theorem aH.blS{b:Bool}(p:aH K W own F H (.ok (.bl b)) Q)(J:aO F H)(I:Inv X pins σ H s):EP X pins σ Q (.bool b) s:=⟨.bl b,H,I,rfl,p.bl J⟩
theorem i4(g:X.A.units+64<E8)(f: ~~~(X.K=K)):Op2 K W own X (Dn .Eq) eqM:=by
 subst f;intro pins s σ H x y v u Q I c Y h;obtain⟨F,a,b,U,e,d,p⟩:=h;unfold eqM at p;by_cases J:(okE a 40&&okE b 40)=e_
 ·rw[i_ J]at p;simp only[n_]at J;exact rcAt_D I U a b J.1 J.2 e d c Y (by omega) _ _ _ _ (p.blS U I)
 ·rw[l_ J]at p;exact p.stuck
theorem o_ne(g:X.A.units+64<E8)(f: ~~~(X.K=K)):Op2 K W own X (Dn .NotEq) neM:=by
 subst f;intro pins s σ H x y v u Q I c Y h;obtain⟨F,a,b,U,e,d,p⟩:=h;unfold neM at p;by_cases J:(okE a 40&&okE b 40)=e_
 ·rw[i_ J]at p;simp only[n_]at J;exact rcNeAt_D I U a b J.1 J.2 e d c Y (by omega) _ _ _ _ (p.blS U I)
 ·rw[l_ J]at p;exact p.stuck
end
theorem Inv.Ao{t':Nat}{T:g_}{xs:List V}(I:Inv X pins σ H s)(g:∀b∈ch,Ag X pins H b)(k:∀b o,b∉ch->s.heap.get? b=a_ o->h'.get? b=a_ o)(h:s.heap.objs.size<=T)(f:xs.length<=m_/\∃its:List j_,Vals xs its/\KS h' T its.toArray):Inv X pins σ (upd H T (.tup xs)) {s with heap:=h',toks:=t'}:=by
 have J:H T=d_:=I.hok.fresh h;have Y:∀b u,H b=a_ u->b∉ch:=λb u e z=>by rw[(g b z).1]at e;cases e
 have d:∀{b:g_} {o:G8},s.heap.get? b=a_ o->b≠T:=λ{b o} e=>Dx (De (v_ e) h);refine I.step (g':=s.gens) (d':=s.drawn) (ch:=ch) (λb a=>?_) (λb o _ _ U e _=>k b o U e) (λb o _ _ U e _=>⟨o.slots,k b o U e⟩) (λb o _ e n=>by rw[ao (d e)];exact n)
  (λb o U e=>⟨o,k b o U e⟩) (λb ys e=>by rw[ao (aL e J)];exact e) (λb o u e=>by rw[ao (aL e J)];exact e) (λb ps e=>⟨#[],by rw[ao (aL e J),e];simp⟩) (λm j=>?_) (λb u e=>?_) I.bare
 ·obtain⟨p,f1,l,f3,f4,f5⟩:=g b a;exact⟨f3,f1,f4,f5⟩
 ·obtain⟨o,es,ep,i,r⟩:=j;exact⟨o,es,ep,k _ o (λz=>(g _ z).2.1 rfl) i,r⟩
 ·by_cases a:b=T
  ·subst a;rw[aq]at e;cases e;exact f
  ·rw[ao a]at e;refine(I.hok b u e).vR (λc v U q=>k c v ?_ q) (λc q=>?_) λc ys q=>?_
   ·rcases U with z|z
    ·rw[z];exact Y b u e
    ·exact Y c _ z
   ·rw[ao (aL q J)];exact q
   ·rw[ao (aL q J)];exact q
theorem Inv.Ap{t':Nat}(I:Inv X pins σ H s)(Y:∀b∈ch,Ag X pins H b)(k:∀b o,b∉ch->s.heap.get? b=a_ o->h'.get? b=a_ o):Inv X pins σ H {s with heap:=h',toks:=t'}:=by
 have U:∀b u,H b=a_ u->b∉ch:=λb u e z=>by rw[(Y b z).1]at e;cases e
 refine I.step (g':=s.gens) (d':=s.drawn) (ch:=ch) (λb f=>?_) (λb o _ _ J e _=>k b o J e) (λb o _ _ J e _=>⟨o.slots,k b o J e⟩) (λb o _ e n=>n)
  (λb o J e=>⟨o,k b o J e⟩) (λb ys e=>e) (λb o u e=>e) (λb ps e=>⟨#[],by rw[e];simp⟩) (λm d=>?_) (λb u e=>?_) I.bare
 ·obtain⟨h,f1,g,f3,f4,f5⟩:=Y b f;exact⟨f3,f1,f4,f5⟩
 ·obtain⟨o,es,ep,a,r⟩:=d;exact⟨o,es,ep,k _ o (λz=>(Y _ z).2.1 rfl) a,r⟩
 ·refine(I.hok b u e).vR (λc v J q=>k c v ?_ q) (λ_ q=>q) λ_ _ q=>q;rcases J with z|z
  ·rw[z];exact U b u e
  ·exact U c _ z
section
variable{W:dS}{own:Bool}{a:Ed}{f:ai->M Dat}{fr:ai->M (List Dat)} 
theorem dN:PTs X [] (tDT K W ik):=λpins s σ H Q I h=>pts_nil pins s σ H Q I (by obtain⟨F,ρ,r,J,q⟩:=h;exact q F H (Step.refl J))
theorem tf:PGs X [] (gZ []):=Bb
theorem nV{is:List Nat}(Y:X.N.Nodup)(h2:PGs X es (gZ is))(hi: ~~~(X.N[i]?=a_ x))(I:autoParam (Loc X.env.scope x) Jq7)(U:autoParam (X.fn x=e_\/X.env.scope.names.lookup x=a_ .local) Jq3)(J: ~~~((Fv (.Name x p::es) X.env).map (·.2)=Iz (.Name x p) X.env::(Fv es X.env).map (·.2))):PGs X (.Name x p::es) (gZ (i::is)):=nH (oJ Y hi I U) h2 J
theorem dg_tp{is:List Nat}(U:X.calm=e_)(h:PGs X es (gZ is))(J: ~~~((Fv es X.env).length=is.length))(I: ~~~((Fv es X.env).findIdx? (·.1)=d_))(Y: ~~~(X.K=K)):DG K X (.Tuple es k pos) (.tp is):=by subst Y;exact pg_tup U h J I
theorem mK{ix:List (Option Nat)}:∀{is:List Nat},(∀i∈is,ix[i]?=a_ d_)->∀vs σ' H' (Q:St->Hp->Prop),gZ is vs σ' H' Q->gZ is vs σ' H' λI H2=>Q I H2/\∀(i:Nat) v,σ'[i]?=a_ (a_ v)->(∃j,ix[i]?=a_ (a_ j))->I[i]?=a_ (a_ v)
 |[],_,vs,σ',H',Q,⟨e,q⟩=>⟨e,q,λ_ _ h _=>h⟩|i::is,c,vs,σ',H',Q,⟨v,r,e,q⟩=>by
  refine⟨v,r,e,?_⟩
  have:=mK (ix:=ix) (is:=is) (λj k=>c j (by simp[k])) r (σ'.set i (a_ v)) H' Q q;have U:∀{is:List Nat} {vs:List V} {J:St} {H1:Hp} {Q Y:St->Hp->Prop},(∀I H2,Q I H2->Y I H2)->gZ is vs J H1 Q->gZ is vs J H1 Y:=by
   intro is
   induction is with
   |nil=>rintro vs J H1 Q Y m ⟨e,q⟩;exact⟨e,m _ _ q⟩
   |cons i is g=>rintro vs J H1 Q Y m ⟨v,r,e,q⟩;exact⟨v,r,e,g m q⟩
  refine U (λI H2 a=>?_) this;obtain⟨f,d⟩:=a;refine⟨f,λj w h a=>?_⟩
  obtain⟨l,b⟩:=a;refine d j w ?_ ⟨l,b⟩;have:i≠j:=by rintro rfl;rw[c i (by simp)]at b;cases b
  rw[k_ this];exact h
theorem uP{is:List Nat}(h:∀i∈is,ix[i]?=a_ d_):rJ ix (gP K (.tp is)):=λx σ' H' Q ⟨a,xs,e,t,l,q⟩=>⟨a,xs,e,t,l,mK h xs σ' H' Q q⟩
theorem fq(U:N'.Nodup)(hi: ~~~(N'[i]?=a_ x))(I:autoParam (Loc (bL X N' sc L cs s H fp).env.scope x) Jq7)(J:autoParam ((bL X N' sc L cs s H fp).fn x=e_\/(bL X N' sc L cs s H fp).env.scope.names.lookup x=a_ .local) Jq3):DG K (bL X N' sc L cs s H fp) (.Name x pos) (.nm i):=pg_c U hi I J
variable{pt:Pat} 
theorem dQ(N':List o_)(ix:List (Option Nat))(hi:DI K W X tg iter fi)(b:∀L cs s H fp,DG K (bL X N' sc L cs s H fp) tg pt)(Y:rJ ix (gP K pt))(J:∀L cs s H fp,PTs (bL X N' sc L cs s H fp) ifs (tDT K W ft))(c:∀L cs s H fp,DE K W b_ (bL X N' sc L cs s H fp) elt fe)(d: ~~~(X.calm=e_))(I: ~~~(cf X.N X.env.scope N' sc ix=e_))(a: ~~~(sc.kind=.function))(U:autoParam (∀x,FL iter X.env x=EY x) Jq6):
  DE K W e_ X (.ListComp elt [⟨tg,iter,ifs,0⟩] sc pos) (eF fi ix pt ft fe):=(pe_comp N' ix d hi b Y J c I a U).imp λ_ _ _=>B0
theorem tD_fr(h:tD K W own f σ H Q):tD K W e_ f σ H Q:=by
 cases own with
 |true=>exact h|false=>obtain⟨F,ρ,r,s,p⟩:=h;exact⟨F,ρ,r,s,p.frz⟩
theorem nU(own:Bool)(N':List o_)(ix:List (Option Nat))(h:X.N.Nodup)(hi:DI K W X tg iter fi)(e:∀L cs s H fp,DG K (bL X N' sc L cs s H fp) tg pt)(b:rJ ix (gP K pt))(Y:∀L cs s H fp,PTs (bL X N' sc L cs s H fp) ifs (tDT K W ft))(f:∀L cs s H fp,DE K W b_ (bL X N' sc L cs s H fp) elt fe)(d: ~~~(X.N[i]?=a_ x))(U: ~~~(X.env.scope.names.lookup x=a_ .local))(g: ~~~(X.calm=e_))(I: ~~~(E_ (.ListComp elt [⟨tg,iter,ifs,0⟩] sc pos) (a_ (.Name x py)) spos.line X.env=EY e_))(J: ~~~(cf X.N X.env.scope N' sc ix=e_))(c: ~~~(sc.kind=.function))(a:autoParam (∀x,FL iter X.env x=EY x) Jq6):
  DS K W ro X OL O (aft own i O) (.Assign [.Name x py] (.ListComp elt [⟨tg,iter,ifs,0⟩] sc pos) spos) (bP O i (eF fi ix pt ft fe)):=λF0 H0=>
 (zf N' ix h d U g hi e b Y f I J c a).imp λD σ H t=>B0 (tD_fr (AU t))
noncomputable def spF(K:Fg)(ro:Bool)(g:List Dat->M Dat)(n:Nat):Sp:=λvs H Q _=>∃F ds,aO F H/\aB K F ds vs/\ds.length=n/\aH K Wno ro F H (g ds) Q
theorem sj{g:ai->M Flo}{ds:List Dat}(h:ds.length≠n):cv nN n g ds=stk:=by unfold cv;rw[l_ h]
theorem de_call{g:ai->M Flo}(F:eZ X.prog X.w X.K X.mg X.base CX0 k fad fd ps (spF K ro (cv nN n g) n))(d:fV k X.A)(f:X.mg x=a_ (.ref fad))(i:Fh X.K (.ref fad)=e_)(l:Binds X.K fd ps [])(m:DA K Wno X (e::es) fr)(j: ~~~(Gl X x))(Y:((x==("__debug__":o_))=b_)⁻¹)(J: ~~~(h_ (e::es) X.env=(b_,Di e X.env)::h_ es X.env))(U: ~~~((DB pos (h_ es X.env)).any (·.1)=b_)):
  DE K Wno ro X (.Call (.Name x p) (e::es) [] pos) (fL (cv nN n g) fr):=by
 refine PE.imp (iu F d j f i l .nil mX m Y J U) λσ H Q h=>?_;obtain⟨F,ρ,r,s,p⟩:=rd_L h;refine⟨F,ρ,r,s,?_⟩
 cases e1:fr ρ with
 |error z=>rw[e1]at p;exact p|ok ds=>
  rw[e1]at p;intro vs F' H' st q;obtain⟨F1,I,b,c,z⟩:=p vs F' H' st q;show spF K ro (cv nN n g) n (vs++[]) H' Q E0;rw[Ft];by_cases a:I.length=n
  ·exact⟨F1,I,b,c,a,z⟩
  ·rw[sj a]at z;exact aH.stuck z
end
section
variable{base:DR}
theorem uf{ds:List Dat}{d:Dat}(q:aB K F ds vs)(h:(ds.map a_++D7 (N.length-ds.length) d_)[i]?=a_ (a_ d)):∃v,(start N vs)[i]?=a_ (a_ v)/\aP K F d v:=by
 have hi:i<ds.length:=by
  by_cases hi:i<ds.length
  ·exact hi
  ·rw[FH (by simpa using hi),FX]at h;split at h<;>cases h
 rw[EW (by simpa using hi),Ee]at h;cases e:ds[i]? with
 |none=>rw[e]at h;cases h|some d'=>
  rw[e]at h;cases h;obtain⟨v,e1,I⟩:=q.get e;refine⟨v,?_,I⟩
  unfold start;rw[EW (by rw[y_,q.length];exact hi),Ee,e1];rfl
theorem fn_D(F:Fun K x qual st f fd)(S:eA N ps (aA st))(ro:Bool)(g:ai->M Flo)(b:∀(cdv:j_) (A:Fm) (outer:List Iq) (s:x_) (H:Hp) (E:XK),fV k (A.deeper (Fn qual (aA st) s.heap.objs.size f cdv)) ->
   DSs K Wno ro (tM CX0 P w K mg base N qual (aA st) f cdv A outer s H E).nox [] [] O' (bQ st) g):eZ P w K mg base CX0 (k+1) f fd ps (spF K ro (cv N.length ps.length g) ps.length):=by
 have U:ps.length<=N.length:=by have:=FT Jp S.pre;rw[Gi]at this;omega
 refine F.okX S (λvs H Q E ⟨F,ds,s,q,l,p⟩=>by rw[q.length,l]) λcdv A outer s H vs Q E J Y=>?_;obtain⟨F1,ds,I,q,l,p⟩:=Y;refine⟨_,b cdv A outer s H E J F1 H,F1,F1,ds.map a_++D7 (N.length-ds.length) d_,?_,?_⟩
 ·refine⟨Step.refl I,aO.refl _,?_,λi d e _=>uf q e,(λi d e h=>nomatch h),(λi j ds es a h=>nomatch h)⟩
  unfold start;rw[CV,CV,y_,y_,Ew,Ew,q.length]
 ·have e1:cv N.length ps.length g ds=(g (ds.map a_++D7 (N.length-ds.length) d_)).bind λfl=>match fl with
   |.nx _=>.ok .non|.rt d=>.ok d|_=>stk:=by unfold cv;exact i_ l
  rw[e1]at p;cases e2:g (ds.map a_++D7 (N.length-ds.length) d_)with
  |error z=>rw[e2]at p;exact p|ok fl=>
   rw[e2]at p;cases fl with
   |nx ρ=>exact λσ F H r=>p .non F H r.st (by cases ro<;>rfl)
   |rt d=>exact λv F H st q=>p v F H st q|bk ρ=>exact aH.stuck p|ct ρ=>exact aH.stuck p
noncomputable def spLaw(K:Fg):Sp:=λvs H Q _=>∃(a:g_) (ns:List Int),vs=[.ref a]/\SqL K H a (ns.map V.int)/\ns.length<=63/\∀H',Q (.bl e_) H'
theorem rk{F:Hp}:∀is:List Int,aB K F (is.map Dat.int) (is.map V.int)
 |[]=>rfl|i::is=>⟨.int i,is.map V.int,rfl,rfl,rk is⟩
theorem law_ok{mlaw:Nat->List Dat->M Dat}(F:∀n,eZ P w K mg base CX0 k f fd [x] (spF K ro (mlaw n) 1))(h:∀ns:List Int,ns.length<=63->∃n,mlaw n [.lst (ns.map .int)]=.ok (.bl e_)):eZ P w K mg base CX0 k f fd [x] (spLaw K):=by
 refine⟨λvs H Q E ⟨a,ns,e,_⟩=>by rw[e];rfl,λA outer s H I us vs Q E J c d hv ⟨a,ns,e,U,b,q⟩=>?_⟩
 obtain⟨n,Y⟩:=h ns b;refine(F n).run A outer s H I us vs Q E J c d hv ⟨H,[.lst (ns.map .int)],aO.refl _,⟨.ref a,[],e,⟨a,_,rfl,U,rk ns⟩,rfl⟩,rfl,?_⟩;rw[Y];intro v F' H' st z;have:v=.bl e_:=by cases ro<;>exact z
 rw[this];exact q H'
end
structure Kit(K:Fg):Prop where
 B6:DM K (.type "int") (.type "int")=a_ e_
 zd:DM K (.type "bool") (.type "int")=a_ e_
 za:DM K (.type "list") (.type "int")=a_ b_
 wa:DM K (.type "tuple") (.type "int")=a_ b_
 B5:DM K (.type "str") (.type "int")=a_ b_
 qf:DM K (.type "NoneType") (.type "int")=a_ b_
 zc:DM K (.type "int") (.type "bool")=a_ b_
 wj:DM K (.type "bool") (.type "bool")=a_ e_
 we:DM K (.type "list") (.type "bool")=a_ b_
 uB:DM K (.type "tuple") (.type "bool")=a_ b_
 z9:DM K (.type "str") (.type "bool")=a_ b_
 oB:DM K (.type "NoneType") (.type "bool")=a_ b_
 zb:DM K (.type "int") (.type "list")=a_ b_
 wg:DM K (.type "bool") (.type "list")=a_ b_
 wc:DM K (.type "list") (.type "list")=a_ e_
 uA:DM K (.type "tuple") (.type "list")=a_ b_
 yZ:DM K (.type "str") (.type "list")=a_ b_
 oA:DM K (.type "NoneType") (.type "list")=a_ b_
 q_int_tuple:DM K (.type "int") (.type "tuple")=a_ b_
 q_bool_tuple:DM K (.type "bool") (.type "tuple")=a_ b_
 q_list_tuple:DM K (.type "list") (.type "tuple")=a_ b_
 q_tuple_tuple:DM K (.type "tuple") (.type "tuple")=a_ e_
 q_str_tuple:DM K (.type "str") (.type "tuple")=a_ b_
 Aa:DM K (.type "NoneType") (.type "tuple")=a_ b_
 q_int_str:DM K (.type "int") (.type "str")=a_ b_
 q_bool_str:DM K (.type "bool") (.type "str")=a_ b_
 q_list_str:DM K (.type "list") (.type "str")=a_ b_
 q_tuple_str:DM K (.type "tuple") (.type "str")=a_ b_
 q_str_str:DM K (.type "str") (.type "str")=a_ e_
 q_NoneType_str:DM K (.type "NoneType") (.type "str")=a_ b_
section
variable{W:dS}{own:Bool}{a:Ed} 
theorem isi_D{d:Dat}{x:V}{Y a bl U bs:Bool}{Q:Vp}(I:Inv X pins σ H s)(J:aO F H)(q:aP X.K F d x)(r:RelV x u)(hi:DM X.K (.type "int") (.type T)=a_ Y)(p:DM X.K (.type "bool") (.type T)=a_ a)(n:DM X.K (.type "list") (.type T)=a_ bl)(g:DM X.K (.type "tuple") (.type T)=a_ U)(j:DM X.K (.type "str") (.type T)=a_ bs)(m:DM X.K (.type "NoneType") (.type T)=a_ bn)(h:∀k tk,(match d with|.int _=>k=Y|.bl _=>k=a|.lst _=>k=bl|.tup _=>k=U|.str _=>k=bs|.non=>k=bn|.ins _ _=>False|.dic _=>False|.dil _=>False)->Q (.bool k) {s with toks:=tk})(b:∀C fs,d≠.ins C fs)(f:∀ks,d≠.dic ks)(c:∀ks,d≠.dil ks):
  CT (Dd X.prog X.w) X.A (Gn (.builtin "isinstance") [u,.type T]) Q X.xe s:=by
 cases d with
 |non=>cases(show x=.non from q);cases r;exact Fb Jj I.kIn EK m (λz=>nomatch z) λtk=>h _ tk rfl
 |bl y=>cases(show x=.bl y from q);cases r;exact Fb Jl I.kIn EK p (λz=>nomatch z) λtk=>h _ tk rfl
 |int i=>cases(show x=.int i from q);obtain⟨t,rfl⟩:=r;exact Fb Jw I.kIn EK hi (λz=>nomatch z) λtk=>h _ tk rfl
 |str y=>cases(show x=.str y from q);obtain⟨t,rfl⟩:=r;exact Fb Jv I.kIn EK j (λz=>nomatch z) λtk=>h _ tk rfl
 |lst ds=>obtain⟨l,xs,e,t,_⟩:=q;subst e;cases r;obtain⟨its,_,pl,_⟩:=I.list (J.lst t);obtain⟨o,h1,h2,_⟩:=pl.isList;exact Fb Hq I.kIn ⟨o,h1,h2⟩ n (λz=>nomatch z) λtk=>h _ tk rfl
 |tup ds=>obtain⟨l,xs,e,t,_⟩:=q;subst e;cases r;obtain⟨its,_,pl,_⟩:=I.tuple (J.tup t);obtain⟨o,h1,h2,_⟩:=pl;exact Fb Jc I.kIn ⟨o,h1,h2⟩ g (λz=>nomatch z) λtk=>h _ tk rfl
 |ins C fs=>exact Dc rfl (b C fs)|dic ks=>exact Dc rfl (f ks)|dil ks=>exact Dc rfl (c ks)
theorem Ci{g:Dat->M Dat}(j:gm X (.builtin "isinstance") (λxs H Q=>∃v,xs=[v,.ty T]/\rD1 K W own g v H Q))(f:X.mg "isinstance"=d_)(b:X.mg y=d_)(U:EO y=a_ (.type T))(k:DE K W b_ X a fa)(i: ~~~(Gl X "isinstance"))(c: ~~~(Gl X y))(e:(y≠"__name__")⁻¹)(hd:((y==("__debug__":o_))=b_)⁻¹)(J: ~~~(h_ [a,.Name y p2] X.env=[(b_,Di a X.env),(b_,Di (.Name y p2) X.env)]))(I: ~~~(h_ [.Name y p2] X.env=[(b_,Di (.Name y p2) X.env)]))(Y: ~~~((DB pos (h_ [.Name y p2] X.env)).any (·.1)=b_)):
  DE K W own X (.Call (.Name "isinstance" p) [a,.Name y p2] [] pos) (f1 g fa):=
 (gw j i f F9 (ax k (ax (pe_tyN (pos:=p2) c b U e hd) aK I) (by rw[J,I])) (by decide) (by decide) (by rw[J,I]) Y).imp λσ H Q h=>by
  obtain⟨F,ρ,r,s,q⟩:=rd_1 h;refine⟨F,ρ,r,s,?_⟩
  cases e1:fa ρ with
  |error z=>rw[e1]at q;exact q|ok d=>rw[e1]at q;exact λv F' H' st z=>⟨v,rfl,q v F' H' st z⟩
theorem Cw(J:Kit K)(f: ~~~(X.K=K)):gm X (.builtin "isinstance") (λxs H Q=>∃v,xs=[v,.ty "int"]/\rD1 K W own lg v H Q):=by
 subst f;intro pins s σ H xs us Q I r h;obtain⟨v,rfl,F,d,a,q,p⟩:=h;obtain⟨u,w,rfl,b,U⟩:=r.two;cases(show w=FC "int" from U);by_cases hi:(∃C fs,d=.ins C fs)\/(∃ks,d=.dic ks)\/∃ks,d=.dil ks
 ·rcases hi with⟨C,fs,rfl⟩|⟨ks,rfl⟩|⟨ks,rfl⟩<;>exact aH.stuck p
 ·refine isi_D I a q b J.B6 J.zd J.za J.wa J.B5 J.qf (λk tk c=>⟨.bl k,H,I.tok tk,rfl,?_⟩) (λC fs e=>hi (.inl ⟨C,fs,e⟩)) (λks e=>hi (.inr (.inl ⟨ks,e⟩))) (λks e=>hi (.inr (.inr ⟨ks,e⟩)));cases d<;>first|(have Y:k=_:=c;subst Y;exact aH.bl (own:=own) p a)|exact Dc (.inl ⟨_,_,rfl⟩) hi|exact Dc (.inr (.inl ⟨_,rfl⟩)) hi|exact Dc (.inr (.inr ⟨_,rfl⟩)) hi
theorem zQ(J:Kit K)(d:X.mg "isinstance"=d_)(b:X.mg "int"=d_)(f:DE K W b_ X a fa)(g: ~~~(X.K=K))(e: ~~~(Gl X "isinstance"))(c: ~~~(Gl X "int"))(U: ~~~(h_ [a,.Name "int" p2] X.env=[(b_,Di a X.env),(b_,Di (.Name "int" p2) X.env)]))(I: ~~~(h_ [.Name "int" p2] X.env=[(b_,Di (.Name "int" p2) X.env)]))(Y: ~~~((DB pos (h_ [.Name "int" p2] X.env)).any (·.1)=b_)):
  DE K W own X (.Call (.Name "isinstance" p) [a,.Name "int" p2] [] pos) (f1 lg fa):=Ci (Cw J g) d b (by decide +kernel) f e c (by decide) (by decide) U I Y
theorem A0(J:Kit K)(f: ~~~(X.K=K)):gm X (.builtin "isinstance") (λxs H Q=>∃v,xs=[v,.ty "bool"]/\rD1 K W own lh v H Q):=by
 subst f;intro pins s σ H xs us Q I r h;obtain⟨v,rfl,F,d,a,q,p⟩:=h;obtain⟨u,w,rfl,b,U⟩:=r.two;cases(show w=FC "bool" from U);by_cases hi:(∃C fs,d=.ins C fs)\/(∃ks,d=.dic ks)\/∃ks,d=.dil ks
 ·rcases hi with⟨C,fs,rfl⟩|⟨ks,rfl⟩|⟨ks,rfl⟩<;>exact aH.stuck p
 ·refine isi_D I a q b J.zc J.wj J.we J.uB J.z9 J.oB (λk tk c=>⟨.bl k,H,I.tok tk,rfl,?_⟩) (λC fs e=>hi (.inl ⟨C,fs,e⟩)) (λks e=>hi (.inr (.inl ⟨ks,e⟩))) (λks e=>hi (.inr (.inr ⟨ks,e⟩)));cases d<;>first|(have Y:k=_:=c;subst Y;exact aH.bl (own:=own) p a)|exact Dc (.inl ⟨_,_,rfl⟩) hi|exact Dc (.inr (.inl ⟨_,rfl⟩)) hi|exact Dc (.inr (.inr ⟨_,rfl⟩)) hi
theorem xj(J:Kit K)(d:X.mg "isinstance"=d_)(b:X.mg "bool"=d_)(f:DE K W b_ X a fa)(g: ~~~(X.K=K))(e: ~~~(Gl X "isinstance"))(c: ~~~(Gl X "bool"))(U: ~~~(h_ [a,.Name "bool" p2] X.env=[(b_,Di a X.env),(b_,Di (.Name "bool" p2) X.env)]))(I: ~~~(h_ [.Name "bool" p2] X.env=[(b_,Di (.Name "bool" p2) X.env)]))(Y: ~~~((DB pos (h_ [.Name "bool" p2] X.env)).any (·.1)=b_)):
  DE K W own X (.Call (.Name "isinstance" p) [a,.Name "bool" p2] [] pos) (f1 lh fa):=Ci (A0 J g) d b (by decide +kernel) f e c (by decide) (by decide) U I Y
theorem zZ(J:Kit K)(f: ~~~(X.K=K)):gm X (.builtin "isinstance") (λxs H Q=>∃v,xs=[v,.ty "list"]/\rD1 K W own la v H Q):=by
 subst f;intro pins s σ H xs us Q I r h;obtain⟨v,rfl,F,d,a,q,p⟩:=h;obtain⟨u,w,rfl,b,U⟩:=r.two;cases(show w=FC "list" from U);by_cases hi:(∃C fs,d=.ins C fs)\/(∃ks,d=.dic ks)\/∃ks,d=.dil ks
 ·rcases hi with⟨C,fs,rfl⟩|⟨ks,rfl⟩|⟨ks,rfl⟩<;>exact aH.stuck p
 ·refine isi_D I a q b J.zb J.wg J.wc J.uA J.yZ J.oA (λk tk c=>⟨.bl k,H,I.tok tk,rfl,?_⟩) (λC fs e=>hi (.inl ⟨C,fs,e⟩)) (λks e=>hi (.inr (.inl ⟨ks,e⟩))) (λks e=>hi (.inr (.inr ⟨ks,e⟩)));cases d<;>first|(have Y:k=_:=c;subst Y;exact aH.bl (own:=own) p a)|exact Dc (.inl ⟨_,_,rfl⟩) hi|exact Dc (.inr (.inl ⟨_,rfl⟩)) hi|exact Dc (.inr (.inr ⟨_,rfl⟩)) hi
theorem xi(J:Kit K)(d:X.mg "isinstance"=d_)(b:X.mg "list"=d_)(f:DE K W b_ X a fa)(g: ~~~(X.K=K))(e: ~~~(Gl X "isinstance"))(c: ~~~(Gl X "list"))(U: ~~~(h_ [a,.Name "list" p2] X.env=[(b_,Di a X.env),(b_,Di (.Name "list" p2) X.env)]))(I: ~~~(h_ [.Name "list" p2] X.env=[(b_,Di (.Name "list" p2) X.env)]))(Y: ~~~((DB pos (h_ [.Name "list" p2] X.env)).any (·.1)=b_)):
  DE K W own X (.Call (.Name "isinstance" p) [a,.Name "list" p2] [] pos) (f1 la fa):=Ci (zZ J g) d b (by decide +kernel) f e c (by decide) (by decide) U I Y
end
theorem lH{is:List Nat}(Y:N'.Nodup)(h2:PGs (bL X N' sc L cs s H fp) es (gZ is))(hi: ~~~(N'[i]?=a_ x))(I:autoParam (Loc (bL X N' sc L cs s H fp).env.scope x) Jq7)(U:autoParam ((bL X N' sc L cs s H fp).fn x=e_\/(bL X N' sc L cs s H fp).env.scope.names.lookup x=a_ .local) Jq3)(J: ~~~((Fv (.Name x p::es) (bL X N' sc L cs s H fp).env).map (·.2)=Iz (.Name x p) (bL X N' sc L cs s H fp).env::(Fv es (bL X N' sc L cs s H fp).env).map (·.2))):PGs (bL X N' sc L cs s H fp) (.Name x p::es) (gZ (i::is)):=nH (pg_c Y hi I U) h2 J
open PySem.W in
section
open PySem.W
end
section
open PySem.W
end
section
open PySem.W
end
section
variable{lt:α->α->Bool}
structure Ord(lt:α->α->Bool):Prop where
 irr:∀a,lt a a=b_
 tr:∀a b c,lt a b=e_->lt b c=e_->lt a c=e_
 tot:∀a b,lt a b=b_->lt b a=b_->a=b
theorem Ord.le_trans(o:Ord lt){a b c:α}(h1:lt b a=b_)(h2:lt c b=b_):lt c a=b_:=by
 cases h:lt c a with
 |false=>rfl|true=>
  cases I:lt b c with
  |true=>rw[o.tr b c a I h]at h1;cases h1|false=>have:=o.tot c b h2 I;subst this;rw[h]at h1;cases h1
end
section
open PySem.W
end
noncomputable def cX(n d:Nat):Option Int->Nat
 |none=>d|some v=>if v<0 then(v+(n:Int)).toNat else min v.toNat n
noncomputable def iQ(xs:List α)(lo hi:Option Int):List α:=(xs.drop (cX xs.length 0 lo)).take (cX xs.length xs.length hi-cX xs.length 0 lo)
noncomputable def aV:Dat->Option Int->Option Int->M Dat
 |.lst ds,lo,hi=>.ok (.lst (iQ ds lo hi))|.tup ds,lo,hi=>if (q_ (cX ds.length 0 lo=0)&&q_ (cX ds.length ds.length hi=ds.length))=e_ then stk else .ok (.tup (iQ ds lo hi))
 |_,_,_=>stk
noncomputable def cL:ai->M (Option Int):=λ_=>.ok d_
noncomputable def cw(f:ai->M Dat):ai->M (Option Int):=λρ=>(f ρ).bind λd=>(asI d).bind λi=>.ok (a_ i)
noncomputable def fSl(g:Dat->Option Int->Option Int->M Dat)(fa:ai->M Dat)(fl fu:ai->M (Option Int)):ai->M Dat:=λρ=>(fa ρ).bind λa=>(fl ρ).bind λl=>(fu ρ).bind λu=>g a l u
noncomputable def extD(ρ:ai)(i:Nat)(ds:List Dat):Dat->M Flo
 |.lst es=>if ds.length+es.length<=m_ then put ρ i (ds++es)else stk
 |_=>stk
noncomputable def AQ(O:List Nat)(i:Nat)(f:ai->M Dat):ai->M Flo:=λρ=>(kZ ρ i).bind λds=>(f (erase O ρ)).bind λd=>extD ρ i ds d
noncomputable def ji(g g' g'':Dat->Dat->M Dat)(fa fb fc fd':ai->M Dat):ai->M Dat:=λρ=>(fa ρ).bind λa=>(fb ρ).bind λb=>(g a b).bind λx=>(asB x).bind λk=>if k=e_ then(fc ρ).bind λc=>(g' b c).bind λy=>(asB y).bind λl=>if l=e_ then(fd' ρ).bind λd=>g'' c d else .ok (.bl b_)else .ok (.bl b_)
section
variable{W:dS}{own:Bool}{a b c d:Ed}{lo hi:Option Ed}{p3 r t u:Pos}{f fd':ai->M Dat}{fu:ai->M (Option Int)} 
noncomputable def tDO(K:Fg)(W:dS)(f:ai->M (Option Int)):TO:=λσ H Q=>∃F ρ,gz K F σ ρ/\aO F H/\(match f ρ with
 |.ok o=>∀F' H',Step F H F' H'->Q o H'|.error e=>W.p e F H)
theorem AB{R:Option Int->Hp->Prop}(r:gz K F σ ρ)(s:aO F H)(J:∀e,fl ρ=.error e->W.p e F H)(I:∀o,fl ρ=.ok o->∀F1 H1,Step F H F1 H1->R o H1):tDO K W fl σ H R:=by
 refine⟨F,ρ,r,s,?_⟩
 cases e:fl ρ with
 |ok d=>exact I d e|error x=>exact J x e
abbrev DP(K:Fg)(W:dS)(X:Cx)(e:Option Ed)(f:ai->M (Option Int)):Prop:=PO X e (tDO K W f)
theorem PO.imp{t t':TO}(h:PO X lo t)(q:∀σ H Q,t' σ H Q->t σ H Q):PO X lo t':=λpins s σ H Q I z=>h pins s σ H Q I (q σ H Q z)
theorem bE:DP K W X d_ cL:=po_none.imp λσ H Q ⟨F,ρ,r,s,p⟩=>p F H (Step.refl s)
theorem bC(h:DE K W b_ X e f):DP K W X (a_ e) (cw f):=(po_some h).imp λσ H Q ⟨F,ρ,r,s,p⟩=>by
 refine b6 r s (λe U=>?_) λd hd v F1 H1 I J=>?_
 ·have z:cw f ρ=.error e:=by unfold cw;rw[U];rfl
  rw[z]at p;exact p
 ·have z:cw f ρ=(asI d).bind λi=>.ok (a_ i):=by unfold cw;rw[hd];rfl
  rw[z]at p;cases d with
  |int i=>exact⟨i,J,p F1 H1 I⟩|_=>exact(W.ns p).elim
noncomputable def rDS(K:Fg)(W:dS)(own:Bool)(g:Dat->Option Int->Option Int->M Dat):V->Option Int->Option Int->Hp->VK->Prop:=λx lo hi H Q=>∃F a,aO F H/\aP K F a x/\aH K W own F H (g a lo hi) Q
theorem rd_sl{g:Dat->Option Int->Option Int->M Dat}(h:tD K W own (fSl g fa fl fu) σ H Q):tSl (rDS K W own g) (tD K W b_ fa) (tDO K W fl) (tDO K W fu) σ H Q:=by
 obtain⟨F,ρ,r,s,p⟩:=h;refine b6 r s (λe U=>p.err (by unfold fSl;rw[U];rfl)) λa b x F1 H1 I d=>?_;refine AB (r.mono I.ff) I.fh (λe U=>(p.step I).err (by unfold fSl;rw[b];show(fl ρ).bind _=_;rw[U];rfl)) λl c F2 H2 J=>?_;refine AB ((r.mono I.ff).mono J.ff) J.fh (λe U=>(p.step (I.trans J)).err (by unfold fSl;rw[b];show(fl ρ).bind _=_;rw[c];show(fu ρ).bind _=_;rw[U];rfl)) λu f i j Y=>?_;refine⟨i,a,Y.fh,aP.mono (J.trans Y).ff d,?_⟩
 have e:fSl g fa fl fu ρ=g a l u:=by unfold fSl;rw[b];show(fl ρ).bind _=_;rw[c];show(fu ρ).bind _=_;rw[f];rfl
 rw[e]at p;exact p.step ((I.trans J).trans Y)
theorem fP{g:Dat->Option Int->Option Int->M Dat}(J:SlR X (rDS K W own g))(Y:DE K W b_ X a fa)(U:DP K W X lo fl)(I:DP K W X hi fu):DE K W own X (.Subscript a (.Slice lo hi d_ p2) pos) (fSl g fa fl fu):=(pe_slice J Y U I).imp λ_ _ _=>rd_sl
theorem yB(n d:Nat)(o:Option Int):cX n d o=HT.sIx n d o:=by cases o<;>rfl
theorem aB.cut{ds:List Dat}{xs:List V}{l u:Option Int}(h:aB K F ds xs):aB K F (iQ ds l u) (cutV xs l u):=by unfold iQ cutV;rw[yB,yB,h.length];exact aB.take _ (aB.drop _ h)
theorem nX(m: ~~~(X.K=K)):SlR X (rDS K W e_ aV):=by
 subst m;intro pins s σ H x v f d lo hi g Q I i k pl j h;refine(SlR.or sl_list sl_tup) pins s σ H x v f d lo hi g Q I i k pl j ?_;obtain⟨F,a,J,c,p⟩:=h;cases a with
 |lst ds=>obtain⟨l,xs,e,t,z⟩:=c;exact .inl ⟨l,xs,e,J.lst t,λr Y=>aH.lst p J z.cut Y⟩
 |tup ds=>
  obtain⟨l,xs,e,t,z⟩:=c;have U:aH X.K W e_ F H (if (q_ (cX ds.length 0 lo=0)&&q_ (cX ds.length ds.length hi=ds.length))=e_ then stk else .ok (.tup (iQ ds lo hi))) Q:=p;by_cases b:(q_ (cX ds.length 0 lo=0)&&q_ (cX ds.length ds.length hi=ds.length))=e_
  ·rw[i_ b]at U;exact U.stuck
  ·rw[l_ b]at U;refine .inr ⟨l,xs,e,J.tup t,λhw=>b ?_,λr Y=>aH.tup U J z.cut Y⟩;rw[yB,yB,<- z.length];simp only[n_,Dh];exact hw
 |_=>exact aH.stuck p
theorem rs_ext{D:Ends}(hi:i∈O)(t:tS K W ro F0 H0 OL O O (AQ O i f) D σ H):pW (tBM K "list" B4 (cn i) (aM (tD K W e_ f) dR)) D σ H:=by
 obtain⟨FB,F,ρ,r,p⟩:=t;cases I:kZ ρ i with
 |error e=>have:=uO I;subst this;exact p.stuck (by unfold AQ;rw[I];rfl)|ok ds=>
  obtain⟨a,xs,e2,c,z⟩:=r.lstOwn hi (nL I);refine⟨.ref a,e2,kE c,?_⟩
  refine b6 r.jo r.st.fh (λe h=>p.uX r.st (by unfold AQ;rw[I];show(f (erase O ρ)).bind _=_;rw[h];rfl)) λd hd v F1 H1 J q=>?_;have k:AQ O i f ρ=extD ρ i ds d:=by unfold AQ;rw[I];show(f (erase O ρ)).bind _=_;rw[hd];rfl
  rw[k]at p;cases d with
  |lst es=>
   obtain⟨b,g,e3,j,_,_,Y⟩:=q;by_cases U:ds.length+es.length<=m_
   ·have ep:extD ρ i ds (.lst es)=put ρ i (ds++es):=i_ U;rw[ep]at p;exact⟨a,b,xs,g,rfl,by rw[e3],J.hh _ _ c,j,by rw[z.length,Y.length];exact U,p σ F1 _ ((r.step J).write hi (nL I) e2 (aB.append (z.mono J.ff) Y))⟩
   ·exact p.stuck (l_ U)
  |_=>exact p.stuck rfl
theorem yw(g:DE K W e_ X e f)(d:(i∈O)⁻¹)(h: ~~~(X.N[i]?=a_ x))(hv:autoParam (Vis X.env.scope x) Jq4)(hd:((x==("__debug__":o_))=b_)⁻¹)(c:((x==("__classdict__":o_))=b_)⁻¹)(j: ~~~(X.K=K))(Y: ~~~(h_ [e] X.env=[(b_,Di e X.env)]))(U: ~~~(Ei (.Name x p) "extend" X.env (Di (.Name x p) X.env)=Di (.Name x p) X.env))(a: ~~~(((DB q (h_ [e] X.env)).all (λx=> !x.1)&&(EX q (D_ [] X.env)).all (λx=>x.1.isSome)&&q_ ([e].length+([]:List FU).length+(if ([]:List FU).isEmpty then 0 else 1)<30))=e_))(I: ~~~((DB q (h_ [] X.env)).any (·.1)=b_))(J: ~~~((apos.endLine==q.line)=e_))(b: ~~~(E_ (.Call (.Attribute (.Name x p) "extend" apos) [e] [] q) d_ pos.line X.env=EY b_)):
  DS K W ro X OL O O (.Expr (.Call (.Attribute (.Name x p) "extend" apos) [e] [] q) pos) (AQ O i f):=λF0 H0=>by
 subst j;exact PS.imp (lZ (wq EB Jf PySem.F.type_list_extend Bo (pv i h hv hd c) (ax g aK Y) U a J Y I) b) λ_ _ _=>rs_ext d
theorem Bd{r J:R2}(S:OpR X (Dn op) r)(f:OpR X (Dn op') r')(U:OpR X (Dn op'') J)(ha:PE X a ta)(Z:PE X b tb)(W:PE X c tc)(hd:PE X d td)(T:autoParam (HF [op,op',op''] [b,c,d]=b_) Jq8):PE X (.Compare a [op,op',op''] [b,c,d] pos) (AD r r' J ta tb tc td):=by
 intro pins s σ H Q I h;refine Compare_chain (thn (ha pins s σ H _ I h) λv E ⟨x,H1,I1,L,R⟩=>Kr (thn (Z pins E σ H1 _ I1 R) λu D ⟨y,H2,I2,r2,P⟩=>thn (S pins D σ H2 x y v u _ I2 L r2 P) λd C ⟨z,p,n,K,k,e,l⟩=>?_)) T
 subst e;cases K;refine D6 ?_;cases k with
 |false=>exact ite_ff ⟨.bl b_,p,n,rfl,l⟩|true=>
  refine ite_tt (Kr (thn (W pins C σ p _ n l) λw' B Y=>?_));obtain⟨g,H4,I4,i,O⟩:=Y;refine thn (f pins B σ H4 y g u w' _ I4 r2 i O) λd' A Y=>?_;obtain⟨z2,o,m,G,k2,e2,j⟩:=Y;subst e2;cases G;refine D6 ?_;cases k2 with
  |false=>exact ite_ff ⟨.bl b_,o,m,rfl,j⟩|true=>exact ite_tt (chain_last (thn (hd pins A σ o _ m j) λt w ⟨q,H6,I6,F,N⟩=>U pins w σ H6 g q w' t Q I6 i F N))
theorem B1{g:Dat->Dat->M Dat}(h:tD K W b_ (ji g g' g'' fa fb fc fd') σ H Q):AD (rD2 K W b_ g) (rD2 K W b_ g') (rD2 K W b_ g'') (tD K W b_ fa) (tD K W b_ fb) (tD K W b_ fc) (tD K W b_ fd') σ H Q:=by
 obtain⟨F,ρ,r,s,p⟩:=h;refine b6 r s (λe J=>p.err (by unfold ji;rw[J];rfl)) λa B x F1 H1 f N=>?_;refine b6 (r.mono f.ff) f.fh (λe J=>(p.step f).err (by unfold ji;rw[B];show(fb ρ).bind _=_;rw[J];rfl)) λb P y F2 H2 m u=>?_;have z:ji g g' g'' fa fb fc fd' ρ=(g a b).bind λx=>(asB x).bind λk=>if k=e_ then(fc ρ).bind λc=>(g' b c).bind λy=>(asB y).bind λl=>if l=e_ then(fd' ρ).bind λd=>g'' c d else .ok (.bl b_)else .ok (.bl b_):=by unfold ji;rw[B];show(fb ρ).bind _=_;rw[P];rfl
 rw[z]at p;refine⟨F2,a,b,m.fh,aP.mono m.ff N,u,?_⟩
 have p2:=p.step (f.trans m);have q:=(r.mono f.ff).mono m.ff;cases e:g a b with
 |error x=>rw[e]at p2;exact p2|ok w=>
  rw[e]at p2;cases w with
  |bl k=>
   intro v F3 T U G;cases(show v=.bl k from G);have p3:=p2.step U;refine⟨k,rfl,?_⟩
   cases k with
   |false=>exact aH.bl p3 U.fh|true=>
    have p3:aH K W b_ F3 T ((fc ρ).bind λc=>(g' b c).bind λy=>(asB y).bind λl=>if l=e_ then(fd' ρ).bind λd=>g'' c d else .ok (.bl b_)) Q:=p3;refine b6 (q.mono U.ff) U.fh (λe J=>p3.err (by rw[J];rfl)) λc O w C S j t=>?_;have I:=p3.step j;rw[O]at I;have I:aH K W b_ C S ((g' b c).bind λy=>(asB y).bind λl=>if l=e_ then(fd' ρ).bind λd=>g'' c d else .ok (.bl b_)) Q:=I;refine⟨C,b,c,j.fh,aP.mono (U.trans j).ff u,t,?_⟩
    cases e4:g' b c with
    |error x=>rw[e4]at I;exact I|ok D=>
     rw[e4]at I;cases D with
     |bl l=>
      intro E Z R Y o;cases(show E=.bl l from o);have i:=I.step Y;refine⟨l,rfl,?_⟩
      cases l with
      |false=>exact aH.bl i Y.fh|true=>have i:aH K W b_ Z R ((fd' ρ).bind λd=>g'' c d) Q:=i;refine b6 (((q.mono U.ff).mono j.ff).mono Y.ff) Y.fh (λe J=>i.err (by rw[J];rfl)) λd hd w6 X H6 n L=>?_;have A:=i.step n;rw[hd]at A;exact⟨X,c,d,n.fh,aP.mono (Y.trans n).ff t,L,A⟩
     |_=>exact(W.ns I).elim
  |_=>exact(W.ns p2).elim
theorem Cj{g:Dat->Dat->M Dat}(U:Op2 K W b_ X (Dn op) g)(J:Op2 K W b_ X (Dn op') g')(I:Op2 K W b_ X (Dn op'') g'')(h:DE K W b_ X a fa)(f:DE K W b_ X b fb)(e:DE K W b_ X c fc)(hd:DE K W b_ X d fd')(Y:autoParam (HF [op,op',op''] [b,c,d]=b_) Jq8):DE K W b_ X (.Compare a [op,op',op''] [b,c,d] pos) (ji g g' g'' fa fb fc fd'):=(Bd U J I h f e hd Y).imp λ_ _ _=>B1
end
section
variable{fu:ai->M (Option Int)}
@[simp] theorem e_pNone:cL ρ=.ok d_:=id rfl
@[simp] theorem e_pSome:cw fa ρ=(fa ρ).bind λd=>(asI d).bind λi=>.ok (a_ i):=id rfl
@[simp] theorem e_slF(k:Dat->Option Int->Option Int->M Dat):fSl k fa fl fu ρ=(fa ρ).bind λa=>(fl ρ).bind λl=>(fu ρ).bind λu=>k a l u:=id rfl
@[simp] theorem t9(ds:List Dat)(lo hi:Option Int):aV (.lst ds) lo hi=.ok (.lst (iQ ds lo hi)):=id rfl
@[simp] theorem e_extD(i:Nat)(ds es:List Dat):extD ρ i ds (.lst es)=if ds.length+es.length<=m_ then put ρ i (ds++es)else stk:=id rfl
@[simp] theorem e_ext(O:List Nat)(i:Nat):AQ O i fa ρ=(kZ ρ i).bind λds=>(fa (erase O ρ)).bind λd=>extD ρ i ds d:=id rfl
@[simp] theorem e_pow{i j:Int}(I:0<=j)(h1:j<=1000000)(h2:i.natAbs<2^64):powD (.int i) (.int j)=.ok (.int (i^j.toNat)):=by show(if (q_ (0<=j)&&q_ (j<=1000000)&&q_ (i.natAbs<2^64))=e_ then _ else _)=_;rw[i_ (by simp only[n_,Dh];exact⟨⟨I,h1⟩,h2⟩)]
@[simp] theorem e_eqII(i j:Int):eqM (.int i) (.int j)=.ok (.bl (q_ (i=j))):=by show Ds (Dat.bl (i==j))=_;rw[show(i==j)=q_ (i=j)from rfl]
@[simp] theorem e_isiIN:lg .non=.ok (.bl b_):=id rfl
end
noncomputable def bu(Cs:List g_)(x:o_):Dat->M Dat
 |.ins C fs=>if Cs.contains C=e_ then(match fs.lookup x with
  |some d=>.ok d|none=>stk)else stk
 |_=>stk
noncomputable def isC(C:g_)(m:o_):Dat->Bool
 |.ins D fs=>(D==C)&&(fs.lookup m).isNone|_=>b_
noncomputable def jh(C:g_)(m:o_)(g:List Dat->M Dat)(fo:ai->M Dat)(fr:ai->M (List Dat)):ai->M Dat:=λρ=>(fo ρ).bind λo=>if isC C m o=e_ then(fr ρ).bind λas=>g (o::as)else stk
noncomputable def jO(C C2:g_)(m:o_)(g g2:List Dat->M Dat)(fo:ai->M Dat)(fr:ai->M (List Dat)):ai->M Dat:=λρ=>(fo ρ).bind λo=>if isC C m o=e_ then(fr ρ).bind λas=>g (o::as)else if isC C2 m o=e_ then(fr ρ).bind λas=>g2 (o::as)else stk
noncomputable def newR(C:g_)(g:List Dat->M Dat):List Dat->M Dat
 |[d]=>(g [d]).bind λr=>.ok (.ins C [("gaps",r)])|_=>stk
noncomputable def twoL:Dat->Dat->Bool
 |.lst xs,.lst ys=>q_ (xs.length=ys.length)|_,_=>b_
noncomputable def newP(C:g_)(g:List Dat->M Dat):List Dat->M Dat
 |[d,e]=>(g [d]).bind λr=>(g [e]).bind λr2=>if twoL r r2=e_ then .ok (.ins C [("gaps",r),("beside",r2)])else stk
 |_=>stk
noncomputable def sStk:ai->M Flo:=λ_=>stk
section
variable{W:dS}{own:Bool}{o a b c d:Ed}{f:ai->M Dat}{fr:ai->M (List Dat)}{Cs:List g_}
theorem ds_stk:DS K W ro X OL O O' st sStk:=λF0 H0 pins s σ H D I h=>by obtain⟨FB,F,ρ,r,p⟩:=h;exact p.stuck rfl
theorem ir.at{F:Hp}{x:o_}:∀{gs:List (o_×Dat)} {fs:List (o_×V)},ir K F gs fs->(∀d,gs.lookup x=a_ d->∃v,fs.lookup x=a_ v/\aP K F d v)/\(gs.lookup x=d_->fs.lookup x=d_)
 |[],fs,h=>by cases(show fs=[]from h);exact⟨λd h=>by simp at h,λ_=>rfl⟩|(g,d)::gs,fs,h=>by
  obtain⟨v,r,rfl,h1,h2⟩:=h;have I:=ir.at (x:=x) h2;rw[w_,w_];cases e:x==g with
  |true=>exact⟨λd' h'=>by cases h';exact⟨v,rfl,h1⟩,λh'=>by cases h'⟩|false=>exact I
theorem bV(j:∀C∈Cs,Cls K C/\b8 K C y)(Y:DE K W b_ X e fa)(f: ~~~(Ei e y X.env (Di e X.env)=Di e X.env))(i: ~~~(X.K=K)):DE K W b_ X (.Attribute e y pos) (f1 (bu Cs y) fa):=by
 subst i;refine(g9 Y f).imp λσ H Q h=>?_;obtain⟨F,ρ,r,s,p⟩:=h;refine b6 r s (λe Y=>p.err (by unfold f1;rw[Y];rfl)) λa g x F1 H1 J c=>?_;have k:f1 (bu Cs y) fa ρ=bu Cs y a:=by unfold f1;rw[g];rfl
 rw[k]at p;cases a with
 |ins C gs=>
  obtain⟨l,dx,fs,e1,m,n⟩:=c;have I:aH X.K W b_ F H (if Cs.contains C=e_ then(match gs.lookup y with
   |some d=>.ok d|none=>stk)else stk) Q:=p
  by_cases b:Cs.contains C=e_
  ·rw[i_ b]at I;obtain⟨h1,h2⟩:=j C (by simpa using b);cases U:gs.lookup y with
   |none=>rw[U]at I;exact aH.stuck I|some d=>rw[U]at I;obtain⟨v,hv,hd⟩:=n.at.1 d U;exact⟨l,C,dx,fs,v,e1,J.fh _ _ m,h1,h2,hv,(I.step J) v F1 H1 (Step.refl J.fh) hd⟩
  ·rw[l_ b]at I;exact aH.stuck I
 |_=>exact aH.stuck p
theorem PE.or{t1 t2:TE}(h1:PE X e t1)(h2:PE X e t2):PE X e (λσ H Q=>t1 σ H Q\/t2 σ H Q):=λpins s σ H Q I h=>h.elim (h1 pins s σ H Q I) (h2 pins s σ H Q I)
theorem rd_meth{g:ai->M Flo}(h:tD K Wno ro (jh C m (cv nN n g) fo fr) σ H Q):pU C m (spF K ro (cv nN n g) n) [] E0 (tD K Wno b_ fo) (tDA K Wno fr) σ H Q:=by
 obtain⟨F,ρ,r,s,p⟩:=h;refine b6 r s (λe a=>p.err (by unfold jh;rw[a];rfl)) λo j x F1 H1 J d=>?_;have q:jh C m (cv nN n g) fo fr ρ=if isC C m o=e_ then(fr ρ).bind λas=>cv nN n g (o::as)else stk:=by unfold jh;rw[j];rfl
 rw[q]at p;by_cases U:isC C m o=e_
 ·rw[i_ U]at p;cases o with
  |ins D gs=>
   obtain⟨l,dx,fs,e1,t,u⟩:=id d;have I:((D==C)&&(gs.lookup m).isNone)=e_:=U;rw[n_]at I;obtain⟨c,k⟩:=I;have c:D=C:=by simpa using c
   subst c;refine⟨l,dx,fs,e1,J.fh _ _ t,u.at.2 (by simpa using k),?_⟩
   have p:=p.step J;refine o8 (r.mono J.ff) J.fh (λe a=>p.err (by rw[a];rfl)) λas b vs F2 H2 Y i=>?_;rw[b]at p;have p:aH K Wno ro F1 H1 (cv nN n g (.ins D gs::as)) Q:=p;have p:=p.step Y;show spF K ro (cv nN n g) n (x::(vs++[])) H2 Q E0;rw[Ft];by_cases f:(Dat.ins D gs::as).length=n
   ·exact⟨F2,.ins D gs::as,Y.fh,⟨x,vs,rfl,aP.mono Y.ff d,i⟩,f,p⟩
   ·rw[sj f]at p;exact aH.stuck p
  |_=>cases U
 ·rw[l_ U]at p;exact aH.stuck p
theorem rd_meth2{g:ai->M Flo}(h:tD K Wno ro (jO C C2 m (cv nN n g) (cv nN2 n2 g2) fo fr) σ H Q):
  tD K Wno ro (jh C m (cv nN n g) fo fr) σ H Q\/tD K Wno ro (jh C2 m (cv nN2 n2 g2) fo fr) σ H Q:=by
 obtain⟨F,ρ,r,s,p⟩:=h;cases I:fo ρ with
 |error e=>
  refine .inl ⟨F,ρ,r,s,?_⟩;have e1:jO C C2 m (cv nN n g) (cv nN2 n2 g2) fo fr ρ=.error e:=by unfold jO;rw[I];rfl
  have e2:jh C m (cv nN n g) fo fr ρ=.error e:=by unfold jh;rw[I];rfl
  rw[e1]at p;rw[e2];exact p
 |ok o=>
  have e1:jO C C2 m (cv nN n g) (cv nN2 n2 g2) fo fr ρ=if isC C m o=e_ then(fr ρ).bind λas=>cv nN n g (o::as)else if isC C2 m o=e_ then(fr ρ).bind λas=>cv nN2 n2 g2 (o::as)else stk:=by unfold jO;rw[I];rfl
  have e2:jh C m (cv nN n g) fo fr ρ=if isC C m o=e_ then(fr ρ).bind λas=>cv nN n g (o::as)else stk:=by unfold jh;rw[I];rfl
  have e3:jh C2 m (cv nN2 n2 g2) fo fr ρ=if isC C2 m o=e_ then(fr ρ).bind λas=>cv nN2 n2 g2 (o::as)else stk:=by unfold jh;rw[I];rfl
  rw[e1]at p;by_cases J:isC C m o=e_
  ·rw[i_ J]at p e2;exact .inl ⟨F,ρ,r,s,by rw[e2];exact p⟩
  ·rw[l_ J]at p;exact .inr ⟨F,ρ,r,s,by rw[e3];exact p⟩
noncomputable def CM(X:Cx)(o:Ed)(m:o_)(apos:Pos)(es:List Ed)(pos:Pos)(pl:KN Bool):Prop:=Di (.Call (.Attribute o m apos) es [] pos) X.env=(do let I <- Di o X.env;Ib apos.atName;let (f,first) <- Ic [I] (G6 I m pl);Hw pos f first (DB pos (h_ es X.env)) (EX pos (D_ [] X.env)))
section
variable{fad2:g_}{fd2:EJ}{g:ai->M Flo} 
theorem oK(c:Cls X.K C)(M:Meth X.K C m fad)(F:eZ X.prog X.w X.K X.mg X.base CX0 k fad fd ps (spF X.K ro (cv nN n g) n))(J:fV k X.A)(Y:Binds X.K fd ps [])(U:DE X.K Wno b_ X o fo)(I:CM X o m apos [] pos pl):DE X.K Wno ro X (.Call (.Attribute o m apos) [] [] pos) (jh C m (cv nN n g) fo aJ):=
 (sv (pl:=pl) U c M F J Y .nil mX I).imp λσ H Q h=>by
  obtain⟨F,ρ,r,s,z⟩:=rd_meth h;refine⟨F,ρ,r,s,?_⟩
  cases e1:fo ρ with
  |error d=>rw[e1]at z;exact z|ok od=>rw[e1]at z;intro v F' H' st q;obtain⟨l,dx,fs,h1,h2,b,a⟩:=z v F' H' st q;exact⟨l,dx,fs,h1,h2,b,rd_nil a⟩
theorem Cg(c:Cls K C)(M:Meth K C m fad)(F:eZ X.prog X.w X.K X.mg X.base CX0 k fad fd ps (spF K ro (cv nN n g) n))(J:fV k X.A)(Y:Binds X.K fd ps [])(U:DE K Wno b_ X o fo)(a: ~~~(X.K=K))(I: ~~~(CM X o m apos [] pos pl)):DE K Wno ro X (.Call (.Attribute o m apos) [] [] pos) (jh C m (cv nN n g) fo aJ):=by subst a;exact oK c M F J Y U I
theorem Cf{k2:Nat}{I:List o_}(c:Cls K C)(M:Meth K C m fad)(F:eZ X.prog X.w X.K X.mg X.base CX0 k fad fd ps (spF K ro (cv nN n g) n))(b:fV k X.A)(d:Binds X.K fd ps [])(f:Cls K C2)(h:Meth K C2 m fad2)(F2:eZ X.prog X.w X.K X.mg X.base CX0 k2 fad2 fd2 I (spF K ro (cv nN2 n2 g2) n2))(J:fV k2 X.A)(U:Binds X.K fd2 I [])(a:DE K Wno b_ X o fo)(e: ~~~(X.K=K))(Y: ~~~(CM X o m apos [] pos pl)):
  DE K Wno ro X (.Call (.Attribute o m apos) [] [] pos) (jO C C2 m (cv nN n g) (cv nN2 n2 g2) fo aJ):=by
 subst e;exact(PE.or (oK c M F b d a Y) (oK f h F2 J U a Y)).imp λ_ _ _=>rd_meth2
end
noncomputable def spI1(K:Fg)(C:g_)(g:List Dat->M Dat):Sp:=λvs H Q _=>∃p dx v F d,vs=[.ref p,v]/\H p=a_ (.ins C dx [])/\F p=d_/\aO F H/\aP K F d v/\(match g [d]with
 |.ok r=>∀w F' H',aO F F'->aO F' H'->F' p=d_->(∀b o,F' b=a_ o->F b=a_ o\/H b=d_)->(∀c o,H c=a_ o->c≠p->H' c=a_ o)->H' p=a_ (.ins C dx [("gaps",w)])->aP K F' r w->Q .non H'|.error e=>Wno.p e F H)
noncomputable def spI2(K:Fg)(C:g_)(g:List Dat->M Dat):Sp:=λvs H Q _=>∃p dx v J F d U,vs=[.ref p,v,J]/\H p=a_ (.ins C dx [])/\F p=d_/\aO F H/\aP K F d v/\aP K F U J/\(match (g [d]).bind λr=>(g [U]).bind λr2=>if twoL r r2=e_ then .ok (r,r2)else stk with
 |.ok (r,r2)=>∀w I F' H',aO F F'->aO F' H'->F' p=d_->(∀b o,F' b=a_ o->F b=a_ o\/H b=d_)->(∀c o,H c=a_ o->c≠p->H' c=a_ o)->H' p=a_ (.ins C dx [("gaps",w),("beside",I)])->aP K F' r w->aP K F' r2 I->Q .non H'|.error e=>Wno.p e F H)
theorem Step.born{x:g_}{fs:List (o_×V)}(s:aO F H)(U:H x=d_)(J:H dx=d_)(Y:dx≠x)(h1:aO F F')(h2:aO F' H')(g:F' x=d_)(f:∀b o,F' b=a_ o->F b=a_ o\/upd (upd H dx (.own x)) x (.ins C dx []) b=d_)(d:∀c o,upd (upd H dx (.own x)) x (.ins C dx []) c=a_ o->c≠x->H' c=a_ o)(a:H' x=a_ (.ins C dx fs)):Step F H (upd F' x (.ins C dx fs)) H' where
 ff:=h1.trans (aO.upd g)
 hh:=λc o e=>by
  have I:c≠x:=λh=>by rw[h,U]at e;cases e
  have hd:c≠dx:=λh=>by rw[h,J]at e;cases e
  exact d c o (by rw[ao I,ao hd];exact e) I
 fh:=λc o e=>by
  by_cases I:c=x
  ·subst I;rw[aq]at e;rw[a];exact e
  ·rw[ao I]at e;exact h2 _ _ e
 nw:=λc o e=>by
  by_cases I:c=x
  ·subst I;exact .inr U
  ·rw[ao I]at e;rcases f c o e with z|z
   ·exact .inl z
   ·refine .inr ?_;by_cases hd:c=dx
    ·subst hd;exact J
    ·rw[ao I,ao hd]at z;exact z
theorem de_newR{g:List Dat->M Dat}(m:Mk X.K C fI)(S:eZ X.prog X.w X.K X.mg X.base CX0 k fI fdI ps (spI1 K C g))(y:fV (k+1) X.A)(B:X.mg x=a_ (.ref C))(G:Binds X.K fdI ps [])(L:DA K Wno X [e] fr)(D: ~~~(Gl X x))(j:((x==("__debug__":o_))=b_)⁻¹)(b: ~~~(h_ [e] X.env=(b_,Di e X.env)::h_ [] X.env))(f: ~~~((DB pos (h_ [] X.env)).any (·.1)=b_)):
  DE K Wno b_ X (.Call (.Name x p) [e] [] pos) (fL (newR C g) fr):=by
 refine PE.imp (sx m S y D B G .nil mX L j b f) λσ H Q h=>?_;obtain⟨F,ρ,r,s,p⟩:=rd_L h;refine⟨F,ρ,r,s,?_⟩
 cases e1:fr ρ with
 |error z=>rw[e1]at p;exact p|ok ds=>
  rw[e1]at p;intro vs F1 H1 st q;obtain⟨F2,l,I,u,z⟩:=p vs F1 H1 st q;rcases l with _|⟨d,_|⟨_,_⟩⟩
  ·exact aH.stuck z
  rotate_left
  ·exact aH.stuck z
  ·obtain⟨v,Y,rfl,t,A⟩:=u;cases(show Y=[]from A);intro x dx a U i;refine⟨x,dx,v,F2,d,rfl,aq,I.free a,λc o e=>?_,t,?_⟩
   ·have E:c≠x:=λh=>by rw[h,I.free a]at e;cases e
    have hd:c≠dx:=λh=>by rw[h,I.free U]at e;cases e
    rw[ao E,ao hd];exact I _ _ e
   ·have z:aH K Wno b_ F2 H1 ((g [d]).bind λr=>.ok (.ins C [("gaps",r)])) Q:=z;cases J:g [d]with
    |error e=>rw[J]at z;exact DV z|ok r=>
     rw[J]at z;intro w F' H' h1 h2 n R P O N;refine⟨rfl,z (.ref x) (upd F' x (.ins C dx [("gaps",w)])) H' (Step.born I a U i h1 h2 n R P O) ?_⟩
     exact⟨x,dx,_,rfl,aq,w,[],rfl,aP.mono (aO.upd n) N,rfl⟩
theorem de_newP{g:List Dat->M Dat}(B:Mk X.K C fI)(FI:eZ X.prog X.w X.K X.mg X.base CX0 k fI fdI ps (spI2 K C g))(O:fV (k+1) X.A)(R:X.mg x=a_ (.ref C))(W:Binds X.K fdI ps [])(Z:DA K Wno X [e,a] fr)(S: ~~~(Gl X x))(t:((x==("__debug__":o_))=b_)⁻¹)(l: ~~~(h_ [e,a] X.env=(b_,Di e X.env)::h_ [a] X.env))(m: ~~~((DB pos (h_ [a] X.env)).any (·.1)=b_)):
  DE K Wno b_ X (.Call (.Name x p) [e,a] [] pos) (fL (newP C g) fr):=by
 refine PE.imp (sx B FI O S R W .nil mX Z t l m) λσ H Q h=>?_;obtain⟨F,ρ,r,s,p⟩:=rd_L h;refine⟨F,ρ,r,s,?_⟩
 cases e1:fr ρ with
 |error z=>rw[e1]at p;exact p|ok ds=>
  rw[e1]at p;intro vs F1 H1 st q;obtain⟨F2,y,J,N,z⟩:=p vs F1 H1 st q;rcases y with _|⟨d,_|⟨A,_|⟨_,_⟩⟩⟩
  ·exact aH.stuck z
  ·exact aH.stuck z
  rotate_left
  ·exact aH.stuck z
  ·obtain⟨v,E,rfl,L,G,b,rfl,f,P⟩:=N;cases(show b=[]from P);intro x dx i Y n;refine⟨x,dx,v,G,F2,d,A,rfl,aq,J.free i,λc o e=>?_,L,f,?_⟩
   ·have T:c≠x:=λh=>by rw[h,J.free i]at e;cases e
    have hd:c≠dx:=λh=>by rw[h,J.free Y]at e;cases e
    rw[ao T,ao hd];exact J _ _ e
   ·have z:aH K Wno b_ F2 H1 ((g [d]).bind λr=>(g [A]).bind λr2=>if twoL r r2=e_ then .ok (.ins C [("gaps",r),("beside",r2)])else stk) Q:=z;cases U:g [d]with
    |error e=>rw[U]at z;exact DV z|ok r=>
     rw[U,ae]at z;cases I:g [A]with
     |error e=>rw[I]at z;exact DV z|ok r2=>
      rw[I,ae]at z;by_cases j:twoL r r2=e_
      ·rw[i_ j]at z;rw[ae,ae,i_ j];intro w D F' H' h1 h2 u h4 h5 h6 h7 h8;refine⟨rfl,z (.ref x) (upd F' x (.ins C dx [("gaps",w),("beside",D)])) H' (Step.born J i Y n h1 h2 u h4 h5 h6) ?_⟩
       exact⟨x,dx,_,rfl,aq,w,_,rfl,aP.mono (aO.upd u) h7,D,[],rfl,aP.mono (aO.upd u) h8,rfl⟩
      ·rw[l_ j]at z;exact aH.stuck z
end
noncomputable def Itz(K:Fg)(a b:g_):It:=
 ⟨λi H=>∃xs ys x y,SqL K H a xs/\SqL K H b ys/\xs[i]?=a_ x/\ys[i]?=a_ y,λi H v H'=>∃T x y,H T=d_/\v=.ref T/\H'=upd H T (.tup [x,y])/\(∀xs,SqL K H a xs->xs[i]?=a_ x)/\∀ys,SqL K H b ys->ys[i]?=a_ y,λi H=>∃xs ys,SqL K H a xs/\SqL K H b ys/\(xs.length<=i\/ys.length<=i)⟩
theorem turn_zip{d l g f N L:g_}(D:ZipApart z d l g f N L):
  Turn P w K (.Tuple elts k pos) (Itz K N L) [z,d,l,g,f] z (λi h=>IsZip h z d l .none/\IsPair h d (.ref g) (.ref f)/\(∃a b,IsPair h l a b)/\h.IsListIter g N i/\h.IsListIter f L i) where
 mem:=by simp
 obj:=λi h st b J=>by
  obtain⟨j,U,⟨a,c,Y⟩,⟨o1,e1,c1,d1⟩,⟨o2,e2,c2,d2⟩⟩:=st;simp only[A_,Ez,Ha]at J;rcases J with rfl|rfl|rfl|rfl|rfl
  ·exact⟨_,j,λv q=>by cases q⟩
  ·exact⟨_,U,λv q=>by cases q⟩
  ·exact⟨_,Y,λv q=>by cases q⟩
  ·exact⟨o1,e1,λv q=>by rw[d1]at q;cases q⟩
  ·exact⟨o2,e2,λv q=>by rw[d2]at q;cases q⟩
 keep:=λi h h' st n=>by obtain⟨j,U,⟨a,c,Y⟩,h1,h2⟩:=st;exact⟨n z (by simp) _ j,n d (by simp) _ U,⟨a,c,n l (by simp) _ Y⟩,h1.at λo x=>n g (by simp) o x,h2.at λo x=>n f (by simp) o x⟩
 item:=by
  intro X T hw W hc i pins s σ H E I C st R;subst T hw W;obtain⟨j,U,⟨a,c,Y⟩,h1,h2⟩:=st;obtain⟨xs,ys,x,y,B,A,gx,gy⟩:=R;obtain⟨its,F,p,_⟩:=I.list B;obtain⟨r,m,p2,_⟩:=I.list A;obtain⟨u,hu,ru⟩:=F.get gx;obtain⟨u2,O,G⟩:=m.get gy;refine wpAny_pyNext_zip_item D j U Y h1 h2 p.isList p2.isList (x:=u) (y:=u2) (by simpa using hu) (by simpa using O) λh' a1 a2 a3 a4 a5 a6 a7=>?_;refine⟨_,rfl,wpAny_letOwnedTupleGo_zip a1 λZ b1 b2=>?_⟩
  have lz:z<s.heap.objs.size:=v_ j;have lTI:d<s.heap.objs.size:=v_ U;have lTO:l<s.heap.objs.size:=v_ Y;have li1:g<s.heap.objs.size:=by obtain⟨o,e,_⟩:=h1;exact v_ e
  have li2:f<s.heap.objs.size:=by obtain⟨o,e,_⟩:=h2;exact v_ e
  have I1:Inv X pins σ (upd H s.heap.objs.size (.tup [x,y])) {s with heap:=Z,toks:=s.toks}:=I.Ao (ch:=[z,d,l,g,f]) C (λb o J q=>by simp only[A_,Ez,Ha,not_or]at J;exact(b2.2 b J.1).trans (a7 b o J.1 J.2.2.1 J.2.2.2.1 J.2.2.2.2 q)) (u_ _) ⟨by show 2<=m_;decide,[u,u2],.cons ru (.cons G .nil),⟨_,(b2.2 _ (G3 lz)).trans a5,rfl,0,rfl⟩⟩
  refine⟨.ref s.heap.objs.size,_,I1,rfl,⟨s.heap.objs.size,x,y,I.hok.fresh (u_ _),rfl,rfl,λzs Q=>by rw[I.nM Q B];exact gx,λzs Q=>by rw[I.nM Q A];exact gy⟩,
   ⟨b1,(b2.2 _ D.TIz).trans (a7 d _ D.TIz D.TITO D.TIi1 D.TIi2 U),⟨_,_,(b2.2 _ D.TOz).trans a2⟩,a3.at λo q=>(b2.2 _ D.i1z).trans q,a4.at λo q=>(b2.2 _ D.i2z).trans q⟩,λb J=>?_⟩
  have S:=(C b J).1;have:b≠s.heap.objs.size:=by simp only[A_,Ez,Ha]at J;rcases J with rfl|rfl|rfl|rfl|rfl<;>exact Dx (by assumption)
  rw[ao this];exact S
 done:=by
  intro X T hw W hc i pins s σ H E I C st R;subst T hw W;obtain⟨j,U,⟨a,c,Y⟩,h1,h2⟩:=st;obtain⟨xs,ys,B,A,t⟩:=R;obtain⟨its,F,p,_⟩:=I.list B;obtain⟨r,m,p2,_⟩:=I.list A;have e1:=F.length;have e2:=m.length;refine wpAny_pyNext_zip_end (I.ok.hd hc) D j U Y h1 h2 p.isList p2.isList ?_ λh' hk=>⟨rfl,I.Ap (t':=s.toks) (ch:=[z,d,l,g,f]) C λb o J q=>?_⟩
  ·rcases t with z|z
   ·exact .inl (IV (by simp;omega))
   ·exact .inr (IV (by simp;omega))
  ·simp only[A_,Ez,Ha,not_or]at J;exact hk b o J.1 J.2.2.1 J.2.2.2.1 J.2.2.2.2 q
 self:=λ_ _ _ _ _ st h=>KW st.1 h
theorem xE:∀(ds es:List Dat) (i:Nat),(mV ds es)[i]?=(ds[i]?).bind λd=>(es[i]?).map λe=>.tup [d,e]
 |[],es,i=>by simp[mV]|d::ds,[],i=>by cases h:(d::ds)[i]?<;>simp[mV]
 |d::ds,e::es,0=>by simp[mV]|d::ds,e::es,i+1=>by rw[mV,FY,xE ds es i,FY,FY]
theorem rK:∀(ds es:List Dat),(mV ds es).length=min ds.length es.length
 |[],es=>by simp[mV]|d::ds,[]=>by simp[mV]|d::ds,e::es=>by rw[mV,CZ,rK ds es,CZ,CZ];omega
theorem iter_zip{xs ys:List V}{ds es:List Dat}(t:SqL K F a xs)(z:aB K F ds xs)(t2:SqL K F b ys)(c:aB K F es ys):vC K F (Itz K a b) (mV ds es) where
 go:=λi F' H' J I hi=>by rw[rK]at hi;exact⟨xs,ys,xs[i]'(by rw[z.length];omega),ys[i]'(by rw[c.length];omega),I.lst (J.lst t),I.lst (J.lst t2),DD _,DD _⟩
 yl:=λi F' H' x H2 d J I hd j=>by
  obtain⟨T,g,e,f,ex,k,h1,h2⟩:=j;subst ex k;rw[xE]at hd;cases U:ds[i]? with
  |none=>rw[U]at hd;cases hd|some n=>
   cases Y:es[i]? with
   |none=>rw[U,Y]at hd;cases hd|some m=>
    rw[U,Y]at hd;simp at hd;subst hd;obtain⟨v,e1,q⟩:=z.get U;obtain⟨l,e2,h⟩:=c.get Y;have e3:=h1 xs (I.lst (J.lst t));have e4:=h2 ys (I.lst (J.lst t2));rw[e1]at e3;rw[e2]at e4;cases e3;cases e4;refine⟨upd F' T (.tup [g,e]),Step.lay I f,T,_,rfl,SqT.of aq,?_⟩
    exact⟨g,[e],rfl,(q.mono J).mono (aO.upd (I.free f)),e,[],rfl,(h.mono J).mono (aO.upd (I.free f)),rfl⟩
 st:=λF' H' J I=>⟨xs,ys,I.lst (J.lst t),I.lst (J.lst t2),by rw[z.length,c.length,rK];omega⟩
section
variable{W:dS}{a b:Ed} 
noncomputable def iZip(K:Fg)(ta tb:TE):TI:=λσ H R=>ta σ H λx H1=>tb σ H1 λy H2=>∃a b,x=.ref a/\y=.ref b/\(∃xs,SqL K H2 a xs)/\(∃ys,SqL K H2 b ys)/\R (Itz K a b) H2
theorem pi_zip(G:Gl X "zip")(E:X.mg "zip"=d_)(K:PE X a ta)(f:PE X b tb)(w:h_ [a,b] X.env=[(b_,Di a X.env),(b_,Di b X.env)])(U:h_ [b] X.env=[(b_,Di b X.env)]):
  PI X (.Tuple elts k q) (.Call (.Name "zip" p) [a,b] [] pos) (iZip X.K ta tb):=by
 intro pins s σ H R I h;have L:PA X [a,b] (aM ta (aM tb dR)):=ax K (ax f aK U) (by rw[w,U]);refine Call_ (qT I G E boot_zip (Gb (thn (L pos pins s σ H (λvs H1=>match vs with
  |[x,y]=>∃a b,x=.ref a/\y=.ref b/\(∃xs,SqL X.K H1 a xs)/\(∃ys,SqL X.K H1 b ys)/\R (Itz X.K a b) H1
  |_=>False) I h) λus J ⟨vs,H1,d,i,B⟩=>?_) (by rw[w,U]) (by rw[U];rfl)))
 match vs,i,B with
 |[x,y],i,⟨l,C,e1,e2,⟨xs,D⟩,⟨ys,j⟩,q⟩=>
  subst e1 e2;obtain⟨u,Q,rfl,A,g⟩:=i.two;cases A;cases g;obtain⟨its,S,pl,_⟩:=d.list D;obtain⟨t,z,Y,_⟩:=d.list j;have O:l<J.heap.objs.size:=by obtain⟨_,e,_⟩:=pl.isList;exact v_ e
  have N:C<J.heap.objs.size:=by obtain⟨_,e,_⟩:=Y.isList;exact v_ e
  refine call_zip_2 pl.isList Y.isList λh' v r o n m hsz F=>?_;have P:Inv X pins σ H1 {J with heap:=h'}:=d.kept (t':=J.toks) F;refine KW v ?_;refine⟨J.heap.objs.size+4,[J.heap.objs.size+4,J.heap.objs.size+2,J.heap.objs.size+3,J.heap.objs.size,J.heap.objs.size+1],_,_,H1,rfl,P,turn_zip (zipApart_new O N),⟨v,r,⟨_,_,o⟩,n,m⟩,λb f=>?_,q⟩
  have c:J.heap.objs.size<=b:=by
   simp only[A_,Ez,Ha]at f;rcases f with rfl|rfl|rfl|rfl|rfl
   ·exact GW _ 4
   ·exact GW _ 2
   ·exact GW _ 3
   ·exact u_ _
   ·exact GW _ 1
  exact d.fpOk c (d.hok.fresh c)
theorem ri_zip{R:It->Hp->Prop}(h:iD K W (Ae fa fb) σ H R):iZip K (tD K W b_ fa) (tD K W b_ fb) σ H R:=by
 obtain⟨F,ρ,r,s,p⟩:=h;refine b6 r s (λe Y=>?_) λd hd v F1 H1 J i=>?_
 ·have z:Ae fa fb ρ=.error e:=by unfold Ae;rw[Y];rfl
  rw[z]at p;exact p
 ·refine b6 (r.mono J.ff) J.fh (λe Y=>?_) λc a j F2 H2 I g=>?_
  ·have z:Ae fa fb ρ=.error e:=by unfold Ae;rw[hd,ae,Y];rfl
   rw[z]at p;exact W.mono p J
  ·have z:Ae fa fb ρ=(l7 d).bind λds=>(l7 c).bind λes=>.ok (mV ds es):=by unfold Ae;rw[hd,ae,a,ae]
   rw[z]at p;cases d with
   |lst ds=>
    cases c with
    |lst es=>obtain⟨b,xs,e,t,f⟩:=i;obtain⟨b2,ys,e2,t2,U⟩:=g;have t':=I.ff.lst t;exact⟨b,b2,e,e2,⟨xs,I.fh.lst t'⟩,⟨ys,I.fh.lst t2⟩,p _ F2 H2 (J.trans I) (iter_zip t' (f.mono I.ff) t2 U)⟩
    |_=>exact(W.ns p).elim
   |_=>exact(W.ns p).elim
theorem Ce(U:X.mg "zip"=d_)(d:DE K W b_ X a fa)(c:DE K W b_ X b fb)(Y: ~~~(Gl X "zip"))(J: ~~~(h_ [a,b] X.env=[(b_,Di a X.env),(b_,Di b X.env)]))(I: ~~~(h_ [b] X.env=[(b_,Di b X.env)]))(e: ~~~(X.K=K)):
  DI K W X (.Tuple elts k q) (.Call (.Name "zip" p) [a,b] [] pos) (Ae fa fb):=by
 subst e;exact(pi_zip Y U d c J I).imp λ_ _ _=>ri_zip
end
theorem yc{n:Nat}:∀{ds:List Dat} {d:Dat},jY ds n=e_->d∈ds->okE d n=e_
 |[],d,_,h=>by simp at h|a::ds,d,h,hd=>by
  unfold jY at h;simp only[n_]at h;rcases A_.mp hd with e|e
  ·rw[e];exact h.1
  ·exact yc h.2 e
section
variable{W:dS}{own:Bool}
open Classical in
theorem has_D(I:Inv X pins σ H s)(hF:aO F H){ds:List Dat}{xs:List V}{its:List Value}{a:Dat}{x:V}(od:jY ds 40=true)(oa:okE a 40=true)(qs:aB X.K F ds xs)(rv:Vals xs its)(qa:aP X.K F a x)(ra:RelV x u)(hu:A.units+40<cLine):
  ∃e:Value->Bool,(∀y,y∈its.toArray->SeqAt.EqAt A s y u (e y))/\its.toArray.any e=ds.any λd=>eqD d a:=by
 have each:∀(i:Nat) (y:Value),its[i]?=some y->∃d,ds[i]?=some d/\SeqAt.EqAt A s y u (eqD d a):=λi y hy=>by
  have hi:i<its.length:=(List.getElem?_eq_some_iff.mp hy).1;have h1:i<xs.length:=by rw[rv.length];exact hi
  have h2:i<ds.length:=by rw[<- qs.length];exact h1
  obtain⟨v,e1,q1⟩:=qs.get (List.getElem?_eq_getElem h2);obtain⟨w,e2,r2⟩:=rv.get e1;rw[hy]at e2;cases e2;exact⟨_,List.getElem?_eq_getElem h2,BQ I hF _ a (yc od (List.getElem_mem h2)) oa q1 qa r2 ra hu⟩
 refine⟨λy=>decide (∃(i:Nat) (d:Dat),its[i]?=some y/\ds[i]?=some d/\eqD d a=true),λy hy=>?_,?_⟩
 ·by_cases h:∃(i:Nat) (d:Dat),its[i]?=some y/\ds[i]?=some d/\eqD d a=true
  ·obtain⟨i,d,h1,h2,h3⟩:=h;obtain⟨d',h4,h5⟩:=each i y h1;rw[h2]at h4;cases h4;rw[h3]at h5;have:decide (∃(i:Nat) (d:Dat),its[i]?=some y/\ds[i]?=some d/\eqD d a=true)=true:=decide_eq_true ⟨i,d,h1,h2,h3⟩;show SeqAt.EqAt A s y u (decide _);rw[this];exact h5
  ·have hm:y∈its:=by simpa using hy
   obtain⟨i,hi⟩:=List.getElem?_of_mem hm;obtain⟨d,h4,h5⟩:=each i y hi;have h6:eqD d a=false:=by
    cases hq:eqD d a with
    |false=>rfl|true=>exact absurd ⟨i,d,hi,h4,hq⟩ h
   rw[h6]at h5;show SeqAt.EqAt A s y u (decide _);rw[decide_eq_false h];exact h5
 ·rw[Bool.eq_iff_iff];simp only[List.any_toArray,List.any_eq_true,decide_eq_true_eq];constructor
  ·rintro⟨y,hy,i,d,h1,h2,h3⟩;exact⟨d,List.mem_of_getElem? h2,h3⟩
  ·rintro⟨d,hd,h3⟩;obtain⟨i,hi⟩:=List.getElem?_of_mem hd;have h2:i<ds.length:=(List.getElem?_eq_some_iff.mp hi).1;have h4:i<its.length:=by rw[<- rv.length,qs.length];exact h2
   exact⟨its[i],List.getElem_mem h4,i,d,List.getElem?_eq_getElem h4,hi,h3⟩
theorem o_in(q:X.A.units+64<E8)(o: ~~~(X.K=K)):Op2 K W own X (Dn .In) inM:=by
 subst o;intro pins s σ H x y v u Q I k j h;obtain⟨F,a,b,Y,n,m,p⟩:=h;have c:X.A.in1.units+40<E8:=by show X.A.units+1+40<E8;omega
 cases b with
 |lst ds=>
  obtain⟨l,xs,e,t,z⟩:=m;subst e;cases j;have U:aH X.K W own F H (if (okE a 40&&jY ds 40)=e_ then .ok (.bl (ds.any λd=>eqD d a))else stk) Q:=p;by_cases J:(okE a 40&&jY ds 40)=e_
  ·rw[i_ J]at U;simp only[n_]at J;obtain⟨its,f,pl,_⟩:=I.list (Y.lst t);obtain⟨e,g,i⟩:=has_D (A:=X.A.in1) I Y J.2 J.1 z f n k c;refine SeqAt.in_listAt e pl.isList g ?_;rw[i];exact U.blS Y I
  ·rw[l_ J]at U;exact U.stuck
 |tup ds=>
  obtain⟨l,xs,e,t,z⟩:=m;subst e;cases j;have U:aH X.K W own F H (if (okE a 40&&jY ds 40)=e_ then .ok (.bl (ds.any λd=>eqD d a))else stk) Q:=p;by_cases J:(okE a 40&&jY ds 40)=e_
  ·rw[i_ J]at U;simp only[n_]at J;obtain⟨its,f,pl,_⟩:=I.tuple (Y.tup t);obtain⟨e,g,i⟩:=has_D (A:=X.A.in1) I Y J.2 J.1 z f n k c;refine SeqAt.in_tupleAt e (show s.heap.IsTuple l its.toArray from pl) g ?_;rw[i];exact U.blS Y I
  ·rw[l_ J]at U;exact U.stuck
 |_=>exact aH.stuck p
theorem m5(q:X.A.units+64<E8)(o: ~~~(X.K=K)):Op2 K W own X (Dn .NotIn) ic:=by
 subst o;intro pins s σ H x y v u Q I k j h;obtain⟨F,a,b,Y,n,m,p⟩:=h;have c:X.A.in1.units+40<E8:=by show X.A.units+1+40<E8;omega
 cases b with
 |lst ds=>
  obtain⟨l,xs,e,t,z⟩:=m;subst e;cases j;have U:aH X.K W own F H (if (okE a 40&&jY ds 40)=e_ then .ok (.bl (!ds.any λd=>eqD d a))else stk) Q:=p;by_cases J:(okE a 40&&jY ds 40)=e_
  ·rw[i_ J]at U;simp only[n_]at J;obtain⟨its,f,pl,_⟩:=I.list (Y.lst t);obtain⟨e,g,i⟩:=has_D (A:=X.A.in1) I Y J.2 J.1 z f n k c;refine SeqAt.notIn_listAt e pl.isList g ?_;rw[i];exact U.blS Y I
  ·rw[l_ J]at U;exact U.stuck
 |tup ds=>
  obtain⟨l,xs,e,t,z⟩:=m;subst e;cases j;have U:aH X.K W own F H (if (okE a 40&&jY ds 40)=e_ then .ok (.bl (!ds.any λd=>eqD d a))else stk) Q:=p;by_cases J:(okE a 40&&jY ds 40)=e_
  ·rw[i_ J]at U;simp only[n_]at J;obtain⟨its,f,pl,_⟩:=I.tuple (Y.tup t);obtain⟨e,g,i⟩:=has_D (A:=X.A.in1) I Y J.2 J.1 z f n k c;refine SeqAt.notIn_tupleAt e (show s.heap.IsTuple l its.toArray from pl) g ?_;rw[i];exact U.blS Y I
  ·rw[l_ J]at U;exact U.stuck
 |_=>exact aH.stuck p
end
abbrev ZRec(h:DR)(z p q:g_)(m k:j_):Prop:=h.get? z=a_ {cls:=.type "zip",dict:=d_,data:=.fields #[m,k,.bool b_,.ref p,.ref q],slots:=#[]}
structure Zs(z p q u v l m:g_)(r k a b:j_)(i j:Nat)(xs ys:Array j_)(h:DR):Prop where
 me:ZRec h z p q r k
 its:IsPair h p (.ref u) (.ref v)
 own:IsPair h q a b
 one:h.IsListIter u l i
 two:h.IsListIter v m j
 xl:h.IsList l xs
 yl:h.IsList m ys
noncomputable def Off(z q u v:g_)(h h':DR):Prop:=∀c o,c≠z->c≠q->c≠u->c≠v->h.get? c=a_ o->h'.get? c=a_ o
section
variable{q u v:g_}{a b:j_}{g:DR}
theorem Off.then(A:Off z q u v h h')(B:Off z q u v h' g):Off z q u v h g:=λc o a b d e x=>B c o a b d e (A c o a b d e x)
end
theorem Step.stays(s:Step F H F' H')(n:F a=d_)(h:H a=a_ o):F' a=d_:=by
 cases e:F' a with
 |none=>rfl|some u=>
  rcases s.nw a u e with z|z
  ·rw[n]at z;cases z
  ·rw[h]at z;cases z
structure A8(K:Fg)(F G H:Hp)(ds:List Dat)(vs:List V):Prop where
 len:vs.length=ds.length
 get:∀(k:Nat) (d:Dat),ds[k]?=a_ d->∃a xs es,vs[k]?=a_ (.ref a)/\d=.lst es/\H a=a_ (.lst xs)/\F a=d_/\G a=d_/\aB K F es xs
 ap:∀(j k:Nat) (a:g_),vs[j]?=a_ (.ref a)->vs[k]?=a_ (.ref a)->j=k
section
variable{ds:List Dat} 
theorem A8.step(o:A8 K F G H ds vs)(s:Step F H F' H'):A8 K F' G H' ds vs where
 len:=o.len
 get:=λk d e=>by obtain⟨a,xs,es,h1,h2,I,Y,U,J⟩:=o.get k d e;exact⟨a,xs,es,h1,h2,s.hh _ _ I,s.stays Y I,U,J.mono s.ff⟩
 ap:=o.ap
theorem A8.at(o:A8 K F G H ds vs){k:Nat}{a:g_}(h:vs[k]?=a_ (.ref a)):∃xs es,ds[k]?=a_ (.lst es)/\H a=a_ (.lst xs)/\F a=d_/\G a=d_/\aB K F es xs:=by
 have I:k<ds.length:=by rw[<- o.len];exact(z_.mp h).1
 obtain⟨b,xs,es,h1,h2,c,Y,U,J⟩:=o.get k ds[k] (by simp[I]);rw[h]at h1;cases h1;exact⟨xs,es,by rw[<- h2];simp[I],c,Y,U,J⟩
end
noncomputable def rowAt(rs:List Dat)(a:Int):M (Nat×List Dat):=match ixN rs.length a with
 |some j=>(match rs[j]? with
  |some (.lst es)=>.ok (j,es)|_=>.error .stuck)
 |none=>.error .stuck
noncomputable def setRow(rs:List Dat)(I:Nat×List Dat)(b:Int)(x:Dat):M (List Dat):=match ixN I.2.length b with
 |some k=>.ok (rs.set I.1 (.lst (I.2.set k x)))|none=>.error .stuck
noncomputable def rows3(i:Nat)(rs:List Dat)(x:Dat)(J:Nat×List Dat)(fB:ai->M Dat)(ρ:ai):M Flo:=(fB (ρ.set i d_)).bind λb=>(asI b).bind λb=>(setRow rs J b x).bind λI=>.ok (.nx (ρ.set i (a_ (.lst I))))
noncomputable def rows2(i:Nat)(rs:List Dat)(x:Dat)(fA fB:ai->M Dat)(ρ:ai):M Flo:=(fA (ρ.set i d_)).bind λa=>(asI a).bind λa=>(rowAt rs a).bind λI=>rows3 i rs x I fB ρ
structure RepR(K:Fg)(F0 H0 FB:Hp)(i:Nat)(a:g_)(ys:List V)(rs:List Dat)(F H:Hp)(σ:St)(ρ:ai):Prop where
 r:Rep K F0 H0 FB [] F H σ ρ
 sl:σ[i]?=a_ (a_ (.ref a))
 hp:H a=a_ (.lst ys)
 fa:F a=d_
 ha:H0 a=d_
 nm:∀m:Nat,ys[m]?≠a_ (.ref a)
 ow:A8 K F H0 H rs ys
section
variable{ys:List V}{rs:List Dat} 
theorem RepR.step(h:RepR K F0 H0 FB i a ys rs F H σ ρ)(s:Step F H F1 H1):RepR K F0 H0 FB i a ys rs F1 H1 σ ρ:=
 ⟨h.r.step s,h.sl,s.hh _ _ h.hp,s.stays h.fa h.hp,h.ha,h.nm,h.ow.step s⟩
theorem RepR.base{I:Hp}(h:RepR K F0 H0 FB i a ys rs F H σ ρ)(s:aO I FB):RepR K F0 H0 I i a ys rs F H σ ρ:=⟨h.r.base s,h.sl,h.hp,h.fa,h.ha,h.nm,h.ow⟩
end
section
variable{κ:Type}[DecidableEq κ]
noncomputable def dropK(I:List (κ×V))(k:κ):List (κ×V):=I.filter λJ=>q_ (J.1≠k)
theorem qD.BA{o:Option V}{u:Option j_}(r:qD o u):o.isSome=u.isSome:=by
 cases o with
 |none=>cases u with
  |none=>rfl|some _=>exact(show False from r).elim
 |some _=>cases u with
  |none=>exact(show False from r).elim|some _=>rfl
theorem qD.getD{o:Option V}{u:Option j_}{d:V}{d':j_}(r:qD o u)(I:RelV d d'):RelV (o.getD d) (u.getD d'):=by
 cases o with
 |none=>cases u with
  |none=>exact I|some _=>exact(show False from r).elim
 |some _=>cases u with
  |none=>exact(show False from r).elim|some _=>exact r
theorem KV.drop{I:List (κ×V)}{vs:List (κ×j_)}(r:KV I vs)(k:κ):KV (dropK I k) (without vs k):=by
 unfold KV at r ⊢;unfold dropK without
 induction r with
 |nil=>exact .nil|@cons p q ps Y h t J=>
  obtain⟨h1,h2⟩:=h;rw[J_,J_];by_cases e:p.1=k
  ·have a:¬q_ (p.1≠k)=e_:=by simp[e]
   have b:¬q_ (q.1≠k)=e_:=by simp[h1.symm.trans e]
   rw[l_ a,l_ b];exact J
  ·have U:¬q.1=k:=λz=>e (h1.trans z);have a:q_ (p.1≠k)=e_:=by simp[e]
   have b:q_ (q.1≠k)=e_:=by simp[U]
   rw[i_ a,i_ b];exact .cons ⟨h1,h2⟩ J
theorem KV.length{I:List (κ×V)}{vs:List (κ×j_)}(r:KV I vs):I.length=vs.length:=He r
end
abbrev KT(H:Hp):List (List Key×V)->List (List Key×g_×j_)->Prop:=Gv λp q=>p.1=q.1/\H q.2.1=a_ (.tup (p.1.map kV))/\RelV p.2 q.2.2
theorem KT.keeps{I:List (List Key×V)}{xs:List (List Key×g_×j_)}(r:KT H I xs)(J:∀b ys,H b=a_ (.tup ys)->H' b=a_ (.tup ys)):KT H' I xs:=
 Paired.mapP r λ_ _ z=>⟨z.1,J _ _ z.2.1,z.2.2⟩
theorem Inv.big(I:Inv X pins σ H s):FQ<s.heap.objs.size:=by have h:Du<s.heap.objs.size:=(I.mod.glob.keeps I.bk).lt;exact G4 (by decide) h
structure M2(X:Cx)(o:Ed)(m:o_)(apos:Pos)(e f:Ed)(cpos:Pos):Prop where
 base:Ei o m X.env (Di o X.env)=Di o X.env
 few:((DB cpos (h_ [e,f] X.env)).all (λx=> !x.1)&&(EX cpos (D_ [] X.env)).all (λx=>x.1.isSome)
  &&q_ (([e,f]:List Ed).length+([]:List FU).length+(if ([]:List FU).isEmpty then 0 else 1)<30))=e_
 line:(apos.endLine==cpos.line)=e_
 trees:DB cpos (h_ [e,f] X.env)=[(b_,Di e X.env),(b_,Di f X.env)]
noncomputable def keysI(ks:List Int):List (Key×V):=ks.map λk=>(Hg k,.bl e_)
structure RepK(K:Fg)(F0 H0 FB:Hp)(i:Nat)(a:g_)(ks:List Int)(F H:Hp)(σ:St)(ρ:ai):Prop where
 r:Rep K F0 H0 FB [] F H σ ρ
 sl:σ[i]?=a_ (a_ (.ref a))
 hp:H a=a_ (.dK (keysI ks))
 fa:F a=d_
 ha:H0 a=d_
section
variable{ks:List Int} 
theorem RepK.step(h:RepK K F0 H0 FB i a ks F H σ ρ)(s:Step F H F1 H1):RepK K F0 H0 FB i a ks F1 H1 σ ρ:=
 ⟨h.r.step s,h.sl,s.hh _ _ h.hp,s.stays h.fa h.hp,h.ha⟩
end
structure ExA(h:DR)(e:g_)(C:j_)(dx hd:Option g_):Prop where
 ob:∃oe vs,h.get? e=a_ oe/\oe.cls=C/\oe.dict=dx/\oe.data=.fields vs/\vs[1]?=a_ (hd.elim FD CU)
 tb:∀T,hd=a_ T->T≠e/\∃oT ts,h.get? T=a_ oT/\oT.data=.fields ts/\ts[3]?=a_ .none
theorem dictMapF(f:Array j_->Array j_)(o:G8):(o.mapFields f).dict=o.dict:=by obtain⟨c,d,I,J⟩:=o;cases I<;>rfl
theorem size3{l:List j_}(h:3<l.length):3<l.toArray.size:=by rw[B_];exact h
section
variable{M:HQ}{E:Vp} 
theorem mkEntry{U I:j_}{pl:List j_}{Q:Vp}(J:IsPlace pl)(h:∀(o:G8) (ts:Array j_),o.data=.fields ts->3<ts.size->o.isFreed=b_->Q (.ref s.heap.objs.size) {s with heap:=s.heap.push o}):
  CT M A (G0 hv U .none I .none pl) Q E s:=by
 unfold G0 newFields;refine Ia (h _ _ rfl (size3 ?_) ?_) (J.sizeOk5 _ _ _ _ _)
 ·simp
 ·exact Gg rfl
structure Left(fs:List g_)(e:g_)(hd:Option g_)(h h':DR):Prop where
 keep:∀b o,h.get? b=a_ o->b∉fs->b≠e->(∀T,hd=a_ T->b≠T)->h'.get? b=a_ o
 slot:∀b o,h.get? b=a_ o->b∈fs->∃sl,h'.get? b=a_ {o with slots:=sl}
 size:h.objs.size<=h'.objs.size
theorem entry_at{base:DR}{e:g_}{C:j_}{dx:Option g_}{vs:Array j_}{Q:Unit->x_->Prop}(k:A.frames=a_ (env::outer))(B:s.heap.FunFrames base (env::outer))(P:env.frame=a_ L)(D:s.heap.get? e=a_ oe)(R:oe.cls=C)(m:oe.dict=dx)(hd:oe.data=.fields vs)(i:1<vs.size)(h:∀h' T,ExA h' e C dx (a_ T)->s.heap.objs.size<=T->Left (frs (env::outer)) e d_ s.heap h'->Q () {s with heap:=h'}):
  CT M A (frameOf env >>=λa=>entryPlaceOf L bn >>=λpl=>G0 hv a .none (HX L) .none pl >>=λb=>setField (.ref e) 1 b) (λ_ s'=>CT M A (HE (.ref e) d_) Q E s') E s:=by
 have Y:∀b o,b∈frs (env::outer)->s.heap.get? b=a_ o->∀vs,o.data≠.fields vs:=λb o j q=>by obtain⟨_,o',J,n⟩:=B.mem j;rw[q]at J;cases J;exact n
 have U:e∉frs (env::outer):=λj=>Y e oe j D vs hd;refine p_ (wpAny_frameOf_fun k B P λh1 K=>?_);obtain⟨v,u,H⟩:=K;refine p_ (wpAny_entryPlaceOf λpl O=>?_);refine p_ (mkEntry O λo ts y F l=>?_);have e1:h1.get? e=a_ oe:=by rw[u e U];exact D
 have g:h1.objs.size≠e:=λz=>Dc (v_ e1) (by rw[z];exact D3 _);have e2:(h1.push o).get? e=a_ oe:=t_ o e1;have t2:(h1.push o).get? h1.objs.size=a_ o:=Df h1 l;refine Hv e2 hd i ?_;have t:=Hz hd (·.setIfInBounds 1 (CU h1.objs.size));have e3:=Gd (h:=h1.push o) (Ht (·.setIfInBounds 1 (CU h1.objs.size))) e2 (Gg t);have w:((h1.push o).update e (Ht (·.setIfInBounds 1 (CU h1.objs.size)))).get? h1.objs.size=a_ o:=by rw[DC _ _ (DL g)];exact t2
 unfold HE;refine p_ (Ga e3 t (x:=.ref h1.objs.size) (by simp[i]) ?_);rw[i_ (by simp)];refine Hv w y F ?_;have G:=Hz y (·.setIfInBounds 3 ((d_:Option g_).elim FD λf=>HX f));refine h _ h1.objs.size ⟨⟨_,_,by rw[DC _ _ g];exact e3,by rw[Obj.cls_mapFields];exact R,by rw[dictMapF];exact m,t,by simp[i]⟩,λT S=>?_⟩ (by rw[v];exact u_ _) ⟨λb o' q r p _=>?_,λb o' q r=>?_,?_⟩
 ·cases S;exact⟨g,_,_,Gd _ w (Gg G),G,by simp[F]⟩
 ·have I:h1.get? b=a_ o':=by rw[u b r];exact q
  have d:h1.objs.size≠b:=λz=>Dc (v_ I) (by rw[z];exact D3 _);rw[DC _ _ d,DC _ _ (DL p)];exact t_ o I
 ·obtain⟨N,I⟩:=H b o' q;have d:h1.objs.size≠b:=λz=>Dc (v_ I) (by rw[z];exact D3 _);have c:e≠b:=λz=>U (z▸r);refine⟨N,?_⟩
  rw[DC _ _ d,DC _ _ c];exact t_ o I
 ·rw[Gh,Gh,Eo,v];exact DF _
theorem leave2{base:DR}{e:g_}{C:j_}{dx hd:Option g_}{Q:Unit->x_->Prop}(g:A.frames=a_ (env::outer))(m:s.heap.FunFrames base (env::outer))(p:env.frame=a_ L)(x:ExA s.heap e C dx hd)(h:∀h' T,ExA h' e C dx (a_ T)->s.heap.objs.size<=T->Left (frs (env::outer)) e hd s.heap h'->Q () {s with heap:=h'}):CT M A (JH (.ref e) env) (λ_ s'=>CT M A (HE (.ref e) d_) Q E s') E s:=by
 obtain⟨oe,vs,j,y,i,J,h1⟩:=x.ob;have w:1<vs.size:=(GD.mp h1).1;unfold JH;simp only[p];cases hd with
 |none=>refine p_ (Ga j J h1 ?_);rw[l_ (by decide)];exact entry_at g m p j y i J w λh' T a b c=>h h' T a b c
 |some T=>
  obtain⟨k,F,ts,u,U,B⟩:=x.tb T rfl;have l:3<ts.size:=(GD.mp B).1;refine p_ (Ga j J h1 ?_);rw[i_ (by simp)];refine p_ (Ga (x:=.none) u U B ?_);rw[l_ (by simp[HX])];refine p_ (Hv u U l ?_);have I:∀b,b≠T->(s.heap.update T (Ht (·.setIfInBounds 3 FD))).get? b=s.heap.get? b:=λb Y=>DC _ _ (DL Y);have v:∀b o,s.heap.get? b=a_ o->(∀vs,o.data≠.fields vs)->b≠T:=λb o q n z=>by subst z;rw[u]at q;cases q;exact n ts U
  refine entry_at g (m.of_keeps λb o q n=>⟨o,by rw[I b (v b o q n)];exact q,rfl⟩) p (by rw[I e (DL k)];exact j) y i J w λh' D a b c=>?_;refine h h' D a (by rw[Gh]at b;exact b) ⟨λd o q Y r t=>c.keep d o (by rw[I d (t T rfl)];exact q) Y r (λ_ z=>nomatch z),λd o q Y=>?_,?_⟩
  ·obtain⟨_,o',f,n⟩:=m.mem Y;rw[q]at f;cases f;exact c.slot d o (by rw[I d (v d o q n)];exact q) Y
  ·have:=c.size;rw[Gh]at this;exact this
theorem leave_at{base:DR}{e:g_}{C:j_}{dx hd:Option g_}{Q:Unit->x_->Prop}(I:A.frames=a_ (env::outer))(J:s.heap.FunFrames base (env::outer))(U:env.frame=a_ L)(x:ExA s.heap e C dx hd)(h:∀h' T,ExA h' e C dx (a_ T)->s.heap.objs.size<=T->Left (frs (env::outer)) e hd s.heap h'->Q () {s with heap:=h'}):CT M A (KD env (.ref e)) Q E s:=by unfold KD;exact p_ (leave2 I J U x h)
end
structure CXs(P:Ec)(w:Ek)(outer:List Iq)(H:Hp)(s:x_)(E:XK)(a T:g_)(C:j_)(dx:Option g_)(H':Hp)(s':x_):Prop where
 ex:ExA s'.heap a C dx (a_ T)
 na:s.heap.get? a=d_
 nT:s.heap.get? T=d_
 fa:H' a=d_
 fT:H' T=d_
 os:s'.os=s.os
 bare:G1 s'.gens
 un:Un (frs outer) [] H H' s.heap s'.heap
 hok:HOk P w H' s'.heap
 want:E C dx H'
noncomputable def CXd(P:Ec)(w:Ek):CXT:=λouter H s E e s'=>∃(a T:g_) (C:j_) (dx:Option g_) (H':Hp),e=.ref a/\CXs P w outer H s E a T C dx H' s'
theorem get_none(z:h.objs.size<=a):h.get? a=d_:=by
 cases e:h.get? a with
 |none=>rfl|some o=>exact Dc (v_ e) (IE.mpr z)
theorem Inv.kz(I:Inv X pins σ H s)(J:X.ex=[])(e:s.heap.get? a=d_):X.s₀.heap.get? a=d_:=by
 cases q:X.s₀.heap.get? a with
 |none=>rfl|some o=>obtain⟨o',z⟩:=I.base.there a o q (by rw[J];exact λz=>nomatch z);rw[e]at z;cases z
theorem eo.is(x:eo P w H h a o):∃u,h.get? a=a_ u:=by
 cases o with
 |lst xs=>obtain⟨_,_,_,_,e⟩:=x;exact⟨_,e⟩
 |tup xs=>obtain⟨_,_,_,J,e,_⟩:=x;exact⟨_,e⟩
 |dK I=>obtain⟨_,_,_,_,o,_,_,e,_⟩:=x;exact⟨_,e⟩
 |dT I=>obtain⟨_,_,_,_,o,_,_,e,_⟩:=x;exact⟨_,e⟩
 |set S n=>obtain⟨o,_,_,_,e,_⟩:=x;exact⟨_,e⟩
 |ins C dx fs=>obtain⟨_,_,_,e,_⟩:=x;exact⟨_,e⟩
 |own y=>exact x|xd fs=>obtain⟨_,⟨_,_,_,e,_⟩,_⟩:=x;exact⟨_,e⟩
 |rng lo hi=>obtain⟨_,_,_,e⟩:=x;exact⟨_,e⟩
 |frz J u=>obtain⟨e,_⟩:=x;exact⟨_,e⟩
 |tbl ps=>exact⟨_,show h.get? a=a_ _ from x⟩|met f y=>exact⟨_,show h.get? a=a_ _ from x⟩|ext U=>obtain⟨_,e,_⟩:=x;exact e
theorem HOk.off(x:HOk P w H h)(e:h.get? a=d_):H a=d_:=by
 cases q:H a with
 |none=>rfl|some o=>obtain⟨u,z⟩:=(x a o q).is;rw[e]at z;cases z
section
variable{base:DR} 
theorem xe_of{s':x_}{C:j_}{dx hd:Option g_}(J:Inv (tM (CXd P w) P w K mg base N qual scope f cd A outer s H E) pins σ H' s')(x:ExA s'.heap a C dx hd)(p:s.heap.get? a=d_)(D:∀T,hd=a_ T->s.heap.get? T=d_/\H' T=d_)(fa:H' a=d_)(q:E C dx H'):(tM (CXd P w) P w K mg base N qual scope f cd A outer s H E).xe (.ref a) s':=by
 have e0:=J.env0;have t:∀b∈frs (Fn qual scope s.heap.objs.size f cd::outer),H' b=d_:=e0.frf;have m:∀b o,s.heap.get? b=a_ o->b≠a/\(∀T,hd=a_ T->b≠T)/\b<s.heap.objs.size:=λb o e=>by have U:=v_ e;exact⟨λz=>(by subst z;rw[e]at p;cases p),λT h z=>(by subst z;have:=(D _ h).1;rw[e]at this;cases this),U⟩
 have i:∀b,b<s.heap.objs.size->b∈frs (Fn qual scope s.heap.objs.size f cd::outer)->b∈frs outer:=λb U r=>by
  rcases Fq.mp r with⟨v,hv,e⟩
  rcases A_.mp hv with z|z
  ·subst z;have:s.heap.objs.size=b:=by simpa[Fn] using e
   omega
  ·exact Fq.mpr ⟨v,z,e⟩
 have Y:∀b,b∈frs outer->b∈frs (Fn qual scope s.heap.objs.size f cd::outer):=λb r=>by
  rcases Fq.mp r with⟨v,hv,e⟩
  exact Fq.mpr ⟨v,Dl _ hv,e⟩
 have I:Un (frs outer) [] H H' s.heap s'.heap:=J.base;show CT (Dd P w) (A.deeper (Fn qual scope s.heap.objs.size f cd)) (KD (Fn qual scope s.heap.objs.size f cd) (.ref a)) (λ_ d=>CXd P w outer H s E (.ref a) d) (λy d=>CXd P w outer H s E y d) s';refine leave_at (base:=base) e0.frames e0.uU rfl x λh' T O h k=>⟨a,T,C,dx,H',rfl,O,p,get_none (Dz (show s.heap.objs.size<=s'.heap.objs.size from J.sz) h),fa,?_,J.os,J.bare,?_,?_,q⟩
 ·exact J.hok.fresh h
 ·have B:∀b o,s.heap.get? b=a_ o->∀o',s'.heap.get? b=a_ o'->b∉frs outer->h'.get? b=a_ o':=λb o e o' y U=>by
   obtain⟨L,G,F⟩:=m b o e;exact k.keep b o' y (λz=>U (i b F z)) L G
  refine⟨λb o e n U j=>B b o e o (I.keep b o e n U j) U,λb o e n U j=>?_,I.free,λb o e j=>?_,I.tups,I.frzs,I.tbls⟩
  ·obtain⟨Q,e1⟩:=I.slot b o e n U j;obtain⟨l,e2⟩:=k.slot b _ e1 (Y b U);exact⟨l,e2⟩
  ·obtain⟨o',e1⟩:=I.there b o e j;by_cases U:b∈frs outer
   ·obtain⟨Q,e2⟩:=k.slot b o' e1 (Y b U);exact⟨_,e2⟩
   ·exact⟨o',B b o e o' e1 U⟩
 ·intro b o e;refine(J.hok b o e).vR (λc u R e1=>?_) (λ_ z=>z) λ_ _ z=>z;have g:H' c≠d_:=by
   rcases R with z|z
   ·rw[z,e];exact λz=>nomatch z
   ·rw[z];exact λz=>nomatch z
  exact k.keep c u e1 (λz=>g (t c z)) (λz=>g (by rw[z];exact fa)) λT h z=>g (by rw[z];exact(D T h).2)
theorem zi:Passes (CXd P w) (tM (CXd P w) P w K mg base N qual scope f cd A outer s H E) E:=by rintro pins σ H1 Y e s' I ⟨a,T,C,dx,H',rfl,z⟩;have J:=I.call' z.os z.un z.hok z.bare (λ_ h=>nomatch h);exact xe_of J z.ex (I.kz rfl z.na) (λb U=>by cases U;exact⟨I.kz rfl z.nT,z.fT⟩) z.fa z.want
end
theorem BO(X:K.In h)(q:FN K C bmB newId=e_):
  ∃tl N nm c bs hdct sn sub ab col dd k0 k1 k2 k3 k5 mN,h.get? C=a_ (GY nm c C N bs tl hdct sn sub ab col dd k0 k1 k2 k3 k5 newId)/\h.Ns N mN/\mN "__init__"=d_/\JZ h bmB tl:=by
 unfold FN at q;split at q
 next dd cd b e=>
  split at q
  next a tl k0 k1 k2 k3 n k5 f d=>
   obtain⟨r,p,J,o,m,k,j,i,g,U,I⟩:=cd;obtain⟨l⟩:=b;simp only[n_]at q;obtain⟨⟨⟨⟨⟨y,x⟩,w⟩,v⟩,Y⟩,u⟩:=q;have b1:a=C:=Et.mp y;have b2:n=newId:=Et.mp x;have b3:I=b_:=by cases I<;>first|rfl|cases w
   have t:J=CU a::tl:=f;have s:l=[k0,k1,k2,k3,a_ (.builtin n),k5]:=d;subst b1 b2 b3 t s;exact⟨tl,o,r,m,p,k,j,i,g,U,dd,k0,k1,k2,k3,k5,_,X _ _ e,.of_isNs (Hd X Y),PySem.W.nsMap_none_of_in X Y (Et.mp u),Jb X v⟩
  next=>cases q
 next=>cases q
noncomputable def XEq(X:Cx)(E:XK)(C:g_):Prop:=∀(pins:Pn) (σ:St) (H:Hp) (s':x_) (a:g_),Inv X pins σ H s'->ExA s'.heap a (.ref C) d_ d_->X.s₀.heap.get? a=d_->H a=d_->E (.ref C) d_ H->X.xe (.ref a) s'
noncomputable def tRaise(te:TE)(C:g_)(E:XK):TS:=λ_ σ H=>te σ H λ_ H1=>E (.ref C) d_ H1
theorem yb(FB:Fw B newId initId bmB)(n:XEq X E C)(r:PE X e te)(p:Gl X x)(U:X.mg x=a_ (.ref C))(w:FN X.K C bmB newId=e_)(hh:X.A.handled=d_)(b: ~~~(X.ex=[]))(c:((x==("__debug__":o_))=b_)⁻¹)(a: ~~~(h_ [e] X.env=[(b_,Di e X.env)])):PS X (.Raise (a_ (.Call (.Name x np) [e] [] cpos)) d_ pos) (tRaise te C E):=by
 intro pins s σ H D I h;obtain⟨tl,N,nm,i,bs,hdct,sn,sub,ab,col,dd,k0,k1,k2,k3,k5,mN,m,l,k,f⟩:=BO I.mod.kin w;refine wpAny_Raise_call_subT FB (C:=C) (nm:=nm) (q:=i) (N:=N) (bs:=bs) (bm:=tl) (hdct:=hdct) (sn:=sn) (sub:=sub) (ab:=ab) (col:=col) (dd:=dd) (k0:=k0) (k1:=k1) (k2:=k2) (k3:=k3) (k5:=k5) (mN:=mN)
  (f.hasType FB.hasBase) hh (by rw[a];rfl) k (gq I p U ⟨rfl,?_⟩ c)
 rw[a];refine G9 (GB (thn (r pins s σ H _ I h) λv d o=>?_));obtain⟨y,H1,Y,F,j⟩:=o;refine HA ⟨rfl,?_,Y.bk _ _ m,l.keeps Y.bk,f.keeps Y.bk,λh' e U=>?_⟩
 ·have:=Dq;show 1<=m_;omega
 ·obtain⟨t,g,A,z⟩:=U.there;have J:Inv X pins σ H1 {d with heap:=h'}:=Y.kept (t':=d.toks) U.keeps;exact n pins σ H1 _ e J ⟨⟨_,_,g,rfl,rfl,rfl,rfl⟩,λT u=>nomatch u⟩ (Y.kz b U.new) (Y.hok.off U.new) j
section
variable{base:DR} 
theorem xeqD:XEq (tM (CXd P w) P w K mg base N qual scope f cd A outer s H E) E C:=λ_ _ _ _ _ J x I fa q=>xe_of J x I (λT U=>nomatch U) fa q
end
noncomputable def WE(K:Fg)(E:XK):dS where
 p:=λe F H=>match e with
  |.stuck=>False|.exc C fs=>∀F' H',Step F H F' H'->match fs with
   |[]=>E (.ref C) d_ H'|fs=>∀d gs,F' d=a_ (.xd gs)->ir K F' fs gs->E (.ref C) (a_ d) H'
 mono:=λ{e F H F' H'} h s=>by
  cases e with
  |stuck=>exact h|exc C fs=>exact λF2 H2 I=>h F2 H2 (s.trans I)
 ns:=λh=>h
noncomputable def noX{α:Type}:M α->M α
 |.ok d=>.ok d|.error _=>.error .stuck
@[simp] theorem dJ{α:Type}(d:α):noX (.ok d:M α)=.ok d:=id rfl
noncomputable def zN{α:Type}(f:ai->M α):ai->M α:=λρ=>noX (f ρ)
@[simp] theorem e_fNoX{α:Type}(f:ai->M α)(ρ:ai):zN f ρ=noX (f ρ):=id rfl
section
variable{W:dS} 
theorem lD{st:List DX}{g:ai->M Flo}(h:DSs K Wno ro X.nox OL O O' st g):DSs K W ro X OL O O' st (zN g):=λF0 H0=>PSs.imp (PSs.nox (h F0 H0)) λD σ H ⟨FB,F,ρ,r,p⟩=>by
 refine⟨FB,F,ρ,r,?_⟩
 have p:gT K W ro F0 H0 FB OL O' D (noX (g ρ)):=p;unfold gT at p ⊢;cases e:g ρ with
 |ok fl=>rw[e]at p;cases fl<;>exact p
 |error x=>rw[e]at p;exact(W.ns p).elim
end
noncomputable def sExc(C:g_):ai->M Flo:=λ_=>.error (.exc C [])
@[simp] theorem e_sExc(C:g_)(ρ:ai):sExc C ρ=.error (.exc C []):=id rfl
section
variable{t:o_}{j1:Nat}
theorem lE{j1}(FB:Fw B newId initId bmB)(Y:XEq X E C)(a:X.mg x=a_ (.ref C))(c:FN X.K C bmB newId=e_)(hh:X.A.handled=d_)(b: ~~~(Gl X x))(J: ~~~(X.ex=[]))(U:((x==("__debug__":o_))=b_)⁻¹)(I: ~~~(h_ [.Constant (.str t) j1 p1] X.env=[(b_,Di (.Constant (.str t) j1 p1) X.env)])):
  DS K (WE K E) ro X OL O O' (.Raise (a_ (.Call (.Name x np) [.Constant (.str t) j1 p1] [] cpos)) d_ pos) (sExc C):=λF0 H0=>PS.imp (yb FB Y uF b a c hh J U I) λD σ H ⟨d,F,ρ,r,p⟩=>by
 have q:(WE K E).p (.exc C []) F0 H0:=p;exact q F H r.st
end
noncomputable def spX(K:Fg)(ro:Bool)(g:List Dat->M Dat)(n:Nat):Sp:=λvs H Q E=>∃F ds,aO F H/\aB K F ds vs/\ds.length=n/\aH K (WE K E) ro F H (g ds) Q
section
variable{fr:ai->M (List Dat)} 
theorem tw{g:ai->M Flo}(F:eZ X.prog X.w X.K X.mg X.base CX k fad fd ps (spX K ro (cv nN n g) n))(d:Passes CX X E)(f:fV k X.A)(i:X.mg x=a_ (.ref fad))(j:Fh X.K (.ref fad)=e_)(m:Binds X.K fd ps [])(o:DA K (WE K E) X (e::es) fr)(l: ~~~(Gl X x))(Y:((x==("__debug__":o_))=b_)⁻¹)(J: ~~~(h_ (e::es) X.env=(b_,Di e X.env)::h_ es X.env))(U: ~~~((DB pos (h_ es X.env)).any (·.1)=b_)):
  DE K (WE K E) ro X (.Call (.Name x p) (e::es) [] pos) (fL (cv nN n g) fr):=by
 refine PE.imp (iu F f l i j m .nil d o Y J U) λσ H Q h=>?_;obtain⟨F,ρ,r,s,p⟩:=rd_L h;refine⟨F,ρ,r,s,?_⟩
 cases e1:fr ρ with
 |error z=>rw[e1]at p;exact p|ok ds=>
  rw[e1]at p;intro vs F' H' st q;obtain⟨F1,I,b,c,z⟩:=p vs F' H' st q;show spX K ro (cv nN n g) n (vs++[]) H' Q E;rw[Ft];by_cases a:I.length=n
  ·exact⟨F1,I,b,c,a,z⟩
  ·rw[sj a]at z;exact aH.stuck z
end
section
variable{base:DR}
theorem fn_X(F:Fun K x qual st f fd)(S:eA N ps (aA st))(ro:Bool)(g:ai->M Flo)(c:∀(cdv:j_) (A:Fm) (outer:List Iq) (s:x_) (H:Hp) (E:XK),fV k (A.deeper (Fn qual (aA st) s.heap.objs.size f cdv)) ->
   DSs K (WE K E) ro (tM (CXd P w) P w K mg base N qual (aA st) f cdv A outer s H E) [] [] O' (bQ st) g):eZ P w K mg base (CXd P w) (k+1) f fd ps (spX K ro (cv N.length ps.length g) ps.length):=by
 obtain⟨oc,od,kV,doc,pm,an,cdv,ct,osl,rfl,U,I⟩:=F.ex;refine fn_of U I S (λvs H Q E ⟨F,ds,s,q,l,p⟩=>by rw[q.length,l]) λA outer s H vs Q E Y b=>?_;obtain⟨F1,ds,J,q,l,p⟩:=b;refine⟨_,c cdv A outer s H E Y F1 H,F1,F1,ds.map a_++D7 (N.length-ds.length) d_,?_,?_⟩
 ·refine⟨Step.refl J,aO.refl _,?_,λi d e _=>uf q e,(λi d e h=>nomatch h),(λi j ds es a h=>nomatch h)⟩
  unfold start;rw[CV,CV,y_,y_,Ew,Ew,q.length]
 ·have e1:cv N.length ps.length g ds=(g (ds.map a_++D7 (N.length-ds.length) d_)).bind λfl=>match fl with
   |.nx _=>.ok .non|.rt d=>.ok d|_=>stk:=by unfold cv;exact i_ l
  rw[e1]at p;cases e2:g (ds.map a_++D7 (N.length-ds.length) d_)with
  |error z=>rw[e2]at p;exact p|ok fl=>
   rw[e2]at p;cases fl with
   |nx ρ=>exact λσ F H r=>p .non F H r.st (by cases ro<;>rfl)
   |rt d=>exact λv F H st q=>p v F H st q|bk ρ=>exact aH.stuck p|ct ρ=>exact aH.stuck p
end
section
variable{C:j_}{dx hd:Option g_}
structure Apart(X:Cx)(pins:Pn)(H:Hp)(s:x_)(a:g_)(hd:Option g_):Prop where
 na:X.s₀.heap.get? a=d_
 fa:H a=d_
 pa:∀p∈X.pn++pins,p.1≠a
 nT:∀T,hd=a_ T->X.s₀.heap.get? T=d_/\H T=d_/\∀p∈X.pn++pins,p.1≠T
theorem Inv.left(I:Inv X pins σ H s)(hx:X.ex=[])(x:ExA s.heap a C dx hd)(g:Apart X pins H s a hd)(Y:Left (frs X.stack) a hd s.heap h'):Inv X pins σ H {s with heap:=h'}:=by
 have e0:=I.env0;obtain⟨oe,vs,S,_,_,F,_⟩:=x.ob;have D:∀b o,s.heap.get? b=a_ o->(∀vs,o.data≠.fields vs)->b≠a/\∀T,hd=a_ T->b≠T:=λb o e n=>by
  refine⟨λz=>?_,λT f z=>?_⟩
  ·subst z;rw[S]at e;cases e;exact n vs F
  ·subst z;obtain⟨_,oT,ts,h1,h2,_⟩:=x.tb _ f;rw[h1]at e;cases e;exact n ts h2
 have B:∀b∈frs X.stack,H b=d_:=e0.frf;have A:∀b o,s.heap.get? b=a_ o->(∀vs,o.data≠.fields vs)->∃l,h'.get? b=a_ {o with slots:=l}:=λb o e n=>by
  obtain⟨j,h⟩:=D b o e n;by_cases U:b∈frs X.stack
  ·exact Y.slot b o e U
  ·exact⟨o.slots,Y.keep b o e U j h⟩
 have t:∀b o,X.s₀.heap.get? b=a_ o->b≠a/\∀T,hd=a_ T->b≠T:=λb o e=>⟨λz=>(by subst z;rw[g.na]at e;cases e),λT f z=>(by subst z;rw[(g.nT _ f).1]at e;cases e)⟩
 have N:s.heap.UpToSlots h':=A;have w:X.s₀.heap.get? X.env.locals=d_:=get_none I.ok.above;have out:∀b,b≠X.env.locals->b∉X.fs->b∉frs X.stack:=λb h1 h2 Z=>by
  rcases A_.mp (I.qK b Z)with z|z
  ·exact h1 z
  ·exact h2 z
 have y:∀c v,s.heap.IsCell c v->h'.IsCell c v:=λc v ⟨o,h1,h2⟩=>by obtain⟨l,z⟩:=A c o h1 (λvs q=>by rw[h2]at q;cases q);exact⟨_,z,h2⟩
 refine⟨I.ok,I.os,I.bare,?_,?_,λx c e=>?_,I.free,I.freeC,λp E=>?_,?_,I.len⟩
 ·have K:∀b o,X.s₀.heap.get? b=a_ o->∀o',s.heap.get? b=a_ o'->∃l,h'.get? b=a_ {o' with slots:=l}:=λb o e o' L=>by
   obtain⟨j,h⟩:=t b o e;by_cases U:b∈frs X.stack
   ·exact Y.slot b o' L U
   ·exact⟨o'.slots,Y.keep b o' L U j h⟩
  refine⟨λb o e n U J=>?_,λb o e n U J=>?_,I.base.free,λb o e J=>?_,I.base.tups,I.base.frzs,I.base.tbls⟩
  ·obtain⟨j,h⟩:=t b o e;exact Y.keep b o (I.base.keep b o e n U J) (out b (λz=>by rw[z,w]at e;cases e) U) j h
  ·obtain⟨l,e1⟩:=I.base.slot b o e n U J;obtain⟨k,e2⟩:=K b o e _ e1;exact⟨k,e2⟩
  ·obtain⟨o',e1⟩:=I.base.there b o e J;obtain⟨k,e2⟩:=K b o e _ e1;exact⟨_,e2⟩
 ·obtain⟨m,Q,R⟩:=I.loc;refine⟨m,N.ns Q,λi x v e1 e2 e3=>?_⟩
  obtain⟨u,r,P⟩:=R i x v e1 e2 e3;refine⟨u,r,?_⟩
  rcases P with z|⟨z,c,c1,c2⟩
  ·exact .inl z
  ·exact .inr ⟨z,c,c1,y c _ c2⟩
 ·obtain⟨v,z⟩:=I.cell x c e;exact⟨v,y c v z⟩
 ·obtain⟨p1,p2,p3,G,O⟩:=I.pin p E;exact⟨Y.keep p.1 p.2 p1 (out p.1 p3 G) (g.pa p E) λT f=>(g.nT T f).2.2 p E,p2,p3,G,O⟩
 ·intro b o e;refine(I.hok b o e).vR (λc u W e1=>?_) (λ_ z=>z) λ_ _ z=>z;have d:H c≠d_:=by
   rcases W with z|z
   ·rw[z,e];exact λz=>nomatch z
   ·rw[z];exact λz=>nomatch z
  exact Y.keep c u e1 (λz=>d (B c z)) (λz=>d (by rw[z];exact g.fa)) λT f z=>d (by rw[z];exact(g.nT T f).2.1)
end
noncomputable def PEat(X:Cx)(pins:Pn)(σ:St)(e:Ed)(t:TE):Prop:=∀(s:x_) (H:Hp) (Q:VK),Inv X pins σ H s->t σ H Q->CT (Dd X.prog X.w) X.A (Di e X.env) (EP X pins σ Q) X.xe s
noncomputable def PSat(X:Cx)(pins:Pn)(σ:St)(st:DX)(t:TS):Prop:=∀(s:x_) (H:Hp) (D:Ends),Inv X pins σ H s->t D σ H->CT (Dd X.prog X.w) X.A (exec st X.env) (SP X pins D) X.xe s
noncomputable def PSsAt(X:Cx)(pins:Pn)(σ:St)(st:List DX)(t:TS):Prop:=∀(s:x_) (H:Hp) (D:Ends),Inv X pins σ H s->t D σ H->CT (Dd X.prog X.w) X.A (execs st X.env) (SP X pins D) X.xe s
noncomputable def gA(CX:CXT)(X:Cx)(pins:Pn)(σ:St)(E:XK):Prop:=∀(H:Hp) (s:x_) (e:j_) (s':x_),Inv X pins σ H s->CX X.stack H s E e s'->X.xe e s'
section
variable{t:TS} 
theorem at_one(h:PSat X pins σ st t):PSsAt X pins σ [st] t:=λs H D I q=>by
 refine Iv (thn (h s H D I q) λf J z=>?_);cases f with
 |next=>exact GH z|_=>exact z
theorem CB(Y:PEat X pins σ e te)(U: ~~~(E_ e d_ pos.line X.env=EY b_)):PSat X pins σ (.Expr e pos) (pW te):=λs H D I q=>wpAny_Expr_any (thn (Y s H _ I q) λv b ⟨x,H1,a,c,J⟩=>⟨σ,H1,a,J⟩) I.quiet U
end
section
variable{ds:List j_} 
theorem at_run(F:eZ X.prog X.w X.K X.mg X.base CX k f fd ps sp)(a:fV k X.A)(b:Binds X.K fd ps ds)(hd:Vals dvs ds)(Y:gA CX X pins σ E)(I:Inv X pins σ H s)(r:Vals vs us)(h:sp (vs++dvs) H Q E):CT (Dd X.prog X.w) X.A (Gn (.ref f) us) (EP X pins σ Q) X.xe s:=by
 have U:=r.append hd;refine GR (EM (F.run _ _ s H ⟨us,[]⟩ _ _ Q E a I.env0 (b s us I.kIn (U.length.symm.trans (F.len _ _ _ _ h))) U h) λz s' J=>?_);cases z with
 |error e=>exact Y H s e s' I J|ok fl=>
  cases fl with
  |ret u=>exact I.after J|_=>exact DV J
end
theorem Inv.names{m:Mq}(I:Inv X pins σ H s)(q:h'.Ns X.env.locals m)(U:GZ X.env.locals s.heap h')(t:σ'.length=X.N.length)(hv:∀(i:Nat) (x:o_) (v:V),X.N[i]?=a_ x->σ'[i]?=a_ (a_ v)->Vis X.env.scope x->∃u,RelV v u/\Look X.env s.heap m x u):Inv X pins σ' H {s with heap:=h'}:=by
 have J:∀b o,X.s₀.heap.get? b=a_ o->b≠X.env.locals:=λb o e z=>by subst z;exact Dc (v_ e) (IE.mpr I.ok.above)
 have a:∀x c v,X.env.cells.lookup x=a_ c->s.heap.IsCell c v->h'.IsCell c v:=λx c v e z=>z.sameBut U (I.cne x c e);refine⟨I.ok,I.os,I.bare,⟨λb o e n d Y=>?_,λb o e n d Y=>?_,I.base.free,λb o e Y=>?_,I.base.tups,I.base.frzs,I.base.tbls⟩,⟨m,q,λi x v e1 e2 e3=>?_⟩,λx c e=>?_,I.free,I.freeC,λp l=>?_,λb o e=>?_,t⟩
 ·show h'.get? b=_;rw[U.2 b (J b o e)];exact I.base.keep b o e n d Y
 ·obtain⟨g,z⟩:=I.base.slot b o e n d Y;refine⟨g,?_⟩
  show h'.get? b=_;rw[U.2 b (J b o e)];exact z
 ·obtain⟨o',z⟩:=I.base.there b o e Y;refine⟨o',?_⟩
  show h'.get? b=_;rw[U.2 b (J b o e)];exact z
 ·obtain⟨u,r,k⟩:=hv i x v e1 e2 e3;refine⟨u,r,?_⟩
  rcases k with z|⟨z,c,f,A⟩
  ·exact .inl z
  ·exact .inr ⟨z,c,f,a x c _ f A⟩
 ·obtain⟨v,z⟩:=I.cell x c e;exact⟨v,a x c v e z⟩
 ·obtain⟨p1,p2,p3,j,h⟩:=I.pin p l;refine⟨?_,p2,p3,j,h⟩
  show h'.get? p.1=_;rw[U.2 p.1 p3];exact p1
 ·refine(I.hok b o e).vR (λc u w e1=>?_) (λ_ z=>z) λ_ _ z=>z;show h'.get? c=_;rw[U.2 c λz=>?_]
  ·exact e1
  ·rcases w with y|y
   ·rw[<- y,z,I.free]at e;cases e
   ·rw[z,I.free]at y;cases y
theorem sY{M:HQ}{E:Vp}{Q:Unit->x_->Prop}(I:Inv X pins σ H s)(k:X.N.Nodup)(hi:X.N[i]?=a_ x)(U:X.env.scope.names.lookup x=a_ .local)(h:∀s',Inv X pins (σ.set i d_) H s'->Q () s'):CT M A (do bindName X.env x .none;Kc X.env x pos) Q E s:=by
 have a:(X.env.scope.kind==.class||(X.env.scope.kind==.module&&X.env.locals != X.env.globals))=b_:=by rw[I.ok.kind];rfl
 have Y:i<σ.length:=by rw[I.len];exact(z_.mp hi).1
 refine p_ (wpAny_bindName (nE I k hi (.inl U) (v:=.non) rfl (λB l=>?_) (.inr U)));unfold Kc;refine wpAny_onRaise ?_;obtain⟨m,q,g⟩:=id l.loc;obtain⟨u,_,b⟩:=g i x .non hi (by rw[s_ Y]) (.inl U);have e:m x=a_ u:=by
  rcases b with z|⟨z,_⟩
  ·exact z.2
  ·have f:X.env.kindOf x=a_ .local:=U;rw[f]at z;rcases z with z|z<;>cases z
 refine wpAny_unbindName_local U q e a λh' t d p=>h _ (l.names d p (by rw[CY];exact I.len) λj y v e1 e2 e3=>?_);have J:i≠j:=λz=>by subst z;rw[s_ Y]at e2;cases e2
 rw[k_ J]at e2;obtain⟨w,r,b⟩:=g j y v e1 (by rw[k_ J];exact e2) e3;refine⟨w,r,?_⟩
 rcases b with⟨o,n⟩|z
 ·have c:y≠x:=λz=>J (sM k hi (z▸e1));exact .inl ⟨o,by simp[c,n]⟩
 ·exact .inr z
noncomputable def rG(K:Fg)(C:g_)(bmB:List j_):Prop:=∀h:DR,K.In h->∃tl N nm I bs hdct sn sub ab col dd k0 k1 k2 k3 k5 newId,h.get? C=a_ (GY nm I C N bs tl hdct sn sub ab col dd k0 k1 k2 k3 k5 newId)/\JZ h bmB tl
theorem xnamed1(q:FN K C bmB newId=e_):rG K C bmB:=λ_ X=>by obtain⟨tl,N,nm,I,bs,hdct,sn,sub,ab,col,dd,k0,k1,k2,k3,k5,mN,U,a,Y,J⟩:=BO X q;exact⟨tl,N,nm,I,bs,hdct,sn,sub,ab,col,dd,k0,k1,k2,k3,k5,newId,U,J⟩
noncomputable abbrev Cx.hand(X:Cx)(a:g_)(oe:G8):Cx:={X with A:=X.A.mark (a_ (.ref a)),calm:=b_,xe:=λ_ _=>False,pn:=(a,oe)::X.pn}
section
variable{T:g_}{C:j_}{dx:Option g_} 
theorem Inv.hand{vs:Array j_}(I:Inv X pins σ H s)(U:s.heap.get? a=a_ oe)(hd:oe.data=.fields vs)(Y:X.s₀.heap.get? a=d_)(fa:H a=d_):Inv (X.hand a oe) pins σ H s:=by
 have J:=I.ok;refine⟨⟨J.mod,J.kind,J.glob,J.blt,J.above,J.inj,J.has,J.cab,(λz=>nomatch z),J.frames,J.stk,J.exf,J.bs,J.bsz,J.noex,J.exfs,J.uU,J.frf⟩,I.os,I.bare,I.base,I.loc,I.cell,I.free,I.freeC,λp b=>?_,I.hok,I.len⟩
 rcases A_.mp (show p∈(a,oe)::(X.pn++pins)from b)with z|z
 ·subst z;refine⟨U,fa,λz=>?_,λc=>?_,λv z=>?_⟩
  ·obtain⟨m,⟨o,es,ep,h1,h2,_⟩,_⟩:=I.loc;have z:a=X.env.locals:=z;rw[<- z,U]at h1;cases h1;rw[hd]at h2;cases h2
  ·obtain⟨_,o,h1,_⟩:=J.uU.mem c;have h1:X.s₀.heap.get? a=a_ o:=h1;rw[Y]at h1;cases h1
  ·have z:oe.data=.cell v:=z;rw[hd]at z;cases z
 ·exact I.pin p z
theorem Inv.xH(J:Inv (X.hand a oe) pins σ H s)(I:X.Ok):Inv X pins σ H s:=
 ⟨I,J.os,J.bare,J.base,J.loc,J.cell,J.free,J.freeC,λp U=>J.pin p (Dl _ U),J.hok,J.len⟩
theorem BK{M:HQ}{E:Vp}{base:DR}{l:List Iq}{Q:Unit->x_->Prop}(r:s.heap.FunFrames base l)(x:ExA s.heap a C dx (a_ T))(h:∀h',ExA h' a C dx (a_ T)->Left (frs l) a (a_ T) s.heap h'->h'.get? a=s.heap.get? a->Q () {s with heap:=h'}):CT M A (HE (.ref a) d_) Q E s:=by
 obtain⟨o,vs,m,t,g,c,h1⟩:=x.ob;obtain⟨e,v,ts,k,J,u⟩:=x.tb T rfl;have U:3<ts.size:=(GD.mp u).1;unfold HE;refine p_ (Ga m c (x:=.ref T) h1 ?_);rw[i_ (by simp)];refine Hv k J U ?_;have I:∀b,b≠T->(s.heap.update T (Ht (·.setIfInBounds 3 ((d_:Option g_).elim FD λf=>HX f)))).get? b=s.heap.get? b:=λb d=>DC _ _ (DL d);have p:=Hz J (·.setIfInBounds 3 ((d_:Option g_).elim FD λf=>HX f));refine h _ ⟨⟨o,vs,by rw[I a (DL e)];exact m,t,g,c,h1⟩,λy j=>?_⟩ ⟨λb o' q _ _ d=>by rw[I b (d T rfl)];exact q,λb o' q d=>?_,?_⟩ (I a (DL e))
 ·cases j;exact⟨e,_,_,Gd _ k (Gg p),p,by simp[U]⟩
 ·obtain⟨_,w,Y,n⟩:=r.mem d;have i:b≠T:=λz=>by
   subst z;rw[k]at Y;cases Y;exact n ts J
  exact⟨o'.slots,by rw[I b i];exact q⟩
 ·rw[Gh];exact u_ _
end
noncomputable def Ends.less(D:Ends)(i:Nat):Ends:={nx:=λσ H=>D.nx (σ.set i d_) H,rt:=D.rt,bk:=λσ H=>D.bk (σ.set i d_) H,ct:=λσ H=>D.ct (σ.set i d_) H}
section
variable{T:g_}{dx:Option g_}{c n:o_}{ts:TS}{D:Ends} 
theorem CA(I:Inv X pins σ H s)(x:ExA s.heap a (.ref C) dx (a_ T))(k:Apart X pins H s a (a_ T))(o:X.ex=[])(O:rG X.K C bmB)(P:bmB.contains (.type "BaseException")=e_)(L:Gl X c)(K:X.mg c=a_ (.ref C))(j:X.N.Nodup)(hi:X.N[i]?=a_ n)(g:X.env.scope.names.lookup n=a_ .local)(G:∀oe:G8,oe.cls=.ref C->oe.dict=dx->(∃vs,oe.data=.fields vs)->PSs (X.hand a oe) (b₀::suite) ts)(q:ts (D.less i) (σ.set i (a_ (.ref a))) H)(y:((c==("__debug__":o_))=b_)⁻¹):
  CT (Dd X.prog X.w) X.A (handleBy (.ref a) X.env [.ExceptHandler (a_ (.Name c np)) (a_ n) (b₀::suite) pos]) (SP X pins D) X.xe s:=by
 obtain⟨oe,vs,t,h,w,Y,h1⟩:=x.ob;have J:=I.hand t Y k.na k.fa;refine wpAny_handleBy_cons (codeAny_handlers_test (gq (X:=X.hand a oe) J L K ?_ y)) (by intro z;cases z);obtain⟨tl,N,nm,qn,bs,hdct,sn,sub,ab,col,dd,k0,k1,k2,k3,k5,newId,E,B⟩:=O _ I.kIn;have e0:=I.env0;obtain⟨hh,gg,d,tk,os⟩:=s;refine wpAny_excMatches_sub_self E t h (B.hasType P) (codeAny_handlers_suite_as ?_);refine BK (base:=X.base) (l:=X.stack) e0.uU x λh' Z F Q=>?_;have W:=I.left o x k F;have p:h'.get? a=a_ oe:=by rw[Q];exact t
 have S:=W.hand p Y k.na k.fa;refine nE (X:=X.hand a oe) S j hi (.inl g) (v:=.ref a) rfl (λA R=>?_) (.inr g);refine D1 (G oe h w ⟨vs,Y⟩ pins A _ H (D.less i) R q) (λf s4 z=>?_) λ_ _ z=>z.elim;cases f with
 |next=>obtain⟨σ',H',b,U⟩:=z;exact sY (b.xH I.ok) j hi g λm e=>⟨_,H',e,U⟩
 |brk=>obtain⟨σ',H',b,U⟩:=z;exact sY (b.xH I.ok) j hi g λm e=>⟨_,H',e,U⟩
 |cont=>obtain⟨σ',H',b,U⟩:=z;exact sY (b.xH I.ok) j hi g λm e=>⟨_,H',e,U⟩
 |ret u=>obtain⟨v,σ',H',b,r,U⟩:=z;exact sY (b.xH I.ok) j hi g λm e=>⟨v,_,H',e,r,U⟩
end
noncomputable def EH(i:Nat)(C:g_)(ts:g_->Option g_->TS)(D:Ends)(σ:St):XK:=λI dx H'=>I=.ref C/\∀a,H' a=d_->ts a dx (D.less i) (σ.set i (a_ (.ref a))) H'
noncomputable def tTry(tb:XK->TS)(i:Nat)(C:g_)(ts:g_->Option g_->TS):TS:=λD σ H=>tb (EH i C ts D σ) D σ H
section
variable{c n:o_}{tb:XK->TS} 
theorem ps_try(Q:∀(pins:Pn) (σ:St) (E:XK) (A:Vp),gA (CXd X.prog X.w) (X.qH A) pins σ E->PSsAt (X.qH A) pins σ body (tb E))(L:∀(a:g_) (oe:G8),oe.cls=.ref C->(∃vs,oe.data=.fields vs)->PSs (X.hand a oe) (b₀::suite) (ts a oe.dict))(S:rG X.K C bmB)(W:bmB.contains (.type "BaseException")=e_)(N:X.mg c=a_ (.ref C))(R:X.N.Nodup)(hi: ~~~(X.N[i]?=a_ n))(O: ~~~(X.env.scope.names.lookup n=a_ .local))(P: ~~~(Gl X c))(U: ~~~(X.ex=[]))(Y: ~~~(X.stack=X.env::X.outer))(t: ~~~(X.env.frame=a_ X.env.locals))(u:((c==("__debug__":o_))=b_)⁻¹):
  PS X (.Try body [.ExceptHandler (a_ (.Name c np)) (a_ n) (b₀::suite) hpos] [] [] pos) (tTry tb i C ts):=by
 intro pins s σ H D I h;refine wpAny_Try_except (thn (Q pins σ (EH i C ts D σ) (λe j=>CT (Dd X.prog X.w) X.A (JH e X.env) (λ_ g=>CT (Dd X.prog X.w) X.A (HE e d_) (λ_ d=>CT (Dd X.prog X.w) X.A (handleBy e X.env [.ExceptHandler (a_ (.Name c np)) (a_ n) (b₀::suite) hpos]) (SP X pins D) X.xe d) X.xe g) X.xe j) ?_ s H D (I.qH _) h) λf B z=>?_)
 ·rintro H1 B e s' y ⟨a,T,Cv,dx,H',rfl,z⟩;have o:=y.iT;obtain⟨rfl,q⟩:=z.want;have J:Inv X pins σ H' s':=o.call' z.os z.un z.hok z.bare (λ_ h=>nomatch h);have k:∀b,B.heap.get? b=d_->∀p∈X.pn++pins,p.1≠b:=λb e p r w=>by
   have:=(o.pin p r).1;rw[w,e]at this;cases this
  have m:Apart X pins H' s' a (a_ T):=⟨o.kz U z.na,z.fa,k a z.na,λT' l=>by cases l;exact⟨o.kz U z.nT,z.fT,k T z.nT⟩⟩
  have e0:=J.env0;have f1:=e0.frames;have G:=e0.uU;rw[Y]at f1 G;refine leave2 (base:=X.base) f1 G t z.ex λh' T2 K l F=>?_;rw[<- Y]at F;have I2:=J.left U z.ex m F;have x:Apart X pins H' {s' with heap:=h'} a (a_ T2):=⟨m.na,m.fa,m.pa,λT' v=>by
   cases v;refine⟨get_none (Dz J.sz l),J.hok.fresh l,λp r w=>?_⟩
   have:=v_ (J.pin p r).1;rw[w]at this;exact Dc this (IE.mpr l)⟩
  exact CA I2 K x U S W P N R hi O (λoe h1 h2 Z=>by rw[<- h2];exact L a oe h1 Z) (q a z.fa) u
 ·have z:=SP.iT z;cases f with
  |next=>exact GH z|_=>exact z
end
section
variable{ds:List j_}{o:Ed} 
theorem at_new(M:Mk X.K C f)(F:eZ X.prog X.w X.K X.mg X.base CX k f fd ps sp)(b:gA CX X pins σ E)(c:fV (k+1) X.A)(d:Binds X.K fd ps ds)(hd:Vals dvs ds)(I:Inv X pins σ H s)(r:Vals vs us)(h:∀y dx,H y=d_->H dx=d_->dx≠y->sp (.ref y::(vs++dvs)) (upd (upd H dx (.own y)) y (.ins C dx [])) (λv H2=>v=.non/\Q (.ref y) H2) E):CT (Dd X.prog X.w) X.A (Gn (.ref C) us) (EP X pins σ Q) X.xe s:=by
 have q:=h _ _ (I.hok.fresh (DF s.heap.objs.size)) (I.hok.fresh (u_ s.heap.objs.size)) (Dx (FP _));have J:=Inv.made (C:=C) I;have w:Vals (V.ref (s.heap.objs.size+1)::(vs++dvs)) (CU (s.heap.objs.size+1)::(us++ds)):=.cons rfl (r.append hd);have n:(CU (s.heap.objs.size+1)::(us++ds)).length=ps.length:=w.length.symm.trans (F.len _ _ _ _ q);refine GR (yh (f:=f) I.kIn M.makes M.init (Et.mp M.fn) (EM (F.run _ X.stack _ _ ⟨.ref (s.heap.objs.size+1)::us,[]⟩ _ _ _ E (c.make C us []) (J.env0.make C us []) (d _ (.ref (s.heap.objs.size+1)::us) J.kIn n) w q) λz s' U=>?_));cases z with
 |error e=>exact b _ _ e s' J U|ok fl=>
  cases fl with
  |ret u=>obtain⟨v,H',i,Y,g,a⟩:=J.after U;subst g;exact⟨Y,.ref (s.heap.objs.size+1),H',i,rfl,a⟩
  |_=>exact DV U
theorem at_make(M:Mk X.K C f)(F:eZ X.prog X.w X.K X.mg X.base CX k f fd ps sp)(b:gA CX X pins σ E)(c:fV (k+1) X.A)(d:X.mg x=a_ (.ref C))(i:Binds X.K fd ps ds)(hd:Vals dvs ds)(j:PA X (e::es) t)(g: ~~~(Gl X x))(U:((x==("__debug__":o_))=b_)⁻¹)(h: ~~~(h_ (e::es) X.env=(b_,Di e X.env)::h_ es X.env))(J: ~~~((DB pos (h_ es X.env)).any (·.1)=b_)):
  PEat X pins σ (.Call (.Name x p) (e::es) [] pos) (uc C sp dvs E t):=λs H Q I q=>
 El (gq I g d (Gu (h₀:=X.base) I.ok.mod.kin M.kp (thn (j pos pins s σ H _ I q) λus l ⟨vs,H1,Y,r,a⟩=>⟨Y.kIn,at_new M F b c i hd Y r a⟩) h J) U)
theorem at_meth(A:PE X o ta)(c:Cls X.K C)(d:Meth X.K C m f)(F:eZ X.prog X.w X.K X.mg X.base CX k f fd ps sp)(v:gA CX X pins σ E)(x:fV k X.A)(B:Binds X.K fd ps ds)(hd:Vals dvs ds)(D:PA X (e::es) t)(J: ~~~(h_ (e::es) X.env=(b_,Di e X.env)::h_ es X.env))(U: ~~~((DB pos (h_ es X.env)).any (·.1)=b_))(w: ~~~(Di (.Call (.Attribute o m apos) (e::es) [] pos) X.env=(Di o X.env >>=λb=>Ib apos.atName >>=λ_=>Ic [b] (G6 b m pl) >>=λz=>Hw pos z.1 z.2 (DB pos (h_ (e::es) X.env)) (EX pos (D_ [] X.env))))):
  PEat X pins σ (.Call (.Attribute o m apos) (e::es) [] pos) (pU C m sp dvs E ta t):=λs H Q I h=>by
 refine F8 (pl:=pl) (thn (A pins s σ H _ I h) λu j Y=>?_) w;obtain⟨y,H1,i,n,a,dx,fs,ex,G,l,q⟩:=Y;subst ex;cases(show u=CU a from n);refine m7 i G c d l (Gu (first:=[.ref a]) (h₀:=X.base) I.ok.mod.kin d.kp (thn (D pos pins j σ H1 _ i q) λus K Y=>?_) J U);obtain⟨vs,H2,g,r,p⟩:=Y;exact⟨g.kIn,at_run (us:=.ref a::us) (vs:=.ref a::vs) F x B hd v g (.cons rfl r) p⟩
end
section
open PySem.W
variable{E:Vp}{g:Array GenState}{d:Drawn}{t:Nat}{od:Option G8}{K:Kp} 
theorem xcls_by{Q:Vp}(FB:ET B bmB)(J:K.In h)(I:EC h a oe C od)(e1:C_ K (.ref C) "__getattribute__"=a_ (a_ (.builtin "BaseException.__getattribute__")))(e3:C_ K (.ref C) "__getattr__"=a_ d_)(b:∀R:JY->x_->Prop,R (.ok (.ret (.ref C))) ⟨h,g,d,t,os⟩->Gk (Dd prog w) A (.call (.builtin "BaseException.__getattribute__") ⟨[.ref a,.str "__class__" tk],[]⟩) R ⟨h,g,d,t,os⟩)(q:Q (.ref C) ⟨h,g,d,t,os⟩):
  CT (Dd prog w) A (K1 (.ref a) (.str "__class__" tk) b_) Q E ⟨h,g,d,t,os⟩:=by
 have Y:=I.type (M:=Dd prog w);have U:=FV (M:=Dd prog w) J e1;have c:=FV (M:=Dd prog w) J e3;have b3:=FB.ga.bind (.ref a);have e:(Gf "BaseException.__getattribute__"==Gf "object.__getattribute__")=b_:=by decide +kernel
 unfold K1
 repeat (any_goals (first|assumption|with_reducible refine Y.at ?_|with_reducible refine U.at ?_|with_reducible refine c.at ?_|wp_step))
 all_goals (refine b _ ?_)
 repeat (any_goals (first|wp_step|assumption))
theorem qE{M:HQ}{J:j_}{Q:Unit->x_->Prop}(c:K.In h)(I:EC h a oe C od)(i:EG K C (.type "BaseException")=a_ e_)(f:Q () ⟨h,g,d,t,os⟩):
  CT M A (Iy "BaseException.__getattribute__" ⟨[.ref a,J],[]⟩) Q E ⟨h,g,d,t,os⟩:=by
 have b:builtinKind "BaseException.__getattribute__"=a_ .slot:=by decide +kernel
 have e:splitId "BaseException.__getattribute__"=a_ ("BaseException","__getattribute__"):=by decide +kernel
 have Y:=I.type (M:=M);have U:=looks_mroIn (M:=M) c i;have j:=F.args_bexc_ga (.ref a) J;simp only[Iy,e,b];refine p_ ?_;unfold Kn
 repeat (first|with_reducible refine Y.at ?_|with_reducible refine U.at ?_|wp_step)
 exact f
theorem yG{Q:Fin->x_->Prop}(J:K.In h)(I:EC h a oe C od)(e2:C_ K (.ref C) "__class__"=a_ (a_ (.builtin "object.__class__")))(b:EG K C (.type "object")=a_ e_)(i:Q (.done (.ret (.ref C))) ⟨h,g,d,t,os⟩):
  CT (Dd prog w) A (Builtin.«object.__getattribute__» ⟨[.ref a,.str "__class__" tk],[]⟩) Q E ⟨h,g,d,t,os⟩:=by
 have tc:Shared.TypeIs ⟨h,g,d,t,os⟩ (.builtin "object.__class__") "getset_descriptor":=JP;have Y:=I.type (M:=Dd prog w);have U:=FV (M:=Dd prog w) J e2;have f:=JP;have e:=F.slot_gs_get.lookup;have c:=F.slot_gs_set.lookup
 repeat (any_goals (first|assumption|with_reducible refine Y.at ?_|with_reducible refine U.at ?_|wp_step))
 refine W.class_get (s:=⟨h,g,d,t,os⟩) J I b ?_
 repeat (any_goals (first|wp_step|assumption))
theorem Aj{Q:Option j_->x_->Prop}(FB:ET B bmB)(J:K.In h)(I:EC h a oe C od)(e1:C_ K (.ref C) "__getattribute__"=a_ (a_ (.builtin "BaseException.__getattribute__")))(e2:C_ K (.ref C) "__class__"=a_ (a_ (.builtin "object.__class__")))(e3:C_ K (.ref C) "__getattr__"=a_ d_)(b:EG K C (.type "BaseException")=a_ e_)(Y:EG K C (.type "object")=a_ e_)(U:Q (a_ (.ref C)) ⟨h,g,d,t+1,os⟩):CT (Dd prog w) A (getAttr? (.ref a) "__class__") Q E ⟨h,g,d,t,os⟩:=by unfold getAttr? getAttrBy?;refine p_ (wpAny_mkText (p_ (wpAny_attempt (xcls_by FB J I e1 e3 (λR c=>FR FB.ga.plain KQ (qE J I b (yG J I e2 Y c))) ?_))));exact Cb U
structure A5(K:Kp)(C:g_):Prop where
 ga:C_ K (.ref C) "__getattribute__"=a_ (a_ (.builtin "BaseException.__getattribute__"))
 cl:C_ K (.ref C) "__class__"=a_ (a_ (.builtin "object.__class__"))
 gt:C_ K (.ref C) "__getattr__"=a_ d_
 bs:EG K C (.type "BaseException")=a_ e_
 ob:EG K C (.type "object")=a_ e_
 is:∃cd,Hj K C=a_ cd
theorem nO(FB:ET B bmB)(Z:A5 K C):KitX K (.ref a) (.ref C) (λh=>EC h a oe C od) where
 ty:=λ_ _ _ I=>I.type
 it:=λ_ _ X _=>by
  obtain⟨cd,J⟩:=Z.is;unfold Hj at J;split at J
  ·next Y=>intro l j E' s' k q;unfold isType loadHead;refine p_ (IZ (k C _ (X C _ Y)) ?_);exact Cb q
  ·cases J
 ne:=λhh b i is f c X U=>by
  obtain⟨cd,J⟩:=Z.is;refine Bool.eq_false_iff.mpr (λq=>?_);have e:C=b:=Value.ref.inj (Et.mp q);subst e;unfold Hj at J;split at J
  ·next Y=>cases(X C _ Y).symm.trans U
  ·cases J
 ca:=λ{_ _ _ _ _ s} X I k=>by obtain⟨h,g,d,t,os⟩:=s;exact Aj FB X I Z.ga Z.cl Z.gt Z.bs Z.ob k
end
theorem sm:∀{ys:List g_} {its:List j_},Vals (ys.map V.ref) its->its=ys.map CU
 |[],_,.nil=>rfl|y::ys,_,.cons r rs=>by rw[sm rs,show _=CU y from r];rfl
theorem Cy(FB:ET B bmB)(Z:A5 X.K C)(F:oe.cls=.ref C)(hd:∃vs,oe.data=.fields vs)(E:oe.dict=d_):gm (X.hand a oe) (.builtin "isinstance") (λxs H Q=>∃v b,xs=[.ref a,v] /\
  ((∃c,RelV v c/\(∀u,RelV v u->u=c)/\DM X.K (.ref C) c=a_ b)\/∃(U:g_) (ys:List g_),v=.ref U/\H U=a_ (.tup (ys.map V.ref))/\kitAny X.K (.ref C) (ys.map CU)=a_ b)/\Q (.bl b) H):=by
 intro pins s σ H xs us Q I r h;obtain⟨v,b,rfl,h1,q⟩:=h;obtain⟨u,w,rfl,t,d⟩:=r.two;cases(show u=CU a from t);have x:=(I.pin (a,oe) (DO ..)).1;obtain⟨vs,g⟩:=hd;have J:EC s.heap a oe C d_:=⟨x,F,by unfold H9;rw[g],by rw[E];trivial⟩
 rcases h1 with⟨c,K,Y,e⟩|⟨U,ys,rfl,D,e⟩
 ·cases Y w d;exact Fb (nO FB Z) I.kIn J e (λz=>nomatch z) λtk=>⟨.bl b,H,I.tok tk,rfl,q⟩
 ·cases(show w=CU U from d);obtain⟨_,its,p,A,o,m⟩:=(show eo X.prog X.w H s.heap U (.tup (ys.map V.ref))from I.hok U _ D)
  obtain⟨l,n,k⟩:=m;have G:its=ys.map CU:=sm p;subst G;obtain⟨oc,y,f,osl⟩:=A;have j:oc=FC "tuple":=l;have i:f=.seq (ys.map CU).toArray n:=k;subst j i;exact JM (nO FB Z) I.kIn J o e (λz=>nomatch z) λtk=>⟨.bl b,H,I.tok tk,rfl,q⟩
noncomputable def ud(i:Nat)(a:g_)(b:Bool):TE:=λσ H Q=>σ[i]?=a_ (a_ (.ref a))/\Q (.bl b) H
noncomputable def tIsiT(i:Nat)(a:g_)(ys:List g_)(b:Bool):TE:=λσ H Q=>σ[i]?=a_ (a_ (.ref a))/\∀p,H p=d_->Q (.bl b) (upd H p (.tup (ys.map V.ref)))
section
variable{D:g_}{n:o_}{b:Bool}
theorem pe_isiO(FB:ET B bmB)(Z:A5 X.K C)(o:oe.cls=.ref C)(hd:∃vs,oe.data=.fields vs)(k:oe.dict=d_)(l:X.mg "isinstance"=d_)(v:X.mg y=a_ (.ref D))(r:DM X.K (.ref C) (.ref D)=a_ b)(t: ~~~(X.N[i]?=a_ n))(hv:autoParam (Vis X.env.scope n) Jq4)(f:((n==("__debug__":o_))=b_)⁻¹)(e:((n==("__classdict__":o_))=b_)⁻¹)(m: ~~~(Gl (X.hand a oe) "isinstance"))(c: ~~~(Gl (X.hand a oe) y))(d:((y==("__debug__":o_))=b_)⁻¹)(U: ~~~(h_ [.Name n p1,.Name y p2] X.env=[(b_,Di (.Name n p1) X.env),(b_,Di (.Name y p2) X.env)]))(J: ~~~(h_ [.Name y p2] X.env=[(b_,Di (.Name y p2) X.env)]))(Y: ~~~((DB pos (h_ [.Name y p2] X.env)).any (·.1)=b_)):
  PE (X.hand a oe) (.Call (.Name "isinstance" p) [.Name n p1,.Name y p2] [] pos) (ud i a b):=by
 have g:PE (X.hand a oe) (.Name y p2) (tC (.ref D)):=λpins s σ H Q I h=>gq I c v ⟨.ref D,H,I,rfl,h⟩ d;refine PE.imp (gw (X:=X.hand a oe) (Cy FB Z o hd k) m l F9 (ax (pv i t hv f e) (ax g aK J) (by rw[U,J])) (by decide) (by decide) (by rw[U,J]) Y) λσ H Q h=>?_;obtain⟨e1,q⟩:=h;exact⟨.ref a,e1,.ref D,b,rfl,.inl ⟨.ref D,rfl,λu j=>j,r⟩,q⟩
end
noncomputable def tRefs(ys:List g_):TA:=λ_ H Q=>Q (ys.map V.ref) H
section
variable{D:g_}{n:o_}{b:Bool}{ys:List g_} 
theorem pa_refs0:PA X [] (tRefs []):=aK
theorem jW(U:PA X es (tRefs ys))(a:X.mg y=a_ (.ref D))(Y: ~~~(Gl X y))(hd:((y==("__debug__":o_))=b_)⁻¹)(J: ~~~(h_ (.Name y p::es) X.env=(b_,Di (.Name y p) X.env)::h_ es X.env)):PA X (.Name y p::es) (tRefs (D::ys)):=
 λps pins s σ H Q I h=>ax (sC (v:=.ref D) Y a rfl hd) U J ps pins s σ H Q I h
theorem pe_isiB(FB:ET B bmB)(Z:A5 X.K C)(r:oe.cls=.ref C)(hd:∃vs,oe.data=.fields vs)(l:oe.dict=d_)(m:X.mg "isinstance"=d_)(c:X.mg y=d_)(U:EO y=a_ (.type T))(s:DM X.K (.ref C) (.type T)=a_ b)(t: ~~~(X.N[i]?=a_ n))(hv:autoParam (Vis X.env.scope n) Jq4)(g:((n==("__debug__":o_))=b_)⁻¹)(f:((n==("__classdict__":o_))=b_)⁻¹)(o: ~~~(Gl (X.hand a oe) "isinstance"))(d: ~~~(Gl (X.hand a oe) y))(j:(y≠"__name__")⁻¹)(e:((y==("__debug__":o_))=b_)⁻¹)(J: ~~~(h_ [.Name n p1,.Name y p2] X.env=[(b_,Di (.Name n p1) X.env),(b_,Di (.Name y p2) X.env)]))(I: ~~~(h_ [.Name y p2] X.env=[(b_,Di (.Name y p2) X.env)]))(Y: ~~~((DB pos (h_ [.Name y p2] X.env)).any (·.1)=b_)):
  PE (X.hand a oe) (.Call (.Name "isinstance" p) [.Name n p1,.Name y p2] [] pos) (ud i a b):=by
 refine PE.imp (gw (X:=X.hand a oe) (Cy FB Z r hd l) o m F9 (ax (pv i t hv g f) (ax (pe_tyN (X:=X.hand a oe) (pos:=p2) d c U j e) aK I) (by rw[J,I])) (by decide) (by decide) (by rw[J,I]) Y) λσ H Q h=>?_;obtain⟨e1,q⟩:=h;exact⟨.ref a,e1,.ty T,b,rfl,.inl ⟨.type T,rfl,λu k=>k,s⟩,q⟩
theorem pe_isiT{j}(FB:ET B bmB)(Z:A5 X.K C)(m:oe.cls=.ref C)(hd:∃vs,oe.data=.fields vs)(f:oe.dict=d_)(g:X.mg "isinstance"=d_)(r:PA (X.hand a oe) es (tRefs ys))(k:ys.length<=m_)(o:kitAny X.K (.ref C) (ys.map CU)=a_ b)(s: ~~~(X.N[i]?=a_ n))(hv:autoParam (Vis X.env.scope n) Jq4)(e:((n==("__debug__":o_))=b_)⁻¹)(d:((n==("__classdict__":o_))=b_)⁻¹)(l: ~~~(Gl (X.hand a oe) "isinstance"))(J: ~~~(h_ [.Name n p1,.Tuple es j p2] X.env=[(b_,Di (.Name n p1) X.env),(b_,Di (.Tuple es j p2) X.env)]))(I: ~~~(h_ [.Tuple es j p2] X.env=[(b_,Di (.Tuple es j p2) X.env)]))(c: ~~~((DB pos (h_ [.Tuple es j p2] X.env)).any (·.1)=b_)):
  PE (X.hand a oe) (.Call (.Name "isinstance" p) [.Name n p1,.Tuple es j p2] [] pos) (tIsiT i a ys b):=by
 refine PE.imp (gw (X:=X.hand a oe) (Cy FB Z m hd f) l g F9 (ax (pv i s hv e d) (ax (pe_tup r) aK I) (by rw[J,I])) (by decide) (by decide) (by rw[J,I]) c) λσ H Q h=>?_;obtain⟨e1,q⟩:=h;exact⟨.ref a,e1,by rw[y_];exact k,λU Y=>⟨.ref U,b,rfl,.inr ⟨U,ys,rfl,aq,o⟩,q U Y⟩⟩
end
noncomputable def DEat(K:Fg)(E:XK)(own:Bool)(X:Cx)(pins:Pn)(σ:St)(e:Ed)(f:ai->M Dat):Prop:=PEat X pins σ e (tD K (WE K E) own f)
noncomputable def DSat(K:Fg)(E:XK)(ro:Bool)(X:Cx)(OL O O':List Nat)(pins:Pn)(σ:St)(st:List DX)(g:ai->M Flo):Prop:=∀F0 H0,PSsAt X pins σ st (tS K (WE K E) ro F0 H0 OL O O' g)
theorem PEat.imp{t u:TE}(h:PEat X pins σ e t)(k:∀H Q,u σ H Q->t σ H Q):PEat X pins σ e u:=λs H Q I q=>h s H Q I (k H Q q)
theorem PSat.imp{t u:TS}(h:PSat X pins σ st t)(k:∀D H,u D σ H->t D σ H):PSat X pins σ st u:=λs H D I q=>h s H D I (k D H q)
noncomputable def uv(O:List Nat)(f:ai->M Dat):ai->M Flo:=λρ=>(f (erase O ρ)).bind λ_=>.ok (.nx ρ)
section
variable{own:Bool}{f:ai->M Dat} 
theorem dsa_expr(h:DEat K E own X pins σ e f)(J: ~~~(E_ e d_ pos.line X.env=EY b_)):DSat K E ro X OL O O pins σ [.Expr e pos] (uv O f):=λF0 H0=>at_one (PSat.imp (CB h J) λD H ⟨FB,F,ρ,r,p⟩=>by
 refine b6 r.jo r.st.fh (λe U=>p.uX r.st (by unfold uv;rw[U];rfl)) λd hd v F1 H1 I q=>?_;have z:uv O f ρ=.ok (.nx ρ):=by unfold uv;rw[hd];rfl
 rw[z]at p;exact p σ F1 H1 (r.step I))
end
section
variable{W:dS}{D:Ends}{ys:List g_}
theorem AS(r:Rep K F0 H0 FB [] F H σ ρ)(s:i≠j)(hi:i<σ.length)(u:j<σ.length)(q:gT K W ro F0 H0 FB OL [] D (.ok (.nx ((ρ.set j (a_ (.lst [.bl b1,.bl b2,.bl b3]))).set i d_)))):
  iJ (yL (AA (aM (ud i a b1) (aM (ud i a b2) dR))) (gS j)) (pW (tBM K "list" jU (cn j) (aM (tIsiT i a ys b3) dR))) (D.less i) (σ.set i (a_ (.ref a))) H:=by
 have w:=Dq;have e1:(σ.set i (a_ (.ref a)))[i]?=a_ (a_ (.ref a)):=by rw[s_ hi]
 refine⟨e1,e1,by show 2<=m_;omega,λl f=>?_⟩
 have e2:((σ.set i (a_ (.ref a))).set j (a_ (.ref l)))[j]?=a_ (a_ (.ref l)):=by rw[s_ (by rw[CY];exact u)]
 have e3:((σ.set i (a_ (.ref a))).set j (a_ (.ref l)))[i]?=a_ (a_ (.ref a)):=by rw[k_ (DL s)];exact e1
 refine⟨.ref l,e2,kE aq,e3,λp b=>?_⟩
 have U:l≠p:=λz=>by subst z;rw[aq]at b;cases b
 have g:H p=d_:=by rw[ao (DL U)]at b;exact b
 refine⟨l,[.bl b1,.bl b2],.bl b3,rfl,rfl,by rw[ao U];exact aq,by show 2<m_;omega,?_⟩
 have k:F l=d_:=r.st.fh.free f;have t:aO F (upd F l (.lst [.bl b1,.bl b2,.bl b3])):=aO.upd k;have st:Step F H (upd F l (.lst [.bl b1,.bl b2,.bl b3])) (upd (upd (upd H l (.lst [.bl b1,.bl b2])) p (.tup (ys.map V.ref))) l (.lst ([.bl b1,.bl b2]++[.bl b3]))):=by
  have hh:aO H (upd (upd (upd H l (.lst [.bl b1,.bl b2])) p (.tup (ys.map V.ref))) l (.lst ([.bl b1,.bl b2]++[.bl b3]))):=λc o e=>by rw[ao (aL e f),ao (aL e g),ao (aL e f)];exact e
  refine⟨t,hh,λc o e=>?_,λc o e=>?_⟩
  ·by_cases Y:c=l
   ·subst Y;rw[aq]at e ⊢;exact e
   ·rw[ao Y]at e;exact hh c o (r.st.fh c o e)
  ·by_cases Y:c=l
   ·subst Y;exact .inr f
   ·rw[ao Y]at e;exact .inl e
 refine q _ _ _ ⟨r.st.trans st,r.fb.trans t,by simp only[CY];exact r.len,λm d e _=>?_,(λm d e h=>nomatch h),(λm n y x c h=>nomatch h)⟩;have J:i≠m:=λz=>by subst z;rw[s_ (by rw[CY,r.len];exact hi)]at e;cases e
 rw[k_ J]at e;rw[k_ J];by_cases I:j=m
 ·subst I;rw[s_ (by rw[r.len];exact u)]at e;cases e;exact⟨.ref l,e2,l,_,rfl,SqL.of aq,⟨_,_,rfl,rfl,_,_,rfl,rfl,_,_,rfl,rfl,rfl⟩⟩
 ·rw[k_ I]at e;obtain⟨v,h1,h2⟩:=r.repE.sl m d e;refine⟨v,?_,h2.mono t⟩
  rw[k_ I,k_ J];exact h1
end
theorem Rep.back{K:Fg}{F0 H0 F1 H1 FB F H:Hp}{O:List Nat}{σ:St}{ρ:ai}(r:Rep K F1 H1 FB O F H σ ρ)(s:Step F0 H0 F1 H1):Rep K F0 H0 FB O F H σ ρ:=
 ⟨s.trans r.st,r.fb,r.len,r.fz,λi d e h=>let ⟨v,z,q⟩:=r.ow i d e h;⟨v,z,q.back s.hh⟩,r.ap⟩
noncomputable abbrev xArgs(vs:List j_):G8:={cls:=.type "tuple",data:=.seq vs.toArray}
noncomputable abbrev Ak(C t:g_):G8:={cls:=.ref C,data:=.fields #[.ref t,.none,.none,.none,.bool b_,.none]}
abbrev rL(h:DR)(C:g_)(vs:List j_):DR:=(h.push (xArgs vs)).push (Ak C h.objs.size)
section
variable{E:Vp} 
variable{g:Array GenState}{d:Drawn}{t:Nat} 
variable{q:o_}{N:g_}{bs:List j_}{k1:Option j_}{mN:Mq}{oI:G8}
theorem nY{o:G8}(e:h.get? b=a_ o):(rL h C us).get? b=a_ o:=t_ _ (t_ _ e)
theorem u0:(rL h C us).get? (h.objs.size+1)=a_ (Ak C h.objs.size):=by
 have z:=Df (h.push (xArgs us)) (o:=Ak C h.objs.size) rfl
 rwa [Eo]at z
theorem x_type(F:Fw B newId initId bmB)(T:JZ h bmB tl)(I:h.get? C=a_ (GY nm q C N bs tl hdct sn sub ab col dd k0 k1 k2 k3 k5 newId))(Y:h.Ns N mN)(hi:mN "__init__"=a_ (.ref fI))(f:h.get? fI=a_ oI)(J:oI.cls=.type "function")(i:us.length<=m_){Q:Fin->x_->Prop}(z:CT (Dd prog w) A (Gn (.ref fI) (.ref (h.objs.size+1)::us)) (λr s'=>r=.none/\Q (.done (.ret (.ref (h.objs.size+1)))) s') E ⟨rL h C us,g,d,t,os⟩):
  CT (Dd prog w) A (Builtin.«type.__call__» ⟨.ref C::us,[]⟩) Q E ⟨h,g,d,t,os⟩:=by
 have k:∀b o,h.get? b=a_ o->(rL h C us).get? b=a_ o:=λb o e=>nY e;have U:=k _ _ I;have c:(CU C::tl).contains (.ref C)=e_:=by simp
 have a:(rL h C us).get? (h.objs.size+1)=a_ (Ak C h.objs.size):=u0
 repeat (first|with_reducible refine wpAny_madeBy_exc I ?_|with_reducible refine Gj I ?_|wp_step)
 refine codeAny_call_builtin_code (Hu _ F.quiet) (wpAny_check_new_subT F T I (codeAny_exc_new_subT F T I ?_ i));show CT _ _ _ _ _ (⟨rL h C us,g,d,t,os⟩:x_);unfold Kn
 repeat (first|(with_reducible refine Kg U ?_;rw[c])|with_reducible refine Gj a ?_|wp_step)
 refine wpAny_typeLookup_tail U (Y.keeps k) (T.keeps k) F.mroIs F.init.lookup ?_;rw[hi];unfold bindSpecial;refine HP (p_ (p_ (wpAny_typeOf (T:="function") ⟨_,k _ _ f,J⟩ ?_)));rw[i_ (by decide)];refine Cb (p_ (thn z λr s' y=>?_));obtain⟨e,y⟩:=y;subst e
 wp_walk
 exact y
theorem x_call(F:Fw B newId initId bmB)(T:JZ h bmB tl)(I:h.get? C=a_ (GY nm q C N bs tl hdct sn sub ab col dd k0 k1 k2 k3 k5 newId))(U:h.Ns N mN)(hi:mN "__init__"=a_ (.ref fI))(Y:h.get? fI=a_ oI)(J:oI.cls=.type "function")(a:us.length<=m_){Q:Vp}(z:CT (Dd prog w) (A.under (.builtin "type.__call__" ⟨.ref C::us,[]⟩)) (Gn (.ref fI) (.ref (h.objs.size+1)::us)) (λr s'=>r=.none/\Q (.ref (h.objs.size+1)) s') E ⟨rL h C us,g,d,t,os⟩):
  CT (Dd prog w) A (Gn (.ref C) us) Q E ⟨h,g,d,t,os⟩:=by
 have c:=tc_lookup;have b:=tc_bind (.ref C);have ty:(⟨h,g,d,t,os⟩:x_).TypeIs (.ref C) "type":=⟨_,I,rfl⟩
 refine GR (codeAny_of_tree ?_);show CT _ _ (callAny (.ref C) _) _ _ _
 (repeat (any_goals (first|assumption|with_reducible refine Gj I ?_|wp_step)));exact⟨rfl,codeAny_call_builtin_at (Hu _ (by decide +kernel)) entry_typeCall (wpAny_check_type_call_sub I (x_type F T I U hi Y J a z))⟩
end
theorem ns_some{N:g_}{m:Mq}{n:o_}{v:j_}(X:K.In h)(G:h.Ns N m)(e:JW K N n=a_ (a_ v)):m n=a_ v:=by
 obtain⟨o,es,ep,J,g2,_,I⟩:=G;unfold JW at e;cases q:K.lookup N with
 |none=>rw[q]at e;exact nomatch e
 |some a=>
  have z:=X _ _ q;rw[J]at z;cases z;obtain⟨c,d,U,Y⟩:=o;cases(show U=.dict es ep from g2);rw[q]at e;dsimp only at e;cases f:es.toList.find? (·.key.isStr n)with
  |none=>rw[f]at e;dsimp only at e;split at e<;>cases e
  |some b=>rw[f]at e;cases e;rw[<- I];unfold nsFind findBy;rw[<- JG,f];rfl
noncomputable def Kzc:Data->Option ClassData
 |.cls c=>a_ c|_=>d_
theorem Kzd{d:Data}{c:ClassData}(h:Kzc d=a_ c):d=.cls c:=by cases d<;>cases h;rfl
noncomputable def jP(K:Fg)(C:g_)(bmB:List j_)(newId:String)(f:g_):Bool:=(K.lookup C).any λo=>(Kzc o.data).any λc=>c.mro.head? ==a_ (.ref C)&&(o.cls==.type "type"&&(!c.hasDel&&(PySem.W.nsOkIn K c.ns&&(PySem.W.tailIn K bmB c.mro.tail&&(JW K c.ns "__init__"==a_ (a_ (.ref f))&&(o.slots.toList.length==6&&o.slots.toList[4]?==a_ (a_ (.builtin newId))))))))
theorem Kz6{l:List α}{x:α}(h:l.length=6)(I:l[4]?=a_ x):∃a b c d e,l=[a,b,c,d,x,e]:=by obtain⟨k0,l,rfl⟩:=DQ (n:=5) h;obtain⟨k1,l,rfl⟩:=DQ (n:=4) (Ef h);obtain⟨k2,l,rfl⟩:=DQ (n:=3) (Ef (Ef h));obtain⟨k3,l,rfl⟩:=DQ (n:=2) (Ef (Ef (Ef h)));have b:=Ef (Ef (Ef (Ef h)));obtain⟨J,l,rfl⟩:=DQ (n:=1) b;obtain⟨k5,l,rfl⟩:=DQ (n:=0) (Ef b);cases I;rw[List.eq_nil_of_length_eq_zero (Ef (Ef b))];exact⟨_,_,_,_,_,rfl⟩
theorem t8(X:K.In h)(q:jP K C bmB newId f=e_):
  ∃tl N nm U bs hdct sn sub ab col dd k0 k1 k2 k3 k5 mN,h.get? C=a_ (GY nm U C N bs tl hdct sn sub ab col dd k0 k1 k2 k3 k5 newId)/\h.Ns N mN/\mN "__init__"=a_ (.ref f)/\JZ h bmB tl:=by
 obtain⟨⟨oc,dd,u,⟨l⟩⟩,d,q⟩:=(Jn _ _).mp q;obtain⟨⟨n,m,Y,k,j,i,g,c,b,I,a⟩,e,q⟩:=(Jn _ _).mp q;cases Kzd e;simp only[n_,Et,Fy]at q;obtain⟨t,rfl,rfl,J,s,r,p,o⟩:=q;obtain⟨tl,rfl⟩:=List.head?_eq_some_iff.mp t;obtain⟨k0,k1,k2,k3,k5,rfl⟩:=Kz6 p o;exact⟨tl,k,n,j,m,i,g,c,b,I,dd,k0,k1,k2,k3,k5,_,X _ _ d,.of_isNs (Hd X J),ns_some X (.of_isNs (Hd X J)) r,Jb X s⟩
theorem xnamed2(q:jP K C bmB newId f=e_):rG K C bmB:=λ_ X=>by obtain⟨tl,N,nm,I,bs,hdct,sn,sub,ab,col,dd,k0,k1,k2,k3,k5,mN,U,a,Y,J⟩:=t8 X q;exact⟨tl,N,nm,I,bs,hdct,sn,sub,ab,col,dd,k0,k1,k2,k3,k5,newId,U,J⟩
noncomputable def Ozi:j_->Bool
 |.ref _=>e_|_=>b_
noncomputable def u4(l:List j_):Bool:=l.dropWhile Ozi==[.type "ValueError",.type "Exception",.type "BaseException",.type "object"]
theorem Ozj{P:List j_->Prop}(J:P [.type "ValueError",.type "Exception",.type "BaseException",.type "object"])(h1:∀a l,P l->P (.ref a::l)):∀l:List j_,u4 l=e_->P l:=λl=>by
 induction l with
 |nil=>exact λe=>nomatch (Et.mp e:([]:List j_)=_)
 |cons v r I=>
  intro e;unfold u4 at e;rw[List.dropWhile_cons]at e;cases v with
  |ref a=>exact h1 a r (I e)|_=>rw[show(_::r)=_ from Et.mp e];exact J
theorem ve_pass(I:j_){l:List j_}:u4 l=e_->refuseLoop I "__setattr__" l=EY ():=Ozj (P:=λl=>refuseLoop I "__setattr__" l=EY ()) (PySem.F.store_ValueError.passes I) (λ_ _ h=>by rw[refuseLoop_ref];exact h) l
theorem ve_obj{l:List j_}:u4 l=e_->l.contains (.type "object")=e_:=Ozj (P:=λl=>l.contains (.type "object")=e_) (by decide +kernel) (λ_ _ h=>by rw[JR,h,IY]) l
structure A6(K:Fg)(C:g_)(f:o_):Prop where
 sa:C_ K (.ref C) "__setattr__"
   =a_ (a_ (.builtin "object.__setattr__"))
 no:C_ K (.ref C) f=a_ d_
 cd:((Hj K C).any λcd=>u4 cd.mro&&cd.hasDict)=e_
section
open PySem.W
variable{E:Vp}{od:Option G8}{K:Kp}{f:o_}{v:j_}
theorem x_open{R:JY->x_->Prop}(X:K.In s.heap)(I:EC s.heap a oe C od)(Z:A6 K C f)(z:∀b,CT (Dd prog w) A.in1 (J8 (.ref a) (.ref C) (.str f tk) f v b)
   (λY s'=>match Y with|.done y=>R (.ok y) s'|.again d=>d.quiet=e_/\Gk (Dd prog w) A d R s') (λe s'=>R (.error e) s') s):
  Gk (Dd prog w) A (.call (.builtin "object.__setattr__") ⟨[.ref a,.str f tk,v],[]⟩) R s:=by
 have U:=PySem.F.store_object;obtain⟨cd,c,J⟩:=IK Z.cd;rw[n_]at J;have h:cd.mro.isEmpty=b_:=by cases q:cd.mro with|nil=>rw[q]at J;cases J.1|cons _ _=>rfl
 have g:Looks (Dd prog w) s.heap (Kn (.ref a) (.type "object")) e_:=I.type.andThen (looks_mroIn X (by unfold EG;rw[c,Option.bind_some,l_ (by rw[h];decide),ve_obj J.1]));refine FR U.slot.plain U.entry (@check_slot (Dd prog w) _ _ s "object.__setattr__" "object" "__setattr__" (.ref a) [.str f tk,v] [] _ U.kind U.split g (U.args (.ref a) (.str f tk) v) ?_);rw[osa_eq,refuse_eq];have i:Looks (Dd prog w) s.heap (mroOf (.ref C)) cd.mro:=(IJ X c).andThen .now;refine p_ (p_ (I.type.here (p_ (i.here ?_))));rw[ve_pass _ J.1];exact Cb (p_ (I.type.here (p_ ((FV X Z.no).here (p_ (Cb (z _)))))))
theorem x_set1{vs:Array j_}{Q:Unit->x_->Prop}(X:K.In s.heap)(Z:A6 K C f)(J:s.heap.get? a=a_ ⟨.ref C,d_,.fields vs,#[]⟩)(z:∀h',h'.get? a=a_ ⟨.ref C,a_ s.heap.objs.size,.fields vs,#[]⟩->h'.Ns1 s.heap.objs.size (λy=>if y=f then a_ v else d_)->(∀b o,b≠a->s.heap.get? b=a_ o->h'.get? b=a_ o)->Q () {s with heap:=h',toks:=s.toks+2}):
  CT (Dd prog w) A (KC (.ref a) f v) Q E s:=by
 have I:EC s.heap a ⟨.ref C,d_,.fields vs,#[]⟩ C d_:=⟨J,rfl,rfl,trivial⟩
 refine KI X I Z.sa (x_open (s:={s with toks:=s.toks+1}) X I Z λb=>?_);obtain⟨cd,g,d⟩:=IK Z.cd;rw[n_]at d;refine p_ (Cb (p_ (p_ (IZ J (p_ (Jy (s:={s with toks:=s.toks+1}) (IJ X g) ?_))))));rw[d.2];have Y:a≠s.heap.objs.size:=Dx (v_ J);have h1:(s.heap.push D0).get? a=a_ ⟨.ref C,d_,.fields vs,#[]⟩:=t_ _ J;refine p_ (wpAny_alloc' (p_ (wpAny_update' h1 (Cb ?_))));have h2:((s.heap.push D0).update a λo=>{o with dict:=a_ s.heap.objs.size}).get? s.heap.objs.size=a_ D0:=by rw[DC _ _ Y];exact Df s.heap rfl
 have i:((s.heap.push D0).update a λo=>{o with dict:=a_ s.heap.objs.size}).get? a=a_ ⟨.ref C,a_ s.heap.objs.size,.fields vs,#[]⟩:=Gd _ h1 rfl;refine p_ (Cb (p_ (wpAny_nsSet1 (m:=λ_=>d_) (Je ⟨D0,#[],_,h2,rfl,(λe J=>Dc J (by simp)),λ_=>rfl⟩) λh' c U=>?_)));obtain⟨r,j,k,p,n,l⟩:=c.count (Ju f v Within.nil);refine p_ (KY p (by rw[n];exact K0 (Dz l (by rw[CZ,EZ,Dq];omega))) (Cb ?_));exact z h' ((U.2 a Y).trans i) c λb o h q=>(U.2 b (Dx (v_ q))).trans (by rw[DC _ _ (DL h)];exact t_ _ q)
end
section
open PySem.W
variable{E:Vp}{od:G8}{K:Kp}{f:o_}{v:j_} 
theorem A6.hd(Z:A6 K C f):Fu K C=e_:=by obtain⟨cd,J,I⟩:=IK Z.cd;rw[n_]at I;unfold Fu;rw[J];exact I.2
theorem x_ga{Q:Fin->x_->Prop}(X:K.In s.heap)(I:EC s.heap a oe C (a_ od))(Y:A6 K C f)(b:GI f od=a_ (a_ v))(q:Q (.done (.ret v)) s):
  CT (Dd prog w) A (Builtin.«object.__getattribute__» ⟨[.ref a,.str f tk],[]⟩) Q E s:=by
 have U:=I.type (M:=Dd prog w);have J:=looks_find (M:=Dd prog w) X I (Kh Y.hd Y.no rfl b);unfold Builtin.«object.__getattribute__»;exact p_ (Cb (p_ (Cb (p_ (U.here (p_ (J.here (Cb q))))))))
theorem x_get{ex:Bool}{Q:Vp}(FB:ET B bmB)(X:K.In s.heap)(I:EC s.heap a oe C (a_ od))(Z:A5 K C)(Y:A6 K C f)(i:GI f od=a_ (a_ v))(hh:IB v=e_)(q:Q v {s with toks:=s.toks+1}):
  CT (Dd prog w) A (JV (.ref a) f ex) Q E s:=by
 obtain⟨h,g,d,t,os⟩:=s;have e:=I.type (M:=Dd prog w);have c:=FV (M:=Dd prog w) X Z.ga;have b:=FV (M:=Dd prog w) X Z.gt;have b3:=FB.ga.bind (.ref a);have k:(Gf "BaseException.__getattribute__"==Gf "object.__getattribute__")=b_:=by decide +kernel
 have J:∀{U:Fm} (R:JY->x_->Prop),R (.ok (.ret v)) ⟨h,g,d,t+1,os⟩->Gk (Dd prog w) U (.call (.builtin "BaseException.__getattribute__") ⟨[.ref a,.str f t],[]⟩) R ⟨h,g,d,t+1,os⟩:=λ{U} R j=>FR FB.ga.plain KQ (qE X I Z.bs (x_ga (s:=⟨h,g,d,t+1,os⟩) X I Y i j))
 have ho:=handedOut_of hh;unfold JV K1;refine p_ (wpAny_mkText ?_);repeat (any_goals (first|assumption|with_reducible refine e.at ?_|with_reducible refine c.at ?_|with_reducible refine b.at ?_|wp_step))
 rw[show(ex&&onTheHeap (Gf "BaseException.__getattribute__"))=b_ by rw[show onTheHeap (Gf "BaseException.__getattribute__")=b_ from rfl,Fe],l_ DZ]
 repeat (any_goals (first|wp_step|assumption))
 all_goals (refine J _ ?_)
 repeat (any_goals (first|wp_step|assumption))
 all_goals (first|(rw[ho];exact wpAny_pure q)|exact q)
end
noncomputable def XO(a C:g_)(dx:Option g_):HO:=.ext λh=>∃vs:Array j_,vs[1]?=a_ .none/\h.get? a=a_ ⟨.ref C,dx,.fields vs,#[]⟩
noncomputable def XD(d:g_)(fs:List (o_×V)):HO:=.ext λh=>∃mA,h.Ns1 d mA/\(∀f,qD (fs.lookup f) (mA f))/\Gs mA (fs.map (·.1))
section
variable{d:g_}{dx:Option g_}{fs:List (o_×V)}
theorem xo_ok{vs:Array j_}(h1:vs[1]?=a_ .none)(e:h.get? a=a_ ⟨.ref C,dx,.fields vs,#[]⟩):eo P w H h a (XO a C dx):=⟨⟨vs,h1,e⟩,⟨_,e⟩,λ_ _ ⟨vs,q,e⟩ k=>⟨vs,q,k _ e⟩⟩
theorem xd_ok{mA:Mq}(n:h.Ns1 d mA)(r:∀f,qD (fs.lookup f) (mA f))(wi:Gs mA (fs.map (·.1))):eo P w H h d (XD d fs):=
 ⟨⟨mA,n,r,wi⟩,(let ⟨o,_,_,e,_⟩:=n;⟨o,e⟩),λ_ _ ⟨m,q,z⟩ k=>⟨m,q.at k,z⟩⟩
theorem Ai(x:eo P w H h a (XO a C dx)):∃vs:Array j_,vs[1]?=a_ .none/\h.get? a=a_ ⟨.ref C,dx,.fields vs,#[]⟩:=x.1
theorem xd_get(x:eo P w H h d (XD d fs)):∃mA,h.Ns1 d mA/\(∀f,qD (fs.lookup f) (mA f))/\Gs mA (fs.map (·.1)):=x.1
end
theorem Inv.turn{t':Nat}(I:Inv X pins σ H s)(S:g_->Prop)(k:∀b o,¬S b->s.heap.get? b=a_ o->h'.get? b=a_ o)(J:∀b,¬S b->H' b=H b)(U:∀b,S b->(∃d,H b=a_ (.ext d))\/s.heap.get? b=d_)(Y:∀b o,S b->s.heap.get? b=a_ o->∃o',h'.get? b=a_ o')(f:∀b o,S b->H' b=a_ o->eo X.prog X.w H' h' b o):
  Inv X pins σ H' {s with heap:=h',toks:=t'}:=by
 have out:∀b u,H b=a_ u->(∀d,u≠.ext d)->¬S b:=λb u e n z=>by
  rcases U b z with⟨d,q⟩|q
  ·rw[e]at q;cases q;exact n d rfl
  ·obtain⟨o,r⟩:=(I.hok b u e).is;rw[r]at q;cases q
 have a:∀b o,s.heap.get? b=a_ o->H b=d_->¬S b:=λb o e n z=>by
  rcases U b z with⟨d,q⟩|q
  ·rw[n]at q;cases q
  ·rw[e]at q;cases q
 refine I.un ⟨λb o e n _ _=>k b o (a b o e n) e,λb o e n _ _=>⟨o.slots,k b o (a b o e n) e⟩,λb o e n _=>by rw[J b (a b o e n)];exact n,λb o e _=>?_,λb xs e=>?_,λb o u e=>?_,λb ps e=>?_⟩ λb u e=>?_
 ·by_cases z:S b
  ·exact Y b o z e
  ·exact⟨o,k b o z e⟩
 ·rw[J b (out b _ e λ_ z=>nomatch z)];exact e
 ·rw[J b (out b _ e λ_ z=>nomatch z)];exact e
 ·exact⟨#[],by rw[J b (out b _ e λ_ z=>nomatch z),Array.append_empty];exact e⟩
 ·by_cases z:S b
  ·exact f b u z e
  ·rw[J b z]at e;refine(I.hok b u e).vR (λc v g q=>k c v ?_ q) (λc q=>?_) λc xs q=>?_
   ·rcases g with rfl|g
    ·exact z
    ·exact out c _ g λ_ z=>nomatch z
   ·rw[J c (out c _ q λ_ z=>nomatch z)];exact q
   ·rw[J c (out c _ q λ_ z=>nomatch z)];exact q
section
variable{E:Vp}{d:g_}{f:o_}{y:V} 
theorem xset1_ok{Q:Unit->x_->Prop}(I:Inv X pins σ H s)(e:H a=a_ (XO a C d_))(Z:A6 X.K C f)(h:RelV y u)(z:∀d s',H d=d_->d≠a->Inv X pins σ (upd (upd H d (XD d [(f,y)])) a (XO a C (a_ d))) s'->Q () s'):CT (Dd X.prog X.w) A (KC (.ref a) f u) Q E s:=by
 obtain⟨vs,v1,l⟩:=Ai (I.hok a _ e);have fr:=I.hok.fresh (u_ s.heap.objs.size);have c:s.heap.objs.size≠a:=λq=>by rw[q,e]at fr;cases fr
 refine x_set1 I.kIn Z l λh' e1 i k=>z s.heap.objs.size _ fr c ?_;refine I.turn (λb=>b=a\/b=s.heap.objs.size) (λb o Y q=>k b o (λr=>Y (.inl r)) q) (λb Y=>by rw[ao λr=>Y (.inl r),ao λr=>Y (.inr r)]) (λb U=>?_) (λb o U q=>?_) λb o U q=>?_
 ·rcases U with rfl|rfl
  ·exact .inl ⟨_,e⟩
  ·exact .inr (get_none (u_ _))
 ·rcases U with rfl|rfl
  ·exact⟨_,e1⟩
  ·rw[get_none (u_ _)]at q;cases q
 ·rcases U with rfl|rfl
  ·rw[aq]at q;cases q;exact xo_ok v1 e1
  ·rw[ao c,aq]at q;cases q;refine xd_ok i (λg=>?_) λg j=>?_
   ·show qD (DN g [(f,y)]) (if g=f then a_ u else d_);rw[w_];by_cases J:g=f
    ·rw[i_ J,show(g==f)=e_ from Et.mpr J];exact h
    ·rw[l_ J,show(g==f)=b_ from FF.mpr J];trivial
   ·by_cases J:g=f
    ·exact A_.mpr (.inl J)
    ·exact Dc (show(if g=f then a_ u else d_)=d_ from l_ J) j
end
noncomputable def sX1(C:g_)(ta tv:TE)(f:o_):TS:=λD σ H=>tv σ H λy H1=>ta σ H1 λx H2=>∃a,x=.ref a/\H2 a=a_ (XO a C d_)/\∀d,H2 d=d_->d≠a->D.nx σ (upd (upd H2 d (XD d [(f,y)])) a (XO a C (a_ d)))
section
variable{o:Ed}{f:o_} 
theorem ps_x1(i:PE X o ta)(hv:PE X value tv)(Z:A6 X.K C f)(g: ~~~(E_ value (a_ (.Attribute o f pos')) pos.line X.env=EY b_)):PS X (.Assign [.Attribute o f pos'] value pos) (sX1 C ta tv f):=by intro pins s σ H D I h;refine Im (thn (hv pins s σ H _ I h) λu U J=>?_) g;obtain⟨y,H1,m,Y,q⟩:=J;refine thn (i pins U σ H1 _ m q) λe p J=>?_;obtain⟨x,H2,l,b,a,ex,j,c⟩:=J;subst ex;cases(show e=CU a from b);exact xset1_ok l j Z Y λd n h1 h2 k=>⟨σ,_,k,c d h1 h2⟩
end
theorem upd_low{d:g_}{x y z:HO}:upd (upd (upd H a x) d y) a z=upd (upd H d y) a z:=by
 funext b
 by_cases I:b=a
 ·subst I;rw[aq,aq]
 ·rw[ao I,ao I];by_cases hd:b=d
  ·subst hd;rw[aq,aq]
  ·rw[ao hd,ao hd,ao I]
theorem fn_at(X:K.In h)(e:HZ K (.ref f)=a_ (.type "function")):∃o,h.get? f=a_ o/\o.cls=.type "function":=by
 unfold HZ at e;cases q:K.lookup f with
 |none=>simp only[q]at e;cases e|some o=>simp only[q]at e;exact⟨o,X _ _ q,by simpa using e⟩
theorem vL{M:HQ}{E:Vp}{q:o_}{N:g_}{bs:List j_}{k1:Option j_}{x:KN j_}{Q:Flow->x_->Prop}(i:tl.contains (.type "BaseException")=e_)(hh:A.handled=d_)(z:CT M A x (λv I=>∃e oe,v=.ref e/\I.heap.get? C=a_ (GY nm q C N bs tl hdct sn sub ab col dd k0 k1 k2 k3 k5 newId)/\I.heap.get? e=a_ oe/\oe.cls=.ref C/\(∃vs,oe.data=.fields vs/\vs[1]?=a_ .none)/\E (.ref e) I) E s):
  CT M A
    (raiseStmt env (a_ x) d_) Q E s:=by
 have j:(CU C::tl).contains (.type "BaseException")=e_:=by rw[JR,i,IY]
 unfold raiseStmt;refine p_ (thn z λv I J=>?_);obtain⟨e,oe,rfl,a,f,Y,⟨vs,hd,U⟩,h⟩:=J;obtain⟨oc,b,c,osl⟩:=oe;dsimp only at Y hd;subst Y hd;obtain⟨k,g,d,tk,os⟩:=I;repeat (first|(with_reducible refine Kg a ?_;rw[j])|with_reducible refine Gj f ?_|with_reducible refine Gj a ?_|wp_step)
 rw[U];refine Cb ?_;rw[l_ (by decide)];exact Cb (wpAny_raiseNew_none hh h)
noncomputable def XEq2(X:Cx)(E:XK)(C:g_):Prop:=∀(pins:Pn) (σ:St) (H:Hp) (s':x_) (a d:g_),Inv X pins σ H s'->ExA s'.heap a (.ref C) (a_ d) d_->X.s₀.heap.get? a=d_->H a=d_->E (.ref C) (a_ d) H->X.xe (.ref a) s'
section
variable{base:DR} 
theorem xeqD2:XEq2 (tM (CXd P w) P w K mg base N qual scope f cd A outer s H E) E C:=λ_ _ _ _ _ _ J x I fa q=>xe_of J x I (λT U=>nomatch U) fa q
end
noncomputable def tFldX(i:Nat)(a d:g_)(f:o_):TE:=λσ H Q=>σ[i]?=a_ (a_ (.ref a))/\∃gs v,H d=a_ (.xd gs)/\gs.lookup f=a_ v/\Q v H
section
variable{d:g_}{n f:o_} 
theorem pe_xfld(FB:ET B bmB)(Z:A5 X.K C)(Y:A6 X.K C f)(E:oe.cls=.ref C)(hd:∃vs,oe.data=.fields vs)(t:oe.dict=a_ d)(G: ~~~(X.N[i]?=a_ n))(hv:autoParam (Vis X.env.scope n) Jq4)(g:((n==("__debug__":o_))=b_)⁻¹)(e:((n==("__classdict__":o_))=b_)⁻¹)(F: ~~~(Ei (.Name n p1) f X.env (Di (.Name n p1) X.env)=Di (.Name n p1) X.env)):PE (X.hand a oe) (.Attribute (.Name n p1) f pos) (tFldX i a d f):=by
 intro pins s σ H Q I h;obtain⟨e1,gs,v,D,A,q⟩:=h;refine xB (env:=(X.hand a oe).env) F (thn (pv (X:=X.hand a oe) i G hv g e pins s σ H (λx H1=>x=.ref a/\H1=H) I ⟨.ref a,e1,rfl,rfl⟩) λu j y=>?_);obtain⟨x,H1,U,l,ex,K⟩:=y;subst ex K;cases(show u=CU a from l);have m:=(U.pin (a,oe) (DO ..)).1;obtain⟨mA,p,r⟩:=(show eo X.prog X.w H1 j.heap d (.xd gs)from U.hok d _ D)
 obtain⟨od,z,b⟩:=oY p;obtain⟨L,w,k⟩:=qD.some_of (v:=v) (o:=mA f) (by rw[<- A];exact r f);obtain⟨vs,c⟩:=hd;have J:EC j.heap a oe C (a_ od):=⟨m,E,by unfold H9;rw[c],by rw[t];exact z⟩
 exact x_get FB U.kIn J Z Y (by rw[b,w]) (ph k) ⟨v,H1,U.tok _,k,q⟩
end
noncomputable def oy(O:List Nat)(C:g_)(fb:ai->M Flo)(fx:List (o_×Dat)->ai->M ai):ai->M Flo:=λρ=>match fb (erase O ρ)with
 |.ok fl=>.ok fl|.error (.exc I (f::fs))=>if I=C then(fx (f::fs) ρ).bind λρ'=>.ok (.nx ρ')else .error .stuck
 |.error _=>.error .stuck
theorem BW{fb:ai->M Flo}{fl:Flo}(h:fb (erase O ρ)=.ok fl):oy O C fb fx ρ=.ok fl:=by unfold oy;rw[h]
theorem rj{fb:ai->M Flo}{f:o_×Dat}{fs:List (o_×Dat)}(h:fb (erase O ρ)=.error (.exc C (f::fs))):oy O C fb fx ρ=(fx (f::fs) ρ).bind λρ'=>.ok (.nx ρ'):=by unfold oy;rw[h];exact i_ rfl
section
variable{D:Ends}{fb:ai->M Flo} 
theorem rs_tryF(U:∀(a d:g_) (gs:List (o_×V)) (fs:List (o_×Dat)) (FB F H:Hp) (ρ:ai),Rep K F0 H0 FB O F H σ ρ->F d=a_ (.xd gs)->ir K F fs gs->gT K Wno ro F0 H0 FB OL O D ((fx fs ρ).bind λρ'=>.ok (.nx ρ'))->ts a (a_ d) (D.less i) (σ.set i (a_ (.ref a))) H)(t:tS K Wno ro F0 H0 OL O O (oy O C fb fx) D σ H):tTry (λE D σ H=>∃F1 H1,tS K (WE K E) ro F1 H1 OL [] O fb D σ H) i C ts D σ H:=by
 obtain⟨FB,F,ρ,r,p⟩:=t;have I:=r.jo;refine⟨F,H,FB,F,erase O ρ,⟨Step.refl r.st.fh,r.fb,I.len,λm d e _=>I.sl m d e,(λm d e h=>nomatch h),(λm n j g c h=>nomatch h)⟩,?_⟩
 cases e:fb (erase O ρ)with
 |ok fl=>
  rw[BW e]at p;cases fl with
  |nx ρ'=>exact λσ' F' H' r'=>p σ' F' H' (r'.back r.st)|rt d=>exact λv F' H' s' q=>p v F' H' (r.st.trans s') (q.back r.st.hh)|bk ρ'=>exact λσ' F' H' r'=>p σ' F' H' (r'.back r.st)|ct ρ'=>exact λσ' F' H' r'=>p σ' F' H' (r'.back r.st)
 |error x=>
  cases x with
  |stuck=>exact p.stuck (by unfold oy;rw[e])|exc b fs=>
   cases fs with
   |nil=>exact p.stuck (by unfold oy;rw[e])|cons f fs=>
    by_cases J:b=C
    ·subst J;rw[rj e]at p;exact λF' H' s' d gs hd Y=>⟨rfl,λa _=>U a d gs _ FB F' H' ρ (r.step s') hd Y p⟩
    ·exact p.stuck (by unfold oy;rw[e];exact l_ J)
end
section
variable{c n:o_}{fb:ai->M Flo} 
theorem ds_tryF(l:∀(pins:Pn) (σ:St) (E:XK) (U:Vp),gA (CXd X.prog X.w) (X.qH U) pins σ E->DSat K E ro (X.qH U) OL [] O pins σ body fb)(f:∀(a:g_) (oe:G8),oe.cls=.ref C->(∃vs,oe.data=.fields vs)->PSs (X.hand a oe) (b₀::suite) (ts a oe.dict))(m:∀(F0 H0:Hp) (D:Ends) (σ:St) (a d:g_) (gs:List (o_×V)) (fs:List (o_×Dat)) (FB F H:Hp) (ρ:ai),σ.length=X.N.length->Rep K F0 H0 FB O F H σ ρ->F d=a_ (.xd gs)->ir K F fs gs->gT K Wno ro F0 H0 FB OL O D ((fx fs ρ).bind λρ'=>.ok (.nx ρ'))->ts a (a_ d) (D.less i) (σ.set i (a_ (.ref a))) H)(t:rG X.K C bmB)(u:bmB.contains (.type "BaseException")=e_)(h:X.mg c=a_ (.ref C))(o:X.N.Nodup)(hi: ~~~(X.N[i]?=a_ n))(j: ~~~(X.env.scope.names.lookup n=a_ .local))(k: ~~~(Gl X c))(b: ~~~(X.ex=[]))(J: ~~~(X.stack=X.env::X.outer))(Y: ~~~(X.env.frame=a_ X.env.locals))(e:((c==("__debug__":o_))=b_)⁻¹):
  DS K Wno ro X OL O O (.Try body [.ExceptHandler (a_ (.Name c np)) (a_ n) (b₀::suite) hpos] [] [] pos) (oy O C fb fx):=λF0 H0 pins s σ H D I z=>
 ps_try (tb:=λE D σ H=>∃F1 H1,tS K (WE K E) ro F1 H1 OL [] O fb D σ H) (λpins σ E U g s H D I ⟨F1,H1,q⟩=>l pins σ E U g F1 H1 s H D I q) f t u h o hi j k b J Y e pins s σ H D I (rs_tryF (λa d gs fs FB F H ρ r h1 h2 p=>m F0 H0 D σ a d gs fs FB F H ρ I.len r h1 h2 p) z)
end
theorem Rep.told{ds:List Dat}(r:Rep K F0 H0 FB O F H σ ρ)(t:i≠j)(hi:i<σ.length)(k:j<σ.length)(Y:i∉O)(U:j∉O)(h:H l=d_)(u:aB K F ds vs):
  Rep K F0 H0 FB O (upd F l (.lst vs)) (upd H l (.lst vs)) (((σ.set i (a_ (.ref a))).set j (a_ (.ref l))).set i d_) ((ρ.set j (a_ (.lst ds))).set i d_):=by
 have g:F l=d_:=r.st.fh.free h;have s:aO F (upd F l (.lst vs)):=aO.upd g;have st:Step F H (upd F l (.lst vs)) (upd H l (.lst vs)):=by
  refine⟨s,λc o e=>by rw[ao (aL e h)];exact e,λc o e=>?_,λc o e=>?_⟩
  ·by_cases b:c=l
   ·subst b;rw[aq]at e ⊢;exact e
   ·rw[ao b]at e ⊢;exact r.st.fh c o e
  ·by_cases b:c=l
   ·subst b;exact .inr h
   ·rw[ao b]at e;exact .inl e
 have r2:=r.step st;have out:∀m,m≠i->m≠j->(((σ.set i (a_ (.ref a))).set j (a_ (.ref l))).set i d_)[m]?=σ[m]?:=λm h1 h2=>by rw[k_ (DL h1),k_ (DL h2),k_ (DL h1)]
 have I:∀m,m≠i->m≠j->((ρ.set j (a_ (.lst ds))).set i d_)[m]?=ρ[m]?:=λm h1 h2=>by rw[k_ (DL h1),k_ (DL h2)]
 have d:∀dd,((ρ.set j (a_ (.lst ds))).set i d_)[i]?≠a_ (a_ dd):=λdd e=>by rw[s_ (by rw[CY,r.len];exact hi)]at e;cases e
 refine⟨r2.st,r2.fb,by simp only[CY];exact r.len,λm dd e J=>?_,λm dd e J=>?_,λm n w v c J f e1 e2 e3 e4=>?_⟩
 ·by_cases h1:m=i
  ·subst h1;exact(d _ e).elim
  ·by_cases h2:m=j
   ·subst h2;rw[k_ (DL h1),s_ (by rw[r.len];exact k)]at e;cases e;refine⟨.ref l,by rw[k_ (DL h1),s_ (by rw[CY];exact k)],l,vs,rfl,SqL.of aq,aB.mono s u⟩
   ·rw[I m h1 h2]at e;rw[out m h1 h2];exact r2.fz m dd e J
 ·have h1:m≠i:=λz=>Y (z▸J);have h2:m≠j:=λz=>U (z▸J);rw[I m h1 h2]at e;rw[out m h1 h2];exact r2.ow m dd e J
 ·have h1:m≠i:=λz=>Y (z▸J);have h2:m≠j:=λz=>U (z▸J);have q:n≠i:=λz=>Y (z▸f);have p:n≠j:=λz=>U (z▸f);rw[I m h1 h2]at e1;rw[I n q p]at e2;rw[out m h1 h2]at e3;rw[out n q p]at e4;exact r2.ap m n w v c J f e1 e2 e3 e4
theorem Be:Passes (CXd X.prog X.w) X (λ_ _ _=>False):=by rintro pins σ H1 J e s' I ⟨a,T,C,dx,H',rfl,z⟩;exact z.want.elim
section
variable{W:dS} 
theorem ps_nox{t:TS}(h:PS X.nox st t):PS X st t:=λpins s σ H D I z=>D1 (h pins s σ H D (I.qH _) z) (λ_ _ q=>q.iT) λ_ _ y=>(show False from y).elim
theorem lG{g:ai->M Flo}(h:DS K Wno ro X.nox OL O O' st g):DS K W ro X OL O O' st (zN g):=λF0 H0=>PS.imp (ps_nox (h F0 H0)) λD σ H ⟨FB,F,ρ,r,p⟩=>by
 refine⟨FB,F,ρ,r,?_⟩
 have p:gT K W ro F0 H0 FB OL O' D (noX (g ρ)):=p;unfold gT at p ⊢;cases e:g ρ with
 |ok fl=>rw[e]at p;cases fl<;>exact p
 |error x=>rw[e]at p;exact(W.ns p).elim
end
structure XMk(K:Fg)(mg:Mq)(x:o_)(C f:g_):Prop where
 mg:mg x=a_ (.ref C)
 ex:jP K C [.type "ValueError",.type "Exception",.type "BaseException",.type "object"] "ValueError.__new__" f=e_
 fn:HZ K (.ref f)=a_ (.type "function")
 kp:Fh K (.ref C)
   =e_
structure XTry(K:Fg)(mg:Mq)(x:o_)(C:g_):Prop where
 mg:mg x=a_ (.ref C)
 nm:rG K C [.type "ValueError",.type "Exception",.type "BaseException",.type "object"]
 isi:A5 K C
noncomputable def rIsi(K:Fg)(C a:g_)(R:Hp->Prop):List V->Hp->VK->Prop:=λxs H Q=>R H/\∃v b,xs=[.ref a,v] /\
  ((∃c,RelV v c/\(∀u,RelV v u->u=c)/\DM K (.ref C) c=a_ b)\/∃(I:g_) (ys:List g_),v=.ref I/\H I=a_ (.tup (ys.map V.ref))/\kitAny K (.ref C) (ys.map CU)=a_ b)/\Q (.bl b) H
noncomputable def XDk(d:g_):Hp->Prop:=λH=>∃gs,H d=a_ (.xd gs)
noncomputable def tIsiR(i:Nat)(a:g_)(R:Hp->Prop)(b:Bool):TE:=λσ H Q=>σ[i]?=a_ (a_ (.ref a))/\R H/\Q (.bl b) H
section
variable{d:g_} 
theorem c_isiD(FB:ET B bmB)(Z:A5 X.K C)(N:oe.cls=.ref C)(hd:∃vs,oe.data=.fields vs)(F:oe.dict=a_ d):gm (X.hand a oe) (.builtin "isinstance") (rIsi X.K C a (XDk d)):=by
 intro pins s σ H xs us Q I r h;obtain⟨⟨gs,L⟩,v,b,rfl,h1,q⟩:=h;obtain⟨u,w,rfl,y,Y⟩:=r.two;cases(show u=CU a from y);have A:=(I.pin (a,oe) (DO ..)).1;obtain⟨vs,j⟩:=hd;obtain⟨mA,⟨od,es,ep,K,i⟩,_⟩:=(show eo X.prog X.w H s.heap d (.xd gs)from I.hok d _ L)
 have J:EC s.heap a oe C (a_ od):=⟨A,N,by unfold H9;rw[j],by rw[F];exact K⟩
 rcases h1 with⟨c,P,U,e⟩|⟨f,ys,rfl,G,e⟩
 ·cases U w Y;exact Fb (nO FB Z) I.kIn J e (λz=>nomatch z) λtk=>⟨.bl b,H,I.tok tk,rfl,q⟩
 ·cases(show w=CU f from Y);obtain⟨_,its,x,E,t,p⟩:=(show eo X.prog X.w H s.heap f (.tup (ys.map V.ref))from I.hok f _ G)
  obtain⟨o,n,m⟩:=p;have O:its=ys.map CU:=sm x;subst O;obtain⟨oc,D,g,osl⟩:=E;have l:oc=FC "tuple":=o;have k:g=.seq (ys.map CU).toArray n:=m;subst l k;exact JM (nO FB Z) I.kIn J t e (λz=>nomatch z) λtk=>⟨.bl b,H,I.tok tk,rfl,q⟩
end
section
variable{D:g_}{R:Hp->Prop}{n:o_}{b:Bool}
theorem pe_isO(g:gm (X.hand a oe) (.builtin "isinstance") (rIsi X.K C a R))(l:X.mg "isinstance"=d_)(v:X.mg y=a_ (.ref D))(o:DM X.K (.ref C) (.ref D)=a_ b)(t: ~~~(X.N[i]?=a_ n))(hv:autoParam (Vis X.env.scope n) Jq4)(f:((n==("__debug__":o_))=b_)⁻¹)(e:((n==("__classdict__":o_))=b_)⁻¹)(m: ~~~(Gl (X.hand a oe) "isinstance"))(c: ~~~(Gl (X.hand a oe) y))(d:((y==("__debug__":o_))=b_)⁻¹)(U: ~~~(h_ [.Name n p1,.Name y p2] X.env=[(b_,Di (.Name n p1) X.env),(b_,Di (.Name y p2) X.env)]))(J: ~~~(h_ [.Name y p2] X.env=[(b_,Di (.Name y p2) X.env)]))(Y: ~~~((DB pos (h_ [.Name y p2] X.env)).any (·.1)=b_)):
  PE (X.hand a oe) (.Call (.Name "isinstance" p) [.Name n p1,.Name y p2] [] pos) (tIsiR i a R b):=by
 have j:PE (X.hand a oe) (.Name y p2) (tC (.ref D)):=λpins s σ H Q I h=>gq I c v ⟨.ref D,H,I,rfl,h⟩ d;refine PE.imp (gw (X:=X.hand a oe) g m l F9 (ax (pv i t hv f e) (ax j aK J) (by rw[U,J])) (by decide) (by decide) (by rw[U,J]) Y) λσ H Q h=>?_;obtain⟨e1,r,q⟩:=h;exact⟨.ref a,e1,r,.ref D,b,rfl,.inl ⟨.ref D,rfl,λu k=>k,o⟩,q⟩
end
structure Yd(P:Ec)(w:Ek)(K:Fg)(mg:Mq)(base:DR)(CX:CXT)(k:Nat)(x:o_)(st:DX)(ps:List o_)(sp:Sp)(f:g_)(fd:EJ):Prop where
 d:Def K mg x st ps f fd
 o:eZ P w K mg base CX k f fd ps sp
section
open PySem.W
end
structure XTxt(K:Fg)(mg:Mq)(x:o_)(C:g_):Prop where
 mg:mg x=a_ (.ref C)
 ex:FN K C [.type "ValueError",.type "Exception",.type "BaseException",.type "object"] "ValueError.__new__"=e_
section
open PySem.W
end
section
open PySem.SetTable
end
section
open PySem
end
section
open PySem
end
section
open PySem
end
section
open PySem
end
section
open PySem
end
section
open PySem
end
section
open PySem
end
section
open PySem.W
end
section
variable{base:DR} 
theorem Fun.okE(F:Fun K x qual st f fd)(S:eA N ps (aA st))(J:∀vs H Q E,sp vs H Q E->vs.length=ps.length)(I:∀(cdv:j_) (A:Fm) (outer:List Iq) (s:x_) (H:Hp) (vs:List V) (Q:VK) (E:XK),fV k (A.deeper (Fn qual (aA st) s.heap.objs.size f cdv))->sp vs H Q E ->
   ∃t,PSs (tM CX P w K mg base N qual (aA st) f cdv A outer s H E) (bQ st) t/\t {nx:=λ_ H'=>Q .non H',rt:=Q} (start N vs) H):eZ P w K mg base CX (k+1) f fd ps sp:=by
 obtain⟨oc,od,kV,doc,pm,an,cdv,ct,osl,rfl,Y,U⟩:=F.ex;exact fn_of Y U S J (I cdv)
end
structure Abt(p:g_)(F H F' H':Hp):Prop where
 ff:aO F F'
 fh:aO F' H'
 fp:F' p=d_
 nw:∀b o,F' b=a_ o->F b=a_ o\/H b=d_
 hh:∀c o,H c=a_ o->c≠p->H' c=a_ o
theorem Abt.born{C:g_}{F H F' H':Hp}{x dx:g_}{fs:List (o_×V)}(s:aO F H)(U:H x=d_)(J:H dx=d_)(I:dx≠x)(z:Abt x F (upd (upd H dx (.own x)) x (.ins C dx [])) F' H')(Y:H' x=a_ (.ins C dx fs)):Step F H (upd F' x (.ins C dx fs)) H':=
 Step.born s U J I z.ff z.fh z.fp z.nw z.hh Y
theorem Abt.step{x:g_}(U:H x=d_)(I:H dx=d_)(z:Abt x F (upd (upd H dx (.own x)) x (.ins C dx [])) F' H'):Step F H F' H' where
 ff:=z.ff
 hh:=λc o e=>by
  have J:c≠x:=λh=>by rw[h,U]at e;cases e
  have hd:c≠dx:=λh=>by rw[h,I]at e;cases e
  exact z.hh c o (by rw[ao J,ao hd];exact e) J
 fh:=z.fh
 nw:=λc o e=>by
  rcases z.nw c o e with q|q
  ·exact .inl q
  ·refine .inr ?_;by_cases J:c=x
   ·subst J;exact U
   ·by_cases hd:c=dx
    ·subst hd;exact I
    ·rw[ao J,ao hd]at q;exact q
noncomputable def isiC(tb:List (g_×Bool)):Dat->M Dat
 |.ins C _=>match tb.lookup C with
  |some b=>.ok (.bl b)|none=>stk
 |_=>stk
section
variable{W:dS}{own:Bool}{a:Ed}{D:g_}{tb:List (g_×Bool)}
theorem c_isiC(f:∀C b,tb.lookup C=a_ b->(∃x,Kls K X.mg x C)/\DM K (.ref C) (.ref D)=a_ b)(g: ~~~(X.K=K)):gm X (.builtin "isinstance") (λxs H Q=>∃v,xs=[v,.ref D]/\rD1 K W own (isiC tb) v H Q):=by
 subst g;intro pins s σ H xs us Q I r h;obtain⟨v,rfl,F,d,Y,q,p⟩:=h;obtain⟨u,w,rfl,a,J⟩:=r.two;cases(show w=CU D from J);cases d with
 |ins C fs=>
  cases U:tb.lookup C with
  |none=>
   have p:aH X.K W own F H (match tb.lookup C with
    |some b=>.ok (.bl b)|none=>stk) Q:=p
   rw[U]at p;exact aH.stuck p
  |some b=>
   have p:aH X.K W own F H (match tb.lookup C with
    |some b=>.ok (.bl b)|none=>stk) Q:=p
   rw[U]at p;obtain⟨⟨x,c⟩,e⟩:=f C b U;obtain⟨l,dx,gs,e1,i,j⟩:=q;subst e1;exact Bz I a (c.ty (Y _ _ i)) e λtk=>⟨.bl b,H,I.tok tk,rfl,aH.bl (own:=own) p Y⟩
 |_=>exact aH.stuck p
theorem de_isiC(g:∀C b,tb.lookup C=a_ b->(∃x,Kls K X.mg x C)/\DM K (.ref C) (.ref D)=a_ b)(c:X.mg "isinstance"=d_)(j:X.mg y=a_ (.ref D))(f:DE K W b_ X a fa)(i: ~~~(X.K=K))(e: ~~~(Gl X "isinstance"))(Y: ~~~(Gl X y))(hd:((y==("__debug__":o_))=b_)⁻¹)(J: ~~~(h_ [a,.Name y p2] X.env=[(b_,Di a X.env),(b_,Di (.Name y p2) X.env)]))(I: ~~~(h_ [.Name y p2] X.env=[(b_,Di (.Name y p2) X.env)]))(U: ~~~((DB pos (h_ [.Name y p2] X.env)).any (·.1)=b_)):
  DE K W own X (.Call (.Name "isinstance" p) [a,.Name y p2] [] pos) (f1 (isiC tb) fa):=
 (gw (c_isiC g i) e c F9 (ax f (ax (sC (v:=.ref D) (pos:=p2) Y j rfl hd) aK I) (by rw[J,I])) (by decide) (by decide) (by rw[J,I]) U).imp λσ H Q h=>by
  obtain⟨F,ρ,r,s,q⟩:=rd_1 h;refine⟨F,ρ,r,s,?_⟩
  cases e1:fa ρ with
  |error z=>rw[e1]at q;exact q|ok d=>rw[e1]at q;exact λv F' H' st z=>⟨v,rfl,q v F' H' st z⟩
theorem isi2{P:g_->Bool->Prop}{I:g_}(h1:P I b1)(h2:P C2 b2):∀C b,DN C [(I,b1),(C2,b2)]=a_ b->P C b:=λC b h=>by
 rw[w_]at h;cases e:C==I with
 |true=>rw[e]at h;cases h;rw[Et.mp e];exact h1|false=>
  rw[e]at h;have h:DN C [(C2,b2)]=a_ b:=h;rw[w_]at h;cases e2:C==C2 with
  |true=>rw[e2]at h;cases h;rw[Et.mp e2];exact h2|false=>rw[e2]at h;cases h
end
noncomputable def As(K:Fg)(i j:Nat)(b1 b2 b3:Bool)(ys:List g_)(a:g_):Option g_->TS
 |none=>iJ (yL (AA (aM (ud i a b1) (aM (ud i a b2) dR))) (gS j)) (pW (tBM K "list" jU (cn j) (aM (tIsiT i a ys b3) dR)))|some _=>Az
noncomputable abbrev tKind(P:Ec)(w:Ek):HeapKind P w (List Int):=tupleKind (JT P w)
theorem u9{P:Ec}{w:Ek}:∀{k:List Int} {us:List j_},Vals (k.map V.int) us->ItemsAre (JT P w) k us
 |[],_,.nil=>.nil|i::k,_,.cons r t=>by
  obtain⟨t',rfl⟩:=(show ∃t,_=Gy i t from r)
  exact .cons (by simp[JT,KJ]) (u9 t)
theorem mC.at{xs:List lR}(z:mC h a xs ep)(e:∀o,h.get? a=a_ o->h'.get? a=a_ o):mC h' a xs ep:=
 let ⟨vs,r,hd,J,I,o,es,h1,h2⟩:=z;⟨vs,r,hd,J,I,o,es,e o h1,h2⟩
theorem Ca{xs:List lR}(z:mC h a xs ep):eo P w H h a (vE a xs ep):=
 ⟨z,let ⟨_,_,_,_,_,o,_,e,_⟩:=z;⟨o,e⟩,λ_ _ z e=>z.at e⟩
noncomputable def pR(K:Fg)(H:Hp)(xs:List lR):Prop:=∀x∈xs,SqT K H x.2.1 (x.1.map V.int)
theorem pR.mono{xs:List lR}(z:pR K H xs)(s:aO H H'):pR K H' xs:=λx I=>s.tup (z x I)
theorem d8.key{K:Fg}{F:Hp}:∀{ks:List (List Int×Dat)} {xs:List lR},d8 K F ks xs->pR K F xs
 |[],_,h,x,I=>by rw[show _=[]from h]at I;cases I|(k,d)::ks,_,⟨b,v,r,e,t,q,z⟩,x,I=>by
  subst e;rcases A_.mp I with rfl|I
  ·exact t
  ·exact d8.key z x I
theorem d8.length{K:Fg}{F:Hp}:∀{ks:List (List Int×Dat)} {xs:List lR},d8 K F ks xs->xs.length=ks.length
 |[],_,h=>by rw[show _=[]from h];rfl|(k,d)::ks,_,⟨b,v,r,e,t,q,z⟩=>by rw[e,CZ,CZ,d8.length z]
noncomputable def Ad(ks:List (List Int×Dat))(k:List Int):Option Dat:=(ks.find? λp=>q_ (p.1=k)).map (·.2)
noncomputable def BG(xs:List lR)(k:List Int):Option V:=(xs.find? λp=>q_ (p.1=k)).map (·.2.2)
noncomputable def ze(ks:List (List Int×Dat))(k:List Int)(d:Dat):List (List Int×Dat):=if (Ad ks k).isSome=e_ then ks.map (λp=>if p.1=k then(p.1,d)else p)else ks++[(k,d)]
noncomputable def putR(xs:List lR)(k:List Int)(b:g_)(v:V):List lR:=if (BG xs k).isSome=e_ then xs.map (λx=>if x.1=k then(x.1,x.2.1,v)else x)else xs++[(k,b,v)]
theorem wM(xs:List lR)(k:List Int)(b:g_)(v:V):(putR xs k b v).length<=xs.length+1:=by
 unfold putR;split
 ·rw[y_];omega
 ·rw[CV];exact u_ _
theorem sk{k:List Int}:∀{xs:List lR} {vs:List (List Int×g_×j_)},Gv lN xs vs->qD (BG xs k) ((atKey vs k).map (·.2))
 |_,_,.nil=>EK|x::xs,q::vs,.cons h t=>by
  obtain⟨h1,h2,J⟩:=h;by_cases e:x.1=k
  ·have I:q.1=k:=h1.symm.trans e;simp only[BG,atKey,Gr,e,I,decide_true,HS];exact J
  ·have I:¬q.1=k:=λz=>e (h1.trans z);have:=sk (k:=k) t;simpa only[BG,atKey,Gr,e,I,decide_false] using this
theorem d8.at{K:Fg}{F:Hp}{k:List Int}:∀{ks:List (List Int×Dat)} {xs:List lR},d8 K F ks xs->(Ad ks k=d_/\BG xs k=d_)\/∃d v,Ad ks k=a_ d/\BG xs k=a_ v/\aP K F d v
 |[],_,h=>by rw[show _=[]from h];exact .inl ⟨rfl,rfl⟩|(k',d)::ks,_,⟨b,v,r,e,t,q,z⟩=>by
  subst e;by_cases e:k'=k
  ·exact .inr ⟨d,v,by simp[Ad,e],by simp[BG,e],q⟩
  ·have:=d8.at (k:=k) z;simpa only[Ad,BG,Gr,e,decide_false] using this
theorem d8.isSome{K:Fg}{F:Hp}{k:List Int}{ks:List (List Int×Dat)}{xs:List lR}(z:d8 K F ks xs):(BG xs k).isSome=(Ad ks k).isSome:=by rcases z.at (k:=k)with⟨e1,e2⟩|⟨d,v,e1,e2,_⟩<;>rw[e1,e2]<;>rfl
theorem d8.repl{K:Fg}{F:Hp}{k:List Int}{d:Dat}{v:V}(q:aP K F d v):∀{ks:List (List Int×Dat)} {xs:List lR},d8 K F ks xs->d8 K F (ks.map λp=>if p.1=k then(p.1,d)else p) (xs.map λx=>if x.1=k then(x.1,x.2.1,v)else x)
 |[],_,h=>by rw[show _=[]from h];rfl|(k',d')::ks,_,⟨b,v',r,e,t,I,z⟩=>by
  subst e;rw[Dp,Dp];by_cases e:k'=k
  ·rw[i_ e,i_ e];exact⟨b,v,_,rfl,t,q,d8.repl q z⟩
  ·rw[l_ e,l_ e];exact⟨b,v',_,rfl,t,I,d8.repl q z⟩
theorem d8.snoc{K:Fg}{F:Hp}{k:List Int}{b:g_}{d:Dat}{v:V}(t:SqT K F b (k.map V.int))(q:aP K F d v):∀{ks:List (List Int×Dat)} {xs:List lR},d8 K F ks xs->d8 K F (ks++[(k,d)]) (xs++[(k,b,v)])
 |[],_,h=>by rw[show _=[]from h];exact⟨b,v,[],rfl,t,q,rfl⟩|(k',d')::ks,_,⟨J,v',r,e,t',I,z⟩=>by subst e;exact⟨J,v',_,rfl,t',I,d8.snoc t q z⟩
theorem d8.put{k:List Int}{d:Dat}{xs:List lR}(z:d8 K F ks xs)(t:SqT K F b (k.map V.int))(q:aP K F d v):d8 K F (ze ks k d) (putR xs k b v):=by
 unfold ze putR;rw[z.isSome];by_cases h:(Ad ks k).isSome=e_
 ·rw[i_ h,i_ h];exact z.repl q
 ·rw[l_ h,l_ h];exact z.snoc t q
theorem ux{k:List Int}{v:V}{u:j_}(I:RelV v u):∀{xs:List lR} {vs:List (List Int×g_×j_)},Gv lN xs vs->Gv lN (xs.map λx=>if x.1=k then(x.1,x.2.1,v)else x) (vs.map (putAt k u))
 |_,_,.nil=>.nil|x::xs,q::vs,.cons h t=>by
  rw[Dp,Dp];refine .cons ?_ (ux I t);obtain⟨h1,h2,J⟩:=h;unfold putAt;by_cases e:x.1=k
  ·rw[i_ e,i_ (h1.symm.trans e)];exact⟨h1,h2,I⟩
  ·rw[l_ e,l_ (λz=>e (h1.trans z))];exact⟨h1,h2,J⟩
theorem rows_put{k:List Int}(I:RelV v u){xs:List lR}{vs:List (List Int×g_×j_)}(r:Gv lN xs vs):Gv lN (putR xs k b v) (storedH vs k b u):=by
 have e:(BG xs k).isSome=(atKey vs k).isSome:=by rw[(sk r).BA,JB]
 unfold putR storedH;rw[e];by_cases h:(atKey vs k).isSome=e_
 ·rw[i_ h,i_ h];exact ux I r
 ·rw[l_ h,l_ h];exact Paired.snoc r ⟨rfl,rfl,I⟩
theorem xW:∀{xs:List lR} {vs:List (List Int×g_×j_)},Gv lN xs vs->∀q∈vs,∃x∈xs,x.1=q.1/\x.2.1=q.2.1
 |_,_,.nil,_,h=>nomatch h
 |x::xs,q::vs,.cons h t,y,I=>by
  rcases A_.mp I with rfl|I
  ·exact⟨x,by simp,h.1,h.2.1⟩
  ·obtain⟨J,h1,h2⟩:=xW t y I;exact⟨J,by simp[h1],h2⟩
section
variable{xs:List lR}{k:List Int}
theorem vM(I:Inv X pins σ H s)(h:SqT X.K H b (k.map V.int)):(tKind X.prog X.w).is s.heap k b:=by obtain⟨its,r,⟨o,h1,h2,n,J⟩,_⟩:=I.tuple h;exact⟨o,its.toArray,n,h1,h2,J,by simpa using u9 r⟩
theorem yx(I:Inv X pins σ H s)(e:H a=a_ (vE a xs ep)):mC s.heap a xs ep:=(show mC s.heap a xs ep/\_ from I.hok a _ e).1
theorem dic_at(I:Inv X pins σ H s)(e:H a=a_ (vE a xs ep))(z:pR X.K H xs):∃vs,Gv lN xs vs/\(a==FQ)=b_/\xs.length<=m_/\s.heap.DictOfH (tKind X.prog X.w) a vs:=by
 obtain⟨vs,r,hd,b,Y,o,es,h1,h2,d,c⟩:=yx I e;refine⟨vs,r,hd,b,o,es,ep,h1,h2,d,c,λq U=>?_,Y⟩
 obtain⟨x,J,e1,e2⟩:=xW r q U;rw[<- e1,<- e2];exact vM I (z x J)
theorem dic_ty(I:Inv X pins σ H s)(e:H a=a_ (vE a xs ep)):s.TypeIs (.ref a) "dict"/\(∀b,CU a=.ref b->∃J,s.heap.get? b=a_ J/\J.dict=d_):=by obtain⟨_,_,_,_,_,o,_,h1,h2,_⟩:=yx I e;exact⟨⟨o,h1,h2.1⟩,λc q=>by cases q;exact⟨o,h1,h2.2.1⟩⟩
theorem dicOk_of{vs:List (List Int×g_×j_)}(dd:h.DictOfH (tKind P w) a vs)(r:Gv lN xs vs)(hd:(a==FQ)=b_)(I:xs.length<=m_):∃ep,mC h a xs ep:=by obtain⟨o,es,ep,h1,h2,Y,U,_,J⟩:=dd;exact⟨ep,vs,r,hd,I,J,o,es,h1,h2,Y,U⟩
end
noncomputable def sPut(K:Fg)(td ty tv:TE):TS:=λD σ H=>tv σ H λv H1=>td σ H1 λx H2=>ty σ H2 λy I=>∃a b k xs ep,x=.ref a/\y=.ref b/\I a=a_ (vE a xs ep)/\pR K I xs/\SqT K I b (k.map V.int)/\xs.length<m_/\∀ep',D.nx σ (upd I a (vE a (putR xs k b v) ep'))
noncomputable def tGet2(K:Fg)(td ty tx:TE):TE:=λσ H Q=>td σ H λx H1=>∃a xs ep,x=.ref a/\H1 a=a_ (vE a xs ep)/\ty σ H1 λy H2=>tx σ H2 λz I=>∃b k,y=.ref b/\I a=a_ (vE a xs ep)/\pR K I xs/\SqT K I b (k.map V.int)/\Q ((BG xs k).getD z) I
noncomputable def tNewK:TE:=λ_ H Q=>∀p,H p=d_->Q (.ref p) (upd H p (vE p [] 0))
section
variable{o i f:Ed}{ty tx:TE}
theorem Cd(h:DR)(I:FQ<h.objs.size):mC (h.push {cls:=.type "dict",data:=.dict #[]}) h.objs.size [] 0:=
 ⟨[],.nil,FF.mpr (DL (Dx I)),FK _,Kj,_,#[],Df _ rfl,⟨rfl,rfl,rfl⟩,rfl,rfl⟩
theorem wm:PE X (.Dict [] [] pos) tNewK:=λpins s σ H Q I h=>wpAny_Dict_empty ⟨.ref s.heap.objs.size,_,I.laid (a:=s.heap.objs.size) (o:=vE s.heap.objs.size [] 0) (t':=s.toks) (λ_ _ q=>t_ _ q) (u_ _) (Ca (Cd s.heap I.big)),rfl,h _ (I.hok.fresh (u_ _))⟩
theorem Inv.dic{xs ys:List lR}{t':Nat}(I:Inv X pins σ H s)(e:H a=a_ (vE a xs ep))(J:GZ a s.heap h')(z:mC h' a ys ep'):Inv X pins σ (upd H a (vE a ys ep')) {s with heap:=h',toks:=t'}:=
 I.write (x:=a) (e:=a) (by rw[e];exact EK) (.inl rfl) (λc q U w=>(J.2 c U).trans w) (let ⟨_,_,_,_,_,o,_,w,_⟩:=z;⟨o,w⟩) (Ca z)
theorem ps_put(C:X.A.units+1<E8)(F:PE X o td)(hi:PE X i ty)(hv:PE X value tv)(E:E_ value (a_ (.Subscript o i pos')) pos.line X.env=EY b_):PS X (.Assign [.Subscript o i pos'] value pos) (sPut X.K td ty tv):=by
 intro pins s σ H D I h;refine wpAny_Assign_Subscript (thn (hv pins s σ H _ I h) λr j J=>?_) E;obtain⟨v,H1,N,n,w⟩:=J;refine thn (F pins j σ H1 _ N w) λu g J=>?_;obtain⟨x,H2,L,m,q⟩:=J;refine thn (hi pins g σ H2 _ L q) λA O J=>?_;obtain⟨y,Q,d,l,a,b,k,xs,ep,ex,K,f,G,t,P,p⟩:=J;subst ex K;cases(show u=CU a from m);cases(show A=CU b from l);obtain⟨vs,e,hd,B,dd⟩:=dic_at d f G;have U:vs.length<=m_:=by rw[<- He e];exact B
 refine wpAny_setItem_heap (hsz:=U) (Km C) (vM d t) dd λh' c Y=>?_;obtain⟨ep',z⟩:=dicOk_of c (rows_put n e) hd (by have:=wM xs k b v;omega);exact⟨σ,_,d.dic f Y z,p ep'⟩
theorem pe_get2(v:X.A.units+1<E8)(A:PE X o td)(D:PE X e ty)(C:PE X f tx)(m:M2 X o "get" apos e f cpos):PE X (.Call (.Attribute o "get" apos) [e,f] [] cpos) (tGet2 X.K td ty tx):=by
 intro pins s σ H Q I h;refine wpAny_Call_method m.base m.few m.line PySem.F.plainAttrs_dict IG PySem.F.type_dict_get (thn (A pins s σ H _ I h) λu d w=>?_);obtain⟨x,H1,Y,j,a,xs,ep,ex,G,q⟩:=w;subst ex;cases(show u=CU a from j);obtain⟨t1,t2⟩:=dic_ty Y G;refine⟨t1,t2,?_⟩
 rw[m.trees];refine IQ rfl (G9 (GB (thn (D pins d σ H1 _ Y q) λr c ⟨y,H2,K,i,p⟩=>GB (thn (C pins c σ H2 _ K p) λE N ⟨z,L,U,g,b,k,F,J,B,t,n⟩=>HA ?_))))
 subst F;cases(show r=CU b from i);obtain⟨vs,l,hd,O,dd⟩:=dic_at U J B;exact call_meetsIn IG dd.typeIs PySem.F.entry_dict_get (PySem.F.args_dict_get_3 _ _ _) (meetsH_dict_get_default (tKind X.prog X.w) a b hd E) ⟨Km v,k,vs,vM U t,dd,_,L,U.tok _,(sk l).getD g,n⟩
end
noncomputable def keyD:Dat->M (List Int)
 |.tup ds=>m6 ds|_=>stk
noncomputable def isDic:Dat->Bool
 |.dic _=>e_|_=>b_
noncomputable def BI:Dat->Dat->Dat->M Dat
 |.dic ks,I,x=>(keyD I).bind λk=>.ok ((Ad ks k).getD x)|_,_,_=>stk
noncomputable def uW(fd fk fx:ai->M Dat):ai->M Dat:=λρ=>(fd ρ).bind λd=>if isDic d=e_ then(fk ρ).bind λk=>(fx ρ).bind λx=>BI d k x else stk
theorem keyD_err{d:Dat}{e:Err}(h:keyD d=.error e):e=.stuck:=by
 cases d with
 |tup ds=>exact pf h|_=>cases h;rfl
theorem keyD_at{d:Dat}{k:List Int}(h:keyD d=.ok k)(q:aP K F d v):∃b,v=.ref b/\SqT K F b (k.map V.int):=by
 cases d with
 |tup ds=>obtain⟨b,xs,e,t,z⟩:=q;have:=pe z h;subst this;exact⟨b,e,t⟩
 |_=>cases h
section
variable{W:dS}{fd fx:ai->M Dat} 
theorem rd_getD(h:tD K W b_ (uW fd fk fx) σ H Q):tGet2 K (tD K W b_ fd) (tD K W b_ fk) (tD K W b_ fx) σ H Q:=by
 obtain⟨F,ρ,r,s,p⟩:=h;refine b6 r s (λe g=>p.err (by unfold uW;rw[g];rfl)) λd hd x F1 H1 Y A=>?_;have D:uW fd fk fx ρ=if isDic d=e_ then(fk ρ).bind λk=>(fx ρ).bind λx=>BI d k x else stk:=by unfold uW;rw[hd];rfl
 rw[D]at p;cases d with
 |dic ks=>
  have p:aH K W b_ F H ((fk ρ).bind λk=>(fx ρ).bind λx=>BI (.dic ks) k x) Q:=p;obtain⟨a,xs,e,⟨ep,m⟩,z⟩:=A;refine⟨a,xs,ep,e,Y.fh _ _ m,?_⟩
  refine b6 (r.mono Y.ff) Y.fh (λe g=>(p.step Y).err (by rw[g];rfl)) λj B y F2 H2 i u=>?_;rw[B]at p;have p:aH K W b_ F H ((fx ρ).bind λx=>BI (.dic ks) j x) Q:=p;have I:=Y.trans i;refine b6 (r.mono I.ff) I.fh (λe g=>(p.step I).err (by rw[g];rfl)) λc C w n E U o=>?_;rw[C]at p;have p:aH K W b_ F H ((keyD j).bind λk=>.ok ((Ad ks k).getD c)) Q:=p;cases J:keyD j with
  |error e=>rw[J]at p;have:=keyD_err J;subst this;exact aH.stuck p|ok k=>
   rw[J]at p;obtain⟨b,rfl,t⟩:=keyD_at J u;have f:=I.trans U;have l:=(z.mono i.ff).mono U.ff;refine⟨b,k,rfl,U.hh _ _ (i.hh _ _ (Y.fh _ _ m)),l.key.mono U.fh,U.fh.tup (U.ff.tup t),p _ n E f ?_⟩
   show aP K n _ _;rcases l.at (k:=k)with⟨e1,e2⟩|⟨d,v,e1,e2,q⟩
   ·rw[e1,e2];exact o
   ·rw[e1,e2];exact q
 |_=>exact aH.stuck p
end
section
variable{W:dS}{o ek ex:Ed}{fd fx:ai->M Dat} 
theorem de_newK:DE K W e_ X (.Dict [] [] pos) (fC (.dic [])):=wm.imp λσ H Q h=>by obtain⟨F,ρ,r,s,q⟩:=h;exact λa I=>q (.ref a) F _ (Step.grow s I) ⟨a,[],rfl,⟨0,aq⟩,s.free I,I,rfl⟩
theorem de_getD(d:X.A.units+64<E8)(J:DE K W b_ X o fd)(a:DE K W b_ X ek fk)(Y:DE K W b_ X ex fx)(c: ~~~(X.K=K))(b: ~~~(Ei o "get" X.env (Di o X.env)=Di o X.env))(hw: ~~~(((DB cpos (h_ [ek,ex] X.env)).all (λx=> !x.1)&&(EX cpos (D_ [] X.env)).all (λx=>x.1.isSome)&&q_ (([ek,ex]:List Ed).length+([]:List FU).length+(if ([]:List FU).isEmpty then 0 else 1)<30))=e_))(U: ~~~((apos.endLine==cpos.line)=e_))(I: ~~~(DB cpos (h_ [ek,ex] X.env)=[(b_,Di ek X.env),(b_,Di ex X.env)])):DE K W b_ X (.Call (.Attribute o "get" apos) [ek,ex] [] cpos) (uW fd fk fx):=by subst c;exact(pe_get2 (by omega) J a Y ⟨b,hw,U,I⟩).imp λ_ _ _=>rd_getD
end
section
open PySem
end
section
open PySem
end
section
open PySem
end
theorem Cc(z:mC h l [] ep):(l==FQ)=b_/\h.DictOf (JT P w) l []:=by obtain⟨vs,r,hd,Y,U,o,es,h1,h2,J,I⟩:=z;cases r;obtain⟨es⟩:=es;cases(show es=[]from I);exact⟨hd,o,_,ep,h1,h2,J,λi hi=>Dc hi (by simp),.nil,.nil⟩
section
open PySem.W hiding kindOf
end
section
open PySem.W hiding kindOf
variable{key:Nat->Int}
noncomputable def Srt(key:Nat->Int)(l:List Nat):Prop:=l.Pairwise λx y=>key x<=key y
noncomputable def rH(st I:Jg):Prop:=∃g,I=SortSt.mk' (kindOf st) (arrOf st) (Gw st) g (failedOf st)
theorem rH.trans{a b c:Jg}(h:rH a b)(k:rH b c):rH a c:=by obtain⟨g,rfl⟩:=h;obtain⟨g',rfl⟩:=k;exact⟨g',rfl⟩
theorem rH.kind{a b:Jg}(h:rH a b):kindOf b=kindOf a:=by obtain⟨g,rfl⟩:=h;rfl
end
section
open PySem.W hiding kindOf
end
section
open PySem.W hiding kindOf
end
section
open PySem.W hiding kindOf
variable{f:Nat->Keyed} 
structure SS(κ:SortKind)(f:Nat->Keyed)(n:Nat)(st:Jg)(p:List Nat):Prop where
 kind:kindOf st=κ
 ok:failedOf st=d_
 arr:arrOf st=(p.map f).toArray
 perm:p.Perm (DY n)
end
section
open PySem.W hiding kindOf
variable{key:Nat->Int}
noncomputable def kG(key:Nat->Int)(p:List Nat)(i:Nat):Int:=key (p.getD i 0)
noncomputable def Sg(key:Nat->Int)(p:List Nat)(lo hi:Nat):Prop:=∀i j,lo<=i->i<=j->j<hi->kG key p i<=kG key p j
noncomputable def Dg(key:Nat->Int)(p:List Nat)(lo hi:Nat):Prop:=∀i j,lo<=i->i<=j->j<hi->kG key p j<=kG key p i
noncomputable def Fx(lo:Nat)(p I:List Nat):Prop:=∀i,i<lo->I.getD i 0=p.getD i 0
theorem Fx.trans{lo:Nat}{p q r:List Nat}(h:Fx lo p q)(k:Fx lo q r):Fx lo p r:=λi hi=>(k i hi).trans (h i hi)
theorem Sg.step{p:List Nat}{m:Nat}(h:Sg key p lo (lo+m))(h1:1<=m)(a:¬kG key p (lo+m)<kG key p (lo+m-1)):Sg key p lo (lo+(m+1)):=λi j hi J b=>by
 by_cases I:j<lo+m
 ·exact h i j hi J I
 ·have Y:j=lo+m:=by omega
  subst Y;by_cases U:i=lo+m
  ·subst U;exact JF _
  ·have:=h i (lo+m-1) hi (by omega) (by omega);omega
theorem Dg.step{p:List Nat}{m:Nat}(h:Dg key p lo (lo+m))(h1:1<=m)(a:kG key p (lo+m)<=kG key p (lo+m-1)):Dg key p lo (lo+(m+1)):=λi j hi J b=>by
 by_cases I:j<lo+m
 ·exact h i j hi J I
 ·have Y:j=lo+m:=by omega
  subst Y;by_cases U:i=lo+m
  ·subst U;exact JF _
  ·have:=h i (lo+m-1) hi (by omega) (by omega);omega
end
section
open PySem.W hiding kindOf
end
section
open PySem.W hiding kindOf
variable{f:Nat->Keyed}{key:Nat->Int} 
noncomputable def mkP:Nat->List (List Nat×Nat)->List (Nat×Nat×Nat)
 |_,[]=>[]|a,(l,w)::r=>(a,l.length,w)::mkP (a+l.length) r
noncomputable def flt(gs:List (List Nat×Nat)):List Nat:=(gs.map Prod.fst).flatten
theorem flt_cons(g:List Nat×Nat)(y:List (List Nat×Nat)):flt (g::y)=g.1++flt y:=by simp[flt]
theorem wJ:∀(x:List (List Nat×Nat)) (a:Nat) (y:List (List Nat×Nat)),mkP a (x++y)=mkP a x++mkP (a+(flt x).length) y
 |[],a,y=>by simp[mkP,flt]|(l,w)::x,a,y=>by
  show(a,l.length,w)::mkP (a+l.length) (x++y)=(a,l.length,w)::(mkP (a+l.length) x++_)
  rw[wJ x,flt_cons,CV,KU]
theorem wI:∀(x:List (List Nat×Nat)) (a:Nat),(mkP a x).length=x.length
 |[],_=>rfl|(l,w)::x,a=>by simp[mkP,wI x]
structure RI(κ:SortKind)(f:Nat->Keyed)(key:Nat->Int)(n:Nat)(st:Jg)(gs:List (List Nat×Nat))(rest:List Nat):Prop where
 ss:SS κ f n st (flt gs++rest)
 pd:Gw st=(mkP 0 gs).toArray
 ok:∀g∈gs,Srt key g.1/\0<g.1.length
theorem RI.size{st:Jg}{gs:List (List Nat×Nat)}{rest:List Nat}(h:RI κ f key n st gs rest):(Gw st).size=gs.length:=by rw[h.pd];simp[wI]
noncomputable def rePw(I:Nat):Nat×Nat×Nat->Nat×Nat×Nat
 |(s,l,_)=>(s,l,I)
theorem RI.last{st:Jg}{gs:List (List Nat×Nat)}{rest:List Nat}{U:Nat}(h:RI κ f key n st gs rest):∃J,J.length=gs.length/\flt J=flt gs/\RI κ f key n (setPending st ((Gw st).modify ((Gw st).size-1) (rePw U))) J rest:=by
 by_cases e:gs=[]
 ·subst e;refine⟨[],rfl,rfl,⟨h.ss.kind,h.ss.ok,h.ss.arr,h.ss.perm⟩,?_,h.ok⟩
  show(Gw st).modify ((Gw st).size-1) (rePw U)=_;rw[h.pd];rfl
 ·obtain⟨I,b,l⟩:∃I b,gs=I++[b]:=⟨gs.dropLast,gs.getLast e,(List.dropLast_concat_getLast e).symm⟩
  subst l;obtain⟨b,a⟩:=b;have Y:flt (I++[(b,U)])=flt (I++[(b,a)]):=by simp[flt]
  refine⟨I++[(b,U)],by simp,Y,⟨h.ss.kind,h.ss.ok,?_,?_⟩,?_,λg k=>?_⟩
  ·rw[Y];exact h.ss.arr
  ·rw[Y];exact h.ss.perm
  ·show(Gw st).modify ((Gw st).size-1) (rePw U)=_;rw[h.size,h.pd,wJ,wJ];have j:=wI I 0;apply Array.ext_getElem?;intro i;rw[Array.getElem?_modify];simp only[CV,Jh,Nat.add_sub_cancel,Ji,mkP];by_cases c:I.length=i
   ·subst c;rw[i_ rfl,<- j,FH (u_ _),FH (u_ _),Nat.sub_self];rfl
   ·rw[l_ c];rcases Nat.lt_or_ge i I.length with d|d
    ·rw[EW (by omega),EW (by omega)]
    ·rw[Ge (by simp;omega),Ge (by simp;omega)]
  ·rcases Dv.mp k with e|e
   ·exact h.ok g (G_ _ e)
   ·have:=DK.mp e;subst this;exact h.ok (b,a) (by simp)
end
section
open PySem.W hiding kindOf
end
section
open PySem.W hiding kindOf
end
noncomputable def hkT(k:List Int):Int:=I9 (EL (k.map KG))
noncomputable def goodT(t:SetTable)(n:Nat):Bool:=t.fits n&&(t.mask%2==1)&&q_ (t.place.toList.Pairwise (·<·))&&t.plain&&q_ (n<4096)
noncomputable def addS(st:SetTable×List (List Int))(k:List Int):Option (SetTable×List (List Int)):=
 match st.1.probe (λi=>((st.2.map hkT)[i]?).getD 0) (hkT k) (st.1.probeStart (hkT k))with
 |some (.empty j d_)=>if goodT (st.1.put j).1 (st.2.length+1)=e_ then
   (if (st.1.put j).1.tooFull=e_ then match (st.1.put j).1.relaid ((st.2.take (st.1.put j).2++k::st.2.drop (st.1.put j).2).map hkT).toArray (JO (st.2.length+1))with
    |some (t,o)=>if (goodT t (st.2.length+1)&&o.toList.isPerm (DY (st.2.length+1))&&q_ (SetTable.sizeAbove (JO (st.2.length+1))<=m_))=e_ then a_ (t,o.toList.filterMap λi=>(st.2.take (st.1.put j).2++k::st.2.drop (st.1.put j).2)[i]?)else d_
    |none=>d_
   else a_ ((st.1.put j).1,st.2.take (st.1.put j).2++k::st.2.drop (st.1.put j).2))else d_
 |some (.candidate _ i _)=>if st.2[i]?=a_ k then a_ st else d_
 |_=>d_
section
open PySem SetTable
end
section
open PySem
end
section
open PySem
end
section
open PySem
end
section
open PySem SetTable
end
section
open PySem.W
end
section
open PySem
end
section
open PySem
variable{κ μ:Type}[DecidableEq κ][DecidableEq μ]
end
section
open PySem
end
section
open PySem.W
end
section
open PySem PySem.W
end
section
open PySem PySem.W
end
mutual
noncomputable def oH:Dat->Bool
 |.tup ds=>oG ds|.lst ds=>oG ds|.ins _ _=>b_|.dic _=>b_|.dil _=>b_|_=>e_
noncomputable def oG:List Dat->Bool
 |[]=>e_|d::ds=>oH d&&oG ds
end
mutual
theorem aP.plain{K:Fg}{F F':Hp}(s:∀a xs,SqT K F a xs->SqT K F' a xs)(t:∀a xs,SqL K F a xs->SqL K F' a xs):∀{d:Dat} {v:V},oH d=e_->aP K F d v->aP K F' d v
 |.non,_,_,h=>h|.bl _,_,_,h=>h|.int _,_,_,h=>h|.str _,_,_,h=>h|.tup ds,_,f,⟨a,xs,e,q,r⟩=>⟨a,xs,e,s _ _ q,aB.plain s t (by simpa[oH] using f) r⟩|.lst ds,_,f,⟨a,xs,e,q,r⟩=>⟨a,xs,e,t _ _ q,aB.plain s t (by simpa[oH] using f) r⟩|.ins _ _,_,f,_=>by simp[oH]at f|.dic _,_,f,_=>by simp[oH]at f|.dil _,_,f,_=>by simp[oH]at f
theorem aB.plain{K:Fg}{F F':Hp}(s:∀a xs,SqT K F a xs->SqT K F' a xs)(t:∀a xs,SqL K F a xs->SqL K F' a xs):∀{ds:List Dat} {xs:List V},oG ds=e_->aB K F ds xs->aB K F' ds xs
 |[],_,_,h=>h|d::ds,_,f,⟨v,vs,e,q,r⟩=>by simp only[oG,n_]at f;exact⟨v,vs,e,aP.plain s t f.1 q,aB.plain s t f.2 r⟩
end
section
open PySem PySem.W
end
structure B7 where
 f:g_
 c:j_
 A:Fm
 o:List Iq
 s:x_
 H:Hp
 E:XK
section
variable{base:DR}{q:o_}{g:ai->M Flo}
noncomputable def YO(_:∃f fd,Def K mg x st ps f fd)(P:Ec)(w:Ek)(base:DR)(k:Nat)(ro:Bool)(m:List Dat->M Dat):Prop:=∃f fd,Yd P w K mg base CX0 k x st ps (spF K ro m ps.length) f fd
noncomputable def YX(_:∃f fd,Def K mg x st ps f fd)(P:Ec)(w:Ek)(base:DR)(k:Nat)(ro:Bool)(m:List Dat->M Dat):Prop:=∃f fd,Yd P w K mg base (CXd P w) k x st ps (spX K ro m ps.length) f fd
noncomputable def YM(_:∃f fd,Mth K C x q st ps f fd)(P:Ec)(w:Ek)(mg:Mq)(base:DR)(k:Nat)(ro:Bool)(m:List Dat->M Dat):Prop:=∃f fd,Mth K C x q st ps f fd/\eZ P w K mg base CX0 k f fd ps (spF K ro m ps.length)
theorem fY(N:List o_){h:∃f fd,Def K mg x st ps f fd}(J:∀z:B7,N.Nodup->fV k (z.A.deeper (Fn x (aA st) z.s.heap.objs.size z.f z.c))->DSs K Wno ro (tM CX0 P w K mg base N x (aA st) z.f z.c z.A z.o z.s z.H z.E).nox [] [] [] (bQ st) g)(S:autoParam (eA N ps (aA st)) Jq9):YO h P w base (k+1) ro (cv N.length ps.length g):=
 let ⟨f,fd,D⟩:=h
 ⟨f,fd,D,fn_D D.fn S ro g λc A o s H E I=>J ⟨f,c,A,o,s,H,E⟩ S.nd I⟩
theorem fX(N:List o_){h:∃f fd,Def K mg x st ps f fd}(J:∀z:B7,N.Nodup->fV k (z.A.deeper (Fn x (aA st) z.s.heap.objs.size z.f z.c))->DSs K (WE K z.E) ro (tM (CXd P w) P w K mg base N x (aA st) z.f z.c z.A z.o z.s z.H z.E) [] [] [] (bQ st) g)(S:autoParam (eA N ps (aA st)) Jq9):YX h P w base (k+1) ro (cv N.length ps.length g):=
 let ⟨f,fd,D⟩:=h
 ⟨f,fd,D,fn_X D.fn S ro g λc A o s H E I=>J ⟨f,c,A,o,s,H,E⟩ S.nd I⟩
theorem fM(N:List o_){h:∃f fd,Mth K C x q st ps f fd}(J:∀z:B7,N.Nodup->fV k (z.A.deeper (Fn q (aA st) z.s.heap.objs.size z.f z.c))->DSs K Wno ro (tM CX0 P w K mg base N q (aA st) z.f z.c z.A z.o z.s z.H z.E).nox [] [] [] (bQ st) g)(S:autoParam (eA N ps (aA st)) Jq9):YM h P w mg base (k+1) ro (cv N.length ps.length g):=
 let ⟨f,fd,D⟩:=h
 ⟨f,fd,D,fn_D D.fn S ro g λc A o s H E I=>J ⟨f,c,A,o,s,H,E⟩ S.nd I⟩
end
section
variable{W:dS}{a b d:Ed}{f:ai->M Dat}{fr:ai->M (List Dat)}
theorem dY{g:ai->M Flo}(Y:∃f fd,Yd X.prog X.w X.K X.mg X.base CX0 k x st ps (spF K ro (cv nN n g) n) f fd)(a:fV j X.A)(d:DA K Wno X (e::es) fr)(b:(k<=j)⁻¹)(c: ~~~(Gl X x))(U:((x==("__debug__":o_))=b_)⁻¹)(I: ~~~(h_ (e::es) X.env=(b_,Di e X.env)::h_ es X.env))(J: ~~~((DB pos (h_ es X.env)).any (·.1)=b_)):
  DE K Wno ro X (.Call (.Name x p) (e::es) [] pos) (fL (cv nN n g) fr):=let ⟨_,_,Y⟩:=Y;de_call Y.o (a.mono b) Y.d.mg Y.d.fn.kp Y.d.bd d c U I J
theorem da1(J:DE K W b_ X a fa)(I: ~~~(h_ [a] X.env=[(b_,Di a X.env)])):DA K W X [a] (aa fa aJ):=cq J ip I
theorem da2(Y:DE K W b_ X a fa)(U:DE K W b_ X b fb)(J: ~~~(h_ [a,b] X.env=[(b_,Di a X.env),(b_,Di b X.env)]))(I: ~~~(h_ [b] X.env=[(b_,Di b X.env)])):DA K W X [a,b] (aa fa (aa fb aJ)):=cq Y (da1 U I) (by rw[J,I])
theorem da3{f1 I:ai->M Dat}(h1:DE K W b_ X e1 f1)(h2:DE K W b_ X e2 I)(a:DE K W b_ X e3 f3)(Y: ~~~(h_ [e1,e2,e3] X.env=(b_,Di e1 X.env)::h_ [e2,e3] X.env))(U: ~~~(h_ [e2,e3] X.env=(b_,Di e2 X.env)::h_ [e3] X.env))(J: ~~~(h_ [e3] X.env=(b_,Di e3 X.env)::h_ [] X.env)):DA K W X [e1,e2,e3] (aa f1 (aa I (aa f3 aJ))):=(cq h1 (cq h2 (cq a ip J) U) Y)
theorem da4{f1 I:ai->M Dat}(h1:DE K W b_ X e1 f1)(h2:DE K W b_ X e2 I)(c:DE K W b_ X e3 f3)(b:DE K W b_ X e4 f4)(a: ~~~(h_ [e1,e2,e3,e4] X.env=(b_,Di e1 X.env)::h_ [e2,e3,e4] X.env))(Y: ~~~(h_ [e2,e3,e4] X.env=(b_,Di e2 X.env)::h_ [e3,e4] X.env))(U: ~~~(h_ [e3,e4] X.env=(b_,Di e3 X.env)::h_ [e4] X.env))(J: ~~~(h_ [e4] X.env=(b_,Di e4 X.env)::h_ [] X.env)):DA K W X [e1,e2,e3,e4] (aa f1 (aa I (aa f3 (aa f4 aJ)))):=(cq h1 (cq h2 (cq c (cq b ip J) U) Y) a)
theorem da5{f1 I:ai->M Dat}(h1:DE K W b_ X e1 f1)(h2:DE K W b_ X e2 I)(e:DE K W b_ X e3 f3)(d:DE K W b_ X e4 f4)(c:DE K W b_ X e5 f5)(b: ~~~(h_ [e1,e2,e3,e4,e5] X.env=(b_,Di e1 X.env)::h_ [e2,e3,e4,e5] X.env))(a: ~~~(h_ [e2,e3,e4,e5] X.env=(b_,Di e2 X.env)::h_ [e3,e4,e5] X.env))(Y: ~~~(h_ [e3,e4,e5] X.env=(b_,Di e3 X.env)::h_ [e4,e5] X.env))(U: ~~~(h_ [e4,e5] X.env=(b_,Di e4 X.env)::h_ [e5] X.env))(J: ~~~(h_ [e5] X.env=(b_,Di e5 X.env)::h_ [] X.env)):DA K W X [e1,e2,e3,e4,e5] (aa f1 (aa I (aa f3 (aa f4 (aa f5 aJ))))):=(cq h1 (cq h2 (cq e (cq d (cq c ip J) U) Y) a) b)
theorem da6{I:Ed}{f1 U J:ai->M Dat}(h1:DE K W b_ X e1 f1)(h2:DE K W b_ X e2 U)(i:DE K W b_ X e3 f3)(h:DE K W b_ X e4 f4)(g:DE K W b_ X e5 f5)(f:DE K W b_ X I J)(e: ~~~(h_ [e1,e2,e3,e4,e5,I] X.env=(b_,Di e1 X.env)::h_ [e2,e3,e4,e5,I] X.env))(d: ~~~(h_ [e2,e3,e4,e5,I] X.env=(b_,Di e2 X.env)::h_ [e3,e4,e5,I] X.env))(c: ~~~(h_ [e3,e4,e5,I] X.env=(b_,Di e3 X.env)::h_ [e4,e5,I] X.env))(b: ~~~(h_ [e4,e5,I] X.env=(b_,Di e4 X.env)::h_ [e5,I] X.env))(a: ~~~(h_ [e5,I] X.env=(b_,Di e5 X.env)::h_ [I] X.env))(Y: ~~~(h_ [I] X.env=(b_,Di I X.env)::h_ [] X.env)):DA K W X [e1,e2,e3,e4,e5,I] (aa f1 (aa U (aa f3 (aa f4 (aa f5 (aa J aJ)))))):=(cq h1 (cq h2 (cq i (cq h (cq g (cq f ip Y) a) b) c) d) e)
theorem dO(a:X.N.Nodup)(Y:DE K W b_ X e f)(hi: ~~~(X.N[i]?=a_ x))(I:autoParam (Loc X.env.scope x) Jq7)(J: ~~~(E_ e (a_ (.Name x pos')) pos.line X.env=EY b_))(U:autoParam (X.fn x=e_\/X.env.scope.names.lookup x=a_ .local) Jq3):
  DS K W ro X OL O (aft b_ i O) (.Assign [.Name x pos'] e pos) (bP O i f):=BY a Y hi I J U
theorem ds_sT(a:X.N.Nodup)(Y:DE K W e_ X e f)(hi: ~~~(X.N[i]?=a_ x))(I:autoParam (Loc X.env.scope x) Jq7)(J: ~~~(E_ e (a_ (.Name x pos')) pos.line X.env=EY b_))(U:autoParam (X.fn x=e_\/X.env.scope.names.lookup x=a_ .local) Jq3):
  DS K W ro X OL O (aft e_ i O) (.Assign [.Name x pos'] e pos) (bP O i f):=BY a Y hi I J U
end
section
variable{q:o_}{kV:j_}
theorem dF(J:K.In h)(G:h.Ns Du mg)(a:autoParam (JW K Du x=a_ (a_ (.ref f))) Jq2)(l:autoParam (K.lookup f=a_ ⟨oc,od,.func (HM x x (dP st) (bQ st) (aA st) .none kV doc pm an cdv ct),osl⟩) Jq2)(c:autoParam (IC K cdv x=e_) Jq2)(k:autoParam (Fh K (.ref f)=e_) Jq2)(I:autoParam (∀(kV doc pm:j_) (an:Option g_) (cdv ct:j_) (us:List j_),us.length=ps.length->Hx (HM x x (dP st) (bQ st) (aA st) .none kV doc pm an cdv ct) ⟨us,[]⟩=EY (ps.zip us)) Jq12):∃f fd,Def K mg x st ps f fd:=⟨_,_,def_of J G a l c k I⟩
theorem mF(a:autoParam (C_ K (.ref C) x=a_ (a_ (.ref f))) Jq2)(i:autoParam (isFn K (.ref f)=e_) Jq2)(l:autoParam (K.lookup f=a_ ⟨oc,od,.func (HM x q (dP st) (bQ st) (aA st) .none kV doc pm an cdv ct),osl⟩) Jq2)(c:autoParam (IC K cdv q=e_) Jq2)(k:autoParam (Fh K (.ref f)=e_) Jq2)(I:autoParam (∀(kV doc pm:j_) (an:Option g_) (cdv ct:j_) (us:List j_),us.length=ps.length->Hx (HM x q (dP st) (bQ st) (aA st) .none kV doc pm an cdv ct) ⟨us,[]⟩=EY (ps.zip us)) Jq12):∃f fd,Mth K C x q st ps f fd:=⟨_,_,mth_of a i l c k I⟩
theorem kF(f:K.In h)(G:h.Ns Du mg)(a:autoParam (JW K Du x=a_ (a_ (.ref C))) Jq2)(U:autoParam (Ih K C Fj=e_) Jq2)(hd:autoParam (Fu K C=e_) Jq2)(J:autoParam (JL K C=e_) Jq2)(I:autoParam (C_ K (.ref C) "__setattr__"=a_ (a_ (.builtin "object.__setattr__"))) Jq2)(mk:autoParam (JX K C=e_) Jq2)(Y:autoParam (Fh K (.ref C)=e_) Jq2)(e:autoParam (C_ K (.ref C) "__class__"=a_ (a_ (.builtin "object.__class__"))) Jq2)(d:autoParam (HG K (.builtin "object.__class__") "__get__"=a_ (a_ (.builtin "getset_descriptor.__get__"))) Jq2)(c:autoParam (KH K (.builtin "object.__class__")=a_ e_) Jq2)(b:autoParam (EG K C (.type "object")=a_ e_) Jq2):Kls K mg x C:=kls_of f G a U hd J I mk Y e d c b
theorem xF(b:K.In h)(G:h.Ns Du mg)(a:autoParam (JW K Du x=a_ (a_ (.ref C))) Jq2)(i:autoParam (C_ K (.ref C) "__init__"=a_ (a_ (.ref f))) Jq2)(ex:autoParam (jP K C [.type "ValueError",.type "Exception",.type "BaseException",.type "object"] "ValueError.__new__" f=e_) Jq5)(U:autoParam (C_ K (.ref C) "__getattribute__"=a_ (a_ (.builtin "BaseException.__getattribute__"))) Jq2)(Y:autoParam (C_ K (.ref C) "__class__"=a_ (a_ (.builtin "object.__class__"))) Jq2)(J:autoParam (C_ K (.ref C) "__getattr__"=a_ d_) Jq2)(bs:autoParam (EG K C (.type "BaseException")=a_ e_) Jq2)(I:autoParam (EG K C (.type "object")=a_ e_) Jq2)(is:autoParam ((Hj K C).isSome=e_) Jq5):XTry K mg x C:=
 ⟨mg_of b G a,xnamed2 ex,⟨U,Y,J,bs,I,Ey.mp is⟩⟩
theorem xM(U:K.In h)(G:h.Ns Du mg)(N:∃f fd,Mth K C "__init__" q st ps f fd)(a:autoParam (JW K Du x=a_ (a_ (.ref C))) Jq2)(i:autoParam (C_ K (.ref C) "__init__"=a_ (a_ (.ref f))) Jq2)(ex:autoParam (jP K C [.type "ValueError",.type "Exception",.type "BaseException",.type "object"] "ValueError.__new__" f=e_) Jq5)(J:autoParam (isFn K (.ref f)=e_) Jq2)(I:autoParam (Fh K (.ref C)=e_) Jq2):∃f fd,Mth K C "__init__" q st ps f fd/\XMk K mg x C f:=by obtain⟨Y,fd,M⟩:=N;have e:=M.mt.1.symm.trans i;cases e;exact⟨_,fd,M,mg_of U G a,ex,Et.mp J,I⟩
theorem lF(U:K.In h)(G:h.Ns Du mg)(a:autoParam (JW K Du x=a_ (a_ (.ref f))) Jq2)(l:autoParam (K.lookup f=a_ ⟨oc,od,.func (HM x x (dP st) (bQ st) (aA st) .none kV doc pm an cdv ct),osl⟩) Jq2)(c:autoParam (IC K cdv x=e_) Jq2)(k:autoParam (Fh K (.ref f)=e_) Jq2)(I:autoParam (∀(kV doc pm:j_) (an:Option g_) (cdv ct:j_) (v:j_),Hx (HM x x (dP st) (bQ st) (aA st) .none kV doc pm an cdv ct) ⟨[v],[]⟩=EY [(y,v)]) Jq10):∃f fd,Def K mg x st [y] f fd/\∀(s:x_) (v:j_),HI s fd ⟨[v],[]⟩ [(y,v)]:=
 ⟨_,_,def_of U G a l c k λ_ _ _ _ _ _ us J=>match us,J with|[_],_=>I ..,λ_ _=>.of_eq (I ..)⟩
theorem Fun.uniq{fd':EJ}(a:Fun K x q st f fd)(b:Fun K x q st f fd'):fd=fd':=by obtain⟨oc,od,kV,doc,pm,an,cdv,ct,osl,rfl,h,_⟩:=a.ex;obtain⟨g,d,i,U,c,k,Y,j,J,rfl,I,_⟩:=b.ex;have e:=h.symm.trans I;cases e;rfl
theorem rS(N:∃f fd,Mth K C x q st ps f fd)(a:autoParam (C_ K (.ref C) x=a_ (a_ (.ref f))) Jq2)(Y:autoParam (HG K (.ref C) "__getattribute__"=a_ (a_ (.builtin "type.__getattribute__"))) Jq5)(U:autoParam (JK K C mc=e_) Jq5)(J:autoParam (JN K (.ref C) mc x=a_ (.val (.ref f))) Jq5)(I:autoParam (Fh K (.ref f)=e_) Jq2):∃f fd,Mth K C x q st ps f fd/\Stat K C mc x f:=by obtain⟨b,fd,M⟩:=N;have e:=M.mt.1.symm.trans a;cases e;exact⟨_,fd,M,Y,U,J,I⟩
end
noncomputable def ia:List Dat->M (List o_)
 |[]=>.ok []|.str x::ds=>(ia ds).bind λr=>.ok (x::r)|_::_=>stk
@[simp] theorem e_strs0:ia []=.ok []:=id rfl
@[simp] theorem e_strs1(x:o_)(ds:List Dat):ia (.str x::ds)=(ia ds).bind λr=>.ok (x::r):=id rfl
noncomputable def isS:Dat->Bool
 |.str _=>e_|_=>b_
noncomputable def ie:Dat->Dat->M Dat
 |.str I,.lst ds=>(ia ds).bind λxs=>if (xs.map (·.length)).sum+xs.length*I.length<=m_ then .ok (.str (Eg I xs))else stk
 |_,_=>stk
@[simp] theorem xa(I:o_)(ds:List Dat):ie (.str I) (.lst ds)=(ia ds).bind λxs=>if (xs.map (·.length)).sum+xs.length*I.length<=m_ then .ok (.str (Eg I xs))else stk:=id rfl
noncomputable def fSM(g:Dat->Dat->M Dat)(fo fe:ai->M Dat):ai->M Dat:=λρ=>(fo ρ).bind λa=>if isS a=e_ then(fe ρ).bind λb=>g a b else stk
@[simp] theorem e_fSM(g:Dat->Dat->M Dat)(fo fe:ai->M Dat)(ρ:ai):fSM g fo fe ρ=(fo ρ).bind λa=>if isS a=e_ then(fe ρ).bind λb=>g a b else stk:=id rfl
@[simp] theorem e_isS(x:o_):isS (.str x)=e_:=id rfl
noncomputable def rSM(K:Fg)(W:dS)(own:Bool)(g:Dat->Dat->M Dat):V->List V->Hp->VK->Prop:=λx vs H Q=>∃F z b y,aO F H/\x=.str z/\vs=[y]/\aP K F b y/\aH K W own F H (g (.str z) b) Q
theorem qU{M:HQ}{A:Fm}{E:Vp}{Q R:o_->x_->Prop}:∀{ps:List (KN j_)} {I:o_} {s:x_},Joins M A E ps I Q s->(∀z s,Q z s->R z s)->Joins M A E ps I R s
 |[],I,s,h,k=>k _ _ h|x::ps,I,s,h,k=>D1 h (λv J ⟨y,t,e,l,q⟩=>⟨y,t,e,l,qU q k⟩) λ_ _ z=>z
section
variable{W:dS}{own:Bool}{o:Ed}{name:o_}{id:String}{g:Dat->Dat->M Dat}
theorem lI(q:MtR X id (rSM X.K W own g))(Y:Slot "str" name id)(i:typeOf (.builtin id)=EY (.type "method_descriptor"))(n:DE K W b_ X o fo)(d:DE K W b_ X e fe)(v: ~~~(X.K=K))(U: ~~~(Ei o name X.env (Di o X.env)=Di o X.env))(c: ~~~(((DB cpos (h_ [e] X.env)).all (λx=> !x.1)&&(EX cpos (D_ [] X.env)).all (λx=>x.1.isSome)&&q_ ([e].length+([]:List FU).length+(if ([]:List FU).isEmpty then 0 else 1)<30))=e_))(J: ~~~((apos.endLine==cpos.line)=e_))(k: ~~~(h_ [e] X.env=(b_,Di e X.env)::h_ [] X.env))(I: ~~~((DB cpos (h_ [] X.env)).any (·.1)=b_)):
  DE K W own X (.Call (.Attribute o name apos) [e] [] cpos) (fSM g fo fe):=by
 subst v;refine PE.imp (wq PySem.F.plainAttrs_str Y i q n (ax d aK (by rw[k])) U c J k I) λσ H Q h=>?_;obtain⟨F,ρ,r,s,p⟩:=h;refine b6 r s (λe d=>p.err (by unfold fSM;rw[d];rfl)) λa u x F1 H1 f m=>?_;have w:fSM g fo fe ρ=if isS a=e_ then(fe ρ).bind λb=>g a b else stk:=by unfold fSM;rw[u];rfl
 rw[w]at p;have p:=p.step f;cases a with
 |str z=>
  have p:aH X.K W own F1 H1 ((fe ρ).bind λb=>g (.str z) b) Q:=p;cases(show x=V.str z from m);refine⟨rfl,?_⟩
  refine b6 (r.mono f.ff) f.fh (λe d=>p.err (by rw[d];rfl)) λb t y F2 H2 j l=>?_;rw[t]at p;exact⟨F2,z,b,y,j.fh,rfl,rfl,l,p.step j⟩
 |_=>exact aH.stuck p
theorem o9{F:Hp}:∀{ds:List Dat} {xs:List V} {I:List o_},aB K F ds xs->ia ds=.ok I->xs=I.map V.str
 |[],_,_,q,e=>by cases e;exact q|d::ds,_,I,⟨v,vs,e1,q,r⟩,e=>by
  cases d with
  |str z=>
   cases e2:ia ds with
   |error x=>rw[ia,e2]at e;cases e|ok r2=>rw[ia,e2]at e;cases e;rw[e1,o9 r e2,show v=.str z from q];rfl
  |_=>cases e
theorem oh:∀{ds:List Dat} {e:Err},ia ds=.error e->e=.stuck
 |[],_,h=>by cases h|d::ds,e,h=>by
  cases d with
  |str z=>
   cases e2:ia ds with
   |error x=>rw[ia,e2]at h;cases h;exact oh e2|ok r2=>rw[ia,e2]at h;cases h
  |_=>cases h;rfl
theorem o7:∀{I:List o_} {us:List j_},Vals (I.map V.str) us->∃l:List (o_×Tok),us=FG l/\l.map (·.1)=I
 |[],_,.nil=>⟨[],rfl,rfl⟩|x::I,_,.cons r rs=>by
  obtain⟨t,rfl⟩:=(show ∃t,_=Ex x t from r)
  obtain⟨l,rfl,e⟩:=o7 rs;exact⟨(x,t)::l,rfl,by rw[Dp,e]⟩
theorem jc:MtR X "str.join" (rSM X.K W own ie):=by
 intro pins s σ H x vs v us Q I f g h;obtain⟨F,J,b,y,d,rfl,rfl,j,p⟩:=h;obtain⟨u,rfl,i⟩:=g.one;obtain⟨t,rfl⟩:=(show ∃t,v=Ex J t from f)
 cases b with
 |lst ds=>
  obtain⟨l,xs,rfl,q,z⟩:=j;cases i;cases e1:ia ds with
  |error e=>rw[ie,e1]at p;rw[oh e1]at p;exact aH.stuck p|ok a=>
   rw[ie,e1]at p;have p:aH X.K W own F H (if (a.map (·.length)).sum+a.length*J.length<=m_ then .ok (.str (Eg J a))else stk) Q:=p;have k:=o9 z e1;subst k;obtain⟨its,r,pl,m⟩:=I.list (d.lst q);obtain⟨L,rfl,rfl⟩:=o7 r;by_cases c:((L.map (·.1)).map (·.length)).sum+(L.map (·.1)).length*J.length<=m_
   ·rw[i_ c]at p;have U:=p.str d;refine HY D2 (Hb _ _ _) PySem.F.entry_str_join (PySem.F.args_str_join_2 _ _) (meets_str_join_list J t l L (by rw[StrLaws.joinTotal];exact f_ (IE.mpr c))) ⟨pl.isList,?_⟩;have Y:(Builtin.Str.glued J (L.map (·.1))).length<=m_:=by
     rw[size_glued];have:=Nat.mul_le_mul_right J.length (Nat.sub_le (L.map (·.1)).length 1);omega
    have e:=StrLaws.glued_eq_join J (L.map (·.1))
    match L,U,Y,e with
    |[],U,Y,e=>exact⟨Y,.str _,H,I.tok _,⟨_,rfl⟩,by rw[e];exact U⟩|[p],U,_,_=>exact⟨.str _,H,I,⟨_,rfl⟩,U⟩|p1::p2::L,U,Y,e=>exact⟨Y,.str _,H,I.tok _,⟨_,rfl⟩,by rw[e];exact U⟩
   ·rw[l_ c]at p;exact aH.stuck p
 |_=>exact aH.stuck p
noncomputable def ig(i:Int):o_:=toString i
noncomputable def strD:List Dat->M Dat
 |[.int i]=>if i.natAbs.log2<1920 then .ok (.str (ig i))else stk
 |_=>stk
@[simp] theorem e_strD(i:Int):strD [.int i]=if i.natAbs.log2<1920 then .ok (.str (ig i))else stk:=id rfl
theorem c_str:tX K W own X (.type "str") strD:=vm.imp λxs H Q h=>by
 obtain⟨F,d,x,s,e,q,p⟩:=oO (λds=>by match ds with|[d]=>exact .inl ⟨d,rfl⟩|[]=>exact .inr rfl|a::b::c=>exact .inr (by cases a<;>rfl)) h;cases d with
 |int i=>
  have p:aH K W own F H (if i.natAbs.log2<1920 then .ok (.str (ig i))else stk) Q:=p;by_cases I:i.natAbs.log2<1920
  ·rw[i_ I]at p;exact⟨i,by rw[e,show x=.int i from q],I,p.str s⟩
  ·rw[l_ I]at p;exact aH.stuck p
 |_=>exact aH.stuck p
noncomputable def wR:Dat->Dat->M Dat
 |.str z,.int i=>if z.length<=m_ then(match atI z.cps.toList i with
  |some c=>.ok (.str ⟨#[c]⟩)|none=>stk)else stk
 |_,_=>stk
theorem yH:IxR X (rD2 K W own wR):=ix_str.imp λx y H Q h=>by
 obtain⟨F,a,b,s,Y,U,p⟩:=h;cases a with
 |str z=>cases b with
  |int i=>
   have p:aH K W own F H (if z.length<=m_ then(match atI z.cps.toList i with
    |some c=>.ok (.str ⟨#[c]⟩)|none=>stk)else stk) Q:=p
   by_cases I:z.length<=m_
   ·rw[i_ I]at p;cases J:atI z.cps.toList i with
    |none=>rw[J]at p;exact aH.stuck p|some c=>rw[J]at p;exact⟨z,i,c,Y,U,I,J,p.str s⟩
   ·rw[l_ I]at p;exact aH.stuck p
  |_=>exact aH.stuck p
 |_=>exact aH.stuck p
noncomputable def mi:Dat->M Dat
 |.int i=>if i.natAbs.log2<1920 then .ok (.str (ig i))else stk
 |.str z=>if z.length<=m_ then .ok (.str z)else stk
 |_=>stk
@[simp] theorem e_fmtI(i:Int):mi (.int i)=if i.natAbs.log2<1920 then .ok (.str (ig i))else stk:=id rfl
@[simp] theorem e_fmtS(z:o_):mi (.str z)=if z.length<=m_ then .ok (.str z)else stk:=id rfl
theorem pC(U:DE K W b_ X e fe):DE K W own X (.FormattedValue e (-1) d_ pos) (f1 mi fe):=by
 intro pins s σ H Q I h;obtain⟨F,ρ,r,g,p⟩:=h;refine wpAny_FormattedValue_plain (thn (U pins s σ H (λv H1=>∃a F1,fe ρ=.ok a/\Step F H F1 H1/\aP K F1 a v) I (b6 r g (λe U=>p.err (by show(fe ρ).bind mi=_;rw[U];rfl)) λa Y v F1 H1 c j=>⟨a,F1,Y,c,j⟩)) λv c k=>?_);obtain⟨x,H1,b,d,a,F1,Y,st,q⟩:=k;have p:aH K W own F H (mi a) Q:=by have p:aH K W own F H ((fe ρ).bind mi) Q:=p;rw[Y]at p;exact p
 have p:=p.step st;cases a with
 |int i=>
  have p:aH K W own F1 H1 (if i.natAbs.log2<1920 then .ok (.str (ig i))else stk) Q:=p;cases(show x=V.int i from q);obtain⟨t,rfl⟩:=(show ∃t,v=Gy i t from d)
  by_cases J:i.natAbs.log2<1920
  ·rw[i_ J]at p;exact wpAny_formatField_int J ⟨.str (ig i),H1,(b.tok _).tok _,⟨_,rfl⟩,p.str st.fh⟩
  ·rw[l_ J]at p;exact aH.stuck p
 |str z=>
  have p:aH K W own F1 H1 (if z.length<=m_ then .ok (.str z)else stk) Q:=p;cases(show x=V.str z from q);obtain⟨t,rfl⟩:=(show ∃t,v=Ex z t from d)
  by_cases J:z.length<=m_
  ·rw[i_ J]at p;have f:=p.str st.fh;exact wpAny_formatField_str ⟨.str z,H1,b,⟨_,rfl⟩,f⟩ ⟨.str z,H1,b.tok _,⟨_,rfl⟩,f⟩ J
  ·rw[l_ J]at p;exact aH.stuck p
 |_=>exact aH.stuck p
noncomputable def nv(fs:List (ai->M Dat))(ρ:ai):o_->M o_:=match fs with
 |[]=>λI=>.ok I|f::fs=>λI=>(f ρ).bind λd=>match d with
  |.str z=>if (I++z).length<=m_ then nv fs ρ (I++z)else stk
  |_=>stk
noncomputable def fJ(fs:List (ai->M Dat)):ai->M Dat:=λρ=>(nv fs ρ Fj).bind λz=>.ok (.str z)
noncomputable def tJ(K:Fg)(W:dS)(fs:List (ai->M Dat))(I:o_)(σ:St)(H:Hp)(Q:o_->Hp->Prop):Prop:=∃F ρ,gz K F σ ρ/\aO F H/\(match nv fs ρ I with
 |.ok z=>∀F' H',Step F H F' H'->Q z H'|.error e=>W.p e F H)
noncomputable def DJ(K:Fg)(W:dS)(X:Cx)(es:List Ed)(fs:List (ai->M Dat)):Prop:=∀(pins:Pn) (s:x_) (σ:St) (H:Hp) (I:o_) (Q:o_->Hp->Prop),I.length<=m_->Inv X pins σ H s->tJ K W fs I σ H Q ->
 Joins (Dd X.prog X.w) X.A X.xe (Kd es X.env) I (λout J=>out.length<=m_/\∃H1,Inv X pins σ H1 J/\Q out H1) s
theorem C8(U: ~~~(Kd [] X.env=[])):DJ K W X [] []:=λpins s σ H a Q Y I ⟨F,ρ,r,J,p⟩=>by rw[U];exact⟨Y,H,I,p F H (Step.refl J)⟩
theorem fO{fs:List (ai->M Dat)}(b:DE K W b_ X e fe)(j:DJ K W X es fs)(i: ~~~(Kd (e::es) X.env=Di e X.env::Kd es X.env)):DJ K W X (e::es) (fe::fs):=λpins s σ H J Q c I ⟨F,ρ,r,f,p⟩=>by
 rw[i];have p:(match (fe ρ).bind (λd=>match d with
  |.str z=>if (J++z).length<=m_ then nv fs ρ (J++z)else stk
  |_=>stk)with
  |.ok z=>∀F' H',Step F H F' H'->Q z H'|.error e=>W.p e F H):=p
 refine thn (b pins s σ H (λv H1=>∃a F1,fe ρ=.ok a/\Step F H F1 H1/\aP K F1 a v) I (b6 r f (λe b=>by rw[b]at p;exact p) λa c v F1 H1 Y h=>⟨a,F1,c,Y,h⟩)) λv Y k=>?_;obtain⟨x,H1,m,g,a,F1,l,st,q⟩:=k;rw[l]at p;cases a with
 |str z=>
  cases(show x=V.str z from q);obtain⟨t,rfl⟩:=(show ∃t,v=Ex z t from g)
  have p:(match (if (J++z).length<=m_ then nv fs ρ (J++z)else stk)with
   |.ok z=>∀F' H',Step F H F' H'->Q z H'|.error e=>W.p e F H):=p
  by_cases U:(J++z).length<=m_
  ·rw[i_ U]at p;refine⟨z,t,rfl,U,j pins Y σ H1 (J++z) Q U m ⟨F1,ρ,r.mono st.ff,st.fh,?_⟩⟩
   cases e1:nv fs ρ (J++z)with
   |ok y=>rw[e1]at p;exact λF' H' s'=>p F' H' (st.trans s')|error e=>rw[e1]at p;exact W.mono p st
  ·rw[l_ U]at p;exact(W.ns p).elim
 |_=>exact(W.ns p).elim
theorem xk{fs:List (ai->M Dat)}(h:DJ K W X (e1::e2::es) fs):DE K W own X (.JoinedStr (e1::e2::es) pos) (fJ fs):=by
 intro pins s σ H Q I ⟨F,ρ,r,J,p⟩;have p:aH K W own F H ((nv fs ρ Fj).bind λz=>.ok (.str z)) Q:=p;refine wpAny_JoinedStr ?_;refine qU (h pins s σ H Fj (λz H1=>Q (.str z) H1) (by decide) I ⟨F,ρ,r,J,?_⟩) λout a ⟨U,H1,Y,q⟩=>⟨U,.str out,H1,Y.tok _,⟨_,rfl⟩,q⟩
 cases e1:nv fs ρ Fj with
 |ok z=>rw[e1]at p;exact λF' H' s'=>(p.step s').str s'.fh|error e=>rw[e1]at p;exact p
end
noncomputable def newS(C:g_)(g:List Dat->M Dat):List Dat->M Dat
 |[.lst a,I,.lst Y,.lst U,.lst J]=>(g [.lst a,I,.lst Y,.lst U,.lst J]).bind λt=>match t with
  |.str z=>.ok (.ins C [("kinds",.lst a),("rules",I),("names",.lst Y),("flights",.lst U),("closed",.lst J),("text",.str z)])|_=>stk
 |_=>stk
noncomputable def spIS(K:Fg)(C:g_)(g:List Dat->M Dat):Sp:=λvs H Q _=>∃(p dx m b1 b2 b3:g_) (a:V) (Y U J I:List V) (F:Hp) (l k j i:List Dat) (h:Dat) (z:o_),
 vs=[.ref p,.ref m,a,.ref b1,.ref b2,.ref b3]/\H p=a_ (.ins C dx [])/\F p=d_/\aO F H/\(SqL K F m Y/\aB K F l Y)/\aP K F h a/\(SqL K F b1 U/\aB K F k U)/\(SqL K F b2 J/\aB K F j J)/\(SqL K F b3 I/\aB K F i I) /\
 g [.lst l,h,.lst k,.lst j,.lst i]=.ok (.str z)/\∀(f e d b:g_) (H':Hp),(∀c o,H c=a_ o->c≠p->H' c=a_ o)->H f=d_->H e=d_->H d=d_->H b=d_->H' f=a_ (.lst Y)->H' e=a_ (.lst U)->H' d=a_ (.lst J)->H' b=a_ (.lst I) ->
  H' p=a_ (.ins C dx [("kinds",.ref f),("rules",a),("names",.ref e),("flights",.ref d),("closed",.ref b),("text",.str z)])->Q .non H'
theorem Step.own(s:Step F H F1 H1)(J:H l=d_)(h1:H1 l=a_ o):Step F H (upd F1 l o) H1 where
 ff:=λb u e=>by
  by_cases I:b=l
  ·subst I;rw[aq,<- h1,s.fh _ _ (s.ff _ _ e)]
  ·rw[ao I];exact s.ff _ _ e
 hh:=s.hh
 fh:=λb u e=>by
  by_cases I:b=l
  ·subst I;rw[aq]at e;rw[h1];exact e
  ·rw[ao I]at e;exact s.fh _ _ e
 nw:=λb u e=>by
  by_cases I:b=l
  ·subst I;exact .inr J
  ·rw[ao I]at e;exact s.nw _ _ e
theorem Step.oN(s:Step F H F1 H1)(h1:H1 l=a_ o):aO F1 (upd F1 l o):=λb u e=>by
 by_cases I:b=l
 ·subst I;rw[aq,<- h1,s.fh _ _ e]
 ·rw[ao I];exact e
theorem born_S{x b a Y U:g_}{q:V}{j i g f:List V}{A z y w:List Dat}{v:Dat}{t:o_}(E:aO F H1)(r:H1 x=d_)(k:H1 dx=d_)(X:aB K F A j)(O:aP K F v q)(W:aB K F z i)(T:aB K F y g)(S:aB K F w f)(k0:∀c o,upd (upd H1 dx (.own x)) x (.ins C dx []) c=a_ o->c≠x->H' c=a_ o)(R:upd (upd H1 dx (.own x)) x (.ins C dx []) b=d_)(Q:upd (upd H1 dx (.own x)) x (.ins C dx []) a=d_)(n2:upd (upd H1 dx (.own x)) x (.ins C dx []) Y=d_)(P:upd (upd H1 dx (.own x)) x (.ins C dx []) U=d_)(k1:H' b=a_ (.lst j))(k2:H' a=a_ (.lst i))(k3:H' Y=a_ (.lst g))(n:H' U=a_ (.lst f))(k5:H' x=a_ (.ins C dx [("kinds",.ref b),("rules",q),("names",.ref a),("flights",.ref Y),("closed",.ref U),("text",.str t)])):
  ∃G,Step F H1 G H'/\aP K G (.ins C [("kinds",.lst A),("rules",v),("names",.lst z),("flights",.lst y),("closed",.lst w),("text",.str t)]) (.ref x):=by
 have I:∀{c:g_},upd (upd H1 dx (.own x)) x (.ins C dx []) c=d_->H1 c=d_:=λ{c} h=>by
  cases m:H1 c with
  |none=>rfl|some o=>
   have h1:c≠x:=λh=>by rw[h,r]at m;cases m
   have h2:c≠dx:=λh=>by rw[h,k]at m;cases m
   rw[ao h1,ao h2,m]at h;cases h
 have u:aO H1 H':=λc o e=>by
  have h1:c≠x:=λh=>by rw[h,r]at e;cases e
  have h2:c≠dx:=λh=>by rw[h,k]at e;cases e
  exact k0 c o (by rw[ao h1,ao h2];exact e) h1
 have Z:Step F H1 F H':=⟨aO.refl _,u,E.trans u,λ_ _ h=>.inl h⟩
 have D:=Z.own (I R) k1;have s:=D.own (I Q) k2;have p:=s.own (I n2) k3;have B:=p.own (I P) n;have d:=B.own r k5;have J:∀{l:g_} {o:HO},upd (upd (upd (upd F b (.lst j)) a (.lst i)) Y (.lst g)) U (.lst f) l=a_ o->upd (upd (upd (upd (upd F b (.lst j)) a (.lst i)) Y (.lst g)) U (.lst f)) x (.ins C dx [("kinds",.ref b),("rules",q),("names",.ref a),("flights",.ref Y),("closed",.ref U),("text",.str t)]) l=a_ o:=λ{l o} h=>B.oN k5 l o h;have N:=J (p.oN n _ _ (s.oN k3 _ _ (D.oN k2 b _ aq)));have L:=J (p.oN n _ _ (s.oN k3 a _ aq));have r2:=J (p.oN n Y _ aq);have H:=J (l:=U) aq;exact⟨_,d,x,dx,_,rfl,aq,_,_,rfl,⟨b,j,rfl,SqL.of N,aB.mono d.ff X⟩,_,_,rfl,aP.mono d.ff O,_,_,rfl,⟨a,i,rfl,SqL.of L,aB.mono d.ff W⟩,_,_,rfl,⟨Y,g,rfl,SqL.of r2,aB.mono d.ff T⟩,_,_,rfl,⟨U,f,rfl,SqL.of H,aB.mono d.ff S⟩,_,_,rfl,rfl,rfl⟩
section
variable{e0:Ed}{fr:ai->M (List Dat)}
theorem xh(n:Mk X.K C fI)(FI:eZ X.prog X.w X.K X.mg X.base CX0 k fI fdI ps (spIS K C g))(hr:fV (k+1) X.A)(hm:X.mg x=a_ (.ref C))(hb:Binds X.K fdI ps [])(ha:DA K Wno X [e0,e1,e2,e3,e4] fr)(hg: ~~~(Gl X x))(m:((x==("__debug__":o_))=b_)⁻¹)(j: ~~~(h_ [e0,e1,e2,e3,e4] X.env=(b_,Di e0 X.env)::h_ [e1,e2,e3,e4] X.env))(l: ~~~((DB pos (h_ [e1,e2,e3,e4] X.env)).any (·.1)=b_)):
  DE K Wno b_ X (.Call (.Name x p) [e0,e1,e2,e3,e4] [] pos) (fL (newS C g) fr):=by
 refine PE.imp (sx n FI hr hg hm hb .nil mX ha m j l) λσ H Q h=>?_;obtain⟨F,ρ,r,s,p⟩:=rd_L h;refine⟨F,ρ,r,s,?_⟩
 cases e1:fr ρ with
 |error z=>rw[e1]at p;exact p|ok ds=>
  rw[e1]at p;intro vs F1 H1 st q;obtain⟨F2,es1,J,O,z⟩:=p vs F1 H1 st q;unfold newS at z;split at z
  ·rename_i f Y d b a;obtain⟨_,_,rfl,⟨b0,L,rfl,l0,A⟩,N,_,rfl,u,_,_,rfl,⟨b1,E,rfl,l1,y⟩,_,_,rfl,⟨b2,D,rfl,Z,w⟩,_,_,rfl,⟨b3,B,rfl,W,v⟩,hn⟩:=O;cases hn;have z:aH K Wno b_ F2 H1 ((g [.lst f,Y,.lst d,.lst b,.lst a]).bind λt=>match t with
    |.str z=>.ok (.ins C [("kinds",.lst f),("rules",Y),("names",.lst d),("flights",.lst b),("closed",.lst a),("text",.str z)])|_=>stk) Q:=z
   cases I:g [.lst f,Y,.lst d,.lst b,.lst a]with
   |error e=>rw[I]at z;exact DV z|ok t=>
    rw[I]at z;cases t with
    |str t=>
     intro x dx i U hne;refine⟨x,dx,b0,b1,b2,b3,N,L,E,D,B,F2,f,d,b,a,Y,t,rfl,aq,J.free i,λc o e=>?_,⟨l0,A⟩,u,⟨l1,y⟩,⟨Z,w⟩,⟨W,v⟩,I,?_⟩
     ·have hc:c≠x:=λh=>by rw[h,J.free i]at e;cases e
      have hd:c≠dx:=λh=>by rw[h,J.free U]at e;cases e
      rw[ao hc,ao hd];exact J _ _ e
     ·intro m0 m1 m2 m3 H' k0 T R n2 P k1 k2 k3 k4 k5;obtain⟨G,S,q⟩:=born_S J i U A u y w v k0 T R n2 P k1 k2 k3 k4 k5;exact⟨rfl,z (.ref x) G H' S q⟩
    |_=>exact aH.stuck z
  ·exact aH.stuck z
end
noncomputable def RLst(K:Fg):List V->Hp->VK->Prop:=λxs H Q=>∃p ys,xs=[.ref p]/\(SqL K H p ys\/SqT K H p ys)/\∀l,H l=d_->Q (.ref l) (upd H l (.lst ys))
theorem jq(f:o_)(v:V):∀fs:List (o_×V),f∉fs.map (·.1)->oE f v fs=fs++[(f,v)]
 |[],_=>rfl|(g,x)::r,h=>by have h1:¬g=f:=λe=>h (by simp[e]);have h2:f∉r.map (·.1):=λe=>h (by simp at e ⊢;exact .inr e);show(if g=f then _ else _)=_;rw[l_ h1,jq f v r h2];rfl
structure Cu(F H Hc:Hp)(p C dx:g_)(fs:List (o_×V)):Prop where
 f0:F p=d_
 sf:aO F Hc
 kp:∀c o,H c=a_ o->c≠p->Hc c=a_ o
 ob:Hc p=a_ (.ins C dx fs)
section
variable{p:g_}{fs:List (o_×V)}{f:o_}{D:Ends} 
theorem Cu.put(c:Cu F H Hc p C dx fs)(f:o_)(v:V):Cu F H (upd Hc p (.ins C dx (fs++[(f,v)]))) p C dx (fs++[(f,v)]) where
 f0:=c.f0
 sf:=λb u e=>by
  have:b≠p:=λz=>by rw[z,c.f0]at e;cases e
  rw[ao this];exact c.sf _ _ e
 kp:=λb o e I=>by rw[ao I];exact c.kp b o e I
 ob:=aq
theorem Cu.lay(c:Cu F H Hc p C dx fs)(I:Hc l=d_):Cu F H (upd Hc l o) p C dx fs where
 f0:=c.f0
 sf:=λb u e=>by
  have:b≠l:=λz=>by rw[z,c.sf.free I]at e;cases e
  rw[ao this];exact c.sf _ _ e
 kp:=λb u e J=>by
  have h1:=c.kp b u e J;have:b≠l:=λz=>by rw[z,I]at h1;cases h1
  rw[ao this];exact h1
 ob:=by
  have:p≠l:=λz=>by have h:=c.ob;rw[z,I]at h;cases h
  rw[ao this];exact c.ob
theorem Cu.new(c:Cu F H Hc p C dx fs)(I:Hc l=d_):H l=d_:=by
 cases h:H l with
 |none=>rfl|some o=>
  have:l≠p:=λz=>by have h:=c.ob;rw[<- z,I]at h;cases h
  rw[c.kp l o h this]at I;cases I
theorem Cu.list(c:Cu F H Hc p C dx fs)(n:Cls K C)(a:b8 K C f)(d:f∉fs.map (·.1))(j:fs.length<1000)(k:σ[0]?=a_ (a_ (.ref p))){y:List V}(hi:σ[i]?=a_ (a_ (.ref b)))(q:SqL K F b y)(I:∀l U,H l=d_->Cu F H U p C dx (fs++[(f,.ref l)])->U l=a_ (.lst y)->(∀m o,Hc m=a_ o->m≠p->U m=a_ o)->D.nx σ U):tY K (cn 0) (tCB (RLst K) (aM (cn i) dR)) f D σ Hc:=by
 refine⟨.ref b,hi,b,y,rfl,.inl (c.sf.lst q),λl J=>⟨.ref p,k,p,C,dx,fs,rfl,(c.lay J).ob,n,a,j,?_⟩⟩
 rw[jq f _ fs d];have Y:l≠p:=λz=>by have h:=c.ob;rw[<- z,J]at h;cases h
 refine I l _ (c.new J) ((c.lay J).put f (.ref l)) (by rw[ao Y,aq]) λm o e g=>?_
 have:m≠l:=λz=>by rw[z,J]at e;cases e
 rw[ao g,ao this];exact e
end
theorem rs_initS(a:Cls K C)(U:∀y∈(["kinds","rules","names","flights","closed","text"]:List o_),b8 K C y)(h:spIS K C g vs H Q E):
  iJ (tY K (cn 0) (tCB (RLst K) (aM (cn 1) dR)) "kinds") (iJ (tY K (cn 0) (cn 2) "rules") (iJ (tY K (cn 0) (tCB (RLst K) (aM (cn 3) dR)) "names") (iJ (tY K (cn 0) (tCB (RLst K) (aM (cn 4) dR)) "flights")
   (iJ (tY K (cn 0) (tCB (RLst K) (aM (cn 5) dR)) "closed") (tY K (cn 0) (eY (spF K b_ g 5) [] E' (aM (cn 1) (aM (cn 2) (aM (cn 3) (aM (cn 4) (aM (cn 5) dR)))))) "text")))))
   {nx:=λ_ H'=>Q .non H',rt:=Q} (start ["self","kinds","rules","names","flights","closed"] vs) H:=by
 obtain⟨p,dx,D,b1,b2,b3,J,P,O,N,L,F,d0,d1,d2,Z,X,z,rfl,A,W,R,⟨r,c0⟩,S,⟨n,c1⟩,⟨k,c2⟩,⟨j,c3⟩,T,q⟩:=h;have C0:Cu F H H p C dx []:=⟨W,R,λ_ _ e _=>e,A⟩
 refine C0.list a (U _ (by simp)) (by simp) (by decide) rfl rfl r λd H1 Y G a0 k1=>?_;refine⟨J,rfl,.ref p,rfl,p,C,dx,_,rfl,G.ob,a,U _ (by simp),by simp,?_⟩
 rw[jq _ J _ (by show("rules":o_)∉(["kinds"]:List o_);decide +kernel)];have C2:=G.put "rules" J;have e0:∀{l:g_},H l=d_->l≠p:=λ{l} h z=>by rw[z,A]at h;cases h
 have k2:∀m o,H1 m=a_ o->m≠p->upd H1 p (.ins C dx ((([]:List (o_×V))++[(("kinds":o_),V.ref d)])++[(("rules":o_),J)])) m=a_ o:=λm o e f=>by rw[ao f];exact e
 refine C2.list a (U _ (by simp)) (by show("names":o_)∉(["kinds","rules"]:List o_);decide +kernel) (by simp) rfl rfl n λw H3 b C3 a1 k3=>?_;refine C3.list a (U _ (by simp)) (by show("flights":o_)∉(["kinds","rules","names"]:List o_);decide +kernel) (by simp) rfl rfl k λu H4 n2 C4 a2 x=>?_;refine C4.list a (U _ (by simp)) (by show("closed":o_)∉(["kinds","rules","names","flights"]:List o_);decide +kernel) (by simp) rfl rfl j λt H5 s i a3 k5=>?_;refine⟨.ref D,rfl,J,rfl,.ref b1,rfl,.ref b2,rfl,.ref b3,rfl,F,[.lst d0,X,.lst d1,.lst d2,.lst Z],i.sf,⟨_,_,rfl,⟨D,P,rfl,r,c0⟩,_,_,rfl,S,_,_,rfl,⟨b1,O,rfl,n,c1⟩,_,_,rfl,⟨b2,N,rfl,k,c2⟩,_,_,rfl,⟨b3,L,rfl,j,c3⟩,rfl⟩,rfl,?_⟩
 rw[T];intro v F' H' st hv;cases(show v=.str z from hv);refine⟨.ref p,rfl,p,C,dx,_,rfl,st.hh _ _ i.ob,a,U _ (by simp),by simp,?_⟩
 rw[jq _ _ _ (by show("text":o_)∉(["kinds","rules","names","flights","closed"]:List o_);decide +kernel)];have I:∀m o,H5 m=a_ o->m≠p->upd H' p (.ins C dx (((((([]:List (o_×V))++[(("kinds":o_),V.ref d)])++[(("rules":o_),J)])++[(("names":o_),V.ref w)])++[(("flights":o_),V.ref u)])++[(("closed":o_),V.ref t)]++[(("text":o_),V.str z)])) m=a_ o:=λm o e f=>by rw[ao f];exact st.hh _ _ e
 exact q d w u t _ (λc o e B=>I c o (i.kp c o e B) B) Y b n2 s (I _ _ (k5 _ _ (x _ _ (k3 _ _ (k2 _ _ a0 (e0 Y)) (e0 Y)) (e0 Y)) (e0 Y)) (e0 Y)) (I _ _ (k5 _ _ (x _ _ a1 (e0 b)) (e0 b)) (e0 b)) (I _ _ (k5 _ _ a2 (e0 n2)) (e0 n2)) (I _ _ a3 (e0 s)) aq
structure Lent(K:Fg)(H0 G H:Hp)(hh:g_)(bs:List g_)(ys:List (List V))(ds:List (List Dat)):Prop where
 sg:aO G H
 s0:aO H0 H
 top:H hh=a_ (.lst (bs.map .ref))
 gh:G hh=d_
 h0:H0 hh=d_
 nt:hh∉bs
 own:∀(j:Nat) (b:g_),bs[j]?=a_ b->G b=d_/\H0 b=d_/\∃y d,ys[j]?=a_ y/\ds[j]?=a_ d/\H b=a_ (.lst y)/\aB K G d y
section
variable{hh:g_}{bs:List g_}{ys:List (List V)}{ds:List (List Dat)}
theorem Lent.step{I:Hp}(l:Lent K H0 G H hh bs ys ds)(s:Step G H I H'):Lent K H0 I H' hh bs ys ds where
 sg:=s.fh
 s0:=l.s0.trans s.hh
 top:=s.hh _ _ l.top
 gh:=by
  cases e:I hh with
  |none=>rfl|some o=>
   rcases s.nw _ _ e with z|z
   ·rw[l.gh]at z;cases z
   ·rw[l.top]at z;cases z
 h0:=l.h0
 nt:=l.nt
 own:=λj b e=>by
  obtain⟨h1,h2,y,d,a,Y,J,U⟩:=l.own j b e;refine⟨?_,h2,y,d,a,Y,s.hh _ _ J,aB.mono s.ff U⟩
  cases e:I b with
  |none=>rfl|some o=>
   rcases s.nw _ _ e with z|z
   ·rw[h1]at z;cases z
   ·rw[J]at z;cases z
open Classical in
end
theorem gz.hide(r:gz K F σ ρ)(i:Nat)(v:Option V):gz K F (σ.set i v) (ρ.set i d_):=
 ⟨by rw[CY,CY,r.len],λj d e=>by
  by_cases I:i=j
  ·subst I;by_cases hi:i<ρ.length
   ·rw[s_ hi]at e;cases e
   ·rw[Ge (by rw[CY];omega)]at e;cases e
  ·rw[k_ I]at e;obtain⟨v,h1,h2⟩:=r.sl j d e;exact⟨v,by rw[k_ I];exact h1,h2⟩⟩
theorem gz.tell(r:gz K F σ ρ){d:Dat}(e:σ[i]?=a_ (a_ v))(q:aP K F d v):gz K F σ (ρ.set i (a_ d)):=
 ⟨by rw[CY,r.len],λj d' I=>by
  by_cases J:i=j
  ·subst J;by_cases hi:i<ρ.length
   ·rw[s_ hi]at I;cases I;exact⟨v,e,q⟩
   ·rw[Ge (by rw[CY];omega)]at I;cases I
  ·rw[k_ J]at I;exact r.sl j d' I⟩
noncomputable def unF:HO->HO
 |.frz _ u=>u|o=>o
open Classical in
theorem Rep.ofE(r:gz K F σ ρ)(st:Step F0 H0 F H)(fb:aO FB F):Rep K F0 H0 FB [] F H σ ρ:=
 ⟨st,fb,r.len,λi d e _=>r.sl i d e,(λ_ _ _ h=>nomatch h),(λ_ _ _ _ _ h=>nomatch h)⟩
noncomputable def iX:Dat->Dat->M Dat
 |.str x,.str y=>if (q_ (y.length=1)&&q_ (x.length+2<=m_))=e_ then .ok (.lst ((Ep x y).map .str))else stk
 |_,_=>stk
@[simp] theorem yu(x y:o_):iX (.str x) (.str y)=if (q_ (y.length=1)&&q_ (x.length+2<=m_))=e_ then .ok (.lst ((Ep x y).map .str))else stk:=id rfl
noncomputable def lU:Dat->Dat->M Dat
 |.str x,.str y=>.ok (.bl (ER x y))|_,_=>stk
@[simp] theorem e_startsD(x y:o_):lU (.str x) (.str y)=.ok (.bl (ER x y)):=id rfl
noncomputable def xQ:Dat->M (List Dat)
 |.str x=>.ok (x.cps.toList.map λc=>.str ⟨#[c]⟩)|_=>.error .stuck
noncomputable def fItS(fa:ai->M Dat):ai->M (List Dat):=λρ=>(fa ρ).bind xQ
@[simp] theorem e_fItS(fa:ai->M Dat)(ρ:ai):fItS fa ρ=(fa ρ).bind xQ:=id rfl
@[simp] theorem e_signsD(x:o_):xQ (.str x)=.ok (x.cps.toList.map λc=>.str ⟨#[c]⟩):=id rfl
noncomputable def inSD:Dat->Dat->M Dat
 |.str a,.str b=>.ok (.bl (!(Dy b a 0 b.length 1).isEmpty))|_,_=>stk
noncomputable def jb:Dat->Dat->M Dat
 |.str a,.str b=>.ok (.bl (!(!(Dy b a 0 b.length 1).isEmpty)))|_,_=>stk
@[simp] theorem e_inSD(c:Nat)(b:o_):inSD (.str ⟨#[c]⟩) (.str b)=.ok (.bl (q_ (c∈b.cps.toList))):=by show Ds (Dat.bl (!(Dy b ⟨#[c]⟩ 0 b.length 1).isEmpty))=_;rw[Jm]
@[simp] theorem e_notInSD(c:Nat)(b:o_):jb (.str ⟨#[c]⟩) (.str b)=.ok (.bl (!decide (c∈b.cps.toList))):=by show Ds (Dat.bl (!(!(Dy b ⟨#[c]⟩ 0 b.length 1).isEmpty)))=_;rw[Jm]
noncomputable def BC:List Dat->M Dat
 |[.str x]=>if x.length<=640 then(match Fz x with
  |some n=>.ok (.int n)|none=>stk)else stk
 |_=>stk
@[simp] theorem e_intSD(x:o_):BC [.str x]=if x.length<=640 then(match Fz x with
  |some n=>.ok (.int n)|none=>stk)else stk:=id rfl
noncomputable def sQ:List Dat->M Dat
 |[.str z]=>if z.length<=m_ then .ok (.int z.length)else stk
 |_=>stk
@[simp] theorem e_lenSD(z:o_):sQ [.str z]=if z.length<=m_ then .ok (.int z.length)else stk:=id rfl
noncomputable def Its(x:o_):It:=⟨λi _=>i<x.cps.size,λi H v H'=>H'=H/\∃c,x.cps[i]?=a_ c/\v=.str ⟨#[c]⟩,λi _=>i=x.cps.size⟩
theorem turn_str{nm:String}(g:nm="str_ascii_iterator"\/nm="str_iterator")(x:o_)(t:Tok)(it:g_):Turn P w K tg (Its x) [it] it (λi h=>h.IsStrIter it nm x t i):=by
 have W:∀A:Fm,A.handled=d_->Walks P w A it [it] [it] x.cps.size (SignAt x) (λi h=>h.IsStrIter it nm x t i):=λA p=>by
  rcases g with rfl|rfl
  ·exact Walks.strAscii p it x t
  ·exact Walks.strWide p it x t
 have q:["enumerate","zip","dict_itemiterator","dict_reverseitemiterator","odict_iterator","itertools.zip_longest","itertools.pairwise"].contains nm=b_:=by rcases g with rfl|rfl<;>decide
 refine⟨by simp,λi h st b J=>?_,λi h h' st k=>?_,?_,?_,λA i s Q E st h=>?_⟩
 ·obtain rfl:b=it:=by simpa using J
  obtain⟨o,e,c,d⟩:=st;exact⟨o,e,λv z=>by rw[d]at z;cases z⟩
 ·obtain⟨o,e,r⟩:=st;exact⟨o,k it (by simp) o e,r⟩
 ·intro X l hw m j i pins s σ H E I a st Y;subst l hw m;obtain⟨n,f1,_,f3,f4,f5⟩:=a it (by simp);refine(W X.A (I.ok.hd j)).item i s _ _ Y st λv h' tk B U f=>?_;obtain⟨c,u,y,C⟩:=B;have F:Inv X pins σ H {s with heap:=h',toks:=tk}:=I.turned (λb o J e=>f b o (by simpa using J) e) n f1 f3 f4 f5;obtain⟨o,e,D,d⟩:=id U;exact⟨v,rfl,go_of (s:={s with heap:=h',toks:=tk}) e D d q ⟨.str ⟨#[c]⟩,H,F,⟨u,C⟩,⟨rfl,c,y,rfl⟩,U,λb J=>(a b J).1⟩⟩
 ·intro X l hw m j i pins s σ H E I a st Y;subst l hw m;obtain⟨n,f1,_,f3,f4,f5⟩:=a it (by simp);have Y:i=x.cps.size:=Y;subst Y;exact(W X.A (I.ok.hd j)).done s _ _ st λh' tk f=>⟨rfl,I.turned (λb o J e=>f b o (by simpa using J) e) n f1 f3 f4 f5⟩
 ·rcases g with rfl|rfl
  ·exact wpAny_pyIter_striter_ascii st h
  ·exact wpAny_pyIter_striter_wide st h
theorem iter_str(x:o_):vC K F (Its x) (x.cps.toList.map λc=>.str ⟨#[c]⟩) where
 go:=λi F' H' _ _ hi=>by show i<x.cps.size;simpa using hi
 yl:=λi F' H' v H2 d a J hd U=>by
  obtain⟨rfl,c,Y,rfl⟩:=U;have I:x.cps.toList[i]?=a_ c:=by simpa using Y
  rw[Ee,I]at hd;cases hd;exact⟨F',Step.refl J,rfl⟩
 st:=λF' H' _ _=>by show _=_;simp
section
variable{W:dS}{own:Bool} 
theorem yy(k:DE K W b_ X e fa)(n: ~~~(X.K=K)):DI K W X tg e (fItS fa):=by
 subst n;intro pins s σ H R I ⟨F,ρ,r,f,p⟩;have p:(match (fa ρ).bind xQ with
  |.ok ds=>∀J F1 H1,Step F H F1 H1->vC X.K F1 J ds->R J H1|.error e=>W.p e F H):=p
 refine thn (k pins s σ H (λv H1=>∃a F1,fa ρ=.ok a/\Step F H F1 H1/\aP X.K F1 a v) I (b6 r f (λe l=>by rw[l]at p;exact p) λa c v F1 H1 U h=>⟨a,F1,c,U,h⟩)) λv U i=>?_;obtain⟨y,H1,d,g,a,F1,u,st,q⟩:=i;rw[u]at p;cases a with
 |str z=>
  cases(show y=V.str z from q);obtain⟨t,rfl⟩:=(show ∃t,v=Ex z t from g)
  have Y:∀nm,(nm="str_ascii_iterator"\/nm="str_iterator")->PIE X pins σ tg R (.ref U.heap.objs.size) {U with heap:=U.heap.push {cls:=.type nm,data:=.fields #[.str z t,.int 0 0]}}:=λnm j=>by
   refine⟨U.heap.objs.size,[U.heap.objs.size],_,_,H1,rfl,d.kept (t':=U.toks) λb o e=>t_ _ e,turn_str j z t _,⟨_,Df _ rfl,rfl,rfl⟩,λb m=>?_,p (Its z) F1 H1 st (iter_str z)⟩
   obtain rfl:b=U.heap.objs.size:=by simpa using m
   exact d.fpOk (u_ _) (d.hok.fresh (u_ _))
  cases c:z.cps.all (·<128)
  ·exact wpAny_pyIter_wide c (Y _ (.inr rfl))
  ·exact wpAny_pyIter_ascii c (Y _ (.inl rfl))
 |_=>exact(W.ns p).elim
theorem kU:MtR X "str.split" (rSM X.K W e_ iX):=by
 intro pins s σ H x vs v us Q I n r h;obtain⟨F,z,b,y,i,rfl,rfl,A,p⟩:=h;obtain⟨u,rfl,w⟩:=r.one;obtain⟨t,rfl⟩:=(show ∃t,v=Ex z t from n)
 cases b with
 |str J=>
  cases(show y=V.str J from A);obtain⟨t2,rfl⟩:=(show ∃t,u=Ex J t from w)
  have p:aH X.K W e_ F H (if (q_ (J.length=1)&&q_ (z.length+2<=m_))=e_ then .ok (.lst ((Ep z J).map .str))else stk) Q:=p;by_cases d:(q_ (J.length=1)&&q_ (z.length+2<=m_))=e_
  ·rw[i_ d]at p;rw[n_,Dh,Dh]at d;have E:=split_le z J;have g:∀l:List o_,aB X.K F (l.map .str) (l.map V.str):=λl=>by
    induction l with
    |nil=>rfl|cons a l e=>exact⟨.str a,_,rfl,rfl,e⟩
   have vs:∀l:List (o_×Tok),Vals ((l.map (·.1)).map V.str) (FG l):=λl=>by
    induction l with
    |nil=>exact .nil|cons a l e=>exact .cons ⟨a.2,rfl⟩ e
   have Y:∀(l:List (o_×Tok)) (k:Nat),l.map (·.1)=Ep z J->EP X pins σ Q (.ref s.heap.objs.size) {s with toks:=k,heap:=s.heap.push {cls:=.type "list",data:=.seq (FG l).toArray}}:=λl k C=>by
    have c:((Ep z J).map V.str).length<=m_:=by rw[y_];omega
    refine⟨.ref s.heap.objs.size,_,I.laid (t':=k) (o:=.lst ((Ep z J).map V.str)) (λ_ _ q=>t_ _ q) (u_ _) ⟨c,FG l,0,by rw[<- C];exact vs l,Df _ rfl⟩,rfl,?_⟩
    have U:=I.hok.fresh (u_ s.heap.objs.size);exact p (.ref s.heap.objs.size) F _ (Step.grow i U) ⟨_,_,rfl,aq,i.free U,U,g _⟩
   have j:(J.length==0)=b_:=by rw[d.1];rfl
   have B:(HN z (Dy z J 0 z.length (z.length+1)) J.length).length<=m_:=by have:=StrLaws.occ_length_le z J 0 z.length (z.length+1);rw[length_partsBetween];omega
   have f:∀{S:PySem.Spec},Meets (Builtin.«str.split» ⟨[.str z t,.str J t2],[]⟩) S->S X.A (wants (EP X pins σ Q) X.xe) s->CT (Dd X.prog X.w) X.A (Gn (.builtin "str.split") [.str z t,.str J t2]) (EP X pins σ Q) X.xe s:=λm D=>HY EE (Hb _ _ _) PySem.F.entry_str_split (PySem.F.args_str_split_2 _ _) m D;cases h1:(q_ (z.length<J.length)||q_ (Ir z<Ir J))
   ·cases U:(Dy z J 0 z.length (z.length+1)).isEmpty
    ·refine f (meets_str_split_sep z J t t2 h1 j U (by omega) B) ?_;show wants _ _ _ {s with toks:=_,heap:=s.heap.push {cls:=.type "list",data:=.seq (strsFrom s.toks (HN z (Dy z J 0 z.length (z.length+1)) J.length)).toArray}};rw[strsFrom_eq];exact Y (numbered s.toks _) _ ((numbered_texts _ _).trans ((l_ (by rw[h1];decide)).trans (l_ (by rw[U];decide))).symm)
    ·exact f (meets_str_split_not_found z J t t2 h1 j U) (Y [(z,t)] s.toks ((l_ (by rw[h1];decide)).trans (i_ U)).symm)
   ·exact f (meets_str_split_cannot_occur z J t t2 h1) (Y [(z,t)] s.toks (i_ h1).symm)
  ·rw[l_ d]at p;exact aH.stuck p
 |_=>exact aH.stuck p
theorem Bm:MtR X "str.startswith" (rSM X.K W own lU):=by
 intro pins s σ H x vs v us Q I Y a h;obtain⟨F,z,b,y,U,rfl,rfl,d,p⟩:=h;obtain⟨u,rfl,c⟩:=a.one;obtain⟨t,rfl⟩:=(show ∃t,v=Ex z t from Y)
 cases b with
 |str J=>
  cases(show y=V.str J from d);obtain⟨t2,rfl⟩:=(show ∃t,u=Ex J t from c)
  have p:aH X.K W own F H (.ok (.bl (ER z J))) Q:=p;exact call_gives HR (Hb _ _ _) PySem.F.entry_str_startswith (PySem.F.args_str_startswith_2 _ _) (gives_str_startswith z J t t2) ⟨.bl _,H,I,rfl,p (.bl _) F H (Step.refl U) (by cases own<;>rfl)⟩
 |_=>exact aH.stuck p
theorem Bj:Op2 K W own X (Dn .In) inSD:=OpR.imp Bf λx y H Q ⟨F,a,b,s,J,I,p⟩=>by
 cases a with
 |str i=>cases b with
  |str j=>have p:aH K W own F H (.ok (.bl (!(Dy j i 0 j.length 1).isEmpty))) Q:=p;exact⟨i,j,J,I,p (.bl _) F H (Step.refl s) (by cases own<;>rfl)⟩
  |_=>exact aH.stuck p
 |_=>exact aH.stuck p
theorem nJ:Op2 K W own X (Dn .NotIn) jb:=OpR.imp uG λx y H Q ⟨F,a,b,s,J,I,p⟩=>by
 cases a with
 |str i=>cases b with
  |str j=>have p:aH K W own F H (.ok (.bl (!(!(Dy j i 0 j.length 1).isEmpty)))) Q:=p;exact⟨i,j,J,I,p (.bl _) F H (Step.refl s) (by cases own<;>rfl)⟩
  |_=>exact aH.stuck p
 |_=>exact aH.stuck p
theorem rC:tX K W own X (.builtin "len") sQ:=vn.imp λxs H Q h=>by
 obtain⟨F,d,x,s,e,q,p⟩:=oO (λds=>by match ds with|[d]=>exact .inl ⟨d,rfl⟩|[]=>exact .inr rfl|a::b::c=>exact .inr (by cases a<;>rfl)) h;cases d with
 |str z=>
  have p:aH K W own F H (if z.length<=m_ then .ok (.int z.length)else stk) Q:=p;by_cases I:z.length<=m_
  ·rw[i_ I]at p;exact⟨z,by rw[e,show x=.str z from q],I,p (.int _) F H (Step.refl s) (by cases own<;>rfl)⟩
  ·rw[l_ I]at p;exact aH.stuck p
 |_=>exact aH.stuck p
theorem Ct:gm X (.type "int") (λxs H Q=>∃z n,xs=[.str z]/\z.length<=640/\Fz z=a_ n/\Q (.int n) H):=by
 intro pins s σ H xs us Q I r ⟨z,n,e,Y,U,q⟩;subst e;obtain⟨u,rfl,J⟩:=vals1 r;obtain⟨t,rfl⟩:=(show ∃t,u=Ex z t from J)
 exact PySem.W.KIN.call_text U Y ⟨.int n,H,I.tok _,⟨_,rfl⟩,q⟩
theorem Cz:tX K W own X (.type "int") BC:=Ct.imp λxs H Q h=>by
 obtain⟨F,d,x,s,e,q,p⟩:=oO (λds=>by match ds with|[d]=>exact .inl ⟨d,rfl⟩|[]=>exact .inr rfl|a::b::c=>exact .inr (by cases a<;>rfl)) h;cases d with
 |str z=>
  have p:aH K W own F H (if z.length<=640 then(match Fz z with
   |some n=>.ok (.int n)|none=>stk)else stk) Q:=p
  by_cases J:z.length<=640
  ·rw[i_ J]at p;cases I:Fz z with
   |none=>rw[I]at p;exact aH.stuck p|some n=>rw[I]at p;exact⟨z,n,by rw[e,show x=.str z from q],J,I,p (.int _) F H (Step.refl s) (by cases own<;>rfl)⟩
  ·rw[l_ J]at p;exact aH.stuck p
 |_=>exact aH.stuck p
theorem tm{z:o_}(I:∃t,X.mg x=a_ (.str z t))(J: ~~~(Gl X x))(hd:((x==("__debug__":o_))=b_)⁻¹):DE K W b_ X (.Name x pos) (fC (.str z)):=by obtain⟨t,e⟩:=I;exact(sC (v:=.str z) J e ⟨t,rfl⟩ hd).imp λ_ _ _=>rd_c λ_=>rfl
end
noncomputable def vG(xs:List o_)(k:o_):Option Nat:=xs.findIdx? (·==k)
noncomputable def ke:Dat->Dat->M Dat
 |.lst ds,.str k=>(ia ds).bind λxs=>match vG xs k with
  |some j=>.ok (.int j)|none=>stk
 |_,_=>stk
@[simp] theorem e_indexS(ds:List Dat)(k:o_):ke (.lst ds) (.str k)=(ia ds).bind λxs=>match vG xs k with
  |some j=>.ok (.int j)|none=>stk:=id rfl
noncomputable def gr(fo fe:ai->M Dat):ai->M Dat:=λρ=>(fo ρ).bind λa=>if isL a=e_ then(fe ρ).bind λb=>ke a b else stk
@[simp] theorem e_fIndexS(fo fe:ai->M Dat)(ρ:ai):gr fo fe ρ=(fo ρ).bind λa=>if isL a=e_ then(fe ρ).bind λb=>ke a b else stk:=id rfl
noncomputable def rIndexS(K:Fg):V->List V->Hp->VK->Prop:=λx vs H Q=>∃l is k j,x=.ref l/\vs=[.str k]/\SqL K H l (is.map V.str)/\vG is k=a_ j/\Q (.int j) H
noncomputable def isKS(k:o_):j_->Bool
 |.str i _=>i==k|_=>b_
section
variable{W:dS}
theorem Bn(P:X.A.units+64<E8):MtR X "list.index" (rIndexS X.K):=by
 intro pins s σ H x vs v us Q I B C ⟨l,is,k,j,ex,O,N,K,q⟩;subst ex O;cases B;obtain⟨u,rfl,D⟩:=C.one;obtain⟨its,r,pl,E⟩:=I.list N;obtain⟨⟨oc,c,b,osl⟩,n,e,J,o,U⟩:=id pl;obtain⟨t,rfl⟩:=(show ∃t,u=Ex k t from D)
 obtain⟨h,i,d⟩:=FZ.mp K;obtain⟨L,rfl,rfl⟩:=o7 r;have hsz:=Dq;have p:(FG L).length=L.length:=by unfold FG;rw[y_]
 have Y:∀m (a:m<(FG L).length),(FG L)[m]=.str ((L.map (·.1))[m]'(by rw[y_];omega)) (L[m]'(by omega)).2:=λm a=>by simp[FG]
 rw[y_]at h;refine HY Ip ⟨_,e,J⟩ PySem.F.entry_list_index (PySem.F.args_list_index_2 _ _) (SeqAt.list_indexAt l (FG L).toArray n c osl (.str k t) (isKS k) j (by rw[B_];omega) (by have:=E;rw[y_,y_]at this;omega) ?_ ?_) ⟨?_,λy G=>?_,⟨.int j,H,I.tok _,⟨_,rfl⟩,q⟩⟩
 ·rw[Jq,Y j (by omega)];exact i
 ·intro m a g;rw[B_]at a;rw[Jq,Y m a];simpa[isKS] using d m g
 ·rw[e];cases(show oc=.type "list" from J);cases(show b=.seq (FG L).toArray n from U);rfl
 ·obtain⟨m,f,rfl⟩:=JD (show y∈FG L by simpa using G);rw[Y m f];generalize (L.map (·.1))[m]'(by rw[y_];omega)=z;have w:=BQ (F:=H) (x:=.str z) (y:=.str k) (A:=X.A.in1) I (aO.refl H) (.str z) (.str k) rfl rfl rfl rfl ⟨(L[m]'(by omega)).2,rfl⟩ ⟨t,rfl⟩ (by show X.A.units+1+40<E8;omega);have e2:eqD (.str z) (.str k)=isKS k (.str z (L[m]'(by omega)).2):=by simp[eqD,isKS]
  rw[e2]at w;exact w
variable{o:Ed} 
theorem lJ(q:X.A.units+64<E8)(v:DE K W b_ X o fo)(c:DE K W b_ X e fe)(B: ~~~(X.K=K))(U: ~~~(Ei o "index" X.env (Di o X.env)=Di o X.env))(Y: ~~~(((DB cpos (h_ [e] X.env)).all (λx=> !x.1)&&(EX cpos (D_ [] X.env)).all (λx=>x.1.isSome)&&q_ ([e].length+([]:List FU).length+(if ([]:List FU).isEmpty then 0 else 1)<30))=e_))(J: ~~~((apos.endLine==cpos.line)=e_))(h: ~~~(h_ [e] X.env=(b_,Di e X.env)::h_ [] X.env))(I: ~~~((DB cpos (h_ [] X.env)).any (·.1)=b_)):
  DE K W b_ X (.Call (.Attribute o "index" apos) [e] [] cpos) (gr fo fe):=by
 subst B;refine PE.imp (wq EB Ip PySem.F.type_list_index (Bn q) v (ax c aK (by rw[h])) U Y J h I) λσ H Q u=>?_;obtain⟨F,ρ,r,s,p⟩:=u;refine b6 r s (λe c=>p.err (by unfold gr;rw[c];rfl)) λa A x F1 H1 f m=>?_;rw[show gr fo fe ρ=if isL a=e_ then(fe ρ).bind λb=>ke a b else stk by unfold gr;rw[A];rfl]at p;have p:=p.step f;cases a with
 |lst ds=>
  have p:aH X.K W b_ F1 H1 ((fe ρ).bind λb=>ke (.lst ds) b) Q:=p;obtain⟨l,xs,rfl,t,z⟩:=id m;refine⟨.inl ⟨rfl,_,f.fh.lst t⟩,b6 (r.mono f.ff) f.fh (λe c=>p.err (by rw[c];rfl)) λb w y F2 H2 d i=>?_⟩
  rw[w]at p;have p:aH X.K W b_ F1 H1 (ke (.lst ds) b) Q:=p;have p:=p.step d;cases b with
  |str k=>
   have p:aH X.K W b_ F2 H2 ((ia ds).bind λxs=>match vG xs k with
    |some j=>.ok (.int j)|none=>stk) Q:=p
   cases hi:ia ds with
   |error e=>rw[hi]at p;rw[oh hi]at p;exact aH.stuck p|ok is=>
    rw[hi]at p;have p:aH X.K W b_ F2 H2 (match vG is k with
     |some j=>.ok (.int j)|none=>stk) Q:=p
    have n:=o9 z hi;subst n;cases g:vG is k with
    |none=>rw[g]at p;exact aH.stuck p|some j=>rw[g]at p;cases(show y=V.str k from i);exact⟨l,is,k,j,rfl,rfl,d.fh.lst (d.ff.lst t),g,p (.int j) F2 H2 (Step.refl d.fh) rfl⟩
  |_=>exact aH.stuck p
 |_=>exact aH.stuck p
end
abbrev k1(t:Tok):List (o_×j_):=[(c_ "start",.int 1 t)]
theorem lst_it(h:DR)(l:g_):(h.push {cls:=.type "list_iterator",data:=.fields #[.ref l,.int 0 0]}).objs.size=h.objs.size+1:=Eo ..
theorem Bk(l:g_)(I:Array j_)(n:Nat)(t:Tok)(U:Option g_)(b:Array (Option j_)):
  Meets (Builtin.«enumerate.__new__» ⟨[.type "enumerate",.ref l],k1 t⟩) (λ_ R s=>s.heap.get? l=a_ {cls:=.type "list",dict:=U,data:=.seq I n,slots:=b} /\
   R (.ok (.ret (.ref (s.heap.objs.size+1)))) {s with heap:=(s.heap.push {cls:=.type "list_iterator",data:=.fields #[.ref l,.int 0 0]}).push {cls:=.type "enumerate",data:=.fields #[.none,.bool b_,.ref s.heap.objs.size,HX 1,.none,.none]}}):=
 KO λP w A R s ⟨J,h⟩=>by
  obtain⟨Y,g,d,tk,os⟩:=s;rw[<- lst_it Y l]at h;have z:=sub_enumerate;have a:Heap.IsList (Shared.heap ⟨Y,g,d,tk,os⟩) l I:=⟨_,J,rfl,n,rfl⟩
  wp_walk using GF J
  refine wpAny_stack_any λst=>Cb ?_;split
  ·rename_i c _ _ _ _ _;cases(c==FC "enumerate")<;>(wp_walk using GF J,GX a)<;>exact⟨_,rfl,h⟩
  ·wp_walk using GF J,GX a
   exact⟨_,rfl,h⟩
theorem ini_k1{I a:j_}{t:Tok}(b:typeLookup (.type "enumerate") "__init__"=EY (a_ (.builtin "object.__init__")))(Y:Bind.madeBy (.type "enumerate")=EY (a_ "enumerate.__new__")):
  Meets (Builtin.«object.__init__» ⟨[I,a],k1 t⟩) (λ_ R s=>s.TypeIs I "enumerate"/\R (.ok (.ret .none)) s):=KO λP w A R s ⟨c,J⟩=>by
 have U:(a_ "enumerate.__new__" != a_ "object.__new__")=e_:=by decide
 repeat (any_goals (first|assumption|wp_step))
 exact⟨_,rfl,J⟩
section
variable{E:Vp}{Q:Vp}
theorem zY{J:Array j_}{t:Tok}(L:s.heap.IsList l J)(h:∀h',IsEnum h' (s.heap.objs.size+1) s.heap.objs.size 1 .none->h'.IsListIter s.heap.objs.size l 0->(∀b o,s.heap.get? b=a_ o->h'.get? b=a_ o)->Q (.ref (s.heap.objs.size+1)) {s with heap:=h'}):
  CT (Dd prog w) A (Gn (.type "enumerate") [.ref l] (k1 t)) Q E s:=by
 obtain⟨⟨c,k,N,y⟩,D,H,n,hd⟩:=L;cases(show c=.type "list" from H);cases(show N=.seq J n from hd);have ft:=F.called_enumerate;obtain⟨c,tl,u⟩:=ft.mro;have Y:=ft.made;have q:=ft.sub;have h1:=ft.notType;have h2:=ft.canCreate;have G:checkTypeCall "enumerate" ⟨[.ref l],k1 t⟩=EY ():=by kernel_rfl
 have j:Iy "enumerate.__new__" ⟨[.type "enumerate",.ref l],k1 t⟩=EY ():=by kernel_rfl
 have f:∀U,argsOk "object.__init__" ⟨[U,.ref l],k1 t⟩:=λU=>by unfold argsOk;kernel_rfl
 have C:=lst_it s.heap l;have i:IsEnum ((s.heap.push {cls:=.type "list_iterator",data:=.fields #[.ref l,.int 0 0]}).push {cls:=.type "enumerate",data:=.fields #[.none,.bool b_,.ref s.heap.objs.size,HX 1,.none,.none]}) (s.heap.objs.size+1) s.heap.objs.size 1 .none:=by rw[<- C];exact Df _ rfl
 refine GR (codeAny_of_tree (show CT _ _ (callAny (.type "enumerate") _) _ _ _ from Cb ⟨Hu _ (by decide +kernel),codeAny_builtin F.entry_type_call ?_⟩));rw[Around.under_plain (weight_type_call_type "enumerate" [.ref l] (k1 t)) (units_type_call_type "enumerate" [.ref l] (k1 t))]
 repeat (any_goals (first|assumption|wp_step))
 refine EM (FR ft.plain F.entry_enumerate_new (wpAny_of_eq j (Bk l J n t k y prog w A.in1 (wants (λv B=>v=.ref (s.heap.objs.size+1)/\B={s with heap:=(s.heap.push {cls:=.type "list_iterator",data:=.fields #[.ref l,.int 0 0]}).push {cls:=.type "enumerate",data:=.fields #[.none,.bool b_,.ref s.heap.objs.size,HX 1,.none,.none]}}) E) s ⟨D,rfl,rfl⟩))) λr p d=>?_
 match r,d with
 |.error e,d=>exact d|.ok (.ret U),d=>
  obtain⟨rfl,rfl⟩:=d;have g:=ft.init.lookup;have K:=ft.init.bind (.ref (s.heap.objs.size+1))
  repeat (any_goals (first|assumption|wp_step))
  refine EM (FR ft.init.plain F.entry_object_init (ft.init.check _ _ _ _ _ _ _ _ ⟨_,i,rfl⟩ (f _) (ini_k1 g Y prog w A.in1 (wants (λr z=>r=.none/\z=_) E) _ ⟨⟨_,i,rfl⟩,rfl,rfl⟩))) λa m I=>?_
  match a,I with
  |.error e,I=>exact I|.ok (.ret r),I=>
   obtain⟨rfl,rfl⟩:=I
   repeat (any_goals (first|assumption|wp_step))
   exact h _ i ⟨_,t_ _ (Df _ rfl),rfl,rfl⟩ λb o x=>t_ _ (t_ _ x)
end
theorem draws1(hh:A.handled=d_)(Y:l≠it)(I:Array j_):Draws prog w A it [it,l] (I.size+1) (λk v=>∃j,k=j+1/\I[j]?=a_ v) (λk h=>∃j,k=j+1/\h.IsListIter it l j/\h.IsList l I) where
 live:=λi h ⟨j,_,⟨o,e,_⟩,_⟩=>⟨o,e⟩
 frame:=λi h h' ⟨j,e,⟨o,m,g⟩,⟨U,b1,b2⟩⟩ k=>⟨j,e,⟨o,k it (by simp) _ m,g⟩,⟨U,k l (by simp) _ b1,b2⟩⟩
 item:=λi s Q E hi ⟨j,e,a,b⟩ d=>by
  subst e;have J:j<I.size:=by omega
  refine wpAny_nextOf_list_item a b (x:=I[j]) (by simp[J]) λh' n c=>d _ h' s.toks ⟨j,rfl,by simp[J]⟩ ⟨j+1,rfl,n,?_⟩ c;obtain⟨U,b1,b2⟩:=b;exact⟨U,(c.2 l Y).trans b1,b2⟩
 done:=λs Q E ⟨j,e,a,b⟩ f=>by
  have J:j=I.size:=by omega
  subst J;exact wpAny_nextOf_list_end hh a b (by simp) f
noncomputable def Ite1(K:Fg)(a:g_):It:=
 ⟨λi H=>∃xs x,SqL K H a xs/\xs[i]?=a_ x,λi H x H'=>∃T y,H T=d_/\x=.ref T/\H'=upd H T (.tup [.int (i+1:Nat),y])/\∀xs,SqL K H a xs->xs[i]?=a_ y,λi H=>∃xs,SqL K H a xs/\xs.length=i⟩
theorem yK(a e it:g_)(m:e≠it):Turn P w K (.Tuple elts k pos) (Ite1 K a) [e,it] e (λi h=>(∃J,IsEnum h e it (i+1:Nat) J)/\h.IsListIter it a i):=by
 have g:∀{i:Nat} {h:DR} {J:j_} {its:Array j_},IsEnum h e it (i+1:Nat) J->h.IsListIter it a i->h.IsList a its->a≠it/\e∉[it,a]:=λ{i h J its} Y U ⟨ol,h1,n,_⟩=>by
  obtain⟨o,h2,B,_⟩:=U;refine⟨λz=>?_,λz=>?_⟩
  ·subst z;rw[h1]at h2;cases h2;rw[n]at B;exact Dc B (by decide)
  ·simp only[A_,Ez,Ha]at z;rcases z with z|z
   ·exact m z
   ·subst z;rw[Y]at h1;cases h1;exact Dc (show FC "enumerate"=FC "list" from n) (by decide)
 refine⟨by simp,λi h ⟨⟨J,Y⟩,o,e1,c,d⟩ b f=>?_,λi h h' ⟨⟨J,Y⟩,U⟩ W=>⟨⟨J,W e (by simp) _ Y⟩,U.at λo x=>W it (by simp) o x⟩,?_,?_,λ_ _ _ _ _ ⟨⟨J,Y⟩,_⟩ h=>Kw Y h⟩
 ·rcases A_.mp f with rfl|f
  ·exact⟨_,Y,λv z=>by cases z⟩
  ·obtain rfl:b=it:=by simpa using f
   exact⟨o,e1,λv z=>by rw[d]at z;cases z⟩
 ·intro X r hw T n i pins s σ H E I F ⟨⟨J,Y⟩,U⟩ ⟨xs,x,D,N⟩;subst r hw T;obtain⟨its,G,p,hz⟩:=I.list D;obtain⟨u,Z,ru⟩:=G.get N;obtain⟨L,n2⟩:=g Y U p.isList;have hil:i<its.length:=(z_.mp Z).1;refine wpAny_pyNext_enum_itemD (i:=i+1) (draws1 (A:=X.A.in1) (I.ok.hd n) L its.toArray) Y ⟨i,rfl,U,p.isList⟩ (by simp;omega) m n2 λv h1 tk Q ho O hT hsz hk=>?_;obtain⟨j,ej,r⟩:=Q;obtain⟨j2,ej2,t,_⟩:=O;obtain rfl:j=i:=by omega
  obtain rfl:j2=j+1:=by omega
  obtain rfl:v=u:=by rw[Ji,Z]at r;exact(Dt r).symm
  refine⟨_,rfl,wpAny_letOwnedTupleGo_enum ho λh2 S l=>?_⟩
  have R:e<s.heap.objs.size:=v_ Y;have C:s.heap.objs.size≠e:=G3 R;have I1:Inv X pins σ (upd H s.heap.objs.size (.tup [.int (j+1:Nat),x])) {s with heap:=h2,toks:=tk+1}:=I.Ao (ch:=[e,it]) F (λb o f q=>by have h3:=hk b o (λz=>f (by simp[z])) (λz=>f (by simp[z])) q;exact(l.2 b (λz=>f (by simp[z]))).trans h3) (u_ _) ⟨by show 2<=m_;decide,[.int (j+1:Nat) tk,v],.cons ⟨_,rfl⟩ (.cons ru .nil),⟨_,(l.2 _ C).trans hT,rfl,0,rfl⟩⟩
  refine⟨.ref s.heap.objs.size,_,I1,rfl,⟨s.heap.objs.size,x,I.hok.fresh (u_ _),rfl,rfl,λys hy=>by rw[I.nM hy D];exact N⟩,⟨⟨v,by simpa using S⟩,t.at λo y=>(l.2 it m.symm).trans y⟩,λb f=>?_⟩
  have:b≠s.heap.objs.size:=by
   rcases A_.mp f with rfl|f
   ·exact C.symm
   ·obtain rfl:b=it:=by simpa using f
    obtain⟨o,e1,_⟩:=U;exact Dx (v_ e1)
  rw[ao this];exact(F b f).1
 ·intro X r hw T n i pins s σ H E I F ⟨⟨J,Y⟩,U⟩ ⟨xs,D,N⟩;subst r hw T;obtain⟨its,G,p,hz⟩:=I.list D;obtain⟨L,n2⟩:=g Y U p.isList;have hl:=G.length;refine wpAny_pyNext_enum_endD (draws1 (A:=X.A.in1) (I.ok.hd n) L its.toArray) Y ⟨i,by simp;omega,U,p.isList⟩ λh2 eb=>⟨rfl,I.Ap (t':=s.toks) (ch:=[e,it]) F λb o f q=>eb b o (λz=>f (by simp[z])) q⟩
section
variable{W:dS}{a:Ed} 
theorem vo{M:HQ}{E:Vp}{J:List FU}{Q:Vp}(h:CT M A (spliced (DB pos (h_ [e] env))) (λvs I=>CT M A (evalAll ((EX pos (D_ J env)).map (·.2))) (λc U=>CT M A (Gn (.type T) vs (((EX pos (D_ J env)).filterMap (·.1)).zip c)) Q E U) E I) E s)(g:h_ [e] env=[(b_,Di e env)])(b:(EX pos (D_ J env)).all (·.1.isSome)=e_)(d:(EX pos (D_ J env)).any (·.1.isNone)=b_):
  CT M A (Hw pos (.type T) [] (DB pos (h_ [e] env)) (EX pos (D_ J env))) Q E s:=by
 have j:(DB pos (h_ [e] env)).any (·.1)=b_:=by rw[g];rfl
 have f:∃x,DB pos (h_ [e] env)=[(b_,x)]:=by rw[g];exact⟨_,rfl⟩
 obtain⟨x,f⟩:=f;unfold Hw;refine p_ (HP (D1 (Q:=λa I=>CT M A (Gn (.type T) ([]++a.pos) a.kw) Q E I) ?_ (λa I Y=>p_ (G2 ?_)) λ_ _ z=>z))
 ·rw[f]at h ⊢;exact PyProof.Rows.evalArgs_kwB b h
 ·rw[j,d];exact p_ (Cb (p_ (D1 Y (λr U i=>p_ (HP (wpAny_point (Cb i)))) λ_ _ z=>z)))
noncomputable def BE(K:Fg)(tl:TE):TI:=λσ H R=>tl σ H λx H1=>∃a,x=.ref a/\(∃xs,SqL K H1 a xs)/\R (Ite1 K a) H1
theorem pi_enum1{z m:Pos}{j}{tl:TE}(F:Gl X "enumerate")(C:X.mg "enumerate"=d_)(D:PE X a tl)(f: ~~~(h_ [a] X.env=[(b_,Di a X.env)])):
  PI X (.Tuple elts k q) (.Call (.Name "enumerate" p) [a] [⟨a_ (c_ "start"),.Constant (.int 1) j m,z⟩] pos) (BE X.K tl):=by
 intro pins s σ H R I h;have G:PA X [a] (aM tl dR):=ax D aK f;refine El (qT I F C boot_enumerate ?_);refine vo (thn (G pos pins s σ H (λvs H1=>match vs with
  |[x]=>∃a,x=.ref a/\(∃xs,SqL X.K H1 a xs)/\R (Ite1 X.K a) H1
  |_=>False) I h) λus n ⟨vs,H1,L,c,r⟩=>?_) f rfl rfl
 match vs,c,r with
 |[x],c,⟨l,e1,⟨xs,A⟩,q⟩=>
  subst e1;obtain⟨u,rfl,o⟩:=c.one;cases o;refine kws_cons (thn (Bc (X:=X) (i:=1) (j:=j) (pos:=m) pins n σ H1 (λv H2=>v=.int 1/\H2=H1) L ⟨rfl,rfl⟩) λw J B=>?_);obtain⟨y,H2,Y,r2,e2,e3⟩:=B;refine kws_nil ?_;subst e2 e3;obtain⟨t,rfl⟩:=(show ∃t,w=Gy 1 t from r2)
  obtain⟨its,N,pl,O⟩:=Y.list A;refine zY pl.isList λh2 g d E=>?_;have K:Inv X pins σ H2 {J with heap:=h2}:=Y.kept (t':=J.toks) E;refine Kw g ⟨J.heap.objs.size+1,[J.heap.objs.size+1,J.heap.objs.size],_,_,H2,rfl,K,yK l _ _ (Nat.succ_ne_self _),⟨⟨_,g⟩,d⟩,λb e=>?_,q⟩;have U:J.heap.objs.size<=b:=by
   rcases A_.mp e with rfl|e
   ·exact DF _
   ·obtain rfl:b=J.heap.objs.size:=by simpa using e
    exact u_ _
  exact Y.fpOk U (Y.hok.fresh U)
end
structure Cells(K:Fg)(F H:Hp)(xs:List g_)(ds:List Dat):Prop where
 fh:aO F H
 nd:xs.Nodup
 len:xs.length=ds.length
 own:∀(j:Nat) (x:g_) (d:Dat),xs[j]?=a_ x->ds[j]?=a_ d->isO d=e_/\ky K F (λ_=>d_) H d (.ref x)
structure vz(xs:List g_)(F H F' H':Hp):Prop where
 ff:aO F F'
 hh:∀b o,b∉xs->H b=a_ o->H' b=a_ o
 fh:aO F' H'
 nw:∀b o,F' b=a_ o->F b=a_ o\/H b=d_
section
variable{xs:List g_}{ds:List Dat}
theorem Step.toC(s:Step F H F' H'):vz xs F H F' H':=⟨s.ff,λb o _ h=>s.hh b o h,s.fh,s.nw⟩
theorem vz.trans{F2 H2:Hp}(a:vz xs F H F' H')(b:vz xs F' H' F2 H2)(J:∀x∈xs,∃o,H' x=a_ o):vz xs F H F2 H2:=
 ⟨a.ff.trans b.ff,λc o n h=>b.hh c o n (a.hh c o n h),b.fh,λc o h=>(b.nw c o h).elim (λz=>a.nw c o z) λz=>.inr (by
  cases e:H c with
  |none=>rfl|some u=>
   by_cases I:c∈xs
   ·obtain⟨o',U⟩:=J c I;rw[U]at z;cases z
   ·rw[a.hh c u I e]at z;cases z)⟩
theorem Cells.at(c:Cells K F H xs ds){x:g_}(J:x∈xs):F x=d_/\∃o,H x=a_ o/\isMu o=e_:=by
 obtain⟨j,I,rfl⟩:=JD J;have hd:j<ds.length:=by rw[<- c.len];exact I
 obtain⟨h1,h2⟩:=c.own j xs[j] ds[j] (DD I) (DD hd);obtain⟨a,o,e,p,m,f,_⟩:=h2.top h1;cases e;exact⟨f,o,p,m⟩
theorem Cells.step(c:Cells K F H xs ds)(s:Step F H F' H'):Cells K F' H' xs ds:=⟨s.fh,c.nd,c.len,λj x d e1 e2=>by obtain⟨h1,h2⟩:=c.own j x d e1 e2;obtain⟨a,o,e,p,_,f,_⟩:=h2.top h1;cases e;exact⟨h1,h2.re h1 s.ff (s.stays f p) λo h=>s.hh _ _ h⟩⟩
theorem Cells.ff(c:Cells K F H xs ds):aO F (plus F H (·∈xs)):=λb o h=>by
 by_cases I:b∈xs
 ·rw[(c.at I).1]at h;cases h
 ·rw[dz I];exact h
theorem Cells.zh(c:Cells K F H xs ds):aO (plus F H (·∈xs)) H:=λb o h=>by
 by_cases I:b∈xs
 ·rw[j3 I]at h;exact h
 ·rw[dz I]at h;exact c.fh b o h
theorem Cells.deep(c:Cells K F H xs ds){x:g_}{d:Dat}(e1:xs[j]?=a_ x)(e2:ds[j]?=a_ d):aP K (plus F H (·∈xs)) d (.ref x):=by obtain⟨h1,h2⟩:=c.own j x d e1 e2;exact h2.give h1 c.ff (j3 (D8 e1))
theorem Cells.back(c:Cells K F H xs ds)(s:Step (plus F H (·∈xs)) H F' H'):Step F H (minus F' (·∈xs)) H':=by
 refine⟨λb o h=>?_,s.hh,λb o h=>?_,λb o h=>?_⟩
 ·by_cases I:b∈xs
  ·rw[(c.at I).1]at h;cases h
  ·rw[gE I];exact s.ff b o (by rw[dz I];exact h)
 ·by_cases I:b∈xs
  ·rw[nK I]at h;cases h
  ·rw[gE I]at h;exact s.fh b o h
 ·by_cases I:b∈xs
  ·rw[nK I]at h;cases h
  ·rw[gE I]at h;exact(s.nw b o h).elim (λz=>by rw[dz I]at z;exact .inl z) .inr
theorem Cells.flat(c:Cells K F H xs ds)(s:Step (plus F H (·∈xs)) H F' H'){d:Dat}{v:V}(f:kj d=e_)(q:aP K F' d v):aP K (minus F' (·∈xs)) d v:=by
 have key:∀{b:g_} {o:HO},F' b=a_ o->isMu o=b_->minus F' (·∈xs) b=a_ o:=λ{b o} h n=>by
  by_cases I:b∈xs
  ·obtain⟨_,u,e,m⟩:=c.at I;have:=s.ff b u (by rw[j3 I];exact e);rw[h]at this;cases this;rw[n]at m;cases m
  ·rw[gE I];exact h
 refine q.flat (λa ys h=>?_) f;rcases h with(h|⟨o,h⟩)|h
 ·exact .inl (.inl (key h rfl))
 ·exact .inl (.inr ⟨o,key h rfl⟩)
 ·exact .inr h
theorem Cells.put(c:Cells K F H xs ds){x:g_}{u:HO}(e:xs[j]?=a_ x)(hd:isO d'=e_)(q:F x=d_->ky K F (λ_=>d_) (upd H x u) d' (.ref x)):Cells K F (upd H x u) xs (ds.set j d') where
 fh:=λb o h=>by
  have:b≠x:=λz=>by rw[z,(c.at (D8 e)).1]at h;cases h
  rw[ao this];exact c.fh b o h
 nd:=c.nd
 len:=by rw[CY,c.len]
 own:=λi y d e1 e2=>by
  by_cases I:j=i
  ·subst I;rw[e]at e1;cases e1;have U:j<ds.length:=by have:=(z_.mp e2).1;simpa using this
   rw[s_ U]at e2;cases e2;exact⟨hd,q (c.at (D8 e)).1⟩
  ·rw[k_ I]at e2;obtain⟨h1,h2⟩:=c.own i y d e1 e2;have J:y≠x:=λz=>I ((J6 (z_.mp e).1 c.nd).mp (by rw[e,e1,z]));obtain⟨a,o,Y,p,_,f,_⟩:=h2.top h1;cases Y;exact⟨h1,h2.re h1 (aO.refl _) f λo h=>by rw[ao J];exact h⟩
theorem Cells.lst(c:Cells K F H xs ds){j:Nat}{x:g_}{es:List Dat}(e1:xs[j]?=a_ x)(e2:ds[j]?=a_ (.lst es)):∃ys,H x=a_ (.lst ys)/\aB K F es ys:=by obtain⟨a,ys,I,p,_,_,q⟩:=(c.own j x _ e1 e2).2;cases I;exact⟨ys,p,q⟩
theorem Cells.dic(c:Cells K F H xs ds){j:Nat}{x:g_}{ks:List (List Int×Dat)}(e1:xs[j]?=a_ x)(e2:ds[j]?=a_ (.dic ks)):∃rs ep,H x=a_ (vE x rs ep)/\d8 K F ks rs:=by obtain⟨a,rs,I,⟨ep,p⟩,_,_,q⟩:=(c.own j x _ e1 e2).2;cases I;exact⟨rs,ep,p,q⟩
theorem Cells.app(c:Cells K F H xs ds){x:g_}{es:List Dat}{ys:List V}{d:Dat}(e1:xs[j]?=a_ x)(p:H x=a_ (.lst ys))(q:aB K F es ys)(I:aP K F d v):Cells K F (upd H x (.lst (ys++[v]))) xs (ds.set j (.lst (es++[d]))):=
 c.put e1 rfl λf=>⟨x,_,rfl,aq,f,rfl,q.append ⟨v,[],rfl,I,rfl⟩⟩
theorem Cells.updC(c:Cells K F H xs ds){x:g_}(u:HO)(I:x∈xs):vz xs F H F (upd H x u):=
 ⟨aO.refl _,λb o n h=>by rw[ao (λz=>n (by rw[z];exact I))];exact h,λb o h=>by
  have:b≠x:=λz=>by rw[z,(c.at I).1]at h;cases h
  rw[ao this];exact c.fh b o h,λ_ _ h=>.inl h⟩
end
noncomputable def eO(xs:List g_):List (o_×V):=(["kinds","gaps","beside","names","flights","closed"]:List o_).zip (xs.map V.ref)
structure Dr(K:Fg)(C:g_)(F H:Hp)(p dx:g_)(xs:List g_)(ds:List Dat):Prop where
 c:Cells K F H xs ds
 ob:H p=a_ (.ins C dx (eO xs))
 fp:F p=d_
 np:p∉xs
section
variable{p:g_}{xs:List g_}{ds:List Dat}
theorem Dr.step(d:Dr K C F H p dx xs ds)(s:Step F H F' H'):Dr K C F' H' p dx xs ds:=⟨d.c.step s,s.hh _ _ d.ob,s.stays d.fp d.ob,d.np⟩
theorem Dr.put(d:Dr K C F H p dx xs ds){x:g_}{u:HO}(I:x∈xs)(c:Cells K F (upd H x u) xs ds'):Dr K C F (upd H x u) p dx xs ds':=
 ⟨c,by rw[ao (λz=>d.np (by rw[z];exact I))];exact d.ob,d.fp,d.np⟩
end
noncomputable def kJ:Sp:=λvs H Q _=>∃a v,vs=[.ref a,v]/\(v=.non->Q (.bl b_) H)/\(v≠.non->∃ys,H a=a_ (.lst ys)/\ys.length<m_/\Q (.bl e_) (upd H a (.lst (ys++[v]))))
theorem rs_told(h:kJ vs H Q E):
  iJ (nC (tB (tIsN (cn 1))) (qJ (tC (.bl b_))) i8) (iJ (pW (tBM K "list" jU (cn 0) (aM (cn 1) dR))) (qJ (tC (.bl e_)))) {nx:=λ_ H'=>Q .non H',rt:=Q} (start ["kept","told"] vs) H:=by
 obtain⟨a,v,rfl,h1,h2⟩:=h;refine⟨v,rfl,_,rfl,?_⟩
 by_cases hv:v=.non
 ·rw[r_ hv];exact h1 hv
 ·obtain⟨ys,I,J,h2⟩:=h2 hv;rw[f_ hv];exact⟨.ref a,rfl,kE I,v,rfl,a,ys,v,rfl,rfl,I,J,h2⟩
noncomputable def vT(K:Fg)(mg:List Dat->M Dat):Sp:=λvs H Q _=>∃(k g:g_) (vw:V) (F:Hp) (xs:List g_) (ds:List Dat) (Y I:Nat) (U J:Dat) (ks:List (List Int×Dat)),vs=[.ref k,.ref g,vw]/\Cells K F H xs ds/\xs[Y]?=a_ k/\ds[Y]?=a_ U/\xs[I]?=a_ g/\ds[I]?=a_ (.dic ks)/\aP K F J vw /\
 ((mg [U,J]=.ok .non/\∀F' H',Step F H F' H'->Q (.bl b_) H')\/∃i j v:Int,mg [U,J]=.ok (.tup [.int i,.int j,.int v])/\ks.length<m_/\∀F' H' u,Step F H F' H'->Cells K F' (upd H' g u) xs (ds.set I (.dic (ze ks [i,j] (.int v))))->Q (.bl e_) (upd H' g u))
abbrev fk3:ai->M Dat:=fL k7 (aa (f2 ixD (ah 3) (fC (.int 0))) (aa (f2 ixD (ah 3) (fC (.int 1))) aJ))
abbrev fv3:ai->M Dat:=f2 ixD (ah 3) (fC (.int 2))
theorem gz.only{d:Dat}(e:σ[i]?=a_ (a_ v))(q:aP K F d v):gz K F σ ((D7 σ.length d_).set i (a_ d)):=
 ⟨by rw[CY,Ew],λj d' h=>by
  by_cases I:i=j
  ·subst I;rw[s_ (by rw[Ew];exact(z_.mp e).1)]at h;cases h;exact⟨v,e,q⟩
  ·rw[k_ I,FX]at h;split at h<;>cases h⟩
theorem rs_gap{mg:List Dat->M Dat}(h:vT K mg vs H Q E):
  iJ (yL (eY (spF K b_ mg 2) [] E' (aM (cn 0) (aM (cn 2) dR))) (gS 3)) (iJ (nC (tB (tIsN (cn 3))) (qJ (tC (.bl b_))) i8) (iJ (sPut K (cn 1) (tD K Wno b_ fk3) (tD K Wno b_ fv3)) (qJ (tC (.bl e_))))) {nx:=λ_ H'=>Q .non H',rt:=Q} (start ["kinds","gaps","words","told"] vs) H:=by
 obtain⟨k,g,vw,F,xs,ds,O,P,L,G,ks,rfl,c,ek,A,n,hd,u,h⟩:=h;refine⟨.ref k,rfl,vw,rfl,plus F H (·∈xs),[L,G],c.zh,⟨_,_,rfl,c.deep ek A,vw,_,rfl,u.mono c.ff,rfl⟩,rfl,?_⟩
 rcases h with⟨e,h⟩|⟨i,j,v,e,z,h⟩
 ·rw[e];intro w F1 H1 I Y;cases(show w=V.non from Y);exact⟨.non,rfl,_,rfl,h _ H1 (c.back I)⟩
 ·rw[e];intro w F1 H1 d Y;have I:=c.back d;have m:aP K (minus F1 (·∈xs)) (.tup [.int i,.int j,.int v]) w:=c.flat d rfl Y;obtain⟨b,ys,rfl,_⟩:=id m;refine⟨.ref b,rfl,_,rfl,?_⟩
  have l:gz K (minus F1 (·∈xs)) ([a_ (.ref k),a_ (.ref g),a_ vw,a_ (.ref b)]:St) [d_,d_,d_,a_ (.tup [.int i,.int j,.int v])]:=gz.only (i:=3) rfl m;refine⟨_,_,l,I.fh,?_⟩
  show aH K Wno b_ _ H1 (.ok (.int v)) _;intro s F2 H2 J y;cases(show s=V.int v from y);refine⟨.ref g,rfl,F2,_,l.mono J.ff,J.fh,?_⟩
  have C:fk3 [d_,d_,d_,a_ (.tup [.int i,.int j,.int v])]=.ok (.tup [.int i,.int j]):=by show k7 [.int i,.int j]=_;unfold k7;rw[i_ (by rw[Dq];show 2<=16777216;decide)]
  rw[C];intro r p N t x;obtain⟨b3,q,rfl,a,_,_,rfl,e4,_,_,rfl,e5,D⟩:=(show aP K p (.tup [.int i,.int j]) r from x)
  cases e4;cases e5;cases D;have st:=(I.trans J).trans t;have o:=c.step st;obtain⟨rs,ep,B,U⟩:=o.dic n hd;exact⟨g,b3,[i,j],rs,ep,rfl,rfl,B,U.key.mono st.fh,st.fh.tup a,by rw[U.length];exact z,λep'=>h p N _ st (o.put n rfl λf=>⟨g,_,rfl,⟨ep',aq⟩,f,rfl,U.put (k:=[i,j]) a rfl⟩)⟩
noncomputable def tTr(K:Fg)(ta:TE):TT:=λσ H Q=>ta σ H λx H'=>∃k,TruV K x H' k/\Q k H'
noncomputable def qC(j:Nat)(ds:List Dat)(t:Dat):M (Bool×List Dat):=match t with
 |.non=>.ok (b_,ds)|t=>match ds[j]? with
  |some (.lst es)=>if (kj t&&q_ (es.length<m_))=e_ then .ok (e_,ds.set j (.lst (es++[t])))else stk
  |_=>stk
noncomputable def Ab(j:Nat)(ds:List Dat)(t:Dat):M (Bool×List Dat):=match t with
 |.non=>.ok (b_,ds)|.tup [.int a,.int b,.int v]=>match ds[j]? with
  |some (.dic ks)=>if ks.length<m_ then .ok (e_,ds.set j (.dic (ze ks [a,b] (.int v))))else stk
  |_=>stk
 |_=>stk
noncomputable def kH(mf:List Dat->M Dat)(ds ws:List Dat):M (Bool×List Dat):=match ds with
 |[.lst J,.dic U,.dic b,.lst I,.lst Y,.lst a]=>(mf [.lst J,.lst I,.lst ws]).bind λt=>(qC 4 ds t).bind λr=>if r.1=e_ then(ixD (.lst ws) (.int 1)).bind λnm=>match nm with
  |.non=>stk|nm=>qC 3 r.2 nm
  else .ok r
 |_=>stk
noncomputable def lT(t1 t2 a Y U:ai->M Bool)(J:ai->M Dat)(mk mg ms mf:List Dat->M Dat)(ds ws:List Dat):M (Bool×List Dat):=match ds with
 |[.lst I,.dic f,.dic h,.lst e,.lst g,.lst c]=>
  (t1 [d_,a_ (.lst ws)]).bind λb=>if b=e_ then .ok (e_,ds)else
  (t2 [d_,a_ (.lst ws)]).bind λb=>if b=e_ then(mk [.lst I,.lst ws]).bind (qC 0 ds)else
  (a [d_,a_ (.lst ws)]).bind λb=>if b=e_ then(mg [.lst I,.lst ws]).bind (Ab 1 ds)else
  (Y [d_,a_ (.lst ws)]).bind λb=>if b=e_ then(mg [.lst I,.lst ws]).bind (Ab 2 ds)else
  (U [d_,a_ (.lst ws)]).bind λb=>if b=e_ then(ms [.lst c,.lst ws]).bind (qC 5 ds)else
  (J [d_,a_ (.lst ws)]).bind λd=>match d with
   |.bl e_=>kH mf ds ws|.bl b_=>.ok (b_,ds)|_=>stk
 |_=>stk
theorem bind_eq{I:Type}{x:M α}{f:α->M I}{r:I}(h:x.bind f=.ok r):∃a,x=.ok a/\f a=.ok r:=by
 cases x with
 |error e=>cases h|ok a=>exact⟨a,rfl,h⟩
theorem aP.nn{t:Dat}(q:aP K F t v):v=.non↔t=.non:=by
 cases t with
 |non=>exact⟨λ_=>rfl,λ_=>q⟩|bl b=>cases(show v=.bl b from q);exact⟨λh=>(nomatch h),λh=>(nomatch h)⟩
 |int b=>cases(show v=.int b from q);exact⟨λh=>(nomatch h),λh=>(nomatch h)⟩
 |str b=>cases(show v=.str b from q);exact⟨λh=>(nomatch h),λh=>(nomatch h)⟩
 |tup _=>obtain⟨a,_,rfl,_⟩:=q;exact⟨λh=>(nomatch h),λh=>(nomatch h)⟩
 |lst _=>obtain⟨a,_,rfl,_⟩:=q;exact⟨λh=>(nomatch h),λh=>(nomatch h)⟩
 |ins _ _=>obtain⟨a,_,_,rfl,_⟩:=q;exact⟨λh=>(nomatch h),λh=>(nomatch h)⟩
 |dic _=>obtain⟨a,_,rfl,_⟩:=q;exact⟨λh=>(nomatch h),λh=>(nomatch h)⟩
 |dil _=>obtain⟨a,_,rfl,_⟩:=q;exact⟨λh=>(nomatch h),λh=>(nomatch h)⟩
theorem lM{ds:List Dat}{t:Dat}(n:t≠.non)(h:qC j ds t=.ok r):∃es,ds[j]?=a_ (.lst es)/\kj t=e_/\es.length<m_/\r=(e_,ds.set j (.lst (es++[t]))):=by
 have h:(match ds[j]? with
  |some (.lst es)=>if (kj t&&q_ (es.length<m_))=e_ then .ok (e_,ds.set j (.lst (es++[t])))else stk
  |_=>stk:M (Bool×List Dat))=.ok r:=by
  cases t<;>first|exact Dc rfl n|exact h
 split at h
 ·rename_i es J;split at h
  ·rename_i I;rw[n_,Dh]at I;cases h;exact⟨es,J,I.1,I.2,rfl⟩
  ·cases h
 ·cases h
theorem dF0{k g n:g_}:(eO [k,g,b,n,f,c]).lookup ("kinds":o_)=a_ (V.ref k):=by with_unfolding_all rfl
theorem dF1{k g n:g_}:(eO [k,g,b,n,f,c]).lookup ("gaps":o_)=a_ (V.ref g):=by with_unfolding_all rfl
theorem dF2{k g n:g_}:(eO [k,g,b,n,f,c]).lookup ("beside":o_)=a_ (V.ref b):=by with_unfolding_all rfl
theorem dF3{k g n:g_}:(eO [k,g,b,n,f,c]).lookup ("names":o_)=a_ (V.ref n):=by with_unfolding_all rfl
theorem dF4{k g n:g_}:(eO [k,g,b,n,f,c]).lookup ("flights":o_)=a_ (V.ref f):=by with_unfolding_all rfl
theorem dF5{k g n:g_}:(eO [k,g,b,n,f,c]).lookup ("closed":o_)=a_ (V.ref c):=by with_unfolding_all rfl
section
variable{p:g_}{xs:List g_}{ds:List Dat} 
noncomputable def CQ(K:Fg)(C:g_)(F H:Hp)(p dx:g_)(xs:List g_)(r:Bool×List Dat)(Q:VK):Prop:=∀F' H',vz xs F H F' H'->Dr K C F' H' p dx xs r.2->Q (.bl r.1) H'
theorem Dr.ex(d:Dr K C F H p dx xs ds):∀x∈xs,∃o,H x=a_ o:=λ_ I=>let ⟨_,o,h,_⟩:=d.c.at I;⟨o,h⟩
theorem CQ.step{r:Bool×List Dat}(f:CQ K C F H p dx xs r Q)(d:Dr K C F H p dx xs ds)(s:Step F H F' H'):CQ K C F' H' p dx xs r Q:=λF2 H2 I J=>f F2 H2 (s.toC.trans I (d.step s).ex) J
theorem Dr.tell(d:Dr K C F H p dx xs ds){x:g_}{t:Dat}(E:XK)(ex:xs[j]?=a_ x)(q:aP K F t v)(e:qC j ds t=.ok r)(I:CQ K C F H p dx xs r Q):kJ [.ref x,v] H Q E:=by
 refine⟨x,v,rfl,λhv=>?_,λhv=>?_⟩
 ·cases q.nn.mp hv;cases e;exact I F H ⟨aO.refl _,λ_ _ _ h=>h,d.c.fh,λ_ _ h=>.inl h⟩ d
 ·obtain⟨es,b,f,a,rfl⟩:=lM (λz=>hv (q.nn.mpr z)) e;obtain⟨ys,U,J⟩:=d.c.lst ex b;have Y:=D8 ex;exact⟨ys,U,by rw[J.length];exact a,I F _ (d.c.updC _ Y) (d.put Y (d.c.app ex U J q))⟩
variable{mg:List Dat->M Dat} 
theorem lenC{r:List α}(h:r.length=n+1):∃x t,r=x::t/\t.length=n:=by
 cases r with
 |nil=>cases h|cons x t=>exact⟨x,t,rfl,Ef h⟩
theorem Dr.len6{e a i j:List Dat}{h l:List (List Int×Dat)}(d:Dr K C F H p dx xs [.lst e,.dic h,.dic l,.lst a,.lst i,.lst j]):∃k g b n f c,xs=[k,g,b,n,f,c]:=by obtain⟨k,t,rfl,h1⟩:=lenC d.c.len;obtain⟨g,t,rfl,h2⟩:=lenC h1;obtain⟨b,t,rfl,Y⟩:=lenC h2;obtain⟨n,t,rfl,U⟩:=lenC Y;obtain⟨f,t,rfl,J⟩:=lenC U;obtain⟨c,t,rfl,I⟩:=lenC J;cases FW.mp I;exact⟨k,g,b,n,f,c,rfl⟩
theorem xV{fx I:o_}{jy:Nat}{x y:g_}{U:Dat}(d:Dr K C F H p dx xs ds)(c:Cls K C)(k:b8 K C fx)(i:b8 K C I)(b:σ[0]?=a_ (a_ (.ref p)))(h1:σ[1]?=a_ (a_ vw))(f:aP K F (.lst ws) vw)(m:(eO xs).lookup fx=a_ (.ref x))(l:(eO xs).lookup I=a_ (.ref y))(ex:xs[j]?=a_ x)(o:xs[jy]?=a_ y)(n:ds[jy]?=a_ U)(e:(mk [U,.lst ws]).bind (qC j ds)=.ok r)(J:CQ K C F H p dx xs r Q):
  eY kJ [] E1 (aM (pV K (cn 0) fx) (aM (eY (spF K b_ mk 2) [] E2 (aM (pV K (cn 0) I) (aM (cn 1) dR))) dR)) σ H Q:=by
 obtain⟨t,q,e⟩:=bind_eq e;refine⟨.ref p,b,p,C,dx,_,_,rfl,d.ob,c,k,m,?_⟩
 refine⟨.ref p,b,p,C,dx,_,_,rfl,d.ob,c,i,l,?_⟩
 refine⟨vw,h1,plus F H (·∈xs),[U,.lst ws],d.c.zh,⟨_,_,rfl,d.c.deep o n,_,_,rfl,f.mono d.c.ff,rfl⟩,rfl,?_⟩
 rw[q];intro v F1 H1 Y h;have S:=d.c.back Y;have g:aP K (minus F1 (·∈xs)) t v:=d.c.flat Y (by
  by_cases a:t=.non
  ·rw[a];rfl
  ·exact(lM a e).choose_spec.2.1) h
 exact(d.step S).tell E1 ex g e (J.step d S)
theorem rs_putD2{fx:o_}{x k:g_}{J:Dat}(d:Dr K C F H p dx xs ds)(f:Cls K C)(h:b8 K C fx)(i:b8 K C "kinds")(Y:σ[0]?=a_ (a_ (.ref p)))(h1:σ[1]?=a_ (a_ vw))(g:aP K F (.lst ws) vw)(n:(eO xs).lookup ("kinds":o_)=a_ (V.ref k))(m:(eO xs).lookup fx=a_ (.ref x))(ek:xs[0]?=a_ k)(q:ds[0]?=a_ J)(ex:xs[j]?=a_ x)(hd:ds[j]?=a_ (.dic ks))(e:(mg [J,.lst ws]).bind (Ab j ds)=.ok r)(I:CQ K C F H p dx xs r Q):
  eY (vT K mg) [] E1 (aM (pV K (cn 0) "kinds") (aM (pV K (cn 0) fx) (aM (cn 1) dR))) σ H Q:=by
 obtain⟨t,c,e⟩:=bind_eq e;refine⟨.ref p,Y,p,C,dx,_,_,rfl,d.ob,f,i,n,?_⟩
 refine⟨.ref p,Y,p,C,dx,_,_,rfl,d.ob,f,h,m,?_⟩
 refine⟨vw,h1,k,x,vw,F,xs,ds,0,j,J,.lst ws,ks,rfl,d.c,ek,q,ex,hd,g,?_⟩
 have U:=D8 ex;cases t with
 |non=>cases e;exact .inl ⟨c,λF1 H1 s=>I _ H1 s.toC (d.step s)⟩|tup l=>
  unfold Ab at e;split at e
  ·rename_i hh;cases hh
  ·rename_i a b v hh;cases hh;rw[hd]at e;dsimp only at e;split at e
   rotate_left
   ·cases e
   rename_i o;cases e;exact .inr ⟨a,b,v,c,o,λF1 H1 u S w=>I _ _ (S.toC.trans ((d.step S).c.updC u U) (d.step S).ex) ((d.step S).put U w)⟩
  ·cases e
 |_=>cases e
noncomputable def rT(K:Fg)(C:g_)(mr:List Dat->List Dat->M (Bool×List Dat)):Sp:=λvs H Q _=>∃(p dx:g_) (xs:List g_) (F:Hp) (ds ws:List Dat) (vw:V) (r:Bool×List Dat),vs=[.ref p,vw]/\Dr K C F H p dx xs ds/\aP K F (.lst ws) vw/\mr ds ws=.ok r/\CQ K C F H p dx xs r Q
theorem AV(o:Cls K C)(l:∀y∈(["kinds","gaps","beside","names","flights","closed"]:List o_),b8 K C y)(h:rT K C (kH mf) vs H Q E):
  iJ (nC (tNot (tTr K (eY kJ [] E1 (aM (pV K (cn 0) "flights") (aM (eY (spF K b_ mf 3) [] E2 (aM (pV K (cn 0) "kinds") (aM (pV K (cn 0) "names") (aM (cn 1) dR)))) dR))))) (qJ (tC (.bl b_))) i8)
   (iJ (pW (tBM K "list" jU (pV K (cn 0) "names") (aM (tD K Wno b_ (f2 ixD (ah 1) (fC (.int 1)))) dR))) (qJ (tC (.bl e_)))) {nx:=λ_ H'=>Q .non H',rt:=Q} (start ["draft","words"] vs) H:=by
 obtain⟨p,dx,xs,F,ds,ws,vw,r,rfl,d,N,e,a⟩:=h;unfold kH at e;split at e
 rotate_left
 ·cases e
 rename_i dk dg db dn df dc;obtain⟨k,g,b,n,f,c,rfl⟩:=d.len6;obtain⟨t,Z,e⟩:=bind_eq e;obtain⟨q,e1,e⟩:=bind_eq e;refine⟨.ref p,rfl,p,C,dx,_,_,rfl,d.ob,o,(l _ (by simp)),dF4,?_⟩
 refine⟨.ref p,rfl,p,C,dx,_,_,rfl,d.ob,o,(l _ (by simp)),dF0,?_⟩
 refine⟨.ref p,rfl,p,C,dx,_,_,rfl,d.ob,o,(l _ (by simp)),dF3,?_⟩
 refine⟨vw,rfl,plus F H (·∈[k,g,b,n,f,c]),[.lst dk,.lst dn,.lst ws],d.c.zh,⟨_,_,rfl,d.c.deep (j:=0) rfl rfl,_,_,rfl,d.c.deep (j:=3) rfl rfl,_,_,rfl,N.mono d.c.ff,rfl⟩,rfl,?_⟩
 rw[Z];intro v F1 H1 L W;have S:=d.c.back L;have T:aP K (minus F1 (·∈[k,g,b,n,f,c])) t v:=d.c.flat L (by
  by_cases I:t=.non
  ·rw[I];rfl
  ·exact(lM I e1).choose_spec.2.1) W
 have D:=d.step S;unfold dR;dsimp only[];show kJ [V.ref f,v] H1 _ E1;refine D.tell E1 (j:=4) rfl T e1 (λF2 H2 G J=>?_);refine⟨q.1,rfl,?_⟩
 cases u:q.1 with
 |false=>rw[u,l_ (by decide)]at e;cases e;have:=a F2 H2 (S.toC.trans G D.ex) J;rw[u]at this;exact this|true=>
  rw[u,i_ rfl]at e;obtain⟨nm,en,e⟩:=bind_eq e;have Y:nm≠.non:=λz=>by rw[z]at e;cases e
  have e:qC 3 q.2 nm=.ok r:=by cases nm<;>first|exact Dc rfl Y|exact e
  obtain⟨es3,B,X,A,rfl⟩:=lM Y e;obtain⟨ys,I,O⟩:=J.c.lst (j:=3) (x:=n) rfl B;refine⟨.ref p,rfl,p,C,dx,_,_,rfl,J.ob,o,(l _ (by simp)),dF3,?_⟩
  have s:=(N.mono S.ff).mono G.ff;refine⟨kE I,F2,[d_,a_ (.lst ws)],gz.only (σ:=[a_ (.ref p),a_ vw]) (i:=1) rfl s,J.c.fh,?_⟩
  rw[show f2 ixD (ah 1) (fC (.int 1)) [d_,a_ (.lst ws)]=.ok nm from en];intro w F3 H3 U R;have m:=J.step U;have P:n∈[k,g,b,n,f,c]:=by simp
  refine⟨n,ys,w,rfl,rfl,U.hh _ _ I,by rw[O.length];exact A,?_⟩
  exact a F3 _ (((S.toC.trans G D.ex).trans U.toC J.ex).trans (m.c.updC _ P) m.ex) (m.put P (m.c.app (j:=3) rfl (U.hh _ _ I) (O.mono U.ff) R))
end
section
variable{p:g_}{xs:List g_}{ds:List Dat}{mg:List Dat->M Dat}{E4 E5 E6 E7:XK} 
theorem Dr.ask(d:Dr K C F H p dx xs ds)(c:aP K F (.lst ws) vw){t:ai->M Bool}{f:Bool->M (Bool×List Dat)}(e:(t [d_,a_ (.lst ws)]).bind f=.ok r)(J:CQ K C F H p dx xs r Q){T U:TS}{D:Ends}(a:∀F1 H1,Dr K C F1 H1 p dx xs ds->aP K F1 (.lst ws) vw->CQ K C F1 H1 p dx xs r Q->f e_=.ok r->T D [a_ (.ref p),a_ vw] H1)(j:∀F1 H1,Dr K C F1 H1 p dx xs ds->aP K F1 (.lst ws) vw->CQ K C F1 H1 p dx xs r Q->f b_=.ok r->U D [a_ (.ref p),a_ vw] H1):nC (tDT K Wno t) T U D [a_ (.ref p),a_ vw] H:=by
 obtain⟨b,g,e⟩:=bind_eq e;refine hX (gz.only (σ:=[a_ (.ref p),a_ vw]) (i:=1) rfl c) d.c.fh (λk h=>?_) λl Y F1 H1 I=>?_
 ·have h:t [d_,a_ (.lst ws)]=.error k:=h;rw[g]at h;cases h
 ·have Y:t [d_,a_ (.lst ws)]=.ok l:=Y;rw[g]at Y;cases Y;cases b with
  |true=>exact a F1 H1 (d.step I) (c.mono I.ff) (J.step d I) e|false=>exact j F1 H1 (d.step I) (c.mono I.ff) (J.step d I) e
theorem rs_row{B A z:ai->M Bool}{a:ai->M Dat}(w:Cls K C)(J:∀y∈(["kinds","gaps","beside","names","flights","closed"]:List o_),b8 K C y)(h:rT K C (lT t1 t2 B A z a mk mg ms mf) vs H Q E):
  iJ (nC (tDT K Wno t1) (qJ (tC (.bl e_))) i8)
  (iJ (nC (tDT K Wno t2) (qJ (eY kJ [] E1 (aM (pV K (cn 0) "kinds") (aM (eY (spF K b_ mk 2) [] E2 (aM (pV K (cn 0) "kinds") (aM (cn 1) dR))) dR)))) i8)
  (iJ (nC (tDT K Wno B) (qJ (eY (vT K mg) [] E3 (aM (pV K (cn 0) "kinds") (aM (pV K (cn 0) "gaps") (aM (cn 1) dR))))) i8)
  (iJ (nC (tDT K Wno A) (qJ (eY (vT K mg) [] E4 (aM (pV K (cn 0) "kinds") (aM (pV K (cn 0) "beside") (aM (cn 1) dR))))) i8)
  (iJ (nC (tDT K Wno z) (qJ (eY kJ [] E5 (aM (pV K (cn 0) "closed") (aM (eY (spF K b_ ms 2) [] E6 (aM (pV K (cn 0) "closed") (aM (cn 1) dR))) dR)))) i8)
   (qJ (tAndV (tD K Wno b_ a) (eY (rT K C (kH mf)) [] E7 (aM (cn 0) (aM (cn 1) dR))))))))) {nx:=λ_ H'=>Q .non H',rt:=Q} (start ["draft","words"] vs) H:=by
 obtain⟨p,dx,xs,F,ds,ws,vw,r,rfl,d,L,e,I⟩:=h;unfold lT at e;split at e
 rotate_left
 ·cases e
 rename_i l o u m s t;obtain⟨k,g,b,n,f,c,rfl⟩:=d.len6;refine d.ask L e I (λF1 H1 d q I e=>?_) (λF1 H1 d q I e=>?_)
 ·cases e;exact I F1 H1 ⟨aO.refl _,λ_ _ _ h=>h,d.c.fh,λ_ _ h=>.inl h⟩ d
 refine d.ask q e I (λF1 H1 d q I e=>?_) (λF1 H1 d q I e=>?_)
 ·exact xV d w (J _ (by simp)) (J _ (by simp)) rfl rfl q dF0 dF0 (j:=0) rfl (jy:=0) rfl rfl e I
 have D:∀{j:Nat} {fx:o_} {x:g_} {ks:List (List Int×Dat)} {E':XK} {F1 H1:Hp},Dr K C F1 H1 p dx [k,g,b,n,f,c] [.lst l,.dic o,.dic u,.lst m,.lst s,.lst t]->aP K F1 (.lst ws) vw->CQ K C F1 H1 p dx [k,g,b,n,f,c] r Q->(mg [.lst l,.lst ws]).bind (Ab j [.lst l,.dic o,.dic u,.lst m,.lst s,.lst t])=.ok r->b8 K C fx->(eO [k,g,b,n,f,c]).lookup fx=a_ (V.ref x)->[k,g,b,n,f,c][j]?=a_ x->([.lst l,.dic o,.dic u,.lst m,.lst s,.lst t]:List Dat)[j]?=a_ (.dic ks) ->
   eY (vT K mg) [] E' (aM (pV K (cn 0) "kinds") (aM (pV K (cn 0) fx) (aM (cn 1) dR))) [a_ (.ref p),a_ vw] H1 Q:=λ{j fx x ks E' F1 H1} d q I e nx N ex hd=>rs_putD2 d w nx (J _ (by simp)) rfl rfl q dF0 N rfl rfl ex hd e I
 refine d.ask q e I (λF1 H1 d q I e=>?_) (λF1 H1 d q I e=>?_)
 ·exact D (j:=1) d q I e (J _ (by simp)) dF1 rfl rfl
 refine d.ask q e I (λF1 H1 d q I e=>?_) (λF1 H1 d q I e=>?_)
 ·exact D (j:=2) d q I e (J _ (by simp)) dF2 rfl rfl
 refine d.ask q e I (λF1 H1 d q I e=>?_) (λF1 H1 d q I e=>?_)
 ·exact xV d w (J _ (by simp)) (J _ (by simp)) rfl rfl q dF5 dF5 (j:=5) rfl (jy:=5) rfl rfl e I
 obtain⟨dd,G,e⟩:=bind_eq e;refine b6 (gz.only (σ:=[a_ (.ref p),a_ vw]) (i:=1) rfl q) d.c.fh (λO h=>?_) λd' hd v F1 H1 U Y=>?_
 ·have h:a [d_,a_ (.lst ws)]=.error O:=h;rw[G]at h;cases h
 ·have hd:a [d_,a_ (.lst ws)]=.ok d':=hd;rw[G]at hd;cases hd
  match dd,e,Y with
  |.bl e_,e,Y=>cases(show v=V.bl e_ from Y);exact⟨e_,rfl,.ref p,rfl,vw,rfl,p,dx,_,F1,_,ws,vw,r,rfl,d.step U,q.mono U.ff,e,I.step d U⟩|.bl b_,e,Y=>cases(show v=V.bl b_ from Y);cases e;exact⟨b_,rfl,I F1 H1 U.toC (d.step U)⟩
end
noncomputable def spID(C:g_):Sp:=λvs H Q _=>∃(p dx:g_),vs=[.ref p]/\H p=a_ (.ins C dx [])/\∀(k g b n f c:g_) (H':Hp),(∀m o,H m=a_ o->m≠p->H' m=a_ o)->(∀x∈[k,g,b,n,f,c],H x=d_)->[k,g,b,n,f,c].Nodup ->
 H' k=a_ (.lst [])->H' g=a_ (vE g [] 0)->H' b=a_ (vE b [] 0)->H' n=a_ (.lst [])->H' f=a_ (.lst [])->H' c=a_ (.lst [])->H' p=a_ (.ins C dx (eO [k,g,b,n,f,c]))->Q .non H'
section
variable{p:g_}{fs:List (o_×V)}{f:o_}{D:Ends} 
theorem Cu.cell(c:Cu F H Hc p C dx fs)(k:Cls K C)(b:b8 K C f)(d:f∉fs.map (·.1))(i:fs.length<1000)(j:σ[0]?=a_ (a_ (.ref p)))(J:Hc l=d_)(I:∀U,Cu F H U p C dx (fs++[(f,.ref l)])->H l=d_->U l=a_ o->(∀m u,Hc m=a_ u->m≠p->U m=a_ u)->D.nx σ U):(cn 0) σ (upd Hc l o) λx H2=>∃a C dx fs,x=.ref a/\H2 a=a_ (.ins C dx fs)/\Cls K C/\b8 K C f/\fs.length<1000/\D.nx σ (upd H2 a (.ins C dx (oE f (.ref l) fs))):=by
 refine⟨.ref p,j,p,C,dx,fs,rfl,(c.lay J).ob,k,b,i,?_⟩
 rw[jq f _ fs d];have Y:l≠p:=λz=>by have h:=c.ob;rw[<- z,J]at h;cases h
 refine I _ ((c.lay J).put f (.ref l)) (c.new J) (by rw[ao Y,aq]) λm u e g=>?_
 have:m≠l:=λz=>by rw[z,J]at e;cases e
 rw[ao g,ao this];exact e
end
theorem rs_initD(Y:Cls K C)(U:∀y∈(["kinds","gaps","beside","names","flights","closed"]:List o_),b8 K C y)(h:spID C vs H Q E):
  iJ (tY K (cn 0) (AA dR) "kinds") (iJ (tY K (cn 0) tNewK "gaps") (iJ (tY K (cn 0) tNewK "beside") (iJ (tY K (cn 0) (AA dR) "names") (iJ (tY K (cn 0) (AA dR) "flights") (tY K (cn 0) (AA dR) "closed"))))) {nx:=λ_ H'=>Q .non H',rt:=Q} (start ["self"] vs) H:=by
 obtain⟨p,dx,rfl,A,q⟩:=h;have C0:Cu (λ_=>d_) H H p C dx []:=⟨rfl,λ_ _ h=>(nomatch h),λ_ _ e _=>e,A⟩
 have i:(0:Nat)<=m_:=FK _;refine⟨i,λk Z=>C0.cell Y (U _ (by simp)) (by simp) (by simp) rfl Z λH1 C1 a T k1=>?_⟩
 refine λg v=>C1.cell Y (U _ (by simp)) (by show("gaps":o_)∉(["kinds"]:List o_);decide +kernel) (by simp) rfl v λH2 C2 j S k2=>?_;refine λb r=>C2.cell Y (U _ (by simp)) (by show("beside":o_)∉(["kinds","gaps"]:List o_);decide +kernel) (by simp) rfl r λH3 C3 m R k3=>?_;refine⟨i,λn l=>C3.cell Y (U _ (by simp)) (by show("names":o_)∉(["kinds","gaps","beside"]:List o_);decide +kernel) (by simp) rfl l λH4 C4 u P s=>?_⟩
 refine⟨i,λf nf=>C4.cell Y (U _ (by simp)) (by show("flights":o_)∉(["kinds","gaps","beside","names"]:List o_);decide +kernel) (by simp) rfl nf λH5 C5 X O k5=>?_⟩
 refine⟨i,λc J=>C5.cell Y (U _ (by simp)) (by show("closed":o_)∉(["kinds","gaps","beside","names","flights"]:List o_);decide +kernel) (by simp) rfl J λH6 W o6 a6 d=>?_⟩
 have np:∀{x:g_},H x=d_->x≠p:=λ{x} h z=>by rw[z,A]at h;cases h
 have b1:=k2 _ _ T (np a);have b2:=k3 _ _ b1 (np a);have b3:=s _ _ b2 (np a);have N:=k5 _ _ b3 (np a);have g2:=k3 _ _ S (np j);have D:=s _ _ g2 (np j);have B:=k5 _ _ D (np j);have L:=s _ _ R (np m);have G:=k5 _ _ L (np m);have F:=k5 _ _ P (np u);have I:∀{x y:g_} {t:Hp} {o:HO},t x=a_ o->t y=d_->x≠y:=λ{x y t o} h1 h2 z=>by rw[z,h2]at h1;cases h1
 refine q k g b n f c H6 W.kp (λx w=>?_) ?_ (d _ _ N (np a)) (d _ _ B (np j)) (d _ _ G (np m)) (d _ _ F (np u)) (d _ _ O (np X)) a6 W.ob
 ·simp only[A_,Ez,Ha]at w;rcases w with rfl|rfl|rfl|rfl|rfl|rfl<;>assumption
 ·simp only[Gq,A_,Ez,Ha,not_or,not_false_eq_true,Kj,and_true];exact⟨⟨I T v,I b1 r,I b2 l,I b3 nf,I N J⟩,⟨I S r,I g2 l,I D nf,I B J⟩,⟨I R l,I L nf,I G J⟩,⟨I P nf,I F J⟩,I O J⟩
noncomputable def drD(C:g_)(ds:List Dat):Dat:=.ins C ((["kinds","gaps","beside","names","flights","closed"]:List o_).zip ds)
noncomputable def ds0:List Dat:=[.lst [],.dic [],.dic [],.lst [],.lst [],.lst []]
section
variable{p:g_}{xs:List g_}{ds:List Dat}
theorem Dr.frz(d:Dr K C F H p dx xs ds)(m:xs.length=6)(st:Step F0 H0 F H)(k:∀x∈p::xs,H0 x=d_):∃G,Step F0 H0 G H/\aO F G/\aP K G (drD C ds) (.ref p):=by
 have J:∀b,(b=p\/b∈xs)->F b=d_:=λb h=>h.elim (λz=>by rw[z];exact d.fp) λz=>(d.c.at z).1;have Y:aO F (plus F H λb=>b=p\/b∈xs):=λb o h=>by
  by_cases I:b=p\/b∈xs
  ·rw[J b I]at h;cases h
  ·rw[dz I];exact h
 refine⟨plus F H λb=>b=p\/b∈xs,⟨st.ff.trans Y,st.hh,λb o h=>?_,λb o h=>?_⟩,Y,p,dx,eO xs,rfl,by rw[j3 (.inl rfl)];exact d.ob,?_⟩
 ·by_cases I:b=p\/b∈xs
  ·rw[j3 I]at h;exact h
  ·rw[dz I]at h;exact st.fh b o h
 ·by_cases I:b=p\/b∈xs
  ·exact .inr (k b (I.elim (λz=>by rw[z];exact DO ..) λz=>Dl _ z))
  ·rw[dz I]at h;exact st.nw b o h
 ·have:∀(ns:List o_) (ys:List g_) (es:List Dat),ys.length=es.length->(∀(j:Nat) y e,ys[j]?=a_ y->es[j]?=a_ e->aP K (plus F H λb=>b=p\/b∈xs) e (.ref y))->ir K (plus F H λb=>b=p\/b∈xs) (ns.zip es) (ns.zip (ys.map V.ref)):=by
   intro ns
   induction ns with
   |nil=>intro _ _ _ _;rfl|cons a ns i=>
    intro ys es U q
    match ys,es,U with
    |[],[],_=>rfl|y::ys,e::es,U=>exact⟨.ref y,_,rfl,q 0 y e rfl rfl,i ys es (by simpa using U) λj c l h1 h2=>q (j+1) c l (by simpa using h1) (by simpa using h2)⟩
  refine this _ xs ds d.c.len λj y e h1 h2=>?_;obtain⟨g,f⟩:=d.c.own j y e h1 h2;exact f.give g Y (j3 (.inr (D8 h1)))
end
noncomputable def eqE:Dat->Dat->M Dat
 |.dic ks,.dic []=>.ok (.bl ks.isEmpty)|a,b=>eqM a b
@[simp] theorem e_eqE(ks:List (List Int×Dat)):eqE (.dic ks) (.dic [])=.ok (.bl ks.isEmpty):=id rfl
theorem eq_dicE{E:Vp}{Q:Vp}{xs:List lR}(c:mC s.heap a xs ep)(Y:mC s.heap b [] ep')(J:A.units<E8)(h:Q (.bool xs.isEmpty) s):CT (Dd prog w) A (Dn .Eq (.ref a) (.ref b)) Q E s:=by
 cases xs with
 |nil=>obtain⟨k,q⟩:=Cc (P:=prog) (w:=w) c;obtain⟨n2,p⟩:=Cc (P:=prog) (w:=w) Y;exact PySem.W.keq_eq k n2 q p J (λ_=>.nil) h
 |cons x xs=>
  obtain⟨vs,d,j,_,_,g,es,h1,h2,m,l⟩:=c;obtain⟨us,e,i,_,_,f,fs,U,g2,o,n⟩:=Y;have ta:s.TypeIs (.ref a) "dict":=⟨g,h1,h2.1⟩
  have tb:s.TypeIs (.ref b) "dict":=⟨f,U,g2.1⟩
  have I:es.size≠fs.size:=by
   have e1:es.size=vs.length:=by rw[<- EF,l,y_]
   have e2:fs.size=us.length:=by rw[<- EF,n,y_]
   have e3:=d.length;have e4:=e.length;rw[e1,e2,<- e3,<- e4];simp
  refine wpAny_richCompare_same_room (op:=.Eq) ta tb IP (KZ IP ta PySem.F.entry_dict_eq ?_ (PySem.F.args_dict_eq_2 _ _)) J;refine(show CT _ _ (HB "__eq__" ⟨[.ref a,.ref b],[]⟩ >>= _) _ _ s from p_ (by unfold HB;refine p_ (wpAny_notOrdered_dict ta (show CT _ _ (EY (CU a,CU b)) _ _ s from Cb (p_ (wpAny_isInstance (T:="dict") tb PySem.F.sub_dict_dict ?_))));simp only[Bool.not_true,Bool.false_eq_true,if_false];refine p_ (Cb (p_ (Cb (p_ ?_))));unfold Builtin.Dict.samePairs Builtin.Dict.showsAll;rw[l_ (by rw[j];decide),l_ (by rw[i];decide)];refine p_ (Cb (p_ (Cb (p_ (Kx h1 m (p_ (Kx U o ?_)))))));rw[i_ (by simpa using I)];refine p_ (wpAny_rule (Cb (Cb ⟨_,rfl,(λx=>nomatch x),?_⟩)));simpa using h))
section
variable{W:dS}{own:Bool}
theorem o_eqE(i:X.A.units+64<E8)(j: ~~~(X.K=K)):Op2 K W own X (Dn .Eq) eqE:=by
 intro pins s σ H x y v u Q I Y U h;obtain⟨F,a,b,J,d,c,p⟩:=h;by_cases f:∃ks,a=.dic ks/\b=.dic []
 ·obtain⟨ks,rfl,rfl⟩:=f;obtain⟨n,xs,rfl,⟨l,h1⟩,g⟩:=d;obtain⟨m,ys,rfl,⟨k,h2⟩,r2⟩:=c;cases Y;cases U;cases(show ys=[]from r2);have e:xs.isEmpty=ks.isEmpty:=by
   have:=g.length;cases xs<;>cases ks<;>simp_all
  refine eq_dicE (yx I (J _ _ h1)) (yx I (J _ _ h2)) (by omega) ⟨.bl _,H,I,rfl,?_⟩;rw[e];exact p (.bl _) F H (Step.refl J) (by cases own<;>rfl)
 ·have e:eqE a b=eqM a b:=by
   unfold eqE;split
   ·rename_i ks;exact Dc ⟨ks,rfl,rfl⟩ f
   ·rfl
  rw[e]at p;exact i4 i j pins s σ H x y v u Q I Y U ⟨F,a,b,J,d,c,p⟩
end
section
variable{base:DR} 
noncomputable def YR(_:∃f fd,Def K mg x st ps f fd)(P:Ec)(w:Ek)(base:DR)(k:Nat)(sp:Sp):Prop:=∃f fd,Yd P w K mg base CX0 k x st ps sp f fd
theorem fR(N:List o_){h:∃f fd,Def K mg x st ps f fd}(I:∀vs H Q E,sp vs H Q E->vs.length=ps.length)(U:∀z:B7,N.Nodup->fV k (z.A.deeper (Fn x (aA st) z.s.heap.objs.size z.f z.c))->∀(vs:List V) (Q:VK),sp vs z.H Q z.E->∃t,PSs (tM CX0 P w K mg base N x (aA st) z.f z.c z.A z.o z.s z.H z.E).nox (bQ st) t/\t {nx:=λ_ H'=>Q .non H',rt:=Q} (start N vs) z.H)(S:autoParam (eA N ps (aA st)) Jq9):YR h P w base (k+1) sp:=
 let ⟨f,fd,D⟩:=h
 ⟨f,fd,D,D.fn.okX S I λc A o s H vs Q E J h=>U ⟨f,c,A,o,s,H,E⟩ S.nd J vs Q h⟩
end
theorem pY(Y:∃f fd,Yd X.prog X.w X.K X.mg X.base CX0 k x st ps sp f fd)(a:fV j X.A)(d:PA X (e::es) t)(b:(k<=j)⁻¹)(c: ~~~(Gl X x))(U:((x==("__debug__":o_))=b_)⁻¹)(I: ~~~(h_ (e::es) X.env=(b_,Di e X.env)::h_ es X.env))(J: ~~~((DB pos (h_ es X.env)).any (·.1)=b_)):PE X (.Call (.Name x p) (e::es) [] pos) (eY sp [] E0 t):=let ⟨_,_,Y⟩:=Y;iu Y.o (a.mono b) c Y.d.mg Y.d.fn.kp Y.d.bd .nil mX d U I J
theorem hU(h:n+64<E8):n+1<E8:=by omega
theorem len_told(h:kJ vs H Q E):vs.length=2:=by obtain⟨_,_,rfl,_⟩:=h;rfl
theorem len_gap{mg:List Dat->M Dat}(h:vT K mg vs H Q E):vs.length=3:=by obtain⟨_,_,_,_,_,_,_,_,_,_,_,rfl,_⟩:=h;rfl
theorem Bu(h:rT K C mr vs H Q E):vs.length=2:=by obtain⟨_,_,_,_,_,_,_,_,rfl,_⟩:=h;rfl
theorem len_ID(h:spID C vs H Q E):vs.length=1:=by obtain⟨_,_,rfl,_⟩:=h;rfl
noncomputable def jR:Dat->Option Int->Option Int->M Dat
 |.str z,lo,hi=>if z.length<=m_ then .ok (.str (Hk z lo hi))else stk
 |_,_,_=>stk
section
variable{W:dS}{own:Bool}
theorem x_slS:SlR X (rDS K W own jR):=by
 intro pins s σ H x v Y U lo hi n Q I c g pl e h;obtain⟨F,a,b,d,p⟩:=h;cases a with
 |str z=>
  have p:aH K W own F H (if z.length<=m_ then .ok (.str (Hk z lo hi))else stk) Q:=p;cases(show x=V.str z from d);obtain⟨t,rfl⟩:=(show ∃t,v=Ex z t from c)
  by_cases J:z.length<=m_
  ·rw[i_ J]at p;obtain⟨l,m,f⟩:∃l,Y=partValue l/\lo=l.map (·.1):=by
    cases pl with
    |none=>exact⟨d_,rfl,rfl⟩|int i t=>exact⟨a_ (i,t),rfl,rfl⟩
   obtain⟨r,j,mr⟩:∃l,U=partValue l/\hi=l.map (·.1):=by
    cases e with
    |none=>exact⟨d_,rfl,rfl⟩|int i t=>exact⟨a_ (i,t),rfl,rfl⟩
   subst m j f mr;refine⟨"str",_,PySem.F.slot_str_getitem.lookup,Hb _ _ _,wpAny_getItem_str_slice (l:=l) (u:=r) (st:=d_) g rfl (post_val_or_str ⟨Dz (Txt.slice_le z _ _) J,λt' k=>?_⟩)⟩
   exact⟨.str _,H,I.tok _,⟨_,rfl⟩,p.str b⟩
  ·rw[l_ J]at p;exact aH.stuck p
 |_=>exact aH.stuck p
end
section
variable{ds:List Dat} 
theorem A8.upd{c:g_}{u:HO}(o:A8 K F G H ds vs)(n:∀k:Nat,vs[k]?≠a_ (.ref c)):A8 K F G (L2.upd H c u) ds vs:=⟨o.len,λk d e=>by obtain⟨a,xs,es,h1,h2,J,I⟩:=o.get k d e;exact⟨a,xs,es,h1,h2,by rw[ao (λz=>n k (by rw[<- z];exact h1))];exact J,I⟩,o.ap⟩
theorem nQ(l:List α)(j k:Nat):(l.eraseIdx j)[k]?=l[if k<j then k else k+1]?:=by rw[List.getElem?_eraseIdx];split<;>rfl
theorem A8.erase(o:A8 K F G H ds vs)(j:Nat):A8 K F G H (ds.eraseIdx j) (vs.eraseIdx j):=by
 refine⟨by rw[Jo,Jo,o.len],λk d e=>?_,λi k a e1 e2=>?_⟩
 ·rw[nQ]at e ⊢;exact o.get _ d e
 ·rw[nQ]at e1 e2;have:=o.ap _ _ a e1 e2;split at this<;>split at this<;>omega
end
structure MixH(K:Fg)(F0 H0 F:Hp)(ar al:g_)(H:Hp)(xs ys:List V)(out rs:List Dat):Prop where
 st:Step F0 H0 F H
 hr:H ar=a_ (.lst xs)
 fr:F ar=d_/\H0 ar=d_
 hl:H al=a_ (.lst ys)
 fl:F al=d_/\H0 al=d_
 na:ar≠al
 nl:∀m:Nat,ys[m]?≠a_ (.ref al)
 nr:∀m:Nat,ys[m]?≠a_ (.ref ar)
 ow:A8 K F H0 H rs ys
 dq:aB K F out xs
noncomputable def mixA(ar al:g_)(ys:List V)(c:g_):Prop:=c=ar\/c=al\/∃m:Nat,ys[m]?=a_ (.ref c)
section
variable{ar al:g_}{xs ys:List V}{out rs:List Dat}
theorem MixH.same(h:MixH K F0 H0 F ar al H xs ys out rs)(s:aO H H'):MixH K F0 H0 F ar al H' xs ys out rs:=
 have t:=Step.same h.st.fh s
 ⟨h.st.trans t,s _ _ h.hr,h.fr,s _ _ h.hl,h.fl,h.na,h.nl,h.nr,h.ow.step t,h.dq⟩
theorem Step.put{u:HO}(s:Step F0 H0 F H)(f:F c=d_/\H0 c=d_):Step F0 H0 F (upd H c u):=
 ⟨s.ff,λb o e=>by rw[ao (aL e f.2)];exact s.hh b o e,λb o e=>by rw[ao (aL e f.1)];exact s.fh b o e,s.nw⟩
theorem MixH.drop(h:MixH K F0 H0 F ar al H xs ys out rs)(j:Nat):MixH K F0 H0 F ar al (upd H al (.lst (ys.eraseIdx j))) xs (ys.eraseIdx j) out (rs.eraseIdx j):=
 ⟨h.st.put h.fl,by rw[ao h.na];exact h.hr,h.fr,aq,h.fl,h.na,λm e=>h.nl _ (by rw[nQ]at e;exact e),λm e=>h.nr _ (by rw[nQ]at e;exact e),(h.ow.upd h.nl).erase j,h.dq⟩
theorem MixH.none(h:MixH K F0 H0 F ar al H xs ys out rs){c:g_}(I:mixA ar al ys c):F c=d_:=by
 rcases I with rfl|rfl|⟨m,e⟩
 ·exact h.fr.1
 ·exact h.fl.1
 ·obtain⟨_,_,_,_,z,_⟩:=h.ow.at e;exact z
end
noncomputable def Th(F F':Hp):Prop:=∀b o,F b=a_ o->F' b=a_ (unF o)
theorem Th.tup(s:Th F F'){xs:List V}(h:SqT K F a xs):SqT K F' a xs:=by
 rcases h with(h|⟨o,h⟩)|h
 ·exact .inl (.inl (s _ _ h))
 ·exact .inl (.inl (s _ _ h))
 ·exact .inr h
theorem Th.lst(s:Th F F'){xs:List V}(h:SqL K F a xs):SqL K F' a xs:=by
 rcases h with(h|⟨o,h⟩)|h
 ·exact .inl (.inl (s _ _ h))
 ·exact .inl (.inl (s _ _ h))
 ·exact .inr h
mutual
theorem aP.th(s:Th F F'):∀{d:Dat} {v:V},aP K F d v->aP K F' d v
 |.non,_,h=>h|.bl _,_,h=>h|.int _,_,h=>h|.str _,_,h=>h|.tup _,_,⟨a,xs,e,q,r⟩=>⟨a,xs,e,s.tup q,aB.th s r⟩|.lst _,_,⟨a,xs,e,q,r⟩=>⟨a,xs,e,s.lst q,aB.th s r⟩|.ins _ _,_,⟨a,dx,fs,e,q,r⟩=>⟨a,dx,fs,e,s _ _ q,ir.th s r⟩|.dic _,_,⟨a,xs,e,⟨ep,q⟩,r⟩=>⟨a,xs,e,⟨ep,s _ _ q⟩,d8.th s r⟩|.dil _,_,⟨a,xs,e,⟨ep,q⟩,r,z⟩=>⟨a,xs,e,⟨ep,s _ _ q⟩,r,λx U=>let ⟨r,bs,t1,t2,l,J⟩:=z x U;⟨r,bs,s.tup t1,s.tup t2,l,λj I c e1 e2=>s.tup (J j I c e1 e2)⟩⟩
theorem aB.th(s:Th F F'):∀{ds:List Dat} {xs:List V},aB K F ds xs->aB K F' ds xs
 |[],_,h=>h|_::_,_,⟨v,vs,e,q,r⟩=>⟨v,vs,e,aP.th s q,aB.th s r⟩
theorem ir.th(s:Th F F'):∀{gs:List (o_×Dat)} {fs:List (o_×V)},ir K F gs fs->ir K F' gs fs
 |[],_,h=>h|(_,_)::_,_,⟨v,r,e,q,t⟩=>⟨v,r,e,aP.th s q,ir.th s t⟩
theorem d8.th(s:Th F F'):∀{ks:List (List Int×Dat)} {xs:List lR},d8 K F ks xs->d8 K F' ks xs
 |[],_,h=>h|(_,_)::_,_,⟨b,v,r,e,t,q,z⟩=>⟨b,v,r,e,s.tup t,aP.th s q,d8.th s z⟩
end
open Classical in
structure Bent(F0 H0 F:Hp)(p C dx:Addr)(fs:List (Str×V))(bk bf be:Addr)(H:Hp):Prop where
 st:Step F0 H0 F H
 ob:H p=some (.ins C dx fs)
 k:∃y,H bk=some (.lst y)
 f:∃y,H bf=some (.lst y)
 e:∃y,H be=some (.lst y)/\y.length<sizeLine
 nk:F bk=none/\H0 bk=none
 nf:F bf=none/\H0 bf=none
 ne:F be=none/\H0 be=none
section
variable{p:g_}{fs:List (o_×V)}{bk bf be:g_}
theorem Bent.same(b:Bent F0 H0 F p C dx fs bk bf be H)(s:aO H H'):Bent F0 H0 F p C dx fs bk bf be H':=
 ⟨b.st.trans (Step.same b.st.fh s),s _ _ b.ob,b.k.imp λ_ h=>s _ _ h,b.f.imp λ_ h=>s _ _ h,b.e.imp λ_ h=>⟨s _ _ h.1,h.2⟩,b.nk,b.nf,b.ne⟩
end
noncomputable def spX1(C:g_)(f1:o_):Sp:=λvs H Q _=>∃a v1,vs=[.ref a,v1]/\H a=a_ (XO a C d_)/\∀d,H d=d_->d≠a->Q .non (upd (upd H d (XD d [(f1,v1)])) a (XO a C (a_ d)))
section
variable{f1:o_}{v1:V} 
theorem new_x1(FB:Fw B newId initId bmB)(A:jP X.K C bmB newId f=e_)(x:HZ X.K (.ref f)=a_ (.type "function"))(F:eZ X.prog X.w X.K X.mg X.base CX0 k f fd ps (spX1 C f1))(p:fV (k+1) X.A)(y:Binds X.K fd ps [])(I:Inv X pins σ H s)(r:Vals [v1] us):CT (Dd X.prog X.w) X.A (Gn (.ref C) us) (λv s'=>∃a d,v=.ref a/\s.heap.objs.size<=a/\H a=d_/\H d=d_/\d≠a/\Inv X pins σ (upd (upd H d (XD d [(f1,v1)])) a (XO a C (a_ d))) s') X.xe s:=by
 obtain⟨tl,N,nm,L,bs,hdct,sn,sub,ab,col,dd,k0,k1,k2,k3,k5,mN,j,i,h,g⟩:=t8 I.kIn A;obtain⟨oI,o,m⟩:=fn_at I.kIn x;obtain⟨hh,gg,G,tk,os⟩:=s;have O:=Dq;have t:us.length<=m_:=by rw[<- r.length];show 1<=m_;omega
 refine x_call FB g j i h o m t ?_;have l:(rL hh C us).get? (hh.objs.size+1)=a_ (Ak C hh.objs.size):=u0;have J:Inv X pins σ (upd H (hh.objs.size+1) (XO (hh.objs.size+1) C d_)) {(⟨hh,gg,G,tk,os⟩:x_)with heap:=rL hh C us,toks:=tk}:=
  I.laid (λb u q=>nY q) (DF _) (xo_ok (vs:=#[.ref hh.objs.size,.none,.none,.none,.bool b_,.none]) rfl l)
 have fa:H (hh.objs.size+1)=d_:=I.hok.fresh (DF _);have w:Vals [V.ref (hh.objs.size+1),v1] (CU (hh.objs.size+1)::us++[]):=by rw[Ft];exact .cons rfl r
 have q:spX1 C f1 [V.ref (hh.objs.size+1),v1] (upd H (hh.objs.size+1) (XO (hh.objs.size+1) C d_)) (λv H2=>v=.non/\∃d,H d=d_/\d≠hh.objs.size+1/\H2=upd (upd H d (XD d [(f1,v1)])) (hh.objs.size+1) (XO (hh.objs.size+1) C (a_ d))) (λ_ _ _=>False):=
  ⟨_,v1,rfl,aq,λd hd Y=>⟨rfl,d,by rw[ao Y]at hd;exact hd,Y,upd_low⟩⟩
 have n:(CU (hh.objs.size+1)::us++[]).length=ps.length:=w.length.symm.trans (F.len _ _ _ _ q);refine GR (EM (F.run _ X.stack _ _ ⟨.ref (hh.objs.size+1)::us,[]⟩ _ _ _ (λ_ _ _=>False) (p.make C us []) (J.env0.make C us []) (y _ (.ref (hh.objs.size+1)::us) J.kIn n) w q) λz s' U=>?_);cases z with
 |error e=>exact(show False from U).elim|ok fl=>
  cases fl with
  |ret u=>obtain⟨v,H',K,c,E,d,h1,h2,D⟩:=J.after U;subst E D;exact⟨c,_,d,rfl,DF _,fa,h1,h2,K⟩
  |_=>exact DV U
end
noncomputable def vP(t:TA)(C:g_)(f1:o_)(E:XK):TS:=λ_ σ H=>t σ H λvs H1=>∃v1,vs=[v1]/\∀d,H1 d=d_->E (.ref C) (a_ d) (upd H1 d (.xd [(f1,v1)]))
section
variable{f1:o_} 
theorem uD(FB:Fw B newId initId bmB)(Q:XEq2 X E C)(G:jP X.K C bmB newId f=e_)(hf:HZ X.K (.ref f)=a_ (.type "function"))(W:Fh X.K (.ref C)=e_)(F:eZ X.prog X.w X.K X.mg X.base CX0 k f fd ps (spX1 C f1))(y:fV (k+1) X.A)(Y:Binds X.K fd ps [])(S:X.mg x=a_ (.ref C))(ha:PA X [e1] t)(Z: ~~~(Gl X x))(n:((x==("__debug__":o_))=b_)⁻¹)(l: ~~~(h_ [e1] X.env=[(b_,Di e1 X.env)])):
  PS X (.Raise (a_ (.Call (.Name x np) [e1] [] cpos)) d_ pos) (vP t C f1 E):=by
 intro pins s σ H D I h;obtain⟨tl,N,nm,K,bs,hdct,sn,sub,ab,col,dd,k0,k1,k2,k3,k5,mN,O,o2,o3,L⟩:=t8 I.mod.kin G;rw[arm_exec_Raise];refine p_ (G2 (vL (C:=C) (nm:=nm) (q:=K) (N:=N) (bs:=bs) (tl:=tl) (hdct:=hdct) (sn:=sn) (sub:=sub) (ab:=ab) (col:=col) (dd:=dd) (k0:=k0) (k1:=k1) (k2:=k2) (k3:=k3) (k5:=k5) (newId:=newId) (L.hasType FB.hasBase) y.hd (p_ (thn ?_ λv w U=>p_ (G2 (Cb U))))));refine El (gq I Z S (Gu (h₀:=X.base) I.ok.mod.kin W (thn (ha cpos pins s σ H _ I h) λus s1 m=>?_) l rfl) n);obtain⟨vs,H1,p,r,g⟩:=m;refine⟨p.kIn,?_⟩
 obtain⟨v1,rfl,g⟩:=g;refine thn (new_x1 FB G hf F y Y p r) λv e m=>?_;obtain⟨a,d,ev,R,fa,fd',i,J⟩:=m;subst ev;obtain⟨vs,u,A⟩:=Ai (J.hok a _ aq);have c:upd (upd H1 d (XD d [(f1,v1)])) a (XO a C (a_ d)) d=a_ (XD d [(f1,v1)]):=by rw[ao i];exact aq
 have J2:Inv X pins σ (upd H1 d (.xd [(f1,v1)])) {e with heap:=e.heap,toks:=e.toks}:=by
  refine J.turn (λb=>b=a\/b=d) (λb o _ q=>q) (λb j=>?_) (λb Y=>?_) (λb o _ q=>⟨o,q⟩) λb o Y q=>?_
  ·rw[ao λz=>j (.inr z),ao λz=>j (.inl z),ao λz=>j (.inr z)]
  ·rcases Y with rfl|rfl
   ·exact .inl ⟨_,aq⟩
   ·exact .inl ⟨_,c⟩
  ·rcases Y with rfl|rfl
   ·rw[ao (DL i),fa]at q;cases q
   ·rw[aq]at q;cases q;obtain⟨mA,P,n2,_⟩:=xd_get (J.hok _ _ c);exact⟨mA,P,n2⟩
 refine⟨a,_,rfl,J.bk _ _ O,A,rfl,⟨vs,rfl,u⟩,Q pins σ _ e a d J2 ⟨⟨_,vs,A,rfl,rfl,rfl,u⟩,λT hT=>nomatch hT⟩ (get_none (Dz p.sz R)) (by rw[ao (DL i)];exact fa) (g d fd')⟩
end
noncomputable def xRes1(C:g_)(f1:o_):List Dat->M Flo
 |[a]=>.error (.exc C [(f1,a)])|_=>.error .stuck
noncomputable def yU(C:g_)(f1:o_)(fr:ai->M (List Dat)):ai->M Flo:=λρ=>(fr ρ).bind (xRes1 C f1)
@[simp] theorem e_sExc1(C:g_)(f1:o_)(fr:ai->M (List Dat))(ρ:ai):yU C f1 fr ρ=(fr ρ).bind (xRes1 C f1):=id rfl
@[simp] theorem e_xRes1(C:g_)(f1:o_)(a:Dat):xRes1 C f1 [a]=.error (.exc C [(f1,a)]):=id rfl
section
variable{fr:ai->M (List Dat)}{f1:o_} 
theorem BZ(FB:Fw B newId initId bmB)(i:XEq2 X E C)(w:jP X.K C bmB newId f=e_)(s:HZ X.K (.ref f)=a_ (.type "function"))(n:Fh X.K (.ref C)=e_)(F:eZ X.prog X.w X.K X.mg X.base CX0 k f fd ps (spX1 C f1))(j:fV (k+1) X.A)(u:Binds X.K fd ps [])(m:X.mg x=a_ (.ref C))(v:DA K (WE K E) X [e1] fr)(o: ~~~(Gl X x))(Y:((x==("__debug__":o_))=b_)⁻¹)(U: ~~~(h_ [e1] X.env=[(b_,Di e1 X.env)])):
  DS K (WE K E) ro X OL O O' (.Raise (a_ (.Call (.Name x np) [e1] [] cpos)) d_ pos) (yU C f1 fr):=λF0 H0=>PS.imp (uD FB i w s n F j u m v o Y U) λD σ H ⟨z,F,ρ,r,p⟩=>by
 have g:=r.freeze (O2:=[]) (by simp);refine o8 r.AZ r.sr (λe t=>p.uX g.st (by unfold yU;rw[t];rfl)) λds hd vs F1 H1 c q=>?_;have y:yU C f1 fr ρ=xRes1 C f1 ds:=by unfold yU;rw[hd];rfl
 rw[y]at p;rcases ds with _|⟨a,_|⟨_,_⟩⟩
 ·exact((WE K E).ns p).elim
 rotate_left
 ·exact((WE K E).ns p).elim
 ·obtain⟨I,J,rfl,h,l⟩:=q;cases(show J=[]from l);refine⟨I,rfl,λd b=>?_⟩
  have st:=g.st.trans c;have st2:Step F1 H1 (upd F1 d (.xd [(f1,I)])) (upd H1 d (.xd [(f1,I)])):=Step.lay c.fh b;exact p _ _ (st.trans st2) d _ aq ⟨I,[],rfl,aP.mono st2.ff h,rfl⟩
end
noncomputable def lX(CN:g_)(f1:o_)(mr:List Dat->List Dat->M (Bool×List Dat))(mw:List Dat->M Dat):Nat->List Dat->List Dat->M (List Dat)
 |_,[],ds=>.ok ds|k,I::rows,ds=>(noX (mw [I])).bind λw=>match w with
  |.lst ws=>(noX (mr ds ws)).bind λr=>if r.1=e_ then lX CN f1 mr mw (k+1) rows r.2 else .error (.exc CN [(f1,.int (k:Nat))])
  |_=>stk
noncomputable def oz(C CN:g_)(f1:o_)(mr:List Dat->List Dat->M (Bool×List Dat))(mw:List Dat->M Dat)(di ni ri:Nat)(fs:ai->M Dat)(g:ai->M Flo):ai->M Flo:=λρ=>if (q_ (di<ρ.length)&&q_ (ni<ρ.length)&&q_ (ri<ρ.length))=e_ then(noX (fs (ρ.set di d_))).bind λd=>match d with
 |.lst rows=>(lX CN f1 mr mw 1 rows ds0).bind λds=>g ((((ρ.set di d_).set ni d_).set ri d_).set di (a_ (drD C ds)))|_=>stk
 else stk
section
variable{f1:o_}{D:Ends}{fs:ai->M Dat}{gg:ai->M Flo} 
theorem AW(B:di≠ni)(A:di≠ri)(hnr:ni≠ri)(t:tS K (WE K E) b_ F0 H0 OL [] O' (oz C CN f1 mr mw di ni ri fs gg) D σ H):
  iJ (yL (uc C (spID C) [] E1 dR) (gS di)) (iJ (tFor (BE K (tD K Wno b_ fs)) (gTup K 2 (zK (gS ni) (zK (gS ri) gNil)))
   (nC (tNot (tTr K (eY (rT K C mr) [] E2 (aM (cn di) (aM (eY (spF K b_ mw 1) [] E3 (aM (cn ri) dR)) dR))))) (vP (aM (cn ni) dR) CN f1 E) i8)) (tS K (WE K E) b_ F0 H0 OL [] O' gg)) D σ H:=by
 obtain⟨FB,F,ρ,r,q⟩:=t;unfold oz at q;split at q
 rotate_left
 ·exact q.stuck rfl
 rename_i hc;simp only[n_,Dh]at hc;obtain⟨⟨hd,hn⟩,hr⟩:=hc;have rE:=r.repE;have ls:=rE.len;intro p dx N hdx hne;refine⟨p,dx,rfl,aq,λk g b n f c H1 kp S nd ak ag ab an af ac ap=>⟨rfl,?_⟩⟩
 have old:∀{m:g_},upd (upd H dx (.own p)) p (.ins C dx []) m=d_->H m=d_:=λ{m} h=>by
  cases U:H m with
  |none=>rfl|some o=>
   have h1:m≠p:=λz=>by rw[z,N]at U;cases U
   have h2:m≠dx:=λz=>by rw[z,hdx]at U;cases U
   rw[ao h1,ao h2,U]at h;cases h
 have s1:aO H H1:=λm o e=>by
  have h1:m≠p:=λz=>by rw[z,N]at e;cases e
  have h2:m≠dx:=λz=>by rw[z,hdx]at e;cases e
  exact kp m o (by rw[ao h1,ao h2];exact e) h1
 have S1:Step F H F H1:=Step.same r.st.fh s1;have L:∀x∈p::[k,g,b,n,f,c],H x=d_:=λx L=>(A_.mp L).elim (λz=>by rw[z];exact N) λz=>old (S x z);have h0:∀x∈p::[k,g,b,n,f,c],H0 x=d_:=λx h=>r.st.hh.free (L x h);have cell:∀(j:Nat) (x:g_) (d:Dat),[k,g,b,n,f,c][j]?=a_ x->ds0[j]?=a_ d->isO d=e_/\ky K F (λ_=>d_) H1 d (.ref x):=λj x d e1 e2=>by
  have fx:F x=d_:=r.st.fh.free (L x (Dl _ (D8 e1)))
  match j,e1,e2 with
  |0,e1,e2=>cases e1;cases e2;exact⟨rfl,_,[],rfl,ak,fx,rfl,rfl⟩|1,e1,e2=>cases e1;cases e2;exact⟨rfl,_,[],rfl,⟨0,ag⟩,fx,rfl,rfl⟩|2,e1,e2=>cases e1;cases e2;exact⟨rfl,_,[],rfl,⟨0,ab⟩,fx,rfl,rfl⟩|3,e1,e2=>cases e1;cases e2;exact⟨rfl,_,[],rfl,an,fx,rfl,rfl⟩|4,e1,e2=>cases e1;cases e2;exact⟨rfl,_,[],rfl,af,fx,rfl,rfl⟩|5,e1,e2=>cases e1;cases e2;exact⟨rfl,_,[],rfl,ac,fx,rfl,rfl⟩|j+6,e1,_=>simp at e1
 have d1:Dr K C F H1 p dx [k,g,b,n,f,c] ds0:=⟨⟨S1.fh,nd,rfl,cell⟩,ap,r.st.fh.free N,λz=>by have:=S p z;rw[aq]at this;cases this⟩
 have hs1:(σ.set di (a_ (.ref p)))[di]?=a_ (a_ (.ref p)):=s_ (by rw[<- ls];exact hd);refine b6 (rE.hide di (a_ (.ref p))) S1.fh (λe he=>by rw[he]at q;exact q.stuck rfl) λdl hdl v F2 H2 R q2=>?_;rw[hdl]at q;simp only[dJ,ae]at q;cases dl with
 |lst rows=>
  dsimp only at q;obtain⟨a,ys,rfl,sq,qs⟩:=(show aP K F2 (.lst rows) v from q2)
  refine⟨a,rfl,⟨ys,R.fh.lst sq⟩,?_⟩
  have W1:=(r.st.trans S1).trans R;refine⟨λi m σ' H'=>m+i=rows.length/\σ'.length=σ.length/\(∀j,j≠ni->j≠ri->σ'[j]?=(σ.set di (a_ (.ref p)))[j]?)/\∃F' ds',aO F2 F'/\Step F0 H0 F' H'/\Dr K C F' H' p dx [k,g,b,n,f,c] ds'/\gT K (WE K E) b_ F0 H0 FB OL O' D ((lX CN f1 mr mw (i+1) (rows.drop i) ds').bind λds=>gg ((((ρ.set di d_).set ni d_).set ri d_).set di (a_ (drD C ds)))),
   ⟨rows.length,rfl,CY,λ_ _ _=>rfl,F2,ds0,aO.refl _,W1,d1.step R,q⟩,λi m σ' H' ⟨e1,e2,e3,F',ds',P,st,d,I⟩=>?_⟩
  have l:SqL K H' a ys:=st.fh.lst (P.lst sq);by_cases U:m=0
  ·refine .inl ⟨⟨ys,l,by rw[qs.length];omega⟩,?_⟩;rw[List.drop_eq_nil_of_le (by omega)]at I;have q:gT K (WE K E) b_ F0 H0 FB OL O' D (gg ((((ρ.set di d_).set ni d_).set ri d_).set di (a_ (drD C ds')))):=I;obtain⟨G,sG,fG,qG⟩:=d.frz rfl st h0;refine⟨FB,G,_,Rep.ofE (F:=G) ?_ sG (r.fb.trans ((S1.ff.trans R.ff).trans (P.trans fG))),q⟩
   have a1:=(rE.mono ((S1.ff.trans R.ff).trans (P.trans fG))).hide di (a_ (.ref p));have a2:gz K G σ' (((ρ.set di d_).set ni d_).set ri d_):=⟨by rw[CY,CY,CY,e2,ls],λj d' h=>by
    have hj1:ri≠j:=λz=>by rw[z,IS]at h;cases hh:((ρ.set di d_).set ni d_)[j]?<;>rw[hh]at h<;>cases h
    rw[k_ hj1]at h;have hj2:ni≠j:=λz=>by rw[z,IS]at h;cases hh:(ρ.set di d_)[j]?<;>rw[hh]at h<;>cases h
    rw[k_ hj2]at h;obtain⟨v,h1,h2⟩:=a1.sl j d' h;exact⟨v,by rw[e3 j (DL hj2) (DL hj1)];exact h1,h2⟩⟩
   exact a2.tell (v:=.ref p) (by rw[e3 di B A];exact hs1) qG
  ·have hi:i<rows.length:=by omega
   have s:i<ys.length:=by rw[qs.length];exact hi
   refine .inr ⟨⟨ys,ys[i],l,by simp[s]⟩,_,λσ2 H2 z=>⟨m-1,by omega,z⟩,λx H3 N=>?_⟩;obtain⟨T,y,hT,ex,eH,hy⟩:=N;subst ex eH;have ey:=hy ys l;rw[DD s]at ey;cases ey;obtain⟨y',hy',qy⟩:=qs.get (i:=i) (d:=rows[i]) (by simp[hi]);rw[DD s]at hy';cases hy';have sT:Step F' H' F' (upd H' T (.tup [.int (i+1:Nat),ys[i]])):=Step.grow st.fh hT;have dT:=d.step sT;rw[GL hi]at I;cases ew:mw [rows[i]]with
   |error e=>exact I.stuck (by rw[lX,ew];rfl)|ok w=>
   refine⟨T,_,rfl,SqT.of aq,rfl,_,_,rfl,_,_,rfl,rfl,?_⟩
   have Z:((σ'.set ni (a_ (.int (i+1:Nat)))).set ri (a_ ys[i]))[di]?=a_ (a_ (.ref p)):=by rw[k_ (DL A),k_ (DL B),e3 di B A];exact hs1
   have W:((σ'.set ni (a_ (.int (i+1:Nat)))).set ri (a_ ys[i]))[ri]?=a_ (a_ ys[i]):=s_ (by rw[CY,e2,<- ls];exact hr);refine⟨.ref p,Z,ys[i],W,F',[rows[i]],sT.fh,⟨_,_,rfl,qy.mono P,rfl⟩,rfl,?_⟩
   rw[ew];intro w' F4 H4 s4 q4;cases w with
   |lst ws=>
    cases er:mr ds' ws with
    |error e=>exact I.stuck (by rw[lX,ew];show((noX (mr ds' ws)).bind _).bind _=_;rw[er];rfl)|ok J=>
    have I:gT K (WE K E) b_ F0 H0 FB OL O' D ((if J.1=e_ then lX CN f1 mr mw (i+1+1) (rows.drop (i+1)) J.2 else .error (.exc CN [(f1,.int (i+1:Nat))])).bind λds=>gg ((((ρ.set di d_).set ni d_).set ri d_).set di (a_ (drD C ds)))):=by
     have e:lX CN f1 mr mw (i+1) (rows[i]::rows.drop (i+1)) ds'=if J.1=e_ then lX CN f1 mr mw (i+1+1) (rows.drop (i+1)) J.2 else .error (.exc CN [(f1,.int (i+1:Nat))]):=by rw[lX,ew];show(noX (mr ds' ws)).bind _=_;rw[er];rfl
     rw[<- e];exact I
    have d4:=dT.step s4;unfold dR;dsimp only[];show rT K C mr [V.ref p,w'] H4 _ E2;refine⟨p,dx,_,F4,ds',ws,w',J,rfl,d4,q4,er,λF5 H5 Q d5=>⟨J.1,rfl,?_⟩⟩
    have Y:Step F0 H0 F5 H5:=by have z:=(st.trans sT).trans s4;exact⟨z.ff.trans Q.ff,λO o h=>Q.hh O o (λU=>by rw[h0 O (Dl _ U)]at h;cases h) (z.hh O o h),Q.fh,λO o h=>(Q.nw O o h).elim (λu=>z.nw O o u) λu=>.inr (z.hh.free u)⟩
    cases hb:J.1 with
    |true=>rw[hb,i_ rfl]at I;exact⟨by omega,by rw[CY,CY];exact e2,λj h1 h2=>by rw[k_ (DL h2),k_ (DL h1)];exact e3 j h1 h2,F5,J.2,(P.trans s4.ff).trans Q.ff,Y,d5,I⟩|false=>
     rw[hb,l_ (by decide)]at I;have X:((σ'.set ni (a_ (.int (i+1:Nat)))).set ri (a_ ys[i]))[ni]?=a_ (a_ (.int (i+1:Nat))):=by rw[k_ (DL hnr)];exact s_ (by rw[e2,<- ls];exact hn)
     refine⟨_,X,_,rfl,λx L=>?_⟩
     have s6:Step F5 H5 (upd F5 x (.xd [(f1,.int (i+1:Nat))])) (upd H5 x (.xd [(f1,.int (i+1:Nat))])):=Step.lay Y.fh L;have I:(WE K E).p (.exc CN [(f1,.int (i+1:Nat))]) F0 H0:=I;exact I _ _ (Y.trans s6) x _ aq ⟨_,[],rfl,rfl,rfl⟩
   |_=>exact I.stuck (by rw[lX,ew];rfl)
 |_=>exact q.stuck rfl
end
theorem C7{f1:o_}{fs:ai->M Dat}{g:ai->M Flo}(p1:PS X st1 (yL (uc C (spID C) [] E1 dR) (gS di)))(p2:PS X st2 (tFor (BE K (tD K Wno b_ fs)) (gTup K 2 (zK (gS ni) (zK (gS ri) gNil))) (nC (tNot (tTr K (eY (rT K C mr) [] E2 (aM (cn di) (aM (eY (spF K b_ mw 1) [] E3 (aM (cn ri) dR)) dR))))) (vP (aM (cn ni) dR) CN f1 E) i8)))(h:DSs K (WE K E) b_ X OL [] O' sts g)(U:(di≠ni)⁻¹)(J:(di≠ri)⁻¹)(I:(ni≠ri)⁻¹):DSs K (WE K E) b_ X OL [] O' (st1::st2::sts) (oz C CN f1 mr mw di ni ri fs g):=λF0 H0=>PSs.imp (aI p1 (aI p2 (h F0 H0))) λ_ _ _=>AW U J I
noncomputable abbrev PKs:=List ((o_×o_)×Int)
noncomputable def kPair(k:o_×o_):List Key:=[.inr k.1,.inr k.2]
noncomputable def pkV(ks:PKs):List (List Key×V):=ks.map λp=>(kPair p.1,.int p.2)
noncomputable def getP(ks:PKs)(k:o_×o_):Option Int:=(ks.find? λp=>q_ (p.1=k)).map (·.2)
noncomputable def putP(ks:PKs)(k:o_×o_)(v:Int):PKs:=if (getP ks k).isSome=e_ then ks.map (λp=>if p.1=k then(p.1,v)else p)else ks++[(k,v)]
structure Jst where
 dk:List Dat
 dn:List Dat
 df:List Dat
 dc:List Dat
 g:PKs
 b:PKs
noncomputable def Jst.ds(s:Jst):List Dat:=[.lst s.dk,.lst s.dn,.lst s.df,.lst s.dc]
structure Jad where
 p:g_
 T:g_
 g:g_
 b:g_
 k:g_
 n:g_
 f:g_
 c:g_
noncomputable def Jad.xs(a:Jad):List g_:=[a.k,a.n,a.f,a.c]
noncomputable def Jad.ys(a:Jad):List g_:=a.g::a.b::a.xs
noncomputable def tabs(a:Jad):List (Key×V):=[(.inr "gap",.ref a.g),(.inr "beside",.ref a.b)]
structure Lj(K:Fg)(F H:Hp)(a:Jad)(s:Jst):Prop where
 c:Cells K F H a.xs s.ds
 tp:H a.p=a_ (.tup [.ref a.k,.ref a.T,.ref a.n,.ref a.f,.ref a.c])
 ot:H a.T=a_ (.dK (tabs a))
 og:H a.g=a_ (.dT (pkV s.g))
 ob:H a.b=a_ (.dT (pkV s.b))
 fg:F a.g=d_
 fb:F a.b=d_
 ng:a.g≠a.b
 xg:a.g∉a.xs
 xb:a.b∉a.xs
section
variable{a:Jad}{s:Jst} 
theorem Lj.step(L:Lj K F H a s)(t:Step F H F' H'):Lj K F' H' a s:=
 ⟨L.c.step t,t.hh _ _ L.tp,t.hh _ _ L.ot,t.hh _ _ L.og,t.hh _ _ L.ob,t.stays L.fg L.og,t.stays L.fb L.ob,L.ng,L.xg,L.xb⟩
theorem Lj.ex(L:Lj K F H a s):∀x∈a.ys,∃o,H x=a_ o:=λx I=>by
 rcases A_.mp I with rfl|I
 ·exact⟨_,L.og⟩
 rcases A_.mp I with rfl|I
 ·exact⟨_,L.ob⟩
 ·obtain⟨_,o,h,_⟩:=L.c.at I;exact⟨o,h⟩
noncomputable def FinJ(K:Fg)(F H:Hp)(a:Jad)(r:Bool×Jst)(Q:VK):Prop:=∀F' H',vz a.ys F H F' H'->Lj K F' H' a r.2->Q (.bl r.1) H'
theorem FinJ.step{r:Bool×Jst}(f:FinJ K F H a r Q)(L:Lj K F H a s)(t:Step F H F' H'):FinJ K F' H' a r Q:=λF2 H2 t2 I=>f F2 H2 (t.toC.trans t2 (L.step t).ex) I
theorem FinJ.same{r:Bool×Jst}{b:Bool}(f:FinJ K F H a r Q)(L:Lj K F H a s)(e:(.ok (b,s):M (Bool×Jst))=.ok r):Q (.bl b) H:=by cases e;exact f F H ⟨aO.refl _,λ_ _ _ h=>h,L.c.fh,λ_ _ h=>.inl h⟩ L
end
noncomputable def tMkFld(C:g_)(g:o_)(t:TA):TE:=λσ H Q=>t σ H λvs H1=>∃v1,vs=[v1]/\∀a d,H1 a=d_->H1 d=d_->d≠a->Q v1 (upd (upd H1 d (XD d [(g,v1)])) a (XO a C (a_ d)))
section
variable{g:o_}{B2:String}{bmB2:List j_}{W:dS} 
theorem pe_mkfld(FB:Fw B newId initId bmB)(FA:ET B2 bmB2)(T:jP X.K C bmB newId f=e_)(P:HZ X.K (.ref f)=a_ (.type "function"))(N:Fh X.K (.ref C)=e_)(F:eZ X.prog X.w X.K X.mg X.base CX0 k f fd ps (spX1 C g))(E:fV (k+1) X.A)(R:Binds X.K fd ps [])(K:X.mg x=a_ (.ref C))(Z:A5 X.K C)(Y:A6 X.K C g)(S:PA X [e1] t)(O: ~~~(Gl X x))(l:((x==("__debug__":o_))=b_)⁻¹)(i: ~~~(h_ [e1] X.env=[(b_,Di e1 X.env)]))(m: ~~~(Ei (.Call (.Name x np) [e1] [] cpos) g X.env (Di (.Call (.Name x np) [e1] [] cpos) X.env)=Di (.Call (.Name x np) [e1] [] cpos) X.env)):PE X (.Attribute (.Call (.Name x np) [e1] [] cpos) g pos) (tMkFld C g t):=by
 intro pins s σ H Q I h;have b:CT (Dd X.prog X.w) X.A (Di (.Call (.Name x np) [e1] [] cpos) X.env) (λu n=>∃a d v1 H1,u=.ref a/\d≠a/\Inv X pins σ (upd (upd H1 d (XD d [(g,v1)])) a (XO a C (a_ d))) n/\Q v1 (upd (upd H1 d (XD d [(g,v1)])) a (XO a C (a_ d)))) X.xe s:=by
  refine El (gq I O K (Gu (h₀:=X.base) I.ok.mod.kin N (thn (S cpos pins s σ H _ I h) λus p U=>?_) i rfl) l);obtain⟨vs,H1,y,r,e⟩:=U;refine⟨y.kIn,?_⟩
  obtain⟨v1,rfl,e⟩:=e;refine thn (new_x1 FB T P F E R y r) λv n U=>?_;obtain⟨a,d,W,hn,fa,fd',c,J⟩:=U;exact⟨a,d,v1,H1,W,c,J,e a d fa fd' c⟩
 refine xB m (thn b λu p U=>?_);obtain⟨a,d,v1,H1,eu,c,J,q⟩:=U;subst eu;obtain⟨vs,_,z⟩:=Ai (J.hok a _ aq);obtain⟨mA,A,r,_⟩:=xd_get (J.hok d (XD d [(g,v1)]) (by rw[ao c];exact aq));obtain⟨od,G,j⟩:=oY A;have L:([(g,v1)]:List (o_×V)).lookup g=a_ v1:=by rw[w_,GQ]
 obtain⟨u',D,w⟩:=qD.some_of (v:=v1) (o:=mA g) (by rw[<- L];exact r g);have IA:EC p.heap a ⟨.ref C,a_ d,.fields vs,#[]⟩ C (a_ od):=⟨z,rfl,rfl,G⟩
 exact x_get FA J.kIn IA Z Y (by rw[j,D]) (ph w) ⟨v1,_,J.tok _,w,q⟩
theorem de_mkfld(FB:Fw B newId initId bmB)(z:ET B2 bmB2)(y:jP X.K C bmB newId f=e_)(t:HZ X.K (.ref f)=a_ (.type "function"))(n:Fh X.K (.ref C)=e_)(F:eZ X.prog X.w X.K X.mg X.base CX0 k f fd ps (spX1 C g))(l:fV (k+1) X.A)(w:Binds X.K fd ps [])(m:X.mg x=a_ (.ref C))(Z:A5 X.K C)(Y:A6 X.K C g)(c:DE K W b_ X e1 fe)(o: ~~~(Gl X x))(J:((x==("__debug__":o_))=b_)⁻¹)(I: ~~~(h_ [e1] X.env=[(b_,Di e1 X.env)]))(b: ~~~(Ei (.Call (.Name x np) [e1] [] cpos) g X.env (Di (.Call (.Name x np) [e1] [] cpos) X.env)=Di (.Call (.Name x np) [e1] [] cpos) X.env)):DE K W b_ X (.Attribute (.Call (.Name x np) [e1] [] cpos) g pos) fe:=
 (pe_mkfld FB z y t n F l w m Z Y (ax c aK I) o J I b).imp λσ H Q ⟨F,ρ,r,s,p⟩=>by
  refine b6 r s (λe u=>by rw[u]at p;exact p) λd hd v F1 H1 h q=>⟨v,rfl,λa d' c U j=>?_⟩
  rw[hd]at p;have i:Step F1 H1 F1 (upd H1 d' (XD d' [(g,v)])):=Step.grow h.fh U;exact p v F1 _ (h.trans (i.trans (Step.grow i.fh (by rw[ao (DL j)];exact c)))) q
end
noncomputable def zt:Dat->Dat->M Dat
 |.str z,.int n=>if z.length<=100/\0<=n/\n<=10000 then .ok (.str (Io z n))else stk
 |_,_=>stk
theorem o_mulB{W:dS}{own:Bool}:Op2 K W own X (EI .Mult) zt:=by
 intro pins s σ H x y v u Q I c Y h;obtain⟨F,a,b,U,e,d,p⟩:=h;cases a with
 |str z=>cases b with
  |int n=>
   have p:aH K W own F H (if z.length<=100/\0<=n/\n<=10000 then .ok (.str (Io z n))else stk) Q:=p;cases(show x=V.str z from e);cases(show y=V.int n from d);obtain⟨t,rfl⟩:=(show ∃t,v=Ex z t from c)
   obtain⟨t',rfl⟩:=(show ∃t,u=Gy n t from Y)
   by_cases J:z.length<=100/\0<=n/\n<=10000
   ·rw[i_ J]at p;obtain⟨h1,h2,i⟩:=J;have f:MulOk z n:=by
     refine⟨?_,λg _=>?_,λg _=>?_⟩
     ·rw[Bool.or_eq_false_iff];exact⟨f_ (by omega),f_ (by omega)⟩
     ·have:(z.length:Int)<=(2^63-1)/n:=by
       refine(Int.le_ediv_iff_mul_le (by omega)).mpr ?_;have a:(z.length:Int)*n<=100*10000:=Int.mul_le_mul (by omega) (by omega) (by omega) (by omega);omega
      omega
     ·have a:z.length*n.toNat<=100*10000:=Ks h1 (by omega);exact f_ (by rw[Dq];omega)
    exact SB.mul f λt1 k=>⟨.str (Io z n),H,I.tok _,⟨_,rfl⟩,p.str U⟩
   ·rw[l_ J]at p;exact aH.stuck p
  |_=>exact aH.stuck p
 |_=>exact aH.stuck p
noncomputable abbrev kFs(v:V)(k:Int):List (o_×V):=[("sheet",v),("shift",.int k)]
structure Dk(K:Fg)(C:g_)(F H:Hp)(p dx:g_)(v:V)(S:Dat)(k:Int):Prop where
 fh:aO F H
 ob:H p=a_ (.ins C dx (kFs v k))
 fp:F p=d_
 sh:aP K F S v
section
variable{F2:Hp}{p:g_}{v':V}{S:Dat}{k:Int} 
theorem Dk.step(d:Dk K C F H p dx v S k)(s:Step F H F' H'):Dk K C F' H' p dx v S k:=⟨s.fh,s.hh _ _ d.ob,s.stays d.fp d.ob,d.sh.mono s.ff⟩
theorem nF(s:aO F H)(I:F p=d_):aO F (upd H p o):=λc u e=>by
 have J:c≠p:=λz=>by rw[z,I]at e;cases e
 rw[ao J];exact s _ _ e
theorem Dk.put(d:Dk K C F H p dx v S k)(q:aP K F S' v'):Dk K C F (upd H p (.ins C dx (kFs v' k'))) p dx v' S' k':=⟨nF d.fh d.fp,aq,d.fp,q⟩
theorem Abt.of(s:Step F H F' H')(f:F p=d_)(I:H p=a_ o):Abt p F H F' H':=⟨s.ff,s.fh,s.stays f I,s.nw,λc u e _=>s.hh c u e⟩
theorem Abt.put(a:Abt p F H F' H'):Abt p F H F' (upd H' p o):=⟨a.ff,nF a.fh a.fp,a.fp,a.nw,λc u e I=>by rw[ao I];exact a.hh c u e I⟩
theorem Abt.trans(a:Abt p F H F' H')(b:Abt p F' H' F2 H2):Abt p F H F2 H2:=⟨a.ff.trans b.ff,b.fh,b.fp,λc u e=>(b.nw c u e).elim (a.nw c u) λz=>.inr (by
 cases J:H c with
 |none=>rfl|some o'=>
  have I:c≠p:=λw=>by rw[w,b.fp]at e;cases e
  rw[a.hh c o' J I]at z;cases z),λc u e I=>b.hh c u (a.hh c u e I) I⟩
theorem Abt.from(s:Step F0 H0 F H)(a:Abt p F H F' H')(I:H0 p=d_):Step F0 H0 F' H':=⟨s.ff.trans a.ff,λc u e=>a.hh c u (s.hh c u e) (λz=>by rw[z,I]at e;cases e),a.fh,λc u e=>(a.nw c u e).elim (s.nw c u) λz=>.inr (s.hh.free z)⟩
end
theorem putS2(a b v:V):oE ("shift":o_) v [(("sheet":o_),a),(("shift":o_),b)]=[(("sheet":o_),a),(("shift":o_),v)]:=by show(if ("sheet":o_)="shift" then _ else(("sheet":o_),a)::oE "shift" v [(("shift":o_),b)])=_;rw[l_ (by decide +kernel)];show _::(if ("shift":o_)="shift" then _ else _)=_;rw[i_ rfl]
noncomputable def spDI(K:Fg)(C:g_)(g:List Dat->M Dat):Sp:=λvs H Q E=>∃p dx v F d,vs=[.ref p,v]/\H p=a_ (.ins C dx [])/\F p=d_/\aO F H/\aP K F d v/\(match g [d]with
 |.ok r=>∀w F' H',Abt p F H F' H'->Dk K C F' H' p dx w r 0->Q .non H'|.error e=>∀F' H',Abt p F H F' H'->(WE K E).p e F' H')
theorem len_DI(h:spDI K C g vs H Q E):vs.length=2:=by obtain⟨_,_,_,_,_,rfl,_⟩:=h;rfl
theorem rs_initK(b:Cls K C)(U:∀y∈(["sheet","shift"]:List o_),b8 K C y)(h:spDI K C g vs H Q E):
  iJ (tY K (cn 0) (eY (spX K b_ g 1) [] E (aM (cn 1) dR)) "sheet") (tY K (cn 0) (tC (.int 0)) "shift") {nx:=λ_ H'=>Q .non H',rt:=Q} (start ["self","text"] vs) H:=by
 obtain⟨p,dx,v,F,d,rfl,I,a,J,f,q⟩:=h;refine⟨v,rfl,F,[d],J,⟨v,[],rfl,f,rfl⟩,rfl,?_⟩
 cases Y:g [d]with
 |error e=>rw[Y]at q;exact q F H (Abt.of (Step.refl J) a I)|ok r=>
  rw[Y]at q;intro u F' H' st c;have ab:=Abt.of st a I;refine⟨_,rfl,p,C,dx,[],rfl,st.hh _ _ I,b,U _ (by simp),(by show 0<1000;decide),?_⟩
  refine⟨_,rfl,p,C,dx,_,rfl,aq,b,U _ (by simp),(by show 1<1000;decide),?_⟩
  rw[show oE ("sheet":o_) u []=[(("sheet":o_),u)]from rfl,jq _ _ _ (by show("shift":o_)∉(["sheet"]:List o_);decide +kernel)];exact q u F' _ ab.put.put ⟨nF (nF ab.fh ab.fp) ab.fp,aq,ab.fp,c⟩
noncomputable def sayD(CE:g_)(t1 t2:ai->M Bool)(mw ms mc:List Dat->M Dat)(S:Dat)(k:Int)(r:Dat):M (Dat×Int):=
 (noX (t1 [d_,a_ r,d_])).bind λb=>if b=e_ then .error (.exc CE [])else(noX (mw [r])).bind λw=>(noX (t2 [d_,a_ r,a_ w])).bind λb=>if b=e_ then(ms [w]).bind λd=>(match d with
  |.int j=>.ok (S,j)|_=>stk)else(mc [S,w]).bind λS'=>.ok (S',k)
section
variable(K:Fg)(C p dx:g_)(Q:VK)(E:XK)
noncomputable def SayQ(m:M (Dat×Int))(F H:Hp):Prop:=match m with
 |.ok z=>∀v' F' H',Abt p F H F' H'->Dk K C F' H' p dx v' z.1 z.2->Q .non H'|.error e=>∀F' H',Step F H F' H'->(WE K E).p e F' H'
end
section
variable{p CE CS:g_}{m:M (Dat×Int)} 
theorem SayQ.step(q:SayQ K C p dx Q E m F H)(s:Step F H F1 H1)(f:F p=d_)(I:H p=a_ o):SayQ K C p dx Q E m F1 H1:=by
 cases m with
 |error e=>exact λF' H' s'=>q F' H' (s.trans s')|ok z=>exact λv' F' H' ab d=>q v' F' H' ((Abt.of s f I).trans ab) d
theorem SayQ.stuck{P:Prop}(q:SayQ K C p dx Q E m F H)(s:aO F H)(h:m=.error .stuck):P:=by subst h;exact((WE K E).ns (q F H (Step.refl s))).elim
noncomputable def vS(K:Fg)(C:g_)(sy:Dat->Int->Dat->M (Dat×Int)):Sp:=λvs H Q E=>∃p dx v F S k r I,vs=[.ref p,I]/\Dk K C F H p dx v S k/\aP K F r I/\SayQ K C p dx Q E (sy S k r) F H
theorem len_say(h:vS K C sy vs H Q E):vs.length=2:=by obtain⟨_,_,_,_,_,_,_,_,rfl,_⟩:=h;rfl
theorem rep3{a b:V}{r w:Dat}{x:V}(J:aP K F r b)(I:aP K F w x):gz K F [a_ a,a_ b,a_ x] [d_,a_ r,a_ w]:=⟨rfl,λj d h=>by
 match j,h with
 |0,h=>cases h|1,h=>cases h;exact⟨b,rfl,J⟩|2,h=>cases h;exact⟨x,rfl,I⟩|j+3,h=>simp at h⟩
theorem rs_say{mc:List Dat->M Dat}{tx:o_}(x:Cls K C)(t:∀y∈(["sheet","shift"]:List o_),b8 K C y)(h:vS K C (sayD CE t1 t2 mw ms mc) vs H Q E):
  iJ (nC (tDT K Wno t1) (tRaise (tC (.str tx)) CE E) i8) (iJ (yL (eY (spF K b_ mw 1) [] E1 (aM (cn 1) dR)) (gS 2)) (nC (tDT K Wno t2) (tY K (cn 0) (eY (spX K b_ ms 1) [] E (aM (cn 2) dR)) "shift") (tY K (cn 0) (eY (spX K b_ mc 2) [] E (aM (pV K (cn 0) "sheet") (aM (cn 2) dR))) "sheet"))) {nx:=λ_ H'=>Q .non H',rt:=Q} (start ["self","row","words"] vs) H:=by
 obtain⟨p,dx,v,F,S,k,r,l,rfl,d,J,q⟩:=h;refine hX (gz.only (σ:=[a_ (.ref p),a_ l,d_]) (i:=1) rfl J) d.fh (λe c=>?_) λb f F1 H1 o=>?_
 ·have c:t1 [d_,a_ r,d_]=.error e:=c;exact q.stuck d.fh (by unfold sayD;rw[c];rfl)
 have f:t1 [d_,a_ r,d_]=.ok b:=f;have q:=q.step o d.fp d.ob;have d:=d.step o;have J:=J.mono o.ff;unfold sayD at q;rw[f,dJ,ae]at q;cases b with
 |true=>exact q F1 H1 (Step.refl d.fh) F1 H1 (Step.refl d.fh)|false=>
  rw[l_ (by decide)]at q;refine⟨l,rfl,F1,[r],d.fh,⟨l,[],rfl,J,rfl⟩,rfl,?_⟩
  cases hw:mw [r]with
  |error e=>exact q.stuck d.fh (by rw[hw];rfl)|ok w=>
   rw[hw,dJ,ae]at q;intro u F2 H2 n U;have q:=q.step n d.fp d.ob;have d:=d.step n;have J:=J.mono n.ff;refine hX (rep3 (a:=.ref p) J U) d.fh (λe c=>?_) λb f g B m=>?_
   ·exact q.stuck d.fh (by rw[c];rfl)
   rw[f,dJ,ae]at q;have q:=q.step m d.fp d.ob;have d:=d.step m;have U:aP K g w u:=aP.mono m.ff U;cases b with
   |true=>
    rw[i_ rfl]at q;refine⟨u,rfl,g,[w],d.fh,⟨u,[],rfl,U,rfl⟩,rfl,?_⟩
    cases Y:ms [w]with
    |error e=>rw[Y]at q;exact q g B (Step.refl d.fh)|ok z=>
     rw[Y,ae]at q;intro y A D I s;cases z with
     |int j=>
      cases(show y=V.int j from s);refine⟨.ref p,rfl,p,C,dx,_,rfl,I.hh _ _ d.ob,x,t _ (by simp),(by show 2<1000;decide),?_⟩
      rw[putS2];exact q v A _ (Abt.of I d.fp d.ob).put ((d.step I).put (d.sh.mono I.ff))
     |_=>exact q.stuck d.fh rfl
   |false=>
    rw[l_ (by decide)]at q;refine⟨.ref p,rfl,p,C,dx,_,v,rfl,d.ob,x,t _ (by simp),rfl,u,rfl,g,[S,w],d.fh,⟨v,[u],rfl,d.sh,u,[],rfl,U,rfl⟩,rfl,?_⟩
    cases Y:mc [S,w]with
    |error e=>rw[Y]at q;exact q g B (Step.refl d.fh)|ok z=>
     rw[Y,ae]at q;intro y A D I s;refine⟨.ref p,rfl,p,C,dx,_,rfl,I.hh _ _ d.ob,x,t _ (by simp),(by show 2<1000;decide),?_⟩
     exact q y A _ (Abt.of I d.fp d.ob).put ((d.step I).put s)
noncomputable def mD(CS:g_)(m:o_)(mt:List Dat->M Dat)(S:Dat):M Dat:=if isC CS m S=e_ then mt [S]else stk
noncomputable def qL(K:Fg)(C:g_)(f:Dat->M Dat):Sp:=λvs H Q _=>∃p dx v F S k,vs=[.ref p]/\Dk K C F H p dx v S k/\aH K Wno b_ F H (f S) Q
theorem len_show{f:Dat->M Dat}(h:qL K C f vs H Q E):vs.length=1:=by obtain⟨_,_,_,_,_,_,rfl,_⟩:=h;rfl
theorem rs_show{m:o_}{mt:List Dat->M Dat}(f:Cls K C)(a:∀y∈(["sheet","shift"]:List o_),b8 K C y)(h:qL K C (mD CS m mt) vs H Q E):
  qJ (pU CS m (spF K b_ mt 1) [] E1 (pV K (cn 0) "sheet") dR) {nx:=λ_ H'=>Q .non H',rt:=Q} (start ["self"] vs) H:=by
 obtain⟨p,dx,v,F,S,k,rfl,d,q⟩:=h;unfold mD at q;by_cases J:isC CS m S=e_
 ·rw[i_ J]at q;have ds:=d.sh;cases S with
  |ins D gs=>
   obtain⟨l,Y,fs,e1,c,e⟩:=id ds;have I:((D==CS)&&(gs.lookup m).isNone)=e_:=J;rw[n_]at I;obtain⟨U,b⟩:=I;have U:D=CS:=by simpa using U
   subst U;exact⟨.ref p,rfl,p,C,dx,_,v,rfl,d.ob,f,a _ (by simp),rfl,l,Y,fs,e1,d.fh _ _ c,e.at.2 (by simpa using b),F,[.ins D gs],d.fh,⟨v,[],rfl,ds,rfl⟩,rfl,q⟩
  |_=>cases J
 ·rw[l_ J]at q;exact aH.stuck q
noncomputable def AI(K:Fg)(C CE:g_)(sy:Dat->Int->Dat->M (Dat×Int)):Sp:=λvs H Q _=>∃p dx v F S k r I,vs=[.ref p,I]/\Dk K C F H p dx v S k/\aP K F r I/\sy S k r=.error (.exc CE [])/\∀F' H',Step F H F' H'->Q (.bl e_) H'
theorem len_ref(h:AI K C CE sy vs H Q E):vs.length=2:=by obtain⟨_,_,_,_,_,_,_,_,rfl,_⟩:=h;rfl
theorem gz.nones:gz K F σ (D7 σ.length d_):=⟨by simp,λi d h=>by rw[FX]at h;split at h<;>cases h⟩
theorem rs_ref{m:o_}{ys:List g_}(w:∀v k,(kFs v k).lookup m=d_)(I:fe [d_,d_,a_ (.lst [.bl e_,.bl e_,.bl b_]),d_]=.ok (.bl e_))(h:AI K C CE sy vs H Q E):
  iJ (yL (AA dR) (gS 2)) (iJ (tTry (λE=>pW (pU C m (vS K C sy) [] E (cn 0) (aM (cn 1) dR))) 3 CE (λa dx=>As K 3 2 e_ e_ b_ ys a dx)) (qJ (tD K Wno b_ fe))) {nx:=λ_ H'=>Q .non H',rt:=Q} (start ["_law_desk","_law_row_here","_law_told","e"] vs) H:=by
 obtain⟨p,dx,v,F,S,k,r,J,rfl,d,s,u,q⟩:=h;refine⟨FK _,λl x=>?_⟩
 have g:Step F H F (upd H l (.lst [])):=Step.grow d.fh x;have i:=d.step g;refine⟨.ref p,rfl,p,dx,_,rfl,i.ob,w _ _,J,rfl,p,dx,v,F,S,k,r,J,rfl,i,s,?_⟩
 rw[u];intro F' H' n F2 H2 f;refine⟨rfl,λa A=>?_⟩
 have st:=(g.trans n).trans f;have o:Rep K F2 H2 F2 [] F2 H2 [a_ (.ref p),a_ J,a_ (.ref l),d_] [d_,d_,d_,d_]:=Rep.ofE (gz.nones (σ:=[a_ (.ref p),a_ J,a_ (.ref l),d_])) (Step.refl f.fh) (aO.refl _);refine AS (W:=Wno) (ro:=b_) (OL:=[]) o (by decide) (by show 3<4;decide) (by show 2<4;decide) λσ D B c=>?_;refine b6 c.repE c.st.fh (λe U=>?_) λb Y v' z y j t=>?_
 ·have U:fe [d_,d_,a_ (.lst [.bl e_,.bl e_,.bl b_]),d_]=.error e:=U;rw[I]at U;cases U
 ·have Y:fe [d_,d_,a_ (.lst [.bl e_,.bl e_,.bl b_]),d_]=.ok b:=Y;rw[I]at Y;cases Y;cases(show v'=V.bl e_ from t);exact q z y ((st.trans c.st).trans j)
end
noncomputable def eqT:Dat->Dat->Bool
 |.str a,.str b=>q_ (a=b)|_,_=>b_
noncomputable def refD(CE:g_)(sy:Dat->Int->Dat->M (Dat×Int))(f:Dat->M Dat)(t S r:Dat):M (Dat×Int):=match sy S 0 r with
 |.error (.exc C [])=>if C=CE then(noX (f S)).bind λu=>if eqT u t=e_ then .ok (S,0)else stk else stk
 |_=>stk
noncomputable def turnD(CE:g_)(gR:List Dat->M Dat)(sy:Dat->Int->Dat->M (Dat×Int))(f:Dat->M Dat)(t r a b:Dat)(I:Bool):M Unit:=
 (noX (gR [t])).bind λS=>(if I=e_ then noX (sy S 0 r)else refD CE sy f t S r).bind λz=>(noX (sy z.1 z.2 a)).bind λz=>(noX (sy z.1 z.2 b)).bind λ_=>.ok ()
noncomputable def AO(CE:g_)(gR:List Dat->M Dat)(sy:Dat->Int->Dat->M (Dat×Int))(f:Dat->M Dat)(di:Nat)(ft fr:ai->M Dat)(fg:ai->M Bool)(a b:o_):ai->M Flo:=λρ=>if di<ρ.length then(noX (ft ρ)).bind λt=>(noX (fg (ρ.set di d_))).bind λg=>(noX (fr (ρ.set di d_))).bind λr=>(noX (ft (ρ.set di d_))).bind λt'=>if eqT t' t=e_ then
 (turnD CE gR sy f t r (.str a) (.str b) g).bind λ_=>.ok (.nx (ρ.set di d_))else stk else stk
structure Ki(K:Fg)(C:g_)(F0 H0 FB:Hp)(ρ:ai)(di:Nat)(p dx:g_)(F H:Hp)(σ:St)(w:V)(S:Dat)(k:Int):Prop where
 d:Dk K C F H p dx w S k
 r:gz K F σ ρ
 st:Step F0 H0 F H
 fb:aO FB F
 sl:σ[di]?=a_ (a_ (.ref p))
 h0:H0 p=d_
noncomputable def EN:XK:=λ_ _ _=>False
section
variable{CE:g_}{p:g_}{w w':V}{S:Dat}{k:Int}{t:TE}{r:Dat}{z:Dat×Int}
theorem Ki.step(I:Ki K C F0 H0 FB ρ di p dx F H σ w S k)(s:Step F H F' H'):Ki K C F0 H0 FB ρ di p dx F' H' σ w S k:=⟨I.d.step s,I.r.mono s.ff,I.st.trans s,I.fb.trans s.ff,I.sl,I.h0⟩
theorem Ki.abt(I:Ki K C F0 H0 FB ρ di p dx F H σ w S k)(a:Abt p F H F' H')(d:Dk K C F' H' p dx w' S' k'):Ki K C F0 H0 FB ρ di p dx F' H' σ w' S' k':=⟨d,I.r.mono a.ff,a.from I.st I.h0,I.fb.trans a.ff,I.sl,I.h0⟩
noncomputable def Arg(K:Fg)(t:TE)(r:Dat)(F H:Hp)(σ:St):Prop:=∀R:VK,(∀F1 H1 v,Step F H F1 H1->aP K F1 r v->R v H1)->t σ H R
theorem Ki.say(I:Ki K C F0 H0 FB ρ di p dx F H σ w S k)(c:∀v k,(kFs v k).lookup m=d_)(b:Arg K t r F H σ)(e:sy S k r=.ok z)(J:∀w' F' H',Ki K C F0 H0 FB ρ di p dx F' H' σ w' z.1 z.2->Q .non H'):pU C m (vS K C sy) [] E (cn di) (aM t dR) σ H Q:=by
 refine⟨.ref p,I.sl,p,dx,_,rfl,I.d.ob,c _ _,b _ λF1 H1 U Y a=>?_⟩
 have I:=I.step Y;refine⟨p,dx,w,F1,S,k,r,U,rfl,I.d,a,?_⟩
 rw[e];exact λv' F' H' ab d=>J v' F' H' (I.abt ab d)
theorem Ki.arg{f:ai->M Dat}(I:Ki K C F0 H0 FB ρ di p dx F H σ w S k)(e:f ρ=.ok r):Arg K (tD K Wno b_ f) r F H σ:=λ_ h=>b6 I.r I.d.fh (λx J=>by rw[e]at J;cases J) λd hd v F1 H1 U Y=>by rw[e]at hd;cases hd;exact h F1 H1 v U Y
theorem Ki.text{a:o_}(I:Ki K C F0 H0 FB ρ di p dx F H σ w S k):Arg K (tC (.str a)) (.str a) F H σ:=λ_ h=>h F H _ (Step.refl I.d.fh) rfl
abbrev rR(K:Fg)(C:g_)(m:o_)(sy:Dat->Int->Dat->M (Dat×Int))(di:Nat)(t:TE):TT:=tB (tNotN (pU C m (vS K C sy) [] EN (cn di) (aM t dR)))
theorem Ki.said(I:Ki K C F0 H0 FB ρ di p dx F H σ w S k)(Y:∀v k,(kFs v k).lookup m=d_)(U:Arg K t r F H σ)(e:sy S k r=.ok z)(J:∀w' F' H',Ki K C F0 H0 FB ρ di p dx F' H' σ w' z.1 z.2->R b_ H'):rR K C m sy di t σ H R:=
 I.say Y U e λw' F' H' a=>⟨_,rfl,by rw[r_ (rfl:V.non=V.non)];exact J w' F' H' a⟩
theorem BP{a b:Dat}(h:eqT a b=e_):∃x,a=.str x/\b=.str x:=by
 cases a<;>cases b<;>first|cases h|skip
 exact⟨_,rfl,by rw[EV h]⟩
theorem rs_turn{D:Ends}{f:Dat->M Dat}{ft fr:ai->M Dat}{a b:o_}{O N Y:TS}(R:∀v k,(kFs v k).lookup m=d_)(Q:∀v k,(kFs v k).lookup mt=d_)(t:tS K Wno ro F0 H0 OL [] [] (AO CE gR sy f di ft fr fg a b) D σ H):
  iJ (yL (uc C (spDI K C gR) [] EN (aM (tD K Wno b_ ft) dR)) (gS di)) (iJ (nC (tDT K Wno fg) (nC (rR K C m sy di (tD K Wno b_ fr)) O i8)
   (nC (tOr (tNot (tTr K (eY (AI K C CE sy) [] E (aM (cn di) (aM (tD K Wno b_ fr) dR))))) (Ay (tOp rNe (pU C mt (qL K C f) [] E1 (cn di) dR) (tD K Wno b_ ft)))) N i8))
   (nC (tOr (rR K C m sy di (tC (.str a))) (rR K C m sy di (tC (.str b)))) Y i8)) D σ H:=by
 obtain⟨FB,F,ρ,r,q⟩:=t;unfold AO at q;split at q
 rotate_left
 ·exact q.stuck rfl
 rename_i hd;have P:=r.repE;have ls:=P.len;refine b6 P r.st.fh (λe B=>by rw[B]at q;exact q.stuck rfl) λt ht vt F1 H1 J q1=>?_;rw[ht,dJ,ae]at q;intro x dx p l hne;cases A:fg (ρ.set di d_)with
 |error e=>rw[A]at q;exact q.stuck rfl|ok g=>
 rw[A,dJ,ae]at q;cases s:fr (ρ.set di d_)with
 |error e=>rw[s]at q;exact q.stuck rfl|ok r'=>
 rw[s,dJ,ae]at q;cases U:ft (ρ.set di d_)with
 |error e=>rw[U]at q;exact q.stuck rfl|ok t'=>
 rw[U,dJ,ae]at q;split at q
 rotate_left
 ·exact q.stuck rfl
 rename_i X;unfold turnD at q;cases Z:gR [t]with
 |error e=>rw[Z]at q;exact q.stuck rfl|ok S=>
 rw[Z,dJ,ae]at q;refine⟨x,dx,vt,F1,t,rfl,aq,J.fh.free p,λc o e=>?_,q1,?_⟩
 ·have hc:c≠x:=λh=>by rw[h,J.fh.free p]at e;cases e
  have hd:c≠dx:=λh=>by rw[h,J.fh.free l]at e;cases e
  rw[ao hc,ao hd];exact J.fh _ _ e
 rw[Z];intro w F2 H2 ab d;refine⟨rfl,?_⟩
 have st2:=ab.step p l;have I:Ki K C F0 H0 FB (ρ.set di d_) di x dx F2 H2 (σ.set di (a_ (.ref x))) w S 0:=⟨d,(P.mono (J.ff.trans st2.ff)).hide di (a_ (.ref x)),(r.st.trans J).trans st2,r.fb.trans (J.ff.trans st2.ff),s_ (by rw[<- ls];exact hd),(r.st.hh.trans J.hh).free p⟩
 have n:∀{F3 L:Hp} {w:V} {z:Dat×Int},Ki K C F0 H0 FB (ρ.set di d_) di x dx F3 L (σ.set di (a_ (.ref x))) w z.1 z.2->gT K Wno ro F0 H0 FB OL [] D (((noX (sy z.1 z.2 (.str a))).bind λz=>(noX (sy z.1 z.2 (.str b))).bind λ_=>.ok ()).bind λ_=>.ok (.nx (ρ.set di d_))) ->
   nC (tOr (rR K C m sy di (tC (.str a))) (rR K C m sy di (tC (.str b)))) Y i8 D (σ.set di (a_ (.ref x))) L:=λ{F3 L w z} I q=>by
  cases h1:sy z.1 z.2 (.str a)with
  |error e=>rw[h1]at q;exact q.stuck rfl|ok z1=>
  rw[h1,dJ,ae]at q;cases h2:sy z1.1 z1.2 (.str b)with
  |error e=>rw[h2]at q;exact q.stuck rfl|ok z2=>
  rw[h2,dJ,ae,ae]at q;refine I.said R I.text h1 λw1 F4 H4 G=>?_;rw[l_ (by decide)];refine G.said R G.text h2 λw2 F5 H5 I2=>?_;rw[l_ (by decide)];exact q _ F5 H5 (Rep.ofE I2.r I2.st I2.fb)
 refine hX I.r I.d.fh (λe B=>by rw[A]at B;cases B) λg' j F3 L s3=>?_;rw[A]at j;cases j;have I:=I.step s3;cases g with
 |true=>
  rw[i_ rfl]at q ⊢;cases i:sy S 0 r' with
  |error e=>rw[i]at q;exact q.stuck rfl|ok z=>
  rw[i,dJ,ae]at q;refine I.said R (I.arg s) i λw1 F4 H4 G=>?_;rw[l_ (by decide)];exact n G q
 |false=>
  rw[l_ (by decide)]at q ⊢;unfold refD at q;split at q
  rotate_left
  ·exact q.stuck rfl
  rename_i CC i;split at q
  rotate_left
  ·exact q.stuck rfl
  rename_i hC;subst hC;cases T:f S with
  |error e=>rw[T]at q;exact q.stuck rfl|ok u=>
  rw[T,dJ,ae]at q;split at q
  rotate_left
  ·exact q.stuck rfl
  rename_i W;rw[ae]at q;refine⟨.ref x,I.sl,I.arg s _ λF4 H4 v4 s4 q4=>?_⟩
  have I:=I.step s4;refine⟨x,dx,w,F4,S,0,r',v4,rfl,I.d,q4,i,λF5 H5 s5=>⟨e_,rfl,?_⟩⟩
  have I:=I.step s5;dsimp only[];rw[l_ (by decide)];refine⟨.ref x,I.sl,x,dx,_,rfl,I.d.ob,Q _ _,x,dx,w,F5,S,0,rfl,I.d,?_⟩
  rw[T];intro vu F6 H6 s6 q6;have I:=I.step s6;refine I.arg U _ λF7 H7 v7 s7 q7=>?_;have I:=I.step s7;obtain⟨y,rfl,rfl⟩:=BP W;obtain⟨y',rfl,e'⟩:=BP X;cases e';cases(show vu=V.str y from q6);cases(show v7=V.str y from q7);refine⟨rfl,_,rfl,?_⟩
  rw[r_ rfl];exact n (z:=(S,0)) I q
end
section
variable{CE:g_} 
theorem ds_turn{I:DX}{f:Dat->M Dat}{ft fr:ai->M Dat}{a b:o_}(h:PSs X [st1,st2,I] (iJ (yL (uc C (spDI K C gR) [] EN (aM (tD K Wno b_ ft) dR)) (gS di)) (iJ (nC (tDT K Wno fg) (nC (rR K C m sy di (tD K Wno b_ fr)) (qJ (tC (.bl b_))) i8)
   (nC (tOr (tNot (tTr K (eY (AI K C CE sy) [] E0 (aM (cn di) (aM (tD K Wno b_ fr) dR))))) (Ay (tOp rNe (pU C mt (qL K C f) [] EN (cn di) dR) (tD K Wno b_ ft)))) (qJ (tC (.bl b_))) i8))
   (nC (tOr (rR K C m sy di (tC (.str a))) (rR K C m sy di (tC (.str b)))) (qJ (tC (.bl b_))) i8))))(U:autoParam (∀v k,(kFs v k).lookup m=d_) Jq10)(J:autoParam (∀v k,(kFs v k).lookup mt=d_) Jq10):DSs K Wno ro X OL [] [] [st1,st2,I] (AO CE gR sy f di ft fr fg a b):=λ_ _=>PSs.imp h λ_ _ _=>rs_turn U J
end
noncomputable def newK(C:g_)(g:List Dat->M Dat):List Dat->M Dat
 |[d]=>(g [d]).bind λS=>.ok (.ins C [("sheet",S),("shift",.int 0)])|_=>stk
section
variable{fr:ai->M (List Dat)} 
theorem rd_newK{W:dS}(hw:∀e F H,W.p e F H->(WE K E).p e F H)(h:tD K W b_ (fL (newK C g) fr) σ H Q):uc C (spDI K C g) [] E (tDA K W fr) σ H Q:=by
 obtain⟨F,ρ,r,s,p⟩:=rd_L h;refine⟨F,ρ,r,s,?_⟩
 cases e1:fr ρ with
 |error z=>rw[e1]at p;exact p|ok ds=>
  rw[e1]at p;intro vs F1 H1 st q;obtain⟨F2,f,J,k,z⟩:=p vs F1 H1 st q;rcases f with _|⟨d,_|⟨_,_⟩⟩
  ·exact(W.ns z).elim
  rotate_left
  ·exact(W.ns z).elim
  ·obtain⟨v,a,rfl,j,l⟩:=k;cases(show a=[]from l);intro x dx Y I b;refine⟨x,dx,v,F2,d,rfl,aq,J.free Y,λc o e=>?_,j,?_⟩
   ·have m:c≠x:=λh=>by rw[h,J.free Y]at e;cases e
    have hd:c≠dx:=λh=>by rw[h,J.free I]at e;cases e
    rw[ao m,ao hd];exact J _ _ e
   ·have z:aH K W b_ F2 H1 ((g [d]).bind λS=>.ok (.ins C [("sheet",S),("shift",.int 0)])) Q:=z;cases U:g [d]with
    |error e=>rw[U]at z;exact λF' H' ab=>hw _ _ _ (W.mono z (ab.step Y I))|ok r=>
     rw[U]at z;intro w F' H' ab i;refine⟨rfl,z (.ref x) (upd F' x (.ins C dx (kFs w 0))) H' (ab.born J Y I b i.ob) ?_⟩
     exact⟨x,dx,_,rfl,aq,w,_,rfl,aP.mono (aO.upd ab.fp) i.sh,_,_,rfl,rfl,rfl⟩
theorem dea_newK(Y:Mk X.K C fI)(j:eZ X.prog X.w X.K X.mg X.base CX k fI fdI ps (spDI K C g))(a:gA CX X pins σ E)(b:fV (k+1) X.A)(c:X.mg x=a_ (.ref C))(f:Binds X.K fdI ps [])(i:DA K (WE K E) X [e] fr)(d: ~~~(Gl X x))(U:((x==("__debug__":o_))=b_)⁻¹)(I: ~~~(h_ [e] X.env=(b_,Di e X.env)::h_ [] X.env))(J: ~~~((DB pos (h_ [] X.env)).any (·.1)=b_)):
  DEat K E b_ X pins σ (.Call (.Name x p) [e] [] pos) (fL (newK C g) fr):=PEat.imp (at_make Y j a b c f .nil i d U I J) λ_ _ h=>rd_newK (λ_ _ _ z=>z) h
end
noncomputable def qF(i j:Nat)(f1:o_)(b1:Bool):List (o_×Dat)->ai->M ai:=λfs ρ=>match fs.lookup f1 with
 |some (.int k)=>.ok ((ρ.set j (a_ (.lst [.int k,.bl b1]))).set i d_)|_=>.error .stuck
@[simp] theorem e_xToldR(i j:Nat)(f1:o_)(b1:Bool)(k:Int)(fs:List (o_×Dat))(ρ:ai):qF i j f1 b1 ((f1,.int k)::fs) ρ=.ok ((ρ.set j (a_ (.lst [.int k,.bl b1]))).set i d_):=by unfold qF;rw[w_,GQ]
abbrev Ax(i j:Nat)(f1:o_)(b1:Bool)(a d:g_):TS:=yL (AA (aM (tFldX i a d f1) (aM (tIsiR i a (XDk d) b1) dR))) (gS j)
noncomputable def tsToldR(i j:Nat)(f1:o_)(b1:Bool)(a:g_):Option g_->TS
 |none=>Az|some d=>Ax i j f1 b1 a d
section
variable{D:Ends}{d:g_}{gs:List (o_×V)}{fs:List (o_×Dat)}{f1:o_} 
theorem rs_toldR(r:Rep K F0 H0 FB O F H σ ρ)(hd:F d=a_ (.xd gs))(h:ir K F fs gs)(U:i≠j)(hi:i<σ.length)(f:j<σ.length)(Y:i∉O)(J:j∉O)(q:gT K Wno ro F0 H0 FB OL O D ((qF i j f1 b1 fs ρ).bind λρ'=>.ok (.nx ρ'))):
  Ax i j f1 b1 a d (D.less i) (σ.set i (a_ (.ref a))) H:=by
 have m:=Dq;have c:H d=a_ (.xd gs):=r.st.fh d _ hd;have e1:(σ.set i (a_ (.ref a)))[i]?=a_ (a_ (.ref a)):=by rw[s_ hi]
 unfold qF at q;cases I:fs.lookup f1 with
 |none=>rw[I]at q;exact(Wno.ns q).elim|some b=>
 rw[I]at q;cases b with
 |int k=>
  obtain⟨v,g,e⟩:=h.at.1 _ I;cases(show v=V.int k from e);refine⟨e1,gs,.int k,c,g,e1,⟨gs,c⟩,by show 2<=m_;omega,λl I=>?_⟩
  exact q _ _ _ (r.told U hi f Y J I ⟨_,_,rfl,rfl,_,_,rfl,rfl,rfl⟩)
 |_=>exact(Wno.ns q).elim
end
section
variable{c n to:o_}{fb:ai->M Flo}{f1:o_} 
theorem ds_toldR(t:∀(pins:Pn) (σ:St) (E:XK) (g:Vp),gA (CXd X.prog X.w) (X.qH g) pins σ E->DSat K E ro (X.qH g) OL [] O pins σ body fb)(Z:XTry X.K X.mg c C)(u:X.N.Nodup)(l:∀(a d:g_) (oe:G8),oe.cls=.ref C->(∃vs,oe.data=.fields vs)->oe.dict=a_ d->PSs (X.hand a oe) (b₀::suite) (Ax i j f1 b1 a d))(U:(i≠j)⁻¹)(Y:(i∉O)⁻¹)(J:(j∉O)⁻¹)(hi: ~~~(X.N[i]?=a_ n))(o: ~~~(X.N[j]?=a_ to))(m: ~~~(X.env.scope.names.lookup n=a_ .local))(q: ~~~(Gl X c))(e: ~~~(X.ex=[]))(I: ~~~(X.stack=X.env::X.outer))(b: ~~~(X.env.frame=a_ X.env.locals))(f:((c==("__debug__":o_))=b_)⁻¹):
  DS K Wno ro X OL O O (.Try body [.ExceptHandler (a_ (.Name c np)) (a_ n) (b₀::suite) hpos] [] [] pos) (oy O C fb (qF i j f1 b1)):=by
 refine ds_tryF (ts:=λa dx=>tsToldR i j f1 b1 a dx) t (λa oe s hd=>?_) (λF0 H0 D σ a d gs fs FB F H ρ h r h1 h2 p=>rs_toldR r h1 h2 U ?_ ?_ Y J p) Z.nm (by decide +kernel) Z.mg u hi m q e I b f
 ·cases k:oe.dict with
  |none=>exact oF|some d=>exact l a d oe s hd k
 ·rw[h];exact(z_.mp hi).1
 ·rw[h];exact(z_.mp o).1
end
section
variable{base:DR}{q:o_} 
noncomputable def YN(_:∃f fd,Mth K C x q st ps f fd)(P:Ec)(w:Ek)(mg:Mq)(base:DR)(k:Nat)(sp:Sp):Prop:=∃f fd,Mth K C x q st ps f fd/\eZ P w K mg base (CXd P w) k f fd ps sp
theorem fN(N:List o_){h:∃f fd,Mth K C x q st ps f fd}(I:∀vs H Q E,sp vs H Q E->vs.length=ps.length)(U:∀z:B7,N.Nodup->fV k (z.A.deeper (Fn q (aA st) z.s.heap.objs.size z.f z.c))->∀(vs:List V) (Q:VK),sp vs z.H Q z.E->∃t,PSs (tM (CXd P w) P w K mg base N q (aA st) z.f z.c z.A z.o z.s z.H z.E) (bQ st) t/\t {nx:=λ_ H'=>Q .non H',rt:=Q} (start N vs) z.H)(S:autoParam (eA N ps (aA st)) Jq9):YN h P w mg base (k+1) sp:=
 let ⟨f,fd,D⟩:=h
 ⟨f,fd,D,D.fn.okE S I λc A o s H vs Q E J h=>U ⟨f,c,A,o,s,H,E⟩ S.nd J vs Q h⟩
end
theorem tF(I:K.In h)(G:h.Ns Du mg)(a:autoParam (JW K Du x=a_ (a_ (.ref C))) Jq2)(e:autoParam (FN K C [.type "ValueError",.type "Exception",.type "BaseException",.type "object"] "ValueError.__new__"=e_) Jq5):XTxt K mg x C:=⟨mg_of I G a,e⟩
theorem iF(U:autoParam (C_ K (.ref C) "__getattribute__"=a_ (a_ (.builtin "BaseException.__getattribute__"))) Jq2)(Y:autoParam (C_ K (.ref C) "__class__"=a_ (a_ (.builtin "object.__class__"))) Jq2)(J:autoParam (C_ K (.ref C) "__getattr__"=a_ d_) Jq2)(bs:autoParam (EG K C (.type "BaseException")=a_ e_) Jq2)(I:autoParam (EG K C (.type "object")=a_ e_) Jq2)(is:autoParam ((Hj K C).isSome=e_) Jq5):A5 K C:=⟨U,Y,J,bs,I,Ey.mp is⟩
section
variable{c n:o_}{tb:XK->TS}{ys:List g_}
theorem ps_told3(l:∀(pins:Pn) (σ:St) (E:XK) (b:Vp),gA (CXd X.prog X.w) (X.qH b) pins σ E->PSsAt (X.qH b) pins σ body (tb E))(Z:XTxt X.K X.mg c C)(m:X.N.Nodup)(f:∀(a:g_) (oe:G8),oe.cls=.ref C->(∃vs,oe.data=.fields vs)->oe.dict=d_->PSs (X.hand a oe) (b₀::suite) (iJ (yL (AA (aM (ud i a b1) (aM (ud i a b2) dR))) (gS j)) (pW (tBM K "list" jU (cn j) (aM (tIsiT i a ys b3) dR)))))(hi: ~~~(X.N[i]?=a_ n))(g: ~~~(X.env.scope.names.lookup n=a_ .local))(h: ~~~(Gl X c))(U: ~~~(X.ex=[]))(I: ~~~(X.stack=X.env::X.outer))(J: ~~~(X.env.frame=a_ X.env.locals))(Y:((c==("__debug__":o_))=b_)⁻¹):
  PS X (.Try body [.ExceptHandler (a_ (.Name c np)) (a_ n) (b₀::suite) hpos] [] [] pos) (tTry tb i C (λa dx=>As K i j b1 b2 b3 ys a dx)):=by
 refine ps_try l (λa oe k hd=>?_) (xnamed1 Z.ex) (by decide +kernel) Z.mg m hi g h U I J Y;cases e:oe.dict with
 |none=>exact f a oe k hd e|some d=>exact oF
end
end L2
namespace Ru
open PySem L2 PyProof.Rows
variable{mg:Mq}{x z o nm a b y:o_}{P:Ec}{C CP CS CW CD CK ANoRow AStripError ANoPlace ANoPlan ANoRules ANoSheet ANoTime ANotFree ATooMany:g_}{fd de: EJ}{n m k c j:Nat}{dU: g_}{i:Int}{g:PKs}{ks r ns Q:List o_}{rows r2:List (List Int)}{ρ:ai}{α:Type}{fA:ai->M Dat}{t:ai->M Bool}{A:ai->M Flo}
noncomputable def i6:ai->M Flo:=
 sIf (fB (f2 geD (ah 8) (ah 3)))
   (uw [4] 4 (fJ [(f1 mi (ah 0)),(fC (.str " ")),(f1 mi (ah 5)),(fC (.str " ")),(f1 mi (ah 7)),(fC (.str " ")),(f1 mi (ah 8))]))
   bW
noncomputable def d6:ai->M Flo:=
 (i6)
noncomputable def g6:ai->M Flo:=
 (sFor [4] (Ae (ah 1) (ah 6)) (.tp [7,8]) (d6))
noncomputable def mO:ai->M Flo:=
 (bH (bP [] 4 (fL bT aJ))
  (bH (sFor [4] (Ae (ah 1) (ah 2)) (.tp [5,6]) (g6))
  (cy (ah 4))))
noncomputable def gc:List Dat->M Dat:=cv 9 4 (mO)
noncomputable def lu:ai->M Flo:=
 (cy (eF (fIt (ah 0)) [d_] (.nm 0) ik (fL Bt (aa (ah 0) aJ))))
noncomputable def dB:List Dat->M Dat:=cv 1 1 (lu)
noncomputable def iL(CR CP CS CW CE CD CK:g_)(n:Nat):ai->M Flo:=
 (cy (fL (dB) (aa (f1 (bu [CR,CP] "gaps") (ah 0)) aJ)))
noncomputable def bx(CR CP CS CW CE CD CK:g_)(n:Nat):List Dat->M Dat:=cv 1 1 (iL CR CP CS CW CE CD CK n)
noncomputable def jM:ai->M Flo:=
 (bH (bP [] 3 (f2 cT (fL bT (aa (fC (.str "flight")) (aa (ah 1) (aa (f2 ixD (ah 0) (f2 ixD (ah 2) (fC (.int 0)))) aJ)))) (eF (fIt (fSl aV (ah 2) (cw (fC (.int 1))) cL)) [d_] (.nm 0) ik (fL strD (aa (ah 0) aJ)))))
  (cy (fSM ie (fC (.str " ")) (ah 3))))
noncomputable def cY:List Dat->M Dat:=cv 4 3 (jM)
noncomputable def gY(CR CP CS CW CE CD CK:g_)(n:Nat):ai->M Flo:=
 (cy (fL (dB) (aa (f1 (bu [CP] "beside") (ah 0)) aJ)))
noncomputable def cx(CR CP CS CW CE CD CK:g_)(n:Nat):List Dat->M Dat:=cv 1 1 (gY CR CP CS CW CE CD CK n)
noncomputable def iG(CR CP CS CW CE CD CK:g_)(n:Nat):ai->M Flo:=
 sIf (nB (f1 (isiC [(CR,b_),(CP,e_)]) (ah 1)))
   (AQ [5] 5 (fL (gc) (aa (fC (.str "beside")) (aa (ah 0) (aa (jh CP "beside_rows" (cx CR CP CS CW CE CD CK n) (ah 1) aJ) (aa (fC (.int 0)) aJ))))))
   bW
noncomputable def uR(CR CP CS CW CE CD CK:g_)(n:Nat):ai->M Flo:=
 (bH (bP [] 5 (eF (fIt (ah 0)) [d_] (.nm 0) ik (fJ [(fC (.str "kind ")),(f1 mi (ah 0))])))
  (bH (AQ [5] 5 (fL (gc) (aa (fC (.str "gap")) (aa (ah 0) (aa (jO CR CP "gap_rows" (bx CR CP CS CW CE CD CK n) (bx CR CP CS CW CE CD CK n) (ah 1) aJ) (aa (fC (.int 1)) aJ))))))
  (bH (iG CR CP CS CW CE CD CK n)
  (bH (AQ [5] 5 (eF (fIt (ah 4)) [d_,d_] (.tp [0,1]) ik (fJ [(fC (.str "closed ")),(f1 mi (ah 0)),(fC (.str " ")),(f1 mi (ah 1))])))
  (bH (AQ [5] 5 (eF (Ae (ah 2) (ah 3)) [d_,d_,a_ 0] (.tp [0,1]) ik (fL (cY) (aa (ah 2) (aa (ah 0) (aa (ah 1) aJ))))))
  (cy (fSM ie (fC (.str "")) (eF (fIt (ah 5)) [d_] (.nm 0) ik (f2 cT (ah 0) (fC (.str "\n")))))))))))
noncomputable def bS(CR CP CS CW CE CD CK:g_)(n:Nat):List Dat->M Dat:=cv 6 5 (uR CR CP CS CW CE CD CK n)
noncomputable def uS:ai->M Flo:=
 (cy (eF (fRng rng1 (aa (ah 2) aJ)) [d_,a_ 0,a_ 1] (.nm 0) ik (uW (ah 1) (fL k7 (aa (ah 2) (aa (ah 0) aJ))) (fC (.int 0)))))
noncomputable def jd:List Dat->M Dat:=cv 3 3 (uS)
noncomputable def pj:ai->M Flo:=
 (cy (eF (fRng rng1 (aa (ah 1) aJ)) [d_,a_ 0,a_ 1] (.nm 0) ik (fL (jd) (aa (ah 1) (aa (ah 0) (aa (ah 2) aJ))))))
noncomputable def gG:List Dat->M Dat:=cv 2 2 (pj)
noncomputable def jw:ai->M Flo:=
 sIf (fOr (yr (nB (f1 lg (ah 0)))) (nB (f1 lh (ah 0))))
   (cy (fC (.bl b_)))
   bW
noncomputable def nP:ai->M Flo:=
 (bH (jw)
  (cy (hI leD leD (fC (.int 0)) (ah 0) (fC (.int 1000000)))))
noncomputable def eJ:List Dat->M Dat:=cv 1 1 (nP)
noncomputable def mQ:ai->M Flo:=
 (cy (jD (f1 la (ah 0)) (jD (f2 eqM (fL pT (aa (ah 0) aJ)) (ah 1)) (fL allD (aa (eF (fIt (ah 0)) [d_] (.nm 0) ik (fL (eJ) (aa (ah 0) aJ))) aJ)))))
noncomputable def eE:List Dat->M Dat:=cv 2 2 (mQ)
noncomputable def iN:ai->M Flo:=
 sIf (yr (fB (hI leD leD (fC (.int 1)) (ah 1) (fC (.int 6)))))
   sStk
   bW
noncomputable def iM:ai->M Flo:=
 sIf (yr (nB (fL allD (aa (eF (fIt (ah 0)) [d_,a_ 1] (.nm 0) ik (fL (eE) (aa (ah 0) (aa (ah 1) aJ)))) aJ))))
   sStk
   bW
noncomputable def jN:ai->M Flo:=
 (bH (bP [] 1 (fL pT (aa (ah 0) aJ)))
  (bH (iN)
  (bH (iM)
  (cy (fL (dB) (aa (ah 0) aJ))))))
noncomputable def aG:List Dat->M Dat:=cv 2 1 (jN)
noncomputable def fS(CR CP CS CW CE CD CK:g_)(n:Nat):ai->M Flo:=
 sIf (fB (f2 eqE (f1 (bu [CD] "beside") (ah 0)) (fC (.dic []))))
   (cy (fL (newR CR (aG)) (aa (ah 2) aJ)))
   bW
noncomputable def gI(CR CP CS CW CE CD CK:g_)(n:Nat):ai->M Flo:=
 (bH (bP [] 1 (fL pT (aa (f1 (bu [CD] "kinds") (ah 0)) aJ)))
  (bH (bP [] 2 (fL (gG) (aa (f1 (bu [CD] "gaps") (ah 0)) (aa (ah 1) aJ))))
  (bH (fS CR CP CS CW CE CD CK n)
  (cy (fL (newP CP (aG)) (aa (ah 2) (aa (fL (gG) (aa (f1 (bu [CD] "beside") (ah 0)) (aa (ah 1) aJ))) aJ)))))))
noncomputable def cI(CR CP CS CW CE CD CK:g_)(n:Nat):List Dat->M Dat:=cv 3 1 (gI CR CP CS CW CE CD CK n)
noncomputable def eQ:ai->M Flo:=
 sIf (fOr (fB (f2 gtD (fL sQ (aa (ah 0) aJ)) (fC (.int 10)))) (yr (nB (fL allD (aa (eF (fItS (ah 0)) [d_] (.nm 0) ik (f2 inSD (ah 0) (fC (.str "0123456789")))) aJ)))))
   (cy (fC .non))
   bW
noncomputable def dG:ai->M Flo:=
 sIf (vH (fB (f2 eqM (f2 wR (ah 0) (fC (.int 0))) (fC (.str "0")))) (fB (f2 neM (ah 0) (fC (.str "0")))))
   (cy (fC .non))
   bW
noncomputable def gH:ai->M Flo:=
 (bH (eQ)
  (bH (dG)
  (cy (fL BC (aa (ah 0) aJ)))))
noncomputable def aY:List Dat->M Dat:=cv 1 1 (gH)
noncomputable def dj:ai->M Flo:=
 sIf (fOr (fB (f2 neM (fL pT (aa (ah 1) aJ)) (fC (.int 4)))) (fOr (fB (f2 ic (f2 ixD (ah 1) (fC (.int 1))) (ah 0))) (fB (f2 ic (f2 ixD (ah 1) (fC (.int 2))) (ah 0)))))
   (cy (fC .non))
   bW
noncomputable def fH:ai->M Flo:=
 (bH (dj)
  (bH (bP [] 2 (fL (aY) (aa (f2 ixD (ah 1) (fC (.int 3))) aJ)))
  (cy (Af (nB (fL (eJ) (aa (ah 2) aJ))) (fL k7 (aa (gr (ah 0) (f2 ixD (ah 1) (fC (.int 1)))) (aa (gr (ah 0) (f2 ixD (ah 1) (fC (.int 2)))) (aa (ah 2) aJ)))) (fC .non)))))
noncomputable def bw:List Dat->M Dat:=cv 3 2 (fH)
noncomputable def lr:ai->M Flo:=
 (cy (hI leD leD (fC (.int 0)) (ah 0) (fC (.int 1000000000))))
noncomputable def eI:List Dat->M Dat:=cv 1 1 (lr)
noncomputable def eh:ai->M Flo:=
 (bH (bP [] 1 (f2 ixD (ah 0) (fC (.int 1))))
  (bH (bP [] 2 (f2 ixD (ah 0) (fC (.int 2))))
  (cy (jD (f2 leD (ah 1) (ah 2)) (fL allD (aa (eF (fIt (fSl aV (ah 0) (cw (fC (.int 1))) cL)) [d_] (.nm 0) ik (fL (eI) (aa (ah 0) aJ))) aJ))))))
noncomputable def bB:List Dat->M Dat:=cv 3 1 (eh)
noncomputable def gO:ai->M Flo:=
 sIf (fOr (fB (f2 gtD (fL sQ (aa (ah 0) aJ)) (fC (.int 8)))) (fB (f2 jb (f2 wR (ah 0) (fC (.int 0))) (fC (.str "abcdefghijklmnopqrstuvwxyz")))))
   (cy (fC (.bl b_)))
   bW
noncomputable def lq:ai->M Flo:=
 (bH (gO)
  (cy (fL allD (aa (eF (fItS (ah 0)) [d_] (.nm 0) ik (fOrV (f2 inSD (ah 0) (fC (.str "abcdefghijklmnopqrstuvwxyz"))) (f2 inSD (ah 0) (fC (.str "0123456789"))))) aJ))))
noncomputable def gf:List Dat->M Dat:=cv 1 1 (lq)
noncomputable def cJ:ai->M Flo:=
 sIf (fOr (fB (f2 neM (fL pT (aa (ah 2) aJ)) (fC (.int 7)))) (fOr (fB (f2 geD (fL pT (aa (ah 1) aJ)) (fC (.int 40)))) (fB (f2 ic (f2 ixD (ah 2) (fC (.int 2))) (ah 0)))))
   (cy (fC .non))
   bW
noncomputable def dm:ai->M Flo:=
 sIf (fOr (yr (nB (fL (gf) (aa (f2 ixD (ah 2) (fC (.int 1))) aJ)))) (fB (f2 inM (f2 ixD (ah 2) (fC (.int 1))) (ah 1))))
   (cy (fC .non))
   bW
noncomputable def gN:ai->M Flo:=
 sIf (fB (f2 inM (fC .non) (ah 3)))
   (cy (fC .non))
   bW
noncomputable def cQ:ai->M Flo:=
 (bH (cJ)
  (bH (dm)
  (bH (bP [] 3 (eF (fIt (fSl aV (ah 2) (cw (fC (.int 3))) cL)) [d_] (.nm 0) ik (fL (aY) (aa (ah 0) aJ))))
  (bH (gN)
  (bH (bP [] 4 (fL k7 (aa (gr (ah 0) (f2 ixD (ah 2) (fC (.int 2)))) (aa (f2 ixD (ah 3) (fC (.int 0))) (aa (f2 ixD (ah 3) (fC (.int 1))) (aa (f2 ixD (ah 3) (fC (.int 2))) (aa (f2 ixD (ah 3) (fC (.int 3))) aJ)))))))
  (cy (Af (nB (fL (bB) (aa (ah 4) aJ))) (ah 4) (fC .non))))))))
noncomputable def aF:List Dat->M Dat:=cv 5 3 (cQ)
noncomputable def dE:ai->M Flo:=
 sIf (fOr (fB (f2 neM (fL pT (aa (ah 1) aJ)) (fC (.int 2)))) (fB (f2 geD (fL pT (aa (ah 0) aJ)) (fC (.int 6)))))
   (cy (fC .non))
   bW
noncomputable def fF:ai->M Flo:=
 (bH (dE)
  (cy (Af (vH (nB (fL (gf) (aa (f2 ixD (ah 1) (fC (.int 1))) aJ))) (fB (f2 ic (f2 ixD (ah 1) (fC (.int 1))) (ah 0)))) (f2 ixD (ah 1) (fC (.int 1))) (fC .non))))
noncomputable def bA:List Dat->M Dat:=cv 2 2 (fF)
noncomputable def mP:ai->M Flo:=
 (cy (ji leD ltD leD (fC (.int 0)) (f2 ixD (ah 0) (fC (.int 0))) (f2 ixD (ah 0) (fC (.int 1))) (fC (.int 1000000000))))
noncomputable def gd:List Dat->M Dat:=cv 1 1 (mP)
noncomputable def kh:ai->M Flo:=
 (cy (jD (f2 leD (fL pT (aa (ah 0) aJ)) (fC (.int 20))) (fL allD (aa (eF (fIt (ah 0)) [d_] (.nm 0) ik (fL (gd) (aa (ah 0) aJ))) aJ))))
noncomputable def gF:List Dat->M Dat:=cv 1 1 (kh)
noncomputable def bR:ai->M Flo:=
 sIf (fB (f2 neM (fL pT (aa (ah 1) aJ)) (fC (.int 3))))
   (cy (fC .non))
   bW
noncomputable def cz:ai->M Flo:=
 (bH (bR)
  (bH (bP [] 2 (fL k7 (aa (fL (aY) (aa (f2 ixD (ah 1) (fC (.int 1))) aJ)) (aa (fL (aY) (aa (f2 ixD (ah 1) (fC (.int 2))) aJ)) aJ))))
  (cy (Af (vH (fB (f2 ic (fC .non) (ah 2))) (nB (fL (gF) (aa (f2 cT (ah 0) (fL bT (aa (ah 2) aJ))) aJ)))) (ah 2) (fC .non)))))
noncomputable def aC:List Dat->M Dat:=cv 3 2 (cz)
noncomputable def bN:List Dat->List Dat->M (Bool×List Dat):=
 lT (fOr (fB (f2 eqM (ah 1) (fL bT aJ))) (nB (fSM lU (f2 ixD (ah 1) (fC (.int 0))) (fC (.str "#")))))
  (fB (f2 eqM (f2 ixD (ah 1) (fC (.int 0))) (fC (.str "kind"))))
  (fB (f2 eqM (f2 ixD (ah 1) (fC (.int 0))) (fC (.str "gap"))))
  (fB (f2 eqM (f2 ixD (ah 1) (fC (.int 0))) (fC (.str "beside"))))
  (fB (f2 eqM (f2 ixD (ah 1) (fC (.int 0))) (fC (.str "closed")))) (f2 eqM (f2 ixD (ah 1) (fC (.int 0))) (fC (.str "flight")))
  (bA) (bw) (aC) (aF)
noncomputable def qW:ai->M Flo:=
 (cy (eF (fIt (fSM iX (ah 0) (fC (.str " ")))) [d_] (.nm 0) (fB (f2 neM (ah 0) (fC (.str "")))) (ah 0)))
noncomputable def eD:List Dat->M Dat:=cv 1 1 (qW)
noncomputable def cF(CR CP CS CW CE CD CK:g_)(n:Nat):ai->M Flo:=
 sIf (fB (f2 eqM (f1 (bu [CD] "kinds") (ah 1)) (fL bT aJ)))
   (yU CW "row" (aa (fC (.int 0)) aJ))
   bW
noncomputable def gX(CR CP CS CW CE CD CK:g_)(n:Nat):ai->M Flo:=
 (oz CD CW "row" (bN) (eD) 1 2 3 (fSM iX (ah 0) (fC (.str "\n")))
  (bH (cF CR CP CS CW CE CD CK n)
  (zN (cy (fL (newS CS (bS CR CP CS CW CE CD CK n)) (aa (f1 (bu [CD] "kinds") (ah 1)) (aa (fL (cI CR CP CS CW CE CD CK n) (aa (ah 1) aJ)) (aa (f1 (bu [CD] "names") (ah 1)) (aa (f1 (bu [CD] "flights") (ah 1)) (aa (f1 (bu [CD] "closed") (ah 1)) aJ))))))))))
noncomputable def bJ(CR CP CS CW CE CD CK:g_)(n:Nat):List Dat->M Dat:=cv 4 1 (gX CR CP CS CW CE CD CK n)
noncomputable def fU(CR CP CS CW CE CD CK:g_)(n:Nat):ai->M Flo:=
 oy [] CW (uv [] (fL (newK CK (bJ CR CP CS CW CE CD CK n)) (aa (fSM ie (fC (.str "\n")) (f2 cT (f2 cT (fSl aV (ah 0) cL (cw (ah 1))) (fL bT (aa (fC (.str "gone a1")) aJ))) (fSl aV (ah 0) (cw (ah 1)) cL))) aJ))) (qF 3 2 "row" b_)
noncomputable def jf(CR CP CS CW CE CD CK:g_)(n:Nat):ai->M Flo:=
 (bH (bP [] 2 (fL bT aJ))
  (bH (fU CR CP CS CW CE CD CK n)
  (cy (jD (f2 eqM (ah 2) (fL bT (aa (f2 cT (ah 1) (fC (.int 1))) (aa (fC (.bl b_)) aJ)))) (f2 eqM (ah 1) (ah 1))))))
noncomputable def eK(CR CP CS CW CE CD CK:g_)(n:Nat):List Dat->M Dat:=cv 4 2 (jf CR CP CS CW CE CD CK n)
noncomputable def bp:ai->M Flo:=
 sIf (fB (f2 eqM (ah 6) (fC (.int 1))))
   (cy (fSM ie (fC (.str " ")) (f2 cT (fSl aV (ah 3) cL (cw (ah 4))) (fSl aV (ah 3) (cw (f2 cT (ah 4) (fC (.int 1)))) cL))))
   bW
noncomputable def bo:ai->M Flo:=
 sIf (fB (f2 eqM (ah 6) (fC (.int 2))))
   (cy (fSM ie (fC (.str " ")) (f2 cT (f2 cT (fSl aV (ah 3) cL (cw (ah 4))) (fL bT (aa (fC (.str "7")) aJ))) (fSl aV (ah 3) (cw (ah 4)) cL))))
   bW
noncomputable def bj:ai->M Flo:=
 sIf (fB (f2 eqM (ah 6) (fC (.int 3))))
   (cy (fSM ie (fC (.str " ")) (f2 cT (f2 cT (fSl aV (ah 3) cL (cw (ah 4))) (fL bT (aa (f2 cT (fC (.str "0")) (f2 ixD (ah 3) (ah 4))) aJ))) (fSl aV (ah 3) (cw (f2 cT (ah 4) (fC (.int 1)))) cL))))
   bW
noncomputable def bh:ai->M Flo:=
 sIf (fB (f2 eqM (ah 6) (fC (.int 4))))
   (cy (fSM ie (fC (.str " ")) (f2 cT (f2 cT (fSl aV (ah 3) cL (cw (ah 4))) (fL bT (aa (f2 zt (fC (.str "9")) (f2 ixD (fL bT (aa (fC (.int 11)) (aa (fC (.int 5000)) aJ))) (f2 kY (f2 gK (ah 2) (fC (.int 256))) (fC (.int 2))))) aJ))) (fSl aV (ah 3) (cw (f2 cT (ah 4) (fC (.int 1)))) cL))))
   bW
noncomputable def bg:ai->M Flo:=
 sIf (fB (f2 eqM (ah 6) (fC (.int 5))))
   (cy (fSM ie (fC (.str " ")) (f2 cT (f2 cT (fSl aV (ah 3) cL (cw (ah 4))) (fL bT (aa (f2 ixD (fL bT (aa (fC (.str "-1")) (aa (fC (.str "+1")) (aa (fC (.str "1_0")) (aa (fC (.str "x")) aJ))))) (f2 kY (f2 gK (ah 2) (fC (.int 256))) (fC (.int 4)))) aJ))) (fSl aV (ah 3) (cw (f2 cT (ah 4) (fC (.int 1)))) cL))))
   bW
noncomputable def bc:ai->M Flo:=
 sIf (fB (f2 eqM (ah 6) (fC (.int 6))))
   (cy (f2 cT (f2 cT (fSl jR (ah 0) cL (cw (ah 5))) (fC (.str "\n"))) (fSl jR (ah 0) (cw (ah 5)) cL)))
   bW
noncomputable def ba:ai->M Flo:=
 sIf (fB (f2 eqM (ah 6) (fC (.int 7))))
   (cy (f2 cT (f2 cT (fSl jR (ah 0) cL (cw (ah 5))) (f2 wR (fC (.str "abz09 #~")) (f2 kY (f2 gK (ah 2) (fC (.int 4096))) (fC (.int 8))))) (fSl jR (ah 0) (cw (ah 5)) cL)))
   bW
noncomputable def b9:ai->M Flo:=
 sIf (fB (f2 eqM (ah 6) (fC (.int 8))))
   (cy (f2 cT (f2 cT (fC (.str " ")) (ah 0)) (fC (.str "  "))))
   bW
noncomputable def iC:ai->M Flo:=
 (bH (bP [] 2 (f2 kY (f2 mulD (ah 1) (fC (.int 69621))) (fC (.int 2147483629))))
  (bH (bP [] 3 (fSM iX (ah 0) (fC (.str " "))))
  (bH (bP [] 4 (f2 kY (f2 gK (ah 2) (fC (.int 16))) (fL pT (aa (ah 3) aJ))))
  (bH (bP [] 5 (f2 kY (f2 gK (ah 2) (fC (.int 16))) (f2 cT (fL sQ (aa (ah 0) aJ)) (fC (.int 1)))))
  (bH (bP [] 6 (f2 kY (ah 2) (fC (.int 16))))
  (bH (bp)
  (bH (bo)
  (bH (bj)
  (bH (bh)
  (bH (bg)
  (bH (bc)
  (bH (ba)
  (bH (b9)
  (cy (ah 0)))))))))))))))
noncomputable def iz:List Dat->M Dat:=cv 7 2 (iC)
noncomputable def dv:ai->M Flo:=
 sIf (fOr (fB (f2 eqM (ah 0) (fC (.str "")))) (fOr (fB (f2 neM (eF (fItS (ah 0)) [d_] (.nm 0) (fB (f2 jb (ah 0) (fC (.str "0123456789")))) (ah 0)) (fL bT aJ))) (fB (f2 gtD (fL sQ (aa (ah 0) aJ)) (fC (.int 10))))))
   (cy (f1 negD (fC (.int 1))))
   bW
noncomputable def cg:ai->M Flo:=
 sIf (fOr (vH (fB (f2 gtD (fL sQ (aa (ah 0) aJ)) (fC (.int 1)))) (fB (f2 eqM (f2 wR (ah 0) (fC (.int 0))) (fC (.str "0"))))) (fB (f2 gtD (fL BC (aa (ah 0) aJ)) (ah 1))))
   (cy (f1 negD (fC (.int 1))))
   bW
noncomputable def dD:ai->M Flo:=
 (bH (dv)
  (bH (cg)
  (cy (fL BC (aa (ah 0) aJ)))))
noncomputable def aW:List Dat->M Dat:=cv 2 2 (dD)
noncomputable def cU:ai->M Flo:=
 sIf (fOr (fB (f2 eqM (ah 0) (fC (.str "")))) (fOr (fB (f2 gtD (fL sQ (aa (ah 0) aJ)) (fC (.int 8)))) (fB (f2 jb (f2 wR (ah 0) (fC (.int 0))) (fC (.str "abcdefghijklmnopqrstuvwxyz"))))))
   (cy (fC (.bl b_)))
   bW
noncomputable def fZ:ai->M Flo:=
 (bH (cU)
  (cy (f2 eqM (eF (fItS (ah 0)) [d_] (.nm 0) (fB (f2 jb (ah 0) (fC (.str "abcdefghijklmnopqrstuvwxyz0123456789")))) (ah 0)) (fL bT aJ))))
noncomputable def cZ:List Dat->M Dat:=cv 1 1 (fZ)
noncomputable def eX:ai->M Flo:=
 sIf (fOr (fB (f2 inSD (fC (.str "\n")) (ah 0))) (fB (f2 eqM (ah 1) (fL bT aJ))))
   (cy (fC (.bl b_)))
   bW
noncomputable def dI:ai->M Flo:=
 sIf (fOr (yr (nB (fL (cZ) (aa (f2 ixD (ah 1) (fC (.int 1))) aJ)))) (fOr (fB (f2 eqM (f2 ixD (ah 1) (fC (.int 1))) (fC (.str "a1")))) (fB (f2 neM (f2 ixD (ah 1) (fC (.int 2))) (fC (.str "up"))))))
   (cy (fC (.bl b_)))
   bW
noncomputable def eW:ai->M Flo:=
 sIf (vH (fB (f2 eqM (f2 ixD (ah 1) (fC (.int 0))) (fC (.str "flight")))) (fB (f2 eqM (fL pT (aa (ah 1) aJ)) (fC (.int 7)))))
   (bH (bP [] 2 (eF (fIt (fSl aV (ah 1) (cw (fC (.int 3))) cL)) [d_] (.nm 0) ik (fL (aW) (aa (ah 0) (aa (f2 powD (fC (.int 10)) (fC (.int 9))) aJ)))))
  (bH (dI)
  (cy (jD (f2 geD (fL minD (aa (ah 2) aJ)) (fC (.int 0))) (f2 leD (f2 ixD (ah 2) (fC (.int 0))) (f2 ixD (ah 2) (fC (.int 1))))))))
   bW
noncomputable def eV:ai->M Flo:=
 sIf (vH (fB (f2 eqM (f2 ixD (ah 1) (fC (.int 0))) (fC (.str "closed")))) (fB (f2 eqM (fL pT (aa (ah 1) aJ)) (fC (.int 3)))))
   (bH (bP [] 3 (fL (aW) (aa (f2 ixD (ah 1) (fC (.int 1))) (aa (f2 powD (fC (.int 10)) (fC (.int 9))) aJ))))
  (cy (hI leD ltD (fC (.int 0)) (ah 3) (fL (aW) (aa (f2 ixD (ah 1) (fC (.int 2))) (aa (f2 powD (fC (.int 10)) (fC (.int 9))) aJ))))))
   bW
noncomputable def eU:ai->M Flo:=
 sIf (fB (f2 eqM (f2 ixD (ah 1) (fC (.int 0))) (fC (.str "gone"))))
   (cy (f2 eqM (ah 1) (fL bT (aa (fC (.str "gone")) (aa (fC (.str "a1")) aJ)))))
   bW
noncomputable def eS:ai->M Flo:=
 sIf (vH (fB (f2 eqM (f2 ixD (ah 1) (fC (.int 0))) (fC (.str "shift")))) (fB (f2 eqM (fL pT (aa (ah 1) aJ)) (fC (.int 2)))))
   (cy (f2 inM (f2 ixD (ah 1) (fC (.int 1))) (fL bT (aa (fC (.str "0")) (aa (fC (.str "1")) (aa (fC (.str "2")) (aa (fC (.str "3")) aJ)))))))
   bW
noncomputable def ki:ai->M Flo:=
 (bH (bP [] 1 (eF (fIt (fSM iX (ah 0) (fC (.str " ")))) [d_] (.nm 0) (fB (f2 neM (ah 0) (fC (.str "")))) (ah 0)))
  (bH (eX)
  (bH (eW)
  (bH (eV)
  (bH (eU)
  (bH (eS)
  (cy (f2 eqM (ah 1) (fL bT (aa (fC (.str "opened")) aJ))))))))))
noncomputable def k8:List Dat->M Dat:=cv 4 1 (ki)
noncomputable def qX:ai->M Flo:=
 (bH (bP [] 1 (f2 kY (f2 mulD (ah 0) (fC (.int 48271))) (fC (.int 2147483647))))
  (bH (bP [] 2 (fL bT (aa (fC (.str "flight b1 up 3 9 5 2")) (aa (fC (.str "closed 4 7")) (aa (fC (.str "gone a1")) (aa (fC (.str "opened")) (aa (fC (.str "shift 2")) (aa (fC (.str "")) (aa (fC (.str "   ")) (aa (fC (.str "# closed 4 7")) aJ))))))))))
  (bH (bP [] 2 (f2 cT (ah 2) (fL bT (aa (fC (.str "kind b")) (aa (fC (.str "gap up up 3")) (aa (fC (.str "beside up up 3")) (aa (fC (.str "shift 4")) (aa (fC (.str "gone b")) (aa (fC (.str "flight a1 up 3 9 5 2")) aJ)))))))))
  (cy (f2 ixD (ah 2) (f2 kY (ah 1) (fC (.int 14))))))))
noncomputable def ju:List Dat->M Dat:=cv 3 1 (qX)
noncomputable def cR:ai->M Flo:=
 (bH (bP [] 2 (f2 cT (f2 gK (ah 2) (fC (.int 7))) (ah 3)))
  (bP [] 1 (f2 cT (ah 1) (f2 wR (fC (.str "abz09 #+flightgonesd")) (f2 kY (ah 2) (fC (.int 20)))))))
noncomputable def ij:ai->M Flo:=
 (bH (bP [] 1 (fC (.str "")))
  (bH (bP [] 2 (f2 kY (ah 0) (f2 powD (fC (.int 10)) (fC (.int 30)))))
  (bH (sFor [] (fRng rng1 (aa (f2 kY (ah 2) (fC (.int 12))) aJ)) (.nm 3) (cR))
  (cy (ah 1)))))
noncomputable def dC:List Dat->M Dat:=cv 4 1 (ij)
noncomputable def dW(CR CP CS CW CE CD CK:g_)(n:Nat):ai->M Flo:=
 sIf (fOr (fB (f2 isND (ah 1) (fC .non))) (fB (f2 gtD (ah 1) (fC (.int 3)))))
   (sExc CE)
   bW
noncomputable def gj(CR CP CS CW CE CD CK:g_)(n:Nat):ai->M Flo:=
 (bH (zN (bP [] 1 (Af (fB (f2 eqM (fL pT (aa (ah 0) aJ)) (fC (.int 2)))) (fL (aY) (aa (f2 ixD (ah 0) (fC (.int 1))) aJ)) (fC .non))))
  (bH (dW CR CP CS CW CE CD CK n)
  (zN (cy (ah 1)))))
noncomputable def d9(CR CP CS CW CE CD CK:g_)(n:Nat):List Dat->M Dat:=cv 2 1 (gj CR CP CS CW CE CD CK n)
noncomputable def jL(CR CP CS CW CE CD CK:g_)(n:Nat):ai->M Flo:=
 (cy (fL (newS CS (bS CR CP CS CW CE CD CK n)) (aa (f1 (bu [CS] "kinds") (ah 0)) (aa (f1 (bu [CS] "rules") (ah 0)) (aa (ah 1) (aa (ah 2) (aa (f1 (bu [CS] "closed") (ah 0)) aJ)))))))
noncomputable def cW(CR CP CS CW CE CD CK:g_)(n:Nat):List Dat->M Dat:=cv 3 3 (jL CR CP CS CW CE CD CK n)
noncomputable def du(CR CP CS CW CE CD CK:g_)(n:Nat):ai->M Flo:=
 sIf (fB (f2 isND (ah 2) (fC .non)))
   (sExc CE)
   bW
noncomputable def ee(CR CP CS CW CE CD CK:g_)(n:Nat):ai->M Flo:=
 (bH (zN (bP [] 2 (fL (aF) (aa (f1 (bu [CS] "kinds") (ah 0)) (aa (f1 (bu [CS] "names") (ah 0)) (aa (ah 1) aJ))))))
  (bH (du CR CP CS CW CE CD CK n)
  (zN (cy (fL (cW CR CP CS CW CE CD CK n) (aa (ah 0) (aa (f2 cT (f1 (bu [CS] "names") (ah 0)) (fL bT (aa (f2 ixD (ah 1) (fC (.int 1))) aJ))) (aa (f2 cT (f1 (bu [CS] "flights") (ah 0)) (fL bT (aa (ah 2) aJ))) aJ))))))))
noncomputable def bq(CR CP CS CW CE CD CK:g_)(n:Nat):List Dat->M Dat:=cv 3 2 (ee CR CP CS CW CE CD CK n)
noncomputable def ll(CR CP CS CW CE CD CK:g_)(n:Nat):ai->M Flo:=
 (cy (fL (newS CS (bS CR CP CS CW CE CD CK n)) (aa (f1 (bu [CS] "kinds") (ah 0)) (aa (f1 (bu [CS] "rules") (ah 0)) (aa (f1 (bu [CS] "names") (ah 0)) (aa (f1 (bu [CS] "flights") (ah 0)) (aa (ah 1) aJ)))))))
noncomputable def dA(CR CP CS CW CE CD CK:g_)(n:Nat):List Dat->M Dat:=cv 2 2 (ll CR CP CS CW CE CD CK n)
noncomputable def d7(CR CP CS CW CE CD CK:g_)(n:Nat):ai->M Flo:=
 sIf (fB (f2 isND (ah 2) (fC .non)))
   (sExc CE)
   bW
noncomputable def dM(CR CP CS CW CE CD CK:g_)(n:Nat):ai->M Flo:=
 (bH (zN (bP [] 2 (fL (aC) (aa (f1 (bu [CS] "closed") (ah 0)) (aa (ah 1) aJ)))))
  (bH (d7 CR CP CS CW CE CD CK n)
  (zN (cy (fL (dA CR CP CS CW CE CD CK n) (aa (ah 0) (aa (f2 cT (f1 (bu [CS] "closed") (ah 0)) (fL bT (aa (ah 2) aJ))) aJ)))))))
noncomputable def aX(CR CP CS CW CE CD CK:g_)(n:Nat):List Dat->M Dat:=cv 3 2 (dM CR CP CS CW CE CD CK n)
noncomputable def bO(CR CP CS CW CE CD CK:g_)(n:Nat):ai->M Flo:=
 sIf (fOr (fB (f2 neM (fL pT (aa (ah 1) aJ)) (fC (.int 2)))) (fB (f2 ic (f2 ixD (ah 1) (fC (.int 1))) (f1 (bu [CS] "names") (ah 0)))))
   (sExc CE)
   bW
noncomputable def cj(CR CP CS CW CE CD CK:g_)(n:Nat):ai->M Flo:=
 (bH (bO CR CP CS CW CE CD CK n)
  (zN (bH (bP [] 2 (gr (f1 (bu [CS] "names") (ah 0)) (f2 ixD (ah 1) (fC (.int 1)))))
  (bH (bP [] 3 (f2 cT (fSl aV (f1 (bu [CS] "names") (ah 0)) cL (cw (ah 2))) (fSl aV (f1 (bu [CS] "names") (ah 0)) (cw (f2 cT (ah 2) (fC (.int 1)))) cL)))
  (cy (fL (cW CR CP CS CW CE CD CK n) (aa (ah 0) (aa (ah 3) (aa (f2 cT (fSl aV (f1 (bu [CS] "flights") (ah 0)) cL (cw (ah 2))) (fSl aV (f1 (bu [CS] "flights") (ah 0)) (cw (f2 cT (ah 2) (fC (.int 1)))) cL)) aJ)))))))))
noncomputable def aQ(CR CP CS CW CE CD CK:g_)(n:Nat):List Dat->M Dat:=cv 4 2 (cj CR CP CS CW CE CD CK n)
noncomputable def bF(CR CP CS CW CE CD CK:g_)(n:Nat):ai->M Flo:=
 sIf (fB (f2 eqM (ah 2) (fC (.str "flight"))))
   (cy (fL (bq CR CP CS CW CE CD CK n) (aa (ah 0) (aa (ah 1) aJ))))
   bW
noncomputable def bY(CR CP CS CW CE CD CK:g_)(n:Nat):ai->M Flo:=
 sIf (fB (f2 eqM (ah 2) (fC (.str "closed"))))
   (cy (fL (aX CR CP CS CW CE CD CK n) (aa (ah 0) (aa (ah 1) aJ))))
   bW
noncomputable def cK(CR CP CS CW CE CD CK:g_)(n:Nat):ai->M Flo:=
 sIf (fB (f2 eqM (ah 2) (fC (.str "gone"))))
   (cy (fL (aQ CR CP CS CW CE CD CK n) (aa (ah 0) (aa (ah 1) aJ))))
   bW
noncomputable def dH(CR CP CS CW CE CD CK:g_)(n:Nat):ai->M Flo:=
 sIf (fB (f2 eqM (ah 1) (fL bT (aa (fC (.str "opened")) aJ))))
   (cy (fL (dA CR CP CS CW CE CD CK n) (aa (ah 0) (aa (fL bT aJ) aJ))))
   bW
noncomputable def bZ(CR CP CS CW CE CD CK:g_)(n:Nat):ai->M Flo:=
 (bH (zN (bP [] 2 (Af (nB (ah 1)) (f2 ixD (ah 1) (fC (.int 0))) (fC (.str "")))))
  (bH (bF CR CP CS CW CE CD CK n)
  (bH (bY CR CP CS CW CE CD CK n)
  (bH (cK CR CP CS CW CE CD CK n)
  (bH (zN (dH CR CP CS CW CE CD CK n))
  (sExc CE))))))
noncomputable def aU(CR CP CS CW CE CD CK:g_)(n:Nat):List Dat->M Dat:=cv 3 2 (bZ CR CP CS CW CE CD CK n)
noncomputable def iW:ai->M Bool:=
 (fB (f2 inSD (fC (.str "\n")) (ah 1)))
noncomputable def eB:ai->M Bool:=
 (fB (f2 eqM (fSl aV (ah 2) cL (cw (fC (.int 1)))) (fL bT (aa (fC (.str "shift")) aJ))))
noncomputable def lS(CR CP CS CW CE CD CK:g_)(n:Nat):Dat->Int->Dat->M (Dat×Int):=
 sayD CE (iW) (eB) (eD) (d9 CR CP CS CW CE CD CK n) (aU CR CP CS CW CE CD CK n)
noncomputable def lA(CR CP CS CW CE CD CK:g_)(n:Nat):ai->M Flo:=
 (cy (f1 (bu [CS] "text") (ah 0)))
noncomputable def cO(CR CP CS CW CE CD CK:g_)(n:Nat):List Dat->M Dat:=cv 1 1 (lA CR CP CS CW CE CD CK n)
noncomputable def tQ(CR CP CS CW CE CD CK:g_)(n:Nat):ai->M Flo:=
 sIf (yr (nB (fL (eK CR CP CS CW CE CD CK n) (aa (fSl aV (fSM iX (ah 1) (fC (.str "\n"))) cL (cw (fC (.int 3)))) (aa (ah 2) aJ)))))
   (cy (fC (.bl b_)))
   bW
noncomputable def pQ:ai->M Flo:=
 sIf (fB (f2 eqM (f2 kY (ah 3) (fC (.int 11))) (fC (.int 3))))
   (bP [] 4 (fL (dC) (aa (f2 gK (ah 3) (fC (.int 11))) aJ)))
   bW
noncomputable def rQ:ai->M Bool:=
 (nB (fL (k8) (aa (ah 4) aJ)))
noncomputable def xy(CR CP CS CW CE CD CK:g_)(n:Nat):ai->M Flo:=
 AO CE (bJ CR CP CS CW CE CD CK n) (lS CR CP CS CW CE CD CK n) (mD CS "shown" (cO CR CP CS CW CE CD CK n)) 5 (ah 1) (ah 4) (rQ) "shift 1" "closed 2 3"
noncomputable def mz(CR CP CS CW CE CD CK:g_)(n:Nat):ai->M Flo:=
 (bH (bP [] 4 (fL (iz) (aa (fL (ju) (aa (ah 3) aJ)) (aa (ah 3) aJ))))
  (bH (pQ)
  (xy CR CP CS CW CE CD CK n)))
noncomputable def g_law(CR CP CS CW CE CD CK:g_)(n:Nat):ai->M Flo:=
 (bH (bP [] 1 (fC (.str "kind up\ngap up up 2\nflight a1 up 1 8 4 3\n")))
  (bH (bP [] 2 (f2 kY (f2 ixD (f2 cT (ah 0) (fL bT (aa (fC (.int 0)) aJ))) (fC (.int 0))) (fC (.int 4))))
  (bH (tQ CR CP CS CW CE CD CK n)
  (bH (sFor [] (fIt (f2 cT (fL bT (aa (fC (.int 0)) (aa (fC (.int 1)) aJ))) (fSl aV (ah 0) cL (cw (fC (.int 63)))))) (.nm 3) (mz CR CP CS CW CE CD CK n))
  (cy (fC (.bl e_)))))))
noncomputable def m_law(CR CP CS CW CE CD CK:g_)(n:Nat):List Dat->M Dat:=cv 6 1 (g_law CR CP CS CW CE CD CK n)
noncomputable def top(i:Nat):DX:=Kq.main.body.getD i (.Pass ⟨0,0,0,0⟩)
abbrev um:DX:=top 43
abbrev sd:DX:=top 26
abbrev iK:DX:=inClass (top 28) 4
abbrev q9:DX:=top 44
abbrev kM:DX:=inClass (top 29) 3
abbrev uk:DX:=top 45
abbrev AN:DX:=top 52
abbrev vZ:DX:=top 53
abbrev s_is_gap:DX:=top 24
abbrev ur:DX:=top 25
abbrev hZ:DX:=top 27
abbrev oq:DX:=top 54
abbrev vW:DX:=top 48
abbrev vX:DX:=top 37
abbrev yQ:DX:=top 39
abbrev yS:DX:=top 49
abbrev s9:DX:=top 19
abbrev jT:DX:=top 20
abbrev AM:DX:=top 36
abbrev rY:DX:=top 41
abbrev rZ:DX:=top 50
abbrev vV:DX:=top 38
abbrev uq:DX:=top 14
abbrev vY:DX:=top 15
abbrev pZ:DX:=top 40
abbrev yR:DX:=top 51
abbrev yP:DX:=top 35
abbrev uo:DX:=top 55
abbrev iZ:DX:=inClass (top 65) 0
abbrev ox:DX:=top 74
abbrev w5:DX:=top 69
abbrev se:DX:=top 70
abbrev qe:DX:=top 71
abbrev w4:DX:=top 72
abbrev yT:DX:=top 68
abbrev lV:DX:=top 67
abbrev uj:DX:=top 64
abbrev pX:DX:=top 58
abbrev jS:DX:=top 60
abbrev rX:DX:=top 59
abbrev jx:DX:=top 61
abbrev iO:DX:=top 62
abbrev ou:DX:=top 63
abbrev qN:DX:=inClass (top 65) 1
abbrev qc:DX:=top 73
abbrev si:DX:=inClass (top 46) 1
abbrev ib:DX:=inClass (top 65) 2
abbrev s_law:DX:=top 75
abbrev s_nR:DX:=inClass (top 28) 0
abbrev s_nP:DX:=inClass (top 29) 0
abbrev s_nS:DX:=inClass (top 46) 0
abbrev s_nCW:DX:=inClass (top 9) 0
abbrev s_nD:DX:=inClass (top 47) 0
structure Zs(K:Fg)(mg:Mq)(CR CP CS CW CE CD CK ANoRow AStripError ANoPlace ANoPlan ANoRules ANoSheet ANoTime ANotFree ATooMany:g_):Prop where
 mI_NoRow:mg "NoRow"=a_ (.ref ANoRow)
 sO:mg "StripError"=a_ (.ref AStripError)
 zB:mg "NoPlace"=a_ (.ref ANoPlace)
 Bq:mg "NoPlan"=a_ (.ref ANoPlan)
 zA:mg "NoRules"=a_ (.ref ANoRules)
 zy:mg "NoSheet"=a_ (.ref ANoSheet)
 Bp:mg "NoTime"=a_ (.ref ANoTime)
 zx:mg "NotFree"=a_ (.ref ANotFree)
 zw:mg "TooMany"=a_ (.ref ATooMany)
 tCE:XTxt K mg "NoRow" CE
 xCW:XTry K mg "NoSheet" CW
 kR:Kls K mg "Rules" CR
 kP:Kls K mg "Pair" CP
 kS:Kls K mg "Sheet" CS
 kD:Kls K mg "Draft" CD
 kK:Kls K mg "Desk" CK
 ki_CR_CP:DM K (.ref CR) (.ref CP)=a_ b_
 ki_CP_CP:DM K (.ref CP) (.ref CP)=a_ e_
 wQ:DM K (.ref CW) (.ref ANoRow)=a_ b_
 nq:DM K (.ref CE) (.ref AStripError)=a_ e_
 nu:DM K (.ref CE) (.type "ValueError")=a_ e_
 kT_CE:kitAny K (.ref CE) ([ANoPlace,ANoPlan,ANoRules,ANoSheet,ANoTime,ANotFree,ATooMany].map CU)=a_ b_
 i_CE:A5 K CE
 aCW_row:A6 K CW "row"
 lB:∀C∈[CR,CP],Cls K C/\b8 K C "gaps"
 r9:∀C∈[CP],Cls K C/\b8 K C "beside"
 mj:∀C∈[CS],Cls K C/\b8 K C "closed"
 iE:∀C∈[CS],Cls K C/\b8 K C "flights"
 pq:∀C∈[CS],Cls K C/\b8 K C "kinds"
 gJ:∀C∈[CS],Cls K C/\b8 K C "names"
 uV:∀C∈[CS],Cls K C/\b8 K C "rules"
 fld_text:∀C∈[CS],Cls K C/\b8 K C "text"
 naS:∀y∈(["kinds","rules","names","flights","closed","text"]:List o_),b8 K CS y
 tZ:mg "ValueError"=d_
 yF:mg "all"=d_
 z_bool:mg "bool"=d_
 vK:mg "enumerate"=d_
 z_int:mg "int"=d_
 cM:mg "isinstance"=d_
 gB:mg "len"=d_
 Ah:mg "list"=d_
 z_min:mg "min"=d_
 vJ:mg "range"=d_
 z_str:mg "str"=d_
 z_zip:mg "zip"=d_
 qp:∃t,mg "GREATEST_GAP"=a_ (.int 1000000 t)
 m9:∃t,mg "GREATEST_NUMBER"=a_ (.int 1000000000 t)
 nA:∃t,mg "GREATEST_SHIFT"=a_ (.int 3 t)
 pk:∃t,mg "GREATEST_STOP"=a_ (.int 1000000000 t)
 qo:∃t,mg "MOST_FIGURES"=a_ (.int 10 t)
 qm:∃t,mg "MOST_FLIGHTS"=a_ (.int 40 t)
 mS:∃t,mg "MOST_KINDS"=a_ (.int 6 t)
 uT:∃t,mg "MOST_SIGNS"=a_ (.int 8 t)
 nz:∃t,mg "MOST_STRETCHES"=a_ (.int 20 t)
 kit:Kit K
 gs_FIGURES:∃t,mg "FIGURES"=a_ (.str "0123456789" t)
 gs_LETTERS:∃t,mg "LETTERS"=a_ (.str "abcdefghijklmnopqrstuvwxyz" t)
 n_D:∃f fd,Mth K CD "__init__" "Draft.__init__" s_nD ["self"] f fd
 naD:∀y∈(["kinds","gaps","beside","names","flights","closed"]:List o_),b8 K CD y
 fldD_beside:∀C∈[CD],Cls K C/\b8 K C "beside"
 fldD_closed:∀C∈[CD],Cls K C/\b8 K C "closed"
 fldD_flights:∀C∈[CD],Cls K C/\b8 K C "flights"
 fldD_gaps:∀C∈[CD],Cls K C/\b8 K C "gaps"
 fldD_kinds:∀C∈[CD],Cls K C/\b8 K C "kinds"
 fldD_names:∀C∈[CD],Cls K C/\b8 K C "names"
 naK:∀y∈(["sheet","shift"]:List o_),b8 K CK y
 xn:∃f fd,Def K mg "take_told" vW ["kept","told"] f fd
 zU:∃f fd,Def K mg "take_gap" yS ["kinds","gaps","words"] f fd
 tH:∃f fd,Def K mg "take_flight" rZ ["draft","words"] f fd
 zT:∃f fd,Def K mg "take_row" yR ["draft","words"] f fd
 pH:∃f fd,Mth K CK "__init__" "Desk.__init__" iZ ["self","text"] f fd
 zW:∃f fd,Mth K CK "say" "Desk.say" qN ["self","row"] f fd
 qA:∃f fd,Def K mg "_law_refused" qc ["_law_desk","_law_row_here"] f fd
 mx:∃f fd,Mth K CK "sheet_text" "Desk.sheet_text" ib ["self"] f fd
 vf:∃f fd,Def K mg "shown_gaps" um ["word","kinds","rows","least"] f fd
 tK:∃f fd,Def K mg "copied_rows" sd ["rows"] f fd
 qx:∃f fd,Def K mg "shown_flight" q9 ["kinds","name","flight"] f fd
 Ck:∃f fd,Def K mg "text_of" uk ["kinds","rules","names","flights","closed"] f fd
 Cn:∃f fd,Def K mg "gap_row" AN ["gaps","kind","many"] f fd
 xq:∃f fd,Def K mg "gap_table" vZ ["gaps","many"] f fd
 d_is_gap:∃f fd,Def K mg "is_gap" s_is_gap ["number"] f fd
 vi:∃f fd,Def K mg "is_gap_row" ur ["row","kinds"] f fd
 qz:∃f fd,Def K mg "checked_rows" hZ ["rows"] f fd
 pE:∃f fd,Def K mg "drafted_rules" oq ["draft"] f fd
 xo:∃f fd,Def K mg "number_of" vX ["word"] f fd
 zS:∃f fd,Def K mg "told_gap" yQ ["kinds","words"] f fd
 tI:∃f fd,Def K mg "is_in_range" s9 ["number"] f fd
 kr:∃f fd,Def K mg "has_right_numbers" jT ["flight"] f fd
 Cm:∃f fd,Def K mg "is_name" AM ["word"] f fd
 tG:∃f fd,Def K mg "told_flight" rY ["kinds","names","words"] f fd
 xm:∃f fd,Def K mg "told_kind" vV ["kinds","words"] f fd
 vh:∃f fd,Def K mg "is_stretch" uq ["stretch"] f fd
 xp:∃f fd,Def K mg "is_closed" vY ["closed"] f fd
 qu:∃f fd,Def K mg "told_stretch" pZ ["closed","words"] f fd
 zR:∃f fd,Def K mg "words_of" yP ["row"] f fd
 vg:∃f fd,Def K mg "read_sheet" uo ["text"] f fd
 pG:∃f fd,Def K mg "_law_no_sheet" ox ["_law_rows","_law_at"] f fd
 xt:∃f fd,Def K mg "_law_bent" w5 ["_law_row_here","_law_cell"] f fd
 tL:∃f fd,Def K mg "_law_number" se ["_law_word","_law_most"] f fd
 qB:∃f fd,Def K mg "_law_is_name" qe ["_law_word"] f fd
 xr:∃f fd,Def K mg "_law_good" w4 ["_law_row_here"] f fd
 zV:∃f fd,Def K mg "_law_row" yT ["_law_cell"] f fd
 mv:∃f fd,Def K mg "_law_whole_text" lV ["_law_cell"] f fd
 ve:∃f fd,Def K mg "told_shift" uj ["words"] f fd
 qq:∃f fd,Def K mg "with_flights" pX ["sheet","names","flights"] f fd
 kq:∃f fd,Def K mg "sheet_with_flight" jS ["sheet","words"] f fd
 tE:∃f fd,Def K mg "with_closed" rX ["sheet","closed"] f fd
 jF:∃f fd,Def K mg "sheet_with_stretch" jx ["sheet","words"] f fd
 iP:∃f fd,Def K mg "sheet_without_flight" iO ["sheet","words"] f fd
 pF:∃f fd,Def K mg "changed_sheet" ou ["sheet","words"] f fd
 d_law:∃f fd,Def K mg "law" s_law ["_law_script"] f fd/\∀(s:x_) (v:j_),HI s fd ⟨[v],[]⟩ [("_law_script",v)]
 m_M_R_gap_rows:∃f fd,Mth K CR "gap_rows" "Rules.gap_rows" iK ["self"] f fd
 m_M_P_gap_rows:∃f fd,Mth K CP "gap_rows" "Rules.gap_rows" iK ["self"] f fd
 m_M_P_beside_rows:∃f fd,Mth K CP "beside_rows" "Pair.beside_rows" kM ["self"] f fd
 m_M_S_shown:∃f fd,Mth K CS "shown" "Sheet.shown" si ["self"] f fd
 n_P:∃f fd,Mth K CP "__init__" "Pair.__init__" s_nP ["self","gaps","beside"] f fd
 n_R:∃f fd,Mth K CR "__init__" "Rules.__init__" s_nR ["self","gaps"] f fd/\Stat K CR (.type "type") "__init__" f
 n_S:∃f fd,Mth K CS "__init__" "Sheet.__init__" s_nS ["self","kinds","rules","names","flights","closed"] f fd
 n_CW:∃f fd,Mth K CW "__init__" "NoSheet.__init__" s_nCW ["self","row"] f fd/\XMk K mg "NoSheet" CW f
 ne:CR≠CP
noncomputable abbrev Zq(_:Nat)(_:Ec)(_:Ek)(_:DR):=Zs
theorem law_d{K:Fg}{st:DX}{ps:List o_}{q:EJ->Prop}(h:∃f fd,Def K mg x st ps f fd/\q fd):∃f fd,Def K mg x st ps f fd:=let ⟨f,fd,D,_⟩:=h;⟨f,fd,D⟩
theorem putGB(a b:V):oE ("beside":o_) b [(("gaps":o_),a)]=[(("gaps":o_),a),(("beside":o_),b)]:=by show(if ("gaps":o_)="beside" then _ else(("gaps":o_),a)::oE "beside" b [])=_;rw[l_ (by decide +kernel)];rfl
theorem sc_nCW:eA ["self","row"] ["self","row"] (aA s_nCW):=⟨rfl,rfl,rfl,by decide +kernel,rfl,by decide +kernel,by decide +kernel⟩
theorem okn_CW{w:Ek}{K:Fg}{base:DR}{f:g_}{fd:EJ}(N:Fun K "__init__" "NoSheet.__init__" s_nCW f fd)(J:A6 K C "row"):eZ P w K mg base CX0 1 f fd ["self","row"] (spX1 C "row"):=by
 refine N.okX sc_nCW (λvs H Q E h=>?_) (λcdv A outer s H vs Q E Y h=>?_)
 ·obtain⟨a,v1,rfl,_⟩:=h;rfl
 ·obtain⟨a,v1,rfl,U,q⟩:=h;refine⟨_,aT (ps_x1 (pv 0) (pv 1) J),?_⟩
  exact⟨v1,rfl,_,rfl,a,rfl,U,λd hd I=>q d hd I⟩
section
variable{w:Ek}{base:DR}{K:Fg}{CR CE:g_}(Z:Zq n P w base K mg CR CP CS CW CE CD CK ANoRow AStripError ANoPlace ANoPlan ANoRules ANoSheet ANoTime ANotFree ATooMany)
include Z
theorem kN:YO Z.vf P w base 1 e_ (gc):=
 fY ["word","kinds","rows","least","shown","kind","row","other","gap"] λz I J=>(au (ds_sT I (cb ip)) (au (yv (pt:=.tp [5,6]) (Ce Z.z_zip (av 1) (av 2)) (dg_tp rfl (nV (i:=5) I (nV (i:=6) I tf))) (az (yv (pt:=.tp [7,8]) (Ce Z.z_zip (av 1) (av 6)) (dg_tp rfl (nV (i:=7) I (nV (i:=8) I tf))) (az (cE (aD o_ge (av 8) (av 3)) (az (ds_appB (i:=4) (xk (fO (pC (av 0)) (fO ay (fO (pC (av 5)) (fO ay (fO (pC (av 7)) (fO ay (fO (pC (av 8)) C8)))))))))) b7))))) (az (ds_retV (i:=4)))))
theorem fW:YO Z.tK P w base 1 b_ (dB):=
 fY ["rows"] λz I J=>(az (aE (aw (dQ ["row"] [d_] (hV (av 0)) (λ_ _ _ _ _=>fq (by decide +kernel)) (aR rfl) (λ_ _ _ _ _=>dN) (λ_ _ _ _ _=>(aw (jj c_list Z.Ah E9 (da1 (av 0)))))))))
theorem qi:YM Z.m_M_R_gap_rows P w mg base 2 b_ (bx CR CP CS CW CE CD CK n):=
 fM ["self"] λz J I=>(az (aE (dY (fW Z) I (da1 (bV (Cs:=[CR,CP]) Z.lB (av 0))))))
theorem qj:YM Z.m_M_P_gap_rows P w mg base 2 b_ (bx CR CP CS CW CE CD CK n):=
 fM ["self"] λz J I=>(az (aE (dY (fW Z) I (da1 (bV (Cs:=[CR,CP]) Z.lB (av 0))))))
theorem oR:YO Z.qx P w base 1 b_ (cY):=
 fY ["kinds","name","flight","words"] λz I J=>(au (dO I (aw (aZ cN (aw (cb (da3 ay (av 1) (br f9 (av 0) (br f9 (av 2) aj))))) (aw (dQ ["number"] [d_] (hV (aw (fP nX (av 2) (bC aj) bE))) (λ_ _ _ _ _=>fq (by decide +kernel)) (aR rfl) (λ_ _ _ _ _=>dN) (λ_ _ _ _ _=>(jj c_str Z.z_str PyProof.Rows.boot_str (da1 (av 0))))))))) (az (aE (lI jc D2 Eb ay (av 3)))))
theorem m4:YM Z.m_M_P_beside_rows P w mg base 2 b_ (cx CR CP CS CW CE CD CK n):=
 fM ["self"] λz J I=>(az (aE (dY (fW Z) I (da1 (bV (Cs:=[CP]) Z.r9 (av 0))))))
theorem zo:YO Z.Ck P w base 3 b_ (bS CR CP CS CW CE CD CK n):=
 fY ["kinds","rules","names","flights","closed","rows"] λz d Y=>let ⟨_,_,c,I⟩:=m4 Z;let ⟨_,_,a,U⟩:=qj Z;let ⟨_,_,b,J⟩:=qi Z;(au (nU (i:=5) e_ ["name"] [d_] d (hV (av 0)) (λ_ _ _ _ _=>fq (by decide +kernel)) (aR rfl) (λ_ _ _ _ _=>dN) (λ_ _ _ _ _=>(xk (fO ay (fO (pC (av 0)) C8))))) (au (yw (i:=5) (dY (kN Z) Y (da4 ay (av 0) (Cf Z.kR.cl b.mt J Y b.bd Z.kP.cl a.mt U Y a.bd (av 1)) aj))) (au (cE (gM (de_isiC (tb:=[(CR,b_),(CP,e_)]) (isi2 ⟨⟨_,Z.kR⟩,Z.ki_CR_CP⟩ ⟨⟨_,Z.kP⟩,Z.ki_CP_CP⟩) Z.cM Z.kP.mg (av 1))) (az (yw (i:=5) (dY (kN Z) Y (da4 ay (av 0) (Cg Z.kP.cl c.mt I Y c.bd (av 1)) aj)))) b7) (au (yw (i:=5) (dQ ["start","stop"] [d_,d_] (hV (av 4)) (λ_ _ _ _ _=>dg_tp rfl (lH (i:=0) (by decide +kernel) (lH (i:=1) (by decide +kernel) tf))) (uP (by decide)) (λ_ _ _ _ _=>dN) (λ_ _ _ _ _=>(xk (fO ay (fO (pC (av 0)) (fO ay (fO (pC (av 1)) C8)))))))) (au (yw (i:=5) (dQ ["name","flight","kinds"] [d_,d_,a_ 0] (Ce Z.z_zip (av 2) (av 3)) (λ_ _ _ _ _=>dg_tp rfl (lH (i:=0) (by decide +kernel) (lH (i:=1) (by decide +kernel) tf))) (uP (by decide)) (λ_ _ _ _ _=>dN) (λ_ _ _ _ _=>(dY (oR Z) Y (da3 (av 2) (av 0) (av 1)))))) (ds_enter (O2:=[]) (az (aE (lI jc D2 Eb ay (aw (dQ ["row"] [d_] (hV (av 5)) (λ_ _ _ _ _=>fq (by decide +kernel)) (aR rfl) (λ_ _ _ _ _=>dN) (λ_ _ _ _ _=>(aw (aZ cN (av 0) ay))))))))))))))
end
theorem sc_nS:eA ["self","kinds","rules","names","flights","closed"] ["self","kinds","rules","names","flights","closed"] (aA s_nS):=⟨rfl,rfl,rfl,by decide +kernel,rfl,by decide +kernel,by decide +kernel⟩
theorem okn_S{w:Ek}{K:Fg}{base:DR}{CR CE:g_}{J f:g_}{I fd:EJ}(D:Def K mg "text_of" uk ["kinds","rules","names","flights","closed"] J I)(c:eZ P w K mg base CX0 3 J I ["kinds","rules","names","flights","closed"] (spF K b_ (bS CR CP CS CW CE CD CK n) 5))(N:Fun K "__init__" "Sheet.__init__" s_nS f fd)(b:Cls K C)(Y:∀y∈(["kinds","rules","names","flights","closed","text"]:List o_),b8 K C y)(U:mg "list"=d_):eZ P w K mg base CX0 4 f fd ["self","kinds","rules","names","flights","closed"] (spIS K C (bS CR CP CS CW CE CD CK n)):=
 N.okX sc_nS (λvs H Q E h=>by obtain⟨_,_,_,_,_,_,_,_,_,_,_,_,_,_,_,_,_,_,rfl,_⟩:=h;rfl) λcdv A outer s H vs Q E a h=>
  ⟨_,aI (fj (pv 0) (j4 gk rfl U E9 (ax (pv 1) aK)) rfl) (aI (fj (pv 0) (pv 2) rfl) (aI (fj (pv 0) (j4 gk rfl U E9 (ax (pv 3) aK)) rfl) (aI (fj (pv 0) (j4 gk rfl U E9 (ax (pv 4) aK)) rfl)
   (aI (fj (pv 0) (j4 gk rfl U E9 (ax (pv 5) aK)) rfl) (aT (fj (pv 0) (iu c a (by rfl) D.mg D.fn.kp D.bd .nil mX (ax (pv 1) (ax (pv 2) (ax (pv 3) (ax (pv 4) (ax (pv 5) aK)))))) rfl)))))),rs_initS b Y h⟩
section
variable{w:Ek}{base:DR}{K:Fg}{CR CE:g_}(Z:Zq n P w base K mg CR CP CS CW CE CD CK ANoRow AStripError ANoPlace ANoPlan ANoRules ANoSheet ANoTime ANotFree ATooMany)
include Z
theorem zp:YO Z.Cn P w base 1 b_ (jd):=
 fY ["gaps","kind","many"] λz J I=>(az (aE (aw (dQ ["other","gaps","kind"] [d_,a_ 0,a_ 1] (xf Z.vJ (da1 (av 2))) (λ_ _ _ _ _=>fq (by decide +kernel)) (aR rfl) (λ_ _ _ _ _=>dN) (λ_ _ _ _ _=>(de_getD I.units (av 1) (v9 (da2 (av 2) (av 0))) aj))))))
theorem mI:YO Z.xq P w base 2 b_ (gG):=
 fY ["gaps","many"] λz J I=>(az (aE (aw (dQ ["kind","gaps","many"] [d_,a_ 0,a_ 1] (xf Z.vJ (da1 (av 1))) (λ_ _ _ _ _=>fq (by decide +kernel)) (aR rfl) (λ_ _ _ _ _=>dN) (λ_ _ _ _ _=>(dY (zp Z) I (da3 (av 1) (av 0) (av 2))))))))
theorem uI:YO Z.d_is_gap P w base 1 b_ (eJ):=
 fY ["number"] λz I J=>(au (cE (PW.pt (il (pA (gM (zQ Z.kit Z.cM Z.z_int (av 0)))) (gL (gM (xj Z.kit Z.cM Z.z_bool (av 0)))))) (az (aE pD)) b7) (az (aE (tu Ac Ac aj (av 0) (i5 Z.qp)))))
theorem sI:YO Z.vi P w base 2 b_ (eE):=
 fY ["row","kinds"] λz J I=>(az (aE (rn (xi Z.kit Z.cM Z.Ah (av 0)) (rn (gv (i4 I.units) (aS jG Z.gB Dm (da1 (av 0))) (av 1)) (rl (aS (A1 rfl) Z.yF Il (da1 (aw (dQ ["number"] [d_] (hV (av 0)) (λ_ _ _ _ _=>fq (by decide +kernel)) (aR rfl) (λ_ _ _ _ _=>dN) (λ_ _ _ _ _=>(dY (uI Z) I (da1 (av 0)))))))))))))
theorem j9:YO Z.qz P w base 3 b_ (aG):=
 fY ["rows","kinds"] λz J I=>(au (dO J (aS jG Z.gB Dm (da1 (av 0)))) (au (cE (pA (dt_chain Ac Ac aj (av 1) (i5 Z.mS))) (az ds_stk) b7) (au (cE (pA (gM (aS (A1 rfl) Z.yF Il (da1 (aw (dQ ["row","kinds"] [d_,a_ 1] (hV (av 0)) (λ_ _ _ _ _=>fq (by decide +kernel)) (aR rfl) (λ_ _ _ _ _=>dN) (λ_ _ _ _ _=>(dY (sI Z) I (da2 (av 0) (av 1)))))))))) (az ds_stk) b7) (az (aE (dY (fW Z) I (da1 (av 0))))))))
end
theorem sc_nR:eA ["self","gaps"] ["self","gaps"] (aA s_nR):=⟨rfl,rfl,rfl,by decide +kernel,rfl,by decide +kernel,by decide +kernel⟩
theorem okn_R{P : Ec}{w : Ek}{K : Fg}{mg : o_ -> Option j_}{base : DR}{C f: g_}(U : Def K mg "checked_rows" hZ ["rows"] dU de)(t : eZ P w K mg base CX0 3 dU de ["rows"] (spF K b_ (aG) 1))(N : Fun K "__init__" "Rules.__init__" s_nR f fd)(n : Cls K C)(j : b8 K C "gaps"): eZ P w K mg base CX0 4 f fd ["self", "gaps"] (spI1 K C (aG)) := by
  refine N.okX sc_nR (λvs H Q E h => ?_) (λcdv A outer s H vs Q E l h => ?_)
  · obtain⟨p,dx,v,F,d,rfl,_⟩ := h
    rfl
  · obtain⟨p,dx,v,F,d,rfl,Y,m,b,i,q⟩ := h
    refine⟨_,aT (fj (pv 0) (iu t l (by rfl) U.mg U.fn.kp U.bd .nil mX (ax (pv 1) aK)) rfl),?_⟩
    refine⟨v,rfl,F,[d],b,⟨v,[],rfl,i,rfl⟩,rfl,?_⟩
    skip;cases a : aG [d]with
    | error e => rw[a]at q; exact q| ok r =>
      rw[a]at q;intro u F' H' st g;have I : F' p = d_ := by
        cases k : F' p with
        | none => rfl| some o =>
          rcases st.nw p o k with z | z
          · rw[m]at z; cases z
          · rw[Y]at z; cases z
      refine⟨_,rfl,p,C,dx,[],rfl,st.hh _ _ Y,n,j,(by show 0 < 1000; decide),?_⟩
      refine q u F' _ st.ff (λc o e => ?_) I st.nw (λc o e J => by rw[ao J]; exact st.hh _ _ e) aq g;have J : c ≠ p :=λz => by rw[z,I]at e; cases e
      rw[ao J];exact st.fh _ _ e
theorem sc_nP:eA ["self","gaps","beside"] ["self","gaps","beside"] (aA s_nP):=⟨rfl,rfl,rfl,by decide +kernel,rfl,by decide +kernel,by decide +kernel⟩
theorem okn_P{P : Ec}{w : Ek}{K : Fg}{mg : o_ -> Option j_}{base : DR}{CR CP : g_}{f L: g_}{Y: EJ}{mc : j_}(n : Def K mg "checked_rows" hZ ["rows"] dU de)(OK : eZ P w K mg base CX0 3 dU de ["rows"] (spF K b_ (aG) 1))(S : Stat K CR mc "__init__" L)(bI : Binds K Y ["self", "gaps"] [])(FI : eZ P w K mg base CX0 4 L Y ["self", "gaps"] (spI1 K CP (aG)))(mR : mg "Rules" = a_ (.ref CR))(t : mg "len" = d_)(N : Fun K "__init__" "Pair.__init__" s_nP f fd)(m : Cls K CP)(na : b8 K CP "gaps")(B : b8 K CP "beside"): eZ P w K mg base CX0 5 f fd ["self", "gaps", "beside"] (spI2 K CP (aG)) := by
  refine N.okX sc_nP (λvs H Q E h => ?_) (λcdv A outer s H vs Q E C h => ?_)
  · obtain⟨p,dx,v,g,F,d,l,rfl,_⟩ := h
    rfl
  · obtain⟨p,dx,v,g,F,d,l,rfl,hp,hF,s1,qd,j,q⟩ := h
    refine⟨_,aI (lZ (pe_cmeth S (by rfl) mR FI C bI .nil mX (ax (pv 0) (ax (pv 1) aK))))
      (aI (fj (pv 0) (iu OK (C.mono (by decide)) (by rfl) n.mg n.fn.kp n.bd .nil mX (ax (pv 2) aK)) rfl)
      (aT (j0 (wk op_ne (gw jl (by rfl) t Dm (ax (g9 (pv 0) rfl) aK)) (gw jl (by rfl) t Dm (ax (g9 (pv 0) rfl) aK)) (yf _)) oF dZ))),?_⟩
    refine⟨_,rfl,_,rfl,p,dx,v,F,d,rfl,hp,hF,s1,qd,?_⟩
    cases D : aG [d]with
    | error e => rw[D]at q; exact q| ok r =>
      rw[D,ae]at q;intro u F1 H1 W a2 a3 a4 T R O;refine⟨g,rfl,F1,[l],a2,⟨g,[],rfl,aP.mono W j,rfl⟩,rfl,?_⟩
      skip;cases U : aG [l]with
      | error e => rw[U]at q; exact DV q| ok r2 =>
        rw[U,ae]at q;intro x F2 H2 st y;by_cases J : twoL r r2 = e_
        · rw[i_ J]at q
          have I : F2 p = d_ := by
            cases k : F2 p with
            | none => rfl| some o =>
              rcases st.nw p o k with z | z
              · rw[a3]at z; cases z
              · rw[R]at z; cases z
          refine⟨_,rfl,p,CP,dx,_,rfl,st.hh _ _ R,m,B,(by show 1 < 1000; decide),?_⟩
          rw[putGB];have i : aO F2 (upd H2 p (.ins CP dx [("gaps", u),("beside", x)])) :=λc o e => by
            have a : c ≠ p :=λz => by rw[z,I]at e; cases e
            rw[ao a];exact st.fh _ _ e
          cases r with
          | lst xs =>
            cases r2 with
            | lst ys =>
              have hl : xs.length = ys.length := EV J;obtain⟨g1,xs1,e1,t1,Z⟩ := aP.mono st.ff O;obtain⟨g2,xs2,e2,t2,X⟩ := id y;refine⟨_,rfl,p,CP,dx,_,_,rfl,aq,m,B,rfl,g2,_,by rw[e2],.inl (i.lst t2),_,rfl,p,CP,dx,_,_,rfl,aq,m,na,rfl,g1,_,by rw[e1],.inl (i.lst t1),rfl,_,rfl,?_⟩
              refine iteNS (by rw[Z.length,X.length,hl]) ?_;refine q u x F2 _ (W.trans st.ff) i I (λb o e => ?_) (λc o e a => by rw[ao a]; exact st.hh _ _ (T c o e a)) aq (aP.mono st.ff O) y;rcases st.nw b o e with z | z
              · exact a4 b o z
              · refine .inr ?_
                cases k : H b with
                | none => rfl| some o' =>
                  by_cases G : b = p
                  · subst G; rw[I]at e; cases e
                  · rw[T b o' k G]at z; cases z
            | _ => cases J
          | _ => cases J
        · rw[l_ J]at q; exact DV q
section
variable{w:Ek}{base:DR}{K:Fg}{CR CE:g_}(Z:Zq n P w base K mg CR CP CS CW CE CD CK ANoRow AStripError ANoPlace ANoPlan ANoRules ANoSheet ANoTime ANotFree ATooMany)
include Z
theorem on_P:∃f fd,Mth K CP "__init__" "Pair.__init__" s_nP ["self","gaps","beside"] f fd/\eZ P w K mg base CX0 5 f fd ["self","gaps","beside"] (spI2 K CP (aG)):=
 let ⟨_,_,Y⟩:=j9 Z;let ⟨_,_,N,S⟩:=Z.n_R;let ⟨_,_,M⟩:=Z.n_P;⟨_,_,M,okn_P Y.d Y.o S N.bd (okn_R (C:=CP) Y.d Y.o N.fn Z.kP.cl (Z.lB CP (by simp)).2) Z.kR.mg Z.gB M.fn Z.kP.cl (Z.lB CP (by simp)).2 (Z.r9 CP (by simp)).2⟩
theorem on_R:∃f fd,Mth K CR "__init__" "Rules.__init__" s_nR ["self","gaps"] f fd/\eZ P w K mg base CX0 4 f fd ["self","gaps"] (spI1 K CR (aG)):=
 let ⟨_,_,Y⟩:=j9 Z;let ⟨_,_,N,_⟩:=Z.n_R;⟨_,_,N,okn_R Y.d Y.o N.fn Z.kR.cl (Z.lB CR (by simp)).2⟩
theorem mY:YO Z.pE P w base 7 b_ (cI CR CP CS CW CE CD CK n):=
 fY ["draft","many","gaps"] λz b a=>let ⟨_,_,Y,J⟩:=on_P Z;let ⟨_,_,U,I⟩:=on_R Z;(au (dO b (aS jG Z.gB Dm (da1 (bV (Cs:=[CD]) Z.fldD_kinds (av 0))))) (au (dO b (dY (mI Z) a (da2 (bV (Cs:=[CD]) Z.fldD_gaps (av 0)) (av 1)))) (au (cE (aD (o_eqE a.units) (bV (Cs:=[CD]) Z.fldD_beside (av 0)) (aw de_newK)) (az (aE (de_newR ⟨Z.kR.mks,U.mt.at_,U.mt.fn,Z.kR.kp⟩ I (a.mono (by decide)) Z.kR.mg U.bd (da1 (av 2))))) b7) (az (aE (de_newP ⟨Z.kP.mks,Y.mt.at_,Y.mt.fn,Z.kP.kp⟩ J a Z.kP.mg Y.bd (da2 (av 2) (dY (mI Z) a (da2 (bV (Cs:=[CD]) Z.fldD_beside (av 0)) (av 1))))))))))
theorem j7:YR Z.xn P w base 1 kJ:=
 fR ["kept","told"] (λ_ _ _ _=>len_told) λz I J vs Q h=>⟨_,(aI (j0 (uC (pc_isN (pv 1))) (aT (eG oM)) dZ) (aI (lZ (wq EB Fc FO kW (pv 0) (ax (pv 1) aK))) (aT (eG oM)))),rs_told h⟩
theorem gb:YO Z.xo P w base 1 b_ (aY):=
 fY ["word"] λz J I=>(au (cE (PW.pt (il (aD o_gt (aS rC Z.gB Dm (da1 (av 0))) (i5 Z.qo)) (gL (pA (gM (aS (A1 rfl) Z.yF Il (da1 (aw (dQ ["sign"] [d_] (yy (av 0)) (λ_ _ _ _ _=>fq (by decide +kernel)) (aR rfl) (λ_ _ _ _ _=>dN) (λ_ _ _ _ _=>(gv Bj (av 0) (tm Z.gs_FIGURES)))))))))))) (az (aE fw)) b7) (au (cE (PW.pt (pz (aD (i4 I.units) (br yH (av 0) aj) ay) (ko (aD (o_ne I.units) (av 0) ay)))) (az (aE fw)) b7) (az (aE (jj Cz Z.z_int GK (da1 (av 0)))))))
theorem wu:YO Z.zS P w base 2 b_ (bw):=
 fY ["kinds","words","gap"] λz J I=>(au (cE (PW.pt (il (aD (o_ne I.units) (aS jG Z.gB Dm (da1 (av 1))) aj) (il (aD (m5 I.units) (br f9 (av 1) aj) (av 0)) (gL (aD (m5 I.units) (br f9 (av 1) aj) (av 0)))))) (az (aE fw)) b7) (au (dO J (dY (gb Z) I (da1 (br f9 (av 1) aj)))) (az (aE (rm (gM (dY (uI Z) I (da1 (av 2)))) (v9 (da3 (lJ I.units (av 0) (br f9 (av 1) aj)) (lJ I.units (av 0) (br f9 (av 1) aj)) (av 2))) fw)))))
theorem oQ:YR Z.zU P w base 3 (vT K (bw)):=
 fR ["kinds","gaps","words","told"] (λ_ _ _ _=>len_gap) λz J I vs Q h=>⟨_,(aI (mG (i:=3) J rfl (.inl rfl) (pY (wu Z) I (ax (pv 0) (ax (pv 2) aK)))) (aI (j0 (uC (pc_isN (pv 3))) (aT (eG oM)) dZ) (aI (ps_put (hU I.units) (pv 1) (v9 (da2 (br f9 (av 3) aj) (br f9 (av 3) aj))) (br f9 (av 3) aj) rfl) (aT (eG oM))))),rs_gap h⟩
theorem qh:YO Z.tI P w base 1 b_ (eI):=
 fY ["number"] λz I J=>(az (aE (tu Ac Ac aj (av 0) (i5 Z.m9))))
theorem jA:YO Z.kr P w base 2 b_ (bB):=
 fY ["flight","first","last"] λz I J=>(au (dO I (br f9 (av 0) aj)) (au (dO I (br f9 (av 0) aj)) (az (aE (rn (gv Ac (av 1) (av 2)) (rl (aS (A1 rfl) Z.yF Il (da1 (aw (dQ ["number"] [d_] (hV (aw (fP nX (av 0) (bC aj) bE))) (λ_ _ _ _ _=>fq (by decide +kernel)) (aR rfl) (λ_ _ _ _ _=>dN) (λ_ _ _ _ _=>(dY (qh Z) J (da1 (av 0))))))))))))))
theorem qR:YO Z.Cm P w base 1 b_ (gf):=
 fY ["word"] λz I J=>(au (cE (PW.pt (il (aD o_gt (aS rC Z.gB Dm (da1 (av 0))) (i5 Z.uT)) (gL (aD nJ (br yH (av 0) aj) (tm Z.gs_LETTERS))))) (az (aE pD)) b7) (az (aE (aS (A1 rfl) Z.yF Il (da1 (aw (dQ ["sign"] [d_] (yy (av 0)) (λ_ _ _ _ _=>fq (by decide +kernel)) (aR rfl) (λ_ _ _ _ _=>dN) (λ_ _ _ _ _=>(de_or (gv Bj (av 0) (tm Z.gs_LETTERS)) (rl (gv Bj (av 0) (tm Z.gs_FIGURES))))))))))))
theorem jJ:YO Z.tG P w base 3 b_ (aF):=
 fY ["kinds","names","words","numbers","flight"] λz J I=>(au (cE (PW.pt (il (aD (o_ne I.units) (aS jG Z.gB Dm (da1 (av 2))) aj) (il (aD o_ge (aS jG Z.gB Dm (da1 (av 1))) (i5 Z.qm)) (gL (aD (m5 I.units) (br f9 (av 2) aj) (av 0)))))) (az (aE fw)) b7) (au (cE (PW.pt (il (pA (gM (dY (qR Z) I (da1 (br f9 (av 2) aj))))) (gL (aD (o_in I.units) (br f9 (av 2) aj) (av 1))))) (az (aE fw)) b7) (au (nU (i:=3) b_ ["word"] [d_] J (hV (aw (fP nX (av 2) (bC aj) bE))) (λ_ _ _ _ _=>fq (by decide +kernel)) (aR rfl) (λ_ _ _ _ _=>dN) (λ_ _ _ _ _=>(dY (gb Z) I (da1 (av 0))))) (au (cE (aD (o_in I.units) fw (av 3)) (az (aE fw)) b7) (au (dO J (v9 (da5 (lJ I.units (av 0) (br f9 (av 2) aj)) (br f9 (av 3) aj) (br f9 (av 3) aj) (br f9 (av 3) aj) (br f9 (av 3) aj)))) (az (aE (rm (gM (dY (jA Z) I (da1 (av 4)))) (av 4) fw))))))))
theorem qg:YR Z.tH P w base 4 (rT K CD (kH (aF))):=
 fR ["draft","words"] (λ_ _ _ _=>Bu) λz J I vs Q h=>⟨_,(aI (j0 (ya (nG (pY (j7 Z) I (ax (g9 (pv 0) rfl) (ax (pY (jJ Z) I (ax (g9 (pv 0) rfl) (ax (g9 (pv 0) rfl) (ax (pv 1) aK)))) aK))) (λ_=>rfl))) (aT (eG oM)) dZ) (aI (lZ (wq EB Fc FO kW (g9 (pv 0) rfl) (ax (br f9 (av 1) aj) aK))) (aT (eG oM)))),AV Z.kD.cl Z.naD h⟩
theorem uH:YO Z.xm P w base 2 b_ (bA):=
 fY ["kinds","words"] λz J I=>(au (cE (PW.pt (il (aD (o_ne I.units) (aS jG Z.gB Dm (da1 (av 1))) aj) (gL (aD o_ge (aS jG Z.gB Dm (da1 (av 0))) (i5 Z.mS))))) (az (aE fw)) b7) (az (aE (rm (PW.pt (pz (gM (dY (qR Z) I (da1 (br f9 (av 1) aj)))) (ko (aD (m5 I.units) (br f9 (av 1) aj) (av 0))))) (br f9 (av 1) aj) fw))))
theorem sH:YO Z.vh P w base 1 b_ (gd):=
 fY ["stretch"] λz I J=>(az (aE (Cj Ac o_lt Ac aj (br f9 (av 0) aj) (br f9 (av 0) aj) (i5 Z.pk))))
theorem uJ:YO Z.xp P w base 2 b_ (gF):=
 fY ["closed"] λz J I=>(az (aE (rn (gv Ac (aS jG Z.gB Dm (da1 (av 0))) (i5 Z.nz)) (rl (aS (A1 rfl) Z.yF Il (da1 (aw (dQ ["stretch"] [d_] (hV (av 0)) (λ_ _ _ _ _=>fq (by decide +kernel)) (aR rfl) (λ_ _ _ _ _=>dN) (λ_ _ _ _ _=>(dY (sH Z) I (da1 (av 0))))))))))))
theorem j6:YO Z.qu P w base 3 b_ (aC):=
 fY ["closed","words","stretch"] λz J I=>(au (cE (aD (o_ne I.units) (aS jG Z.gB Dm (da1 (av 1))) aj) (az (aE fw)) b7) (au (dO J (v9 (da2 (dY (gb Z) I (da1 (br f9 (av 1) aj))) (dY (gb Z) I (da1 (br f9 (av 1) aj)))))) (az (aE (rm (PW.pt (pz (aD (m5 I.units) fw (av 2)) (ko (gM (dY (uJ Z) I (da1 (aw (aZ cN (av 0) (aw (cb (da1 (av 2)))))))))))) (av 2) fw)))))
theorem wy:YR Z.zT P w base 5 (rT K CD (bN)):=
 fR ["draft","words"] (λ_ _ _ _=>Bu) λz J I vs Q h=>⟨_,(aI (j0 (PW.pt (il (aD (i4 I.units) (av 1) (aw (cb ip))) (gL (gM (lI Bm HR PySem.F.type_str_startswith (br f9 (av 1) aj) ay))))) (aT (eG oM)) dZ) (aI (j0 (aD (i4 I.units) (br f9 (av 1) aj) ay) (aT (eG (pY (j7 Z) I (ax (g9 (pv 0) rfl) (ax (pY (uH Z) I (ax (g9 (pv 0) rfl) (ax (pv 1) aK))) aK))))) dZ) (aI (j0 (aD (i4 I.units) (br f9 (av 1) aj) ay) (aT (eG (pY (oQ Z) I (ax (g9 (pv 0) rfl) (ax (g9 (pv 0) rfl) (ax (pv 1) aK)))))) dZ) (aI (j0 (aD (i4 I.units) (br f9 (av 1) aj) ay) (aT (eG (pY (oQ Z) I (ax (g9 (pv 0) rfl) (ax (g9 (pv 0) rfl) (ax (pv 1) aK)))))) dZ) (aI (j0 (aD (i4 I.units) (br f9 (av 1) aj) ay) (aT (eG (pY (j7 Z) I (ax (g9 (pv 0) rfl) (ax (pY (j6 Z) I (ax (g9 (pv 0) rfl) (ax (pv 1) aK))) aK))))) dZ) (aT (eG (pe_and (gv (i4 I.units) (br f9 (av 1) aj) ay) (pe_one (pY (qg Z) I (ax (pv 0) (ax (pv 1) aK)))))))))))),rs_row Z.kD.cl Z.naD h⟩
theorem oP:YO Z.zR P w base 1 b_ (eD):=
 fY ["row"] λz J I=>(az (aE (aw (dQ ["word"] [d_] (hV (aw (lI kU EE Fl (av 0) ay))) (λ_ _ _ _ _=>fq (by decide +kernel)) (aR rfl) (λ_ _ _ _ _=>so (aD (o_ne I.units) (av 0) ay)) (λ_ _ _ _ _=>(av 0))))))
theorem on_CW:∃f fd,Mth K CW "__init__" "NoSheet.__init__" s_nCW ["self","row"] f fd/\XMk K mg "NoSheet" CW f/\eZ P w K mg base CX0 1 f fd ["self","row"] (spX1 CW "row"):=
 let ⟨_,_,N,X⟩:=Z.n_CW;⟨_,_,N,X,okn_CW N.fn Z.aCW_row⟩
theorem on_D:∃f fd,Mth K CD "__init__" "Draft.__init__" s_nD ["self"] f fd/\eZ P w K mg base CX0 1 f fd ["self"] (spID CD):=
 let ⟨f,fd,N⟩:=Z.n_D;⟨f,fd,N,N.fn.okX (N:=["self"]) (by exact⟨rfl,rfl,rfl,by decide +kernel,rfl,by decide +kernel,by decide +kernel⟩) (λ_ _ _ _=>len_ID) λc A o s H vs Q E I h=>⟨_,aI (fj (pv 0) (mH aK) rfl) (aI (fj (pv 0) wm rfl) (aI (fj (pv 0) wm rfl) (aI (fj (pv 0) (mH aK) rfl) (aI (fj (pv 0) (mH aK) rfl) (aT (fj (pv 0) (mH aK) rfl)))))),rs_initD Z.kD.cl Z.naD h⟩⟩
theorem on_S:∃f fd,Mth K CS "__init__" "Sheet.__init__" s_nS ["self","kinds","rules","names","flights","closed"] f fd/\eZ P w K mg base CX0 4 f fd ["self","kinds","rules","names","flights","closed"] (spIS K CS (bS CR CP CS CW CE CD CK n)):=
 let ⟨_,_,Y⟩:=zo Z;let ⟨_,_,N⟩:=Z.n_S;⟨_,_,N,okn_S Y.d Y.o N.fn Z.kS.cl Z.naS Z.Ah⟩
theorem sE:YX Z.vg P w base 8 b_ (bJ CR CP CS CW CE CD CK n):=
 fX ["text","draft","number","row"] λz c J=>let ⟨_,_,U,I,d⟩:=on_CW Z;let ⟨_,_,b,Y⟩:=on_D Z;let ⟨_,_,a,e⟩:=on_S Z;(C7 (mG (i:=1) c rfl (.inl rfl) (pe_make0 ⟨Z.kD.mks,b.mt.at_,b.mt.fn,Z.kD.kp⟩ Y (J.mono (by decide)) rfl Z.kD.mg b.bd .nil mX)) (ps_for PassesOwn.leaving rfl (pi_enum1 rfl Z.vK (aw (lI kU EE Fl (av 0) ay))) (pg_tup rfl (nH (oJ (i:=2) c rfl (.inl rfl)) (nH (oJ (i:=3) c rfl (.inl rfl)) Bb))) (aT (j0 (ya (nG (pY (wy Z) J (ax (pv 1) (ax (pY (oP Z) J (ax (pv 3) aK)) aK))) (λ_=>rfl))) (aT (uD DH xeqD2 I.ex I.fn I.kp d (J.mono (by decide)) U.bd I.mg (ax (pv 2) aK))) dZ))) (au (cE (aD (i4 J.units) (bV (Cs:=[CD]) Z.fldD_kinds (av 1)) (aw (cb ip))) (az (BZ DH xeqD2 I.ex I.fn I.kp d (J.mono (by decide)) U.bd I.mg (da1 aj))) b7) (lD (az (aE (xh ⟨Z.kS.mks,a.mt.at_,a.mt.fn,Z.kS.kp⟩ e (J.mono (by decide)) Z.kS.mg a.bd (da5 (bV (Cs:=[CD]) Z.fldD_kinds (av 1)) (dY (mY Z) J (da1 (av 1))) (bV (Cs:=[CD]) Z.fldD_names (av 1)) (bV (Cs:=[CD]) Z.fldD_flights (av 1)) (bV (Cs:=[CD]) Z.fldD_closed (av 1)))))))))
theorem nj:YN Z.pH P w mg base 9 (spDI K CK (bJ CR CP CS CW CE CD CK n)):=
 fN ["self","text"] (λ_ _ _ _=>len_DI) λz U J vs Q h=>let ⟨_,_,I⟩:=sE Z;⟨_,(aI (fj (pv 0) (iu I.o (J.mono (by decide)) rfl I.d.mg I.d.fn.kp I.d.bd .nil zi (ax (pv 1) aK)) rfl) (aT (fj (pv 0) Bc rfl))),rs_initK Z.kK.cl Z.naK h⟩
theorem on_K:∃f fd,Mth K CK "__init__" "Desk.__init__" iZ ["self","text"] f fd/\eZ P w K mg base (CXd P w) 9 f fd ["self","text"] (spDI K CK (bJ CR CP CS CW CE CD CK n)):=nj Z
theorem nh:YO Z.pG P w base 11 b_ (eK CR CP CS CW CE CD CK n):=
 fY ["_law_rows","_law_at","_law_told","e"] λz c b=>let ⟨_,_,Y,I,g⟩:=on_CW Z;let ⟨_,_,U,J⟩:=on_K Z;(au (dO c (aw (cb ip))) (au (ds_toldR (i:=3) (j:=2) (λpins σ E k h=>(dsa_expr (own:=b_) (dea_newK ⟨Z.kK.mks,U.mt.at_,U.mt.fn,Z.kK.kp⟩ J h (b.mono (by decide)) Z.kK.mg U.bd (da1 (lI jc D2 Eb ay (aw (aZ cN (aw (aZ cN (aw (fP nX (av 0) bE (bC (av 1)))) (aw (cb (da1 ay))))) (aw (fP nX (av 0) (bC (av 1)) bE))))))))) Z.xCW c (λa d oe f hd e=>aT (mG c rfl (.inl rfl) (mH (ax (pe_xfld Eh Z.xCW.isi Z.aCW_row f hd e) (ax (pe_isO (c_isiD Eh Z.xCW.isi f hd e) Z.cM Z.mI_NoRow Z.wQ) aK)))))) (az (aE (rn (gv (i4 b.units) (av 2) (aw (cb (da2 (aw (aZ cN (av 1) aj)) pD)))) (rl (gv (i4 b.units) (de_mkfld DH Eh I.ex I.fn I.kp g (b.mono (by decide)) Y.bd I.mg Z.xCW.isi Z.aCW_row (av 1)) (av 1))))))))
theorem uL:YO Z.xt P w base 1 b_ (iz):=
 fY ["_law_row_here","_law_cell","_law_number_here","_law_words","_law_at","_law_spot","_law_way"] λz J I=>(au (dO J (aZ kT (aZ o_mul (av 1) aj) aj)) (au (dO J (aw (lI kU EE Fl (av 0) ay))) (au (dO J (aZ kT (aZ oV (av 2) aj) (aS jG Z.gB Dm (da1 (av 3))))) (au (dO J (aZ kT (aZ oV (av 2) aj) (aw (aZ cN (aS rC Z.gB Dm (da1 (av 0))) aj)))) (au (dO J (aZ kT (av 2) aj)) (au (cE (aD (i4 I.units) (av 6) aj) (az (aE (lI jc D2 Eb ay (aw (aZ cN (aw (fP nX (av 3) bE (bC (av 4)))) (aw (fP nX (av 3) (bC (aw (aZ cN (av 4) aj))) bE))))))) b7) (au (cE (aD (i4 I.units) (av 6) aj) (az (aE (lI jc D2 Eb ay (aw (aZ cN (aw (aZ cN (aw (fP nX (av 3) bE (bC (av 4)))) (aw (cb (da1 ay))))) (aw (fP nX (av 3) (bC (av 4)) bE))))))) b7) (au (cE (aD (i4 I.units) (av 6) aj) (az (aE (lI jc D2 Eb ay (aw (aZ cN (aw (aZ cN (aw (fP nX (av 3) bE (bC (av 4)))) (aw (cb (da1 (aw (aZ cN ay (br f9 (av 3) (av 4))))))))) (aw (fP nX (av 3) (bC (aw (aZ cN (av 4) aj))) bE))))))) b7) (au (cE (aD (i4 I.units) (av 6) aj) (az (aE (lI jc D2 Eb ay (aw (aZ cN (aw (aZ cN (aw (fP nX (av 3) bE (bC (av 4)))) (aw (cb (da1 (aZ o_mulB ay (br f9 (aw (cb (da2 aj aj))) (aZ kT (aZ oV (av 2) aj) aj)))))))) (aw (fP nX (av 3) (bC (aw (aZ cN (av 4) aj))) bE))))))) b7) (au (cE (aD (i4 I.units) (av 6) aj) (az (aE (lI jc D2 Eb ay (aw (aZ cN (aw (aZ cN (aw (fP nX (av 3) bE (bC (av 4)))) (aw (cb (da1 (br f9 (aw (cb (da4 ay ay ay ay))) (aZ kT (aZ oV (av 2) aj) aj))))))) (aw (fP nX (av 3) (bC (aw (aZ cN (av 4) aj))) bE))))))) b7) (au (cE (aD (i4 I.units) (av 6) aj) (az (aE (aw (aZ cN (aw (aZ cN (fP x_slS (av 0) bE (bC (av 5))) ay)) (fP x_slS (av 0) (bC (av 5)) bE))))) b7) (au (cE (aD (i4 I.units) (av 6) aj) (az (aE (aw (aZ cN (aw (aZ cN (fP x_slS (av 0) bE (bC (av 5))) (br yH ay (aZ kT (aZ oV (av 2) aj) aj)))) (fP x_slS (av 0) (bC (av 5)) bE))))) b7) (au (cE (aD (i4 I.units) (av 6) aj) (az (aE (aw (aZ cN (aw (aZ cN ay (av 0))) ay)))) b7) (az (aE (av 0))))))))))))))))
theorem i3:YO Z.tL P w base 1 b_ (aW):=
 fY ["_law_word","_law_most"] λz J I=>(au (cE (PW.pt (il (aD (i4 I.units) (av 0) ay) (il (aD (o_ne I.units) (aw (dQ ["_law_sign"] [d_] (yy (av 0)) (λ_ _ _ _ _=>fq (by decide +kernel)) (aR rfl) (λ_ _ _ _ _=>so (aD nJ (av 0) ay)) (λ_ _ _ _ _=>(av 0)))) (aw (cb ip))) (gL (aD o_gt (aS rC Z.gB Dm (da1 (av 0))) aj))))) (az (aE (de_un o_neg aj))) b7) (au (cE (PW.pt (il (PW.pt (pz (aD o_gt (aS rC Z.gB Dm (da1 (av 0))) aj) (ko (aD (i4 I.units) (br yH (av 0) aj) ay)))) (gL (aD o_gt (jj Cz Z.z_int GK (da1 (av 0))) (av 1))))) (az (aE (de_un o_neg aj))) b7) (az (aE (jj Cz Z.z_int GK (da1 (av 0)))))))
theorem oU:YO Z.qB P w base 1 b_ (cZ):=
 fY ["_law_word"] λz J I=>(au (cE (PW.pt (il (aD (i4 I.units) (av 0) ay) (il (aD o_gt (aS rC Z.gB Dm (da1 (av 0))) aj) (gL (aD nJ (br yH (av 0) aj) ay))))) (az (aE pD)) b7) (az (aE (gv (i4 I.units) (aw (dQ ["_law_sign"] [d_] (yy (av 0)) (λ_ _ _ _ _=>fq (by decide +kernel)) (aR rfl) (λ_ _ _ _ _=>so (aD nJ (av 0) ay)) (λ_ _ _ _ _=>(av 0)))) (aw (cb ip))))))
theorem uK:YO Z.xr P w base 2 b_ (k8):=
 fY ["_law_row_here","_law_words","_law_numbers","_law_start"] λz J I=>(au (nU (i:=1) b_ ["_law_word"] [d_] J (hV (aw (lI kU EE Fl (av 0) ay))) (λ_ _ _ _ _=>fq (by decide +kernel)) (aR rfl) (λ_ _ _ _ _=>so (aD (o_ne I.units) (av 0) ay)) (λ_ _ _ _ _=>(av 0))) (au (cE (PW.pt (il (aD Bj ay (av 0)) (gL (aD (i4 I.units) (av 1) (aw (cb ip)))))) (az (aE pD)) b7) (au (cE (PW.pt (pz (aD (i4 I.units) (br f9 (av 1) aj) ay) (ko (aD (i4 I.units) (aS jG Z.gB Dm (da1 (av 1))) aj)))) (au (nU (i:=2) b_ ["_law_word"] [d_] J (hV (aw (fP nX (av 1) (bC aj) bE))) (λ_ _ _ _ _=>fq (by decide +kernel)) (aR rfl) (λ_ _ _ _ _=>dN) (λ_ _ _ _ _=>(dY (i3 Z) I (da2 (av 0) (aZ o_pow aj aj))))) (au (cE (PW.pt (il (pA (gM (dY (oU Z) I (da1 (br f9 (av 1) aj))))) (il (aD (i4 I.units) (br f9 (av 1) aj) ay) (gL (aD (o_ne I.units) (br f9 (av 1) aj) ay))))) (az (aE pD)) b7) (az (aE (rn (gv o_ge (aS (c_min rfl) Z.z_min boot_min (da1 (av 2))) aj) (rl (gv Ac (br f9 (av 2) aj) (br f9 (av 2) aj)))))))) b7) (au (cE (PW.pt (pz (aD (i4 I.units) (br f9 (av 1) aj) ay) (ko (aD (i4 I.units) (aS jG Z.gB Dm (da1 (av 1))) aj)))) (au (dO J (dY (i3 Z) I (da2 (br f9 (av 1) aj) (aZ o_pow aj aj)))) (az (aE (tu Ac o_lt aj (av 3) (dY (i3 Z) I (da2 (br f9 (av 1) aj) (aZ o_pow aj aj))))))) b7) (au (cE (aD (i4 I.units) (br f9 (av 1) aj) ay) (az (aE (gv (i4 I.units) (av 1) (aw (cb (da2 ay ay)))))) b7) (au (cE (PW.pt (pz (aD (i4 I.units) (br f9 (av 1) aj) ay) (ko (aD (i4 I.units) (aS jG Z.gB Dm (da1 (av 1))) aj)))) (az (aE (gv (o_in I.units) (br f9 (av 1) aj) (aw (cb (da4 ay ay ay ay)))))) b7) (az (aE (gv (i4 I.units) (av 1) (aw (cb (da1 ay))))))))))))
theorem wz:YO Z.zV P w base 1 b_ (ju):=
 fY ["_law_cell","_law_number_here","_law_some"] λz I J=>(au (dO I (aZ kT (aZ o_mul (av 0) aj) aj)) (au (dO I (aw (cb (cq ay (cq ay (da6 ay ay ay ay ay ay)))))) (au (dO I (aw (aZ cN (av 2) (aw (cb (da6 ay ay ay ay ay ay)))))) (az (aE (br f9 (av 2) (aZ kT (av 1) aj)))))))
theorem kO:YO Z.mv P w base 1 b_ (dC):=
 fY ["_law_cell","_law_text","_law_number_here","_law_k"] λz I J=>(au (dO I ay) (au (dO I (aZ kT (av 0) (aZ o_pow aj aj))) (au (yv (pt:=.nm 3) (xf Z.vJ (da1 (aZ kT (av 2) aj))) (dg_nm I) (au (dO I (aw (aZ cN (aZ oV (av 2) aj) (av 3)))) (az (dO I (aw (aZ cN (av 1) (br yH ay (aZ kT (av 2) aj)))))))) (az (aE (av 1))))))
theorem sD:YX Z.ve P w base 2 b_ (d9 CR CP CS CW CE CD CK n):=
 fX ["words","shift"] λz J I=>(au (lG (dO J (rm (aD (i4 I.units) (aS jG Z.gB Dm (da1 (av 0))) aj) (dY (gb Z) I (da1 (br f9 (av 0) aj))) fw))) (au (cE (PW.pt (il (aD o_isN (av 1) fw) (gL (aD o_gt (av 1) (i5 Z.nA))))) (az (lE DH xeqD Z.tCE.mg Z.tCE.ex I.hd)) b7) (lD (az (aE (av 1))))))
theorem j5:YO Z.qq P w base 6 b_ (cW CR CP CS CW CE CD CK n):=
 fY ["sheet","names","flights"] λz Y J=>let ⟨_,_,I,U⟩:=on_S Z;(az (aE (xh ⟨Z.kS.mks,I.mt.at_,I.mt.fn,Z.kS.kp⟩ U J Z.kS.mg I.bd (da5 (bV (Cs:=[CS]) Z.pq (av 0)) (bV (Cs:=[CS]) Z.uV (av 0)) (av 1) (av 2) (bV (Cs:=[CS]) Z.mj (av 0))))))
theorem jz:YX Z.kq P w base 7 b_ (bq CR CP CS CW CE CD CK n):=
 fX ["sheet","words","flight"] λz J I=>(au (lG (dO J (dY (jJ Z) I (da3 (bV (Cs:=[CS]) Z.pq (av 0)) (bV (Cs:=[CS]) Z.gJ (av 0)) (av 1))))) (au (cE (aD o_isN (av 2) fw) (az (lE DH xeqD Z.tCE.mg Z.tCE.ex I.hd)) b7) (lD (az (aE (dY (j5 Z) I (da3 (av 0) (aw (aZ cN (bV (Cs:=[CS]) Z.gJ (av 0)) (aw (cb (da1 (br f9 (av 1) aj)))))) (aw (aZ cN (bV (Cs:=[CS]) Z.iE (av 0)) (aw (cb (da1 (av 2)))))))))))))
theorem jI:YO Z.tE P w base 6 b_ (dA CR CP CS CW CE CD CK n):=
 fY ["sheet","closed"] λz Y J=>let ⟨_,_,I,U⟩:=on_S Z;(az (aE (xh ⟨Z.kS.mks,I.mt.at_,I.mt.fn,Z.kS.kp⟩ U J Z.kS.mg I.bd (da5 (bV (Cs:=[CS]) Z.pq (av 0)) (bV (Cs:=[CS]) Z.uV (av 0)) (bV (Cs:=[CS]) Z.gJ (av 0)) (bV (Cs:=[CS]) Z.iE (av 0)) (av 1)))))
theorem j8:YX Z.jF P w base 7 b_ (aX CR CP CS CW CE CD CK n):=
 fX ["sheet","words","stretch"] λz J I=>(au (lG (dO J (dY (j6 Z) I (da2 (bV (Cs:=[CS]) Z.mj (av 0)) (av 1))))) (au (cE (aD o_isN (av 2) fw) (az (lE DH xeqD Z.tCE.mg Z.tCE.ex I.hd)) b7) (lD (az (aE (dY (jI Z) I (da2 (av 0) (aw (aZ cN (bV (Cs:=[CS]) Z.mj (av 0)) (aw (cb (da1 (av 2)))))))))))))
theorem iw:YX Z.iP P w base 7 b_ (aQ CR CP CS CW CE CD CK n):=
 fX ["sheet","words","place","names"] λz J I=>(au (cE (PW.pt (il (aD (o_ne I.units) (aS jG Z.gB Dm (da1 (av 1))) aj) (gL (aD (m5 I.units) (br f9 (av 1) aj) (bV (Cs:=[CS]) Z.gJ (av 0)))))) (az (lE DH xeqD Z.tCE.mg Z.tCE.ex I.hd)) b7) (lD (au (dO J (lJ I.units (bV (Cs:=[CS]) Z.gJ (av 0)) (br f9 (av 1) aj))) (au (dO J (aw (aZ cN (aw (fP nX (bV (Cs:=[CS]) Z.gJ (av 0)) bE (bC (av 2)))) (aw (fP nX (bV (Cs:=[CS]) Z.gJ (av 0)) (bC (aw (aZ cN (av 2) aj))) bE))))) (az (aE (dY (j5 Z) I (da3 (av 0) (av 3) (aw (aZ cN (aw (fP nX (bV (Cs:=[CS]) Z.iE (av 0)) bE (bC (av 2)))) (aw (fP nX (bV (Cs:=[CS]) Z.iE (av 0)) (bC (aw (aZ cN (av 2) aj))) bE))))))))))))
theorem mZ:YX Z.pF P w base 8 b_ (aU CR CP CS CW CE CD CK n):=
 fX ["sheet","words","word"] λz a I=>let ⟨_,_,U⟩:=jz Z;let ⟨_,_,Y⟩:=j8 Z;let ⟨_,_,J⟩:=iw Z;(au (lG (dO a (rm (gM (av 1)) (br f9 (av 1) aj) ay))) (au (cE (aD (i4 I.units) (av 2) ay) (az (aE (tw U.o zi I U.d.mg U.d.fn.kp U.d.bd (da2 (av 0) (av 1))))) b7) (au (cE (aD (i4 I.units) (av 2) ay) (az (aE (tw Y.o zi I Y.d.mg Y.d.fn.kp Y.d.bd (da2 (av 0) (av 1))))) b7) (au (cE (aD (i4 I.units) (av 2) ay) (az (aE (tw J.o zi I J.d.mg J.d.fn.kp J.d.bd (da2 (av 0) (av 1))))) b7) (au (lG (cE (aD (i4 I.units) (av 1) (aw (cb (da1 ay)))) (az (aE (dY (jI Z) I (da2 (av 0) (aw (cb ip)))))) b7)) (az (lE DH xeqD Z.tCE.mg Z.tCE.ex I.hd)))))))
theorem wA:YN Z.zW P w mg base 9 (vS K CK (lS CR CP CS CW CE CD CK n)):=
 fN ["self","row","words"] (λ_ _ _ _=>len_say) λz Y I vs Q h=>let ⟨_,_,U⟩:=sD Z;let ⟨_,_,J⟩:=mZ Z;⟨_,(aI (j0 (aD Bj ay (av 1)) (aT (yb DH xeqD uF rfl Z.tCE.mg Z.tCE.ex I.hd)) dZ) (aI (mG (i:=2) Y rfl (.inl rfl) (pY (oP Z) I (ax (pv 1) aK))) (aT (j0 (aD (i4 I.units) (aw (fP nX (av 2) bE (bC aj))) (aw (cb (da1 ay)))) (aT (fj (pv 0) (iu U.o (I.mono (by decide)) rfl U.d.mg U.d.fn.kp U.d.bd .nil zi (ax (pv 2) aK)) rfl)) (aT (fj (pv 0) (iu J.o (I.mono (by decide)) rfl J.d.mg J.d.fn.kp J.d.bd .nil zi (ax (g9 (pv 0) rfl) (ax (pv 2) aK))) rfl)))))),rs_say Z.kK.cl Z.naK h⟩
theorem Bh:∃f fd,Mth K CK "say" "Desk.say" qN ["self","row"] f fd/\eZ P w K mg base (CXd P w) 9 f fd ["self","row"] (vS K CK (lS CR CP CS CW CE CD CK n)):=wA Z
theorem oS:YR Z.qA P w base 10 (AI K CK CE (lS CR CP CS CW CE CD CK n)):=
 fR ["_law_desk","_law_row_here","_law_told","e"] (λ_ _ _ _=>len_ref) λz I b vs Q h=>let ⟨_,_,Y,c⟩:=Bh Z;⟨_,(aI (mG (i:=2) I rfl (.inl rfl) (mH aK)) (aI (ps_told3 (K:=K) (i:=3) (j:=2) (ys:=[ANoPlace,ANoPlan,ANoRules,ANoSheet,ANoTime,ANotFree,ATooMany]) (b1:=e_) (b2:=e_) (b3:=b_) (λpins σ E e d=>at_one (CB (at_meth (pv 0) Z.kK.cl Y.mt c d (b.mono (by decide)) Y.bd .nil (ax (pv 1) aK)))) Z.tCE I (λa oe U hd J=>aI (mG (i:=2) I rfl (.inl rfl) (mH (ax (pe_isiO Eh Z.i_CE U hd J Z.cM Z.sO Z.nq) (ax (pe_isiB Eh Z.i_CE U hd J Z.cM Z.tZ (by decide +kernel) Z.nu) aK)))) (aT (lZ (wq EB Fc FO kW (pv 2) (ax (pe_isiT Eh Z.i_CE U hd J Z.cM (jW (jW (jW (jW (jW (jW (jW pa_refs0 Z.zw) Z.zx) Z.Bp) Z.zy) Z.zA) Z.Bq) Z.zB) (by show 7<=m_;rw[Dq];decide) Z.kT_CE) aK)))))) (aT (eG (gv (i4 b.units) (av 2) (aw (cb (da3 pD pD pD)))))))),rs_ref (fe:=(f2 eqM (ah 2) (fL bT (aa (fC (.bl e_)) (aa (fC (.bl e_)) (aa (fC (.bl b_)) aJ)))))) (by intros;rfl) (by rfl) h⟩
theorem wD:YM Z.m_M_S_shown P w mg base 1 b_ (cO CR CP CS CW CE CD CK n):=
 fM ["self"] λz I J=>(az (aE (bV (Cs:=[CS]) Z.fld_text (av 0))))
theorem kQ:YN Z.mx P w mg base 2 (qL K CK (mD CS "shown" (cO CR CP CS CW CE CD CK n))):=
 fN ["self"] (λ_ _ _ _=>len_show) λz U J vs Q h=>let ⟨_,_,M,I⟩:=wD Z;⟨_,(aT (eG (sv (g9 (pv 0) rfl) Z.kS.cl M.mt I (J.mono (by decide)) M.bd .nil mX))),rs_show Z.kK.cl Z.naK h⟩
theorem on_Kshow:∃f fd,Mth K CK "sheet_text" "Desk.sheet_text" ib ["self"] f fd/\eZ P w K mg base (CXd P w) 2 f fd ["self"] (qL K CK (mD CS "shown" (cO CR CP CS CW CE CD CK n))):=kQ Z
theorem ok_law:YO (law_d Z.d_law) P w base 12 b_ (m_law CR CP CS CW CE CD CK n):=
 fY ["_law_script","_law_text","_law_at","_law_cell","_law_row_here","_law_desk"] λz Y I=>let ⟨_,_,U,J⟩:=on_K Z;let ⟨_,_,a,b⟩:=Bh Z;let ⟨_,_,c,d⟩:=on_Kshow Z;(au (dO Y ay) (au (dO Y (aZ kT (br f9 (aw (aZ cN (av 0) (aw (cb (da1 aj))))) aj) aj)) (au (cE (pA (gM (dY (nh Z) I (da2 (aw (fP nX (aw (lI kU EE Fl (av 1) ay)) bE (bC aj))) (av 2))))) (az (aE pD)) b7) (au (yv (pt:=.nm 3) (hV (aw (aZ cN (aw (cb (da2 aj aj))) (aw (fP nX (av 0) bE (bC aj)))))) (dg_nm Y) (au (dO Y (dY (uL Z) I (da2 (dY (wz Z) I (da1 (av 3))) (av 3)))) (au (cE (aD (i4 I.units) (aZ kT (av 3) aj) aj) (az (dO Y (dY (kO Z) I (da1 (aZ oV (av 3) aj))))) b7) (by refine ds_turn (C:=CK) (m:="say") (mt:="sheet_text") ?_;exact aI (mG (i:=5) Y rfl (.inl rfl) (sx ⟨Z.kK.mks,U.mt.at_,U.mt.fn,Z.kK.kp⟩ J (I.mono (by decide)) rfl Z.kK.mg U.bd .nil Be (ax (av 1) aK))) (aI (j0 (gM (dY (uK Z) I (da1 (av 4)))) (aT (j0 (uC (wt (wo (pv 5) Z.kK.cl a.mt b (I.mono (by decide)) a.bd .nil Be (ax (av 4) aK)))) (aT (eG oM)) dZ)) (aT (j0 (PW.pt (pw_or (ya (nG (pY (oS Z) I (ax (pv 5) (ax (av 4) aK))) (λ_=>rfl))) (B8 (wk op_ne (sv (pv 5) Z.kK.cl c.mt d (I.mono (by decide)) c.bd .nil Be) (av 1) (yf _))))) (aT (eG oM)) dZ))) (aT (j0 (PW.pt (pw_or (uC (wt (wo (pv 5) Z.kK.cl a.mt b (I.mono (by decide)) a.bd .nil Be (ax uF aK)))) (B8 (uC (wt (wo (pv 5) Z.kK.cl a.mt b (I.mono (by decide)) a.bd .nil Be (ax uF aK))))))) (aT (eG oM)) dZ))))))) (az (aE pD))))))
end
noncomputable abbrev tW:=Int×Int
variable{p:tW}{cs:List tW}
noncomputable def stD(p:tW):Dat:=.tup [.int p.1,.int p.2]
@[simp] theorem getI_c0(a:Dat)(l:List Dat):iA (a::l) 0=.ok a:=by unfold iA atI ixN;rw[i_ (by omega),i_ (by simp<;>omega)];rfl
section
variable(CR CP CS CW CE CD CK:g_)
noncomputable def qO(r:List Int):Dat:=.lst (r.map .int)
noncomputable def bz(rows:List (List Int)):Dat:=.lst (rows.map qO)
noncomputable def CO(k:Nat)(r:List Int):Prop:=r.length=k/\∀x∈r,0<=x/\x<=1000000
noncomputable def dX(k:Nat)(rows:List (List Int)):Prop:=rows.length=k/\∀r∈rows,CO k r
theorem yX{lo:Int}{i:Nat}{d:Dat}(h:(gD lo m)[i]?=a_ d):i<m/\d=.int (lo+i):=by unfold gD at h;rw[Ee]at h;obtain⟨a,h1,h2⟩:=Option.map_eq_some_iff.mp h;have hi:=(z_.mp h1).1;rw[J5]at hi;rw[JE hi]at h1;cases h1;exact⟨hi,h2.symm⟩
theorem yY{i:Nat}{d:Dat}(h:(gD 0 m)[i]?=a_ d):i<m/\d=.int i:=by obtain⟨h1,h2⟩:=yX h;exact⟨h1,by rw[h2,Int.zero_add]⟩
end
section
variable(CR CP CS CW CE CD CK:g_)
theorem uQ(n:Nat)(x:Int)(I:0<=x)(h1:x<=1000000):eJ [.int x]=.ok (.bl e_):=by simp[eJ,nP,jw,I,h1]
theorem sV(n:Nat)(k:Nat)(r:List Int)(Y:k<=6)(h:CO k r):eE [qO r,.int k]=.ok (.bl e_):=by
 have U:r.length<=16777216:=by have:=h.1;omega
 have I:k<=16777216:=by omega
 have e:bM (.nm 0) ik (fL (eJ) (aa (ah 0) aJ)) [d_] (r.map .int)=.ok ((r.map λ_=>e_).map Dat.bl):=by
  have:=lK (p:=.nm 0) (fe:=fL (eJ) (aa (ah 0) aJ)) (ρ0:=[d_]) (λ_=>.bl e_) (r.map .int) (λd hd=>by obtain⟨x,J,rfl⟩:=D4.mp hd;exact⟨[a_ (.int x)],by simp,by simp[uQ n x (h.2 x J).1 (h.2 x J).2]⟩)
  rw[this,Dj,Dj];rfl
 simp[eE,mQ,qO,e,U,I,h.1,-Dj]
theorem pL(n:Nat)(rows:List (List Int))(U:rows.length<=1000):dB [bz rows]=.ok (bz rows):=by
 have I:rows.length<=16777216:=by omega
 have e:bM (.nm 0) ik (fL Bt (aa (ah 0) aJ)) [d_] (rows.map qO)=.ok (rows.map qO):=by
  have:=lK (p:=.nm 0) (fe:=fL Bt (aa (ah 0) aJ)) (ρ0:=[d_]) id (rows.map qO) (λd hd=>by obtain⟨x,J,rfl⟩:=D4.mp hd;exact⟨[a_ (qO x)],by simp,by simp[qO]⟩)
  rw[this,Ld]
 simp[dB,lu,bz,e,I]
theorem my(n:Nat)(k:Nat)(rows:List (List Int))(h1:1<=k)(U:k<=6)(h:dX k rows):aG [bz rows]=.ok (bz rows):=by
 have I:rows.length<=16777216:=by have:=h.1;omega
 have e:bM (.nm 0) ik (fL (eE) (aa (ah 0) (aa (ah 1) aJ))) [d_,a_ (.int rows.length)] (rows.map qO)=.ok ((rows.map λ_=>e_).map Dat.bl):=by
  have:=lK (p:=.nm 0) (fe:=fL (eE) (aa (ah 0) (aa (ah 1) aJ))) (ρ0:=[d_,a_ (.int rows.length)]) (λ_=>.bl e_) (rows.map qO) (λd hd=>by obtain⟨x,J,rfl⟩:=D4.mp hd;exact⟨[a_ (qO x),a_ (.int rows.length)],by simp,by simp[h.1,sV n k x U (h.2 x J)]⟩)
  rw[this,Dj,Dj];rfl
 have a:(1:Int)<=rows.length:=by have:=h.1;omega
 have Y:(rows.length:Int)<=6:=by have:=h.1;omega
 have e3:=pL n rows (by have:=h.1;omega);simp only[bz]at e3;simp[aG,jN,iN,iM,bz,e,e3,I,a,Y,-Dj]
noncomputable def mE(rows:List (List Int)):Dat->Dat
 |.non=>.ins CR [("gaps",bz rows)]|o=>.ins CP [("gaps",bz rows),("beside",o)]
theorem gaps_at(rows:List (List Int))(o:Dat)(J:o=.non\/∃I,o=bz I):bu [CR,CP] "gaps" (mE CR CP rows o)=.ok (bz rows):=by
 have h1:((("gaps":o_)==("gaps":o_))=e_):=by decide +kernel
 rcases J with rfl|⟨I,rfl⟩
 ·show(if ([CR,CP].contains CR)=e_ then(match DN ("gaps":o_) [(("gaps":o_),bz rows)]with|some d=>Ds d|none=>stk)else stk)=_;rw[i_ (by simp),w_,h1]
 ·show(if ([CR,CP].contains CP)=e_ then(match DN ("gaps":o_) [(("gaps":o_),bz rows),(("beside":o_),bz I)]with|some d=>Ds d|none=>stk)else stk)=_;rw[i_ (by simp),w_,h1]
end
structure Fli where
 kind:Int
 first:Int
 last:Int
 due:Int
 price:Int
variable{f:Fli}
noncomputable def flD(f:Fli):Dat:=.tup [.int f.kind,.int f.first,.int f.last,.int f.due,.int f.price]structure GoodFl (k:Nat) (f:Fli):Prop where
 k0:0<=f.kind
 k1:f.kind<k
 f0:0<=f.first
 f1:f.first<=f.last
 l1:f.last<=1000000000
 d0:0<=f.due
 d1:f.due<=1000000000
 p0:0<=f.price
 p1:f.price<=1000000000
theorem eP{α:Type}{p:Pat}{fe:ai->M Dat}{ρ0:ai}(g f:α->Dat):∀(L:List α),(∀x∈L,∃ρ,lL p (g x) ρ0=.ok ρ/\fe ρ=.ok (f x))->bM p ik fe ρ0 (L.map g)=.ok (L.map f)
 |[],_=>rfl|d::ds,h=>by obtain⟨ρ,e1,e2⟩:=h d (by simp);rw[Dp,bM,e1];simp only[ae,ik,e2,eP g f ds λx I=>h x (by simp[I])];simp
theorem yO(a b c:o_):a++b++c=a++(b++c):=by
 show(⟨(a.cps++b.cps)++c.cps⟩:o_)=⟨a.cps++(b.cps++c.cps)⟩
 rw[Hs]
theorem xR(a:o_):a++(Fj:o_)=a:=by show(⟨a.cps++#[]⟩:o_)=a;simp
theorem rV(a:o_):(Fj:o_)++a=a:=by show(⟨#[]++a.cps⟩:o_)=a;simp
theorem pS(a b:o_):(a++b).length=a.length+b.length:=strLen_append a b
noncomputable def cat:List o_->o_
 |[]=>Fj|x::xs=>x++cat xs
theorem yk:∀xs:List o_,Eg "" xs=cat xs
 |[]=>rfl|[x]=>by rw[cat,cat,xR];rfl|x::y::xs=>by rw[cat,<- yk (y::xs)];show x++c_ ""++Eg "" (y::xs)=_;rw[show(c_ "":o_)=Fj by decide +kernel,xR]
theorem lenLe(xs:List o_)(B:Nat)(h:∀x∈xs,x.length<=B):(xs.map (·.length)).sum<=xs.length*B:=StrLaws.sumLen_le xs h
theorem str_len(h:i.natAbs<10^10):(ig i).length<=11:=by unfold ig;rw[PySem.ofString_length];exact int_text_length_le10 (k:=10) (by decide) h
theorem oi(h:i.natAbs<10^10):i.natAbs.log2<1920:=by
 by_cases I:i.natAbs=0
 ·rw[I];decide
 ·exact(Nat.log2_lt I).mpr (De h (Dz (show 10^10<=2^34 by decide) (Nat.pow_le_pow_right (by decide) (by decide))))
noncomputable def SP:o_:=" "
noncomputable def NLs:o_:="\n"
noncomputable def kb(k:o_):o_:="kind "++k
noncomputable def mM(w k o:o_)(g:Int):o_:=w++SP++k++SP++o++SP++ig g
noncomputable def iq(p:tW):o_:="closed "++ig p.1++SP++ig p.2
noncomputable def kAt(ks:List o_)(i:Int):o_:=ks.getD i.toNat ""
noncomputable def eM(ks:List o_)(p:o_×Fli):o_:="flight"++SP++p.1++SP++kAt ks p.2.kind++SP++ig p.2.first++SP++ig p.2.last++SP++ig p.2.due++SP++ig p.2.price
noncomputable def bK(w:o_)(I:Int)(k:o_):List o_->List Int->List o_
 |o::ks,g::r=>(if I<=g then [mM w k o g]else [])++bK w I k ks r
 |_,_=>[]
noncomputable def bU(w:o_)(I:Int)(ks:List o_):List o_->List (List Int)->List o_
 |k::l,r::rows=>bK w I k ks r++bU w I ks l rows|_,_=>[]
noncomputable def tU(ks:List o_):Option (List (List Int))->List o_
 |some r2=>bU "beside" 0 ks ks r2|none=>[]
noncomputable def rowsOf(ks:List o_)(rows:List (List Int))(o:Option (List (List Int)))(ns:List (o_×Fli))(cs:List tW):List o_:=
 ks.map kb++bU "gap" 1 ks ks rows++tU ks o++cs.map iq++ns.map (eM ks)
noncomputable def textOf(rs:List o_):o_:=cat (rs.map (·++NLs))
theorem p9(ρ:ai)(I:o_):nv [] ρ I=.ok I:=rfl
theorem bX(f:ai->M Dat)(fs:List (ai->M Dat))(ρ:ai)(I z:o_)(h:f ρ=.ok (.str z))(U:I.length+z.length<=16777216):nv (f::fs) ρ I=nv fs ρ (I++z):=by
 have J:(I++z).length<=m_:=by rw[pS,Dq];exact U
 show(f ρ).bind _=_;rw[h];show(if (I++z).length<=m_ then nv fs ρ (I++z)else stk)=_;rw[i_ J]
theorem fmt_s(h:z.length<=16777216):mi (.str z)=.ok (.str z):=by rw[e_fmtS,Dq,i_ h]
theorem fmt_i(h:i.natAbs<10^10):mi (.int i)=.ok (.str (ig i)):=by rw[e_fmtI,i_ (oi h)]
theorem Bw(ks:List o_)(J:∀k∈ks,k.length<=100):bM (.nm 0) ik (fJ [(fC (.str "kind ")),(f1 mi (ah 0))]) [d_] (ks.map .str)=.ok ((ks.map kb).map .str):=by
 rw[Dj];refine eP _ _ ks λk I=>⟨[a_ (.str k)],rfl,?_⟩
 have h:=J k I;have e5:(c_ "kind ").length=5:=by decide +kernel
 unfold fJ;rw[bX _ _ _ _ (c_ "kind ") rfl (by rw[e5];show 0+5<=_;decide),rV,bX _ _ _ _ k (by show(mi (.str k))=_;exact fmt_s (by omega)) (by rw[e5];omega),p9];rfl
theorem yn{w k:o_}{g:Int}(ρ:ai)(hw:w.length<=100)(f:k.length<=100)(e:o.length<=100)(J:g.natAbs<10^10)(e0:ah 0 ρ=.ok (.str w))(e5:ah 5 ρ=.ok (.str k))(c:ah 7 ρ=.ok (.str o))(b:ah 8 ρ=.ok (.int g)):
  fJ [(f1 mi (ah 0)),(fC (.str " ")),(f1 mi (ah 5)),(fC (.str " ")),(f1 mi (ah 7)),(fC (.str " ")),(f1 mi (ah 8))] ρ=.ok (.str (mM w k o g))/\(mM w k o g).length<=400:=by
 have I:(c_ " ").length=1:=by decide +kernel
 have es:=str_len J;have a:f1 mi (ah 0) ρ=.ok (.str w):=by unfold f1;rw[e0];exact fmt_s (by omega)
 have f5:f1 mi (ah 5) ρ=.ok (.str k):=by unfold f1;rw[e5];exact fmt_s (by omega)
 have Y:f1 mi (ah 7) ρ=.ok (.str o):=by unfold f1;rw[c];exact fmt_s (by omega)
 have U:f1 mi (ah 8) ρ=.ok (.str (ig g)):=by unfold f1;rw[b];exact fmt_i J
 have d:Fj.length=0:=rfl;refine⟨?_,by unfold mM SP;simp only[pS,I];omega⟩
 unfold fJ;rw[bX _ _ _ _ w a (by omega),rV,bX _ _ _ _ (c_ " ") rfl (by omega),bX _ _ _ _ k f5 (by simp only[pS,I];omega),bX _ _ _ _ (c_ " ") rfl (by simp only[pS,I];omega),bX _ _ _ _ o Y (by simp only[pS,I];omega),bX _ _ _ _ (c_ " ") rfl (by simp only[pS,I];omega),bX _ _ _ _ (ig g) U (by simp only[pS,I];omega),p9];rfl
section
variable(CR CP CS CW CE CD CK:g_)
theorem wX(n:Nat){w k:o_}(hw:w.length<=100)(l:k.length<=100)(I:Int)(a Y U:Option Dat):∀(os:List o_) (r:List Int) (J:List o_) (d c:Option Dat),(∀o∈os,o.length<=100)->(∀g∈r,g.natAbs<10^10)->J.length+os.length<=10000->∃f e,
  mh (.tp [7,8]) (d6) (mV (os.map .str) (r.map .int)) [a_ (.str w),a,Y,a_ (.int I),a_ (.lst (J.map .str)),a_ (.str k),U,d,c]=.ok (.nx [a_ (.str w),a,Y,a_ (.int I),a_ (.lst ((J++bK w I k os r).map .str)),a_ (.str k),U,f,e])
 |[],r,J,d,c,_,_,_=>⟨d,c,by simp[mV,mh,bK]⟩|o::os,[],J,d,c,_,_,_=>⟨d,c,by simp[mV,mh,bK]⟩|o::os,g::r,J,d,c,j,i,q=>by
  obtain⟨e1,e2⟩:=yn (w:=w) (k:=k) (o:=o) (g:=g) [a_ (.str w),a,Y,a_ (.int I),a_ (.lst (J.map .str)),a_ (.str k),U,a_ (.str o),a_ (.int g)] hw l (j o (by simp)) (i g (by simp)) rfl rfl rfl rfl;have h:J.length<16777216:=by simp at q;omega
  have t:=yn (w:=w) (k:=k) (o:=o) (g:=g) [a_ (.str w),a,Y,a_ (.int I),d_,a_ (.str k),U,a_ (.str o),a_ (.int g)] hw l (j o (by simp)) (i g (by simp)) rfl rfl rfl rfl;by_cases m:I<=g
  ·have s:d6 [a_ (.str w),a,Y,a_ (.int I),a_ (.lst (J.map .str)),a_ (.str k),U,a_ (.str o),a_ (.int g)]=.ok (.nx [a_ (.str w),a,Y,a_ (.int I),a_ (.lst ((J++[mM w k o g]).map .str)),a_ (.str k),U,a_ (.str o),a_ (.int g)]):=by
    simp[d6,i6,m,t.1,e1,h]
   obtain⟨f,e,p⟩:=wX n hw l I a Y U os r (J++[mM w k o g]) (a_ (.str o)) (a_ (.int g)) (λx b=>j x (by simp[b])) (λx b=>i x (by simp[b])) (by simp at q ⊢;omega);refine⟨f,e,?_⟩
   rw[bK,i_ m,<- F_,<- p];simp[mV,mh,s]
  ·have s:d6 [a_ (.str w),a,Y,a_ (.int I),a_ (.lst (J.map .str)),a_ (.str k),U,a_ (.str o),a_ (.int g)]=.ok (.nx [a_ (.str w),a,Y,a_ (.int I),a_ (.lst (J.map .str)),a_ (.str k),U,a_ (.str o),a_ (.int g)]):=by
    simp[d6,i6,m]
   obtain⟨f,e,p⟩:=wX n hw l I a Y U os r J (a_ (.str o)) (a_ (.int g)) (λx b=>j x (by simp[b])) (λx b=>i x (by simp[b])) (by simp at q ⊢;omega);refine⟨f,e,?_⟩
   rw[bK,l_ m,Kf,<- p];simp[mV,mh,s]
theorem iB(w:o_)(I:Int)(k:o_):∀(os:List o_) (r:List Int),(bK w I k os r).length<=os.length
 |[],_=>by simp[bK]|_::_,[]=>by simp[bK]|o::os,g::r=>by rw[bK,CV,CZ];have:=iB w I k os r;split<;>simp<;>omega
theorem ym(n:Nat){w:o_}(hw:w.length<=100)(ks:List o_)(d:∀k∈ks,k.length<=100)(A:ks.length<=6)(I:Int)(c:Option Dat):∀(l:List o_) (rows:List (List Int)) (J:List o_) (b a Y U:Option Dat),(∀k∈l,k.length<=100)->(∀r∈rows,∀g∈r,g.natAbs<10^10)->J.length+6*l.length<=9000->∃s q h f,
  mh (.tp [5,6]) (g6) (mV (l.map .str) (rows.map qO)) [a_ (.str w),a_ (.lst (ks.map .str)),c,a_ (.int I),a_ (.lst (J.map .str)),b,a,Y,U]=.ok (.nx [a_ (.str w),a_ (.lst (ks.map .str)),c,a_ (.int I),a_ (.lst ((J++bU w I ks l rows).map .str)),s,q,h,f])
 |[],rows,J,b,a,Y,U,_,_,_=>⟨b,a,Y,U,by simp[mV,mh,bU]⟩|k::l,[],J,b,a,Y,U,_,_,_=>⟨b,a,Y,U,by simp[mV,mh,bU]⟩|k::l,r::rows,J,b,a,Y,U,o,j,p=>by
  obtain⟨h,f,e⟩:=wX n hw (o k (by simp)) I (a_ (.lst (ks.map .str))) c (a_ (qO r)) ks r J Y U d (j r (by simp)) (by simp at p;omega);have m:=iB w I k ks r;have B:g6 [a_ (.str w),a_ (.lst (ks.map .str)),c,a_ (.int I),a_ (.lst (J.map .str)),a_ (.str k),a_ (qO r),Y,U]=.ok (.nx [a_ (.str w),a_ (.lst (ks.map .str)),c,a_ (.int I),a_ (.lst ((J++bK w I k ks r).map .str)),a_ (.str k),a_ (qO r),h,f]):=by unfold g6;rw[<- e];simp[qO,l7]
  obtain⟨y,v,u,t,z⟩:=ym n hw ks d A I c l rows (J++bK w I k ks r) (a_ (.str k)) (a_ (qO r)) h f (λx i=>o x (by simp[i])) (λx i=>j x (by simp[i])) (by simp at p ⊢;omega);refine⟨y,v,u,t,?_⟩
  rw[bU,<- F_,<- z];simp[mV,mh,B]
theorem kL(n:Nat){w:o_}(hw:w.length<=100)(ks:List o_)(J:∀k∈ks,k.length<=100)(Y:ks.length<=6)(I:Int)(rows:List (List Int))(U:∀r∈rows,∀g∈r,g.natAbs<10^10):
  gc [.str w,.lst (ks.map .str),bz rows,.int I]=.ok (.lst ((bU w I ks ks rows).map .str)):=by
 obtain⟨d,c,b,a,e⟩:=ym n hw ks J Y I (a_ (bz rows)) ks rows [] d_ d_ d_ d_ J U (by simp;omega);simp only[HK,Kf]at e;simp[gc,mO,bz,l7]at e ⊢;simp[e]
end
theorem sget(J:0<=i)(h1:i<ks.length):iA (ks.map .str) i=.ok (.str (kAt ks i))/\kAt ks i∈ks:=by
 obtain⟨j,rfl⟩:∃j:Nat,i=j:=⟨i.toNat,by omega⟩
 have I:j<ks.length:=by omega
 have e:kAt ks (j:Int)=ks[j]:=by unfold kAt;simp[I]
 refine⟨?_,by rw[e];exact Fd I⟩
 rw[e];unfold iA atI ixN;rw[i_ (by omega),i_ (by simp<;>omega)];simp[I]
structure BFl(k:Nat)(f:Fli):Prop where
 k0:0<=f.kind
 k1:f.kind<k
 a:f.first.natAbs<10^10
 b:f.last.natAbs<10^10
 c:f.due.natAbs<10^10
 d:f.price.natAbs<10^10
theorem t7(a:nm.length<=100)(J:∀k∈ks,k.length<=100)(I:BFl ks.length f):(eM ks (nm,f)).length<=400:=by
 have U:(c_ " ").length=1:=by decide +kernel
 have Y:(c_ "flight").length=6:=by decide +kernel
 have h1:=str_len I.a;have h2:=str_len I.b;have d:=str_len I.c;have c:=str_len I.d;have b:=J _ (sget I.k0 I.k1).2;unfold eM SP;simp only[pS,U,Y];omega
section
variable(CR CP CS CW CE CD CK:g_)
theorem oo(n:Nat)(o:ks.length<=6)(m:nm.length<=100)(U:∀k∈ks,k.length<=100)(I:BFl ks.length f):cY [.lst (ks.map .str),.str nm,flD f]=.ok (.str (eM ks (nm,f))):=by
 have e:(c_ " ").length=1:=by decide +kernel
 have h:(c_ "flight").length=6:=by decide +kernel
 have h1:=str_len I.a;have h2:=str_len I.b;have r:=str_len I.c;have q:=str_len I.d;obtain⟨e0,J⟩:=sget I.k0 I.k1;have p:=U _ J;have d:=oi I.a;have c:=oi I.b;have b:=oi I.c;have a:=oi I.d;have g:Eg (c_ " ") [c_ "flight",nm,kAt ks f.kind,ig f.first,ig f.last,ig f.due,ig f.price]=eM ks (nm,f):=by unfold eM SP;simp only[Eg,yO]
 have l:6+(nm.length+((kAt ks f.kind).length+((ig f.first).length+((ig f.last).length+((ig f.due).length+((ig f.price).length+0))))))+7*1<=16777216:=by omega
 have Y:aV (.tup [.int f.kind,.int f.first,.int f.last,.int f.due,.int f.price]) (a_ 1) d_=.ok (.tup [.int f.first,.int f.last,.int f.due,.int f.price]):=rfl;have i:bM (.nm 0) ik (fL strD (aa (ah 0) aJ)) [d_] [.int f.first,.int f.last,.int f.due,.int f.price]=.ok [.str (ig f.first),.str (ig f.last),.str (ig f.due),.str (ig f.price)]:=by simp[bM,d,c,b,a]
 have j:cT (.lst [.str (c_ "flight"),.str nm,.str (kAt ks f.kind)]) (.lst [.str (ig f.first),.str (ig f.last),.str (ig f.due),.str (ig f.price)])=.ok (.lst [.str (c_ "flight"),.str nm,.str (kAt ks f.kind),.str (ig f.first),.str (ig f.last),.str (ig f.due),.str (ig f.price)]):=by simp[cT,Dq]
 simp[cY,jM,flD,e0,Y,i,j,g,e,h];rw[i_]
 ·rfl
 ·omega
end
theorem xv(cs:List tW)(h:∀p∈cs,p.1.natAbs<10^10/\p.2.natAbs<10^10):bM (.tp [0,1]) ik (fJ [(fC (.str "closed ")),(f1 mi (ah 0)),(fC (.str " ")),(f1 mi (ah 1))]) [d_,d_] (cs.map stD)=.ok ((cs.map iq).map .str):=by
 rw[Dj];refine eP _ _ cs λp I=>⟨[a_ (.int p.1),a_ (.int p.2)],rfl,?_⟩
 obtain⟨h1,h2⟩:=h p I;have e1:(c_ "closed ").length=7:=by decide +kernel
 have e2:(c_ " ").length=1:=by decide +kernel
 have Y:=str_len h1;have U:=str_len h2;have J:Fj.length=0:=rfl;unfold fJ;rw[bX _ _ _ _ (c_ "closed ") rfl (by omega),rV,bX _ _ _ _ (ig p.1) (fmt_i h1) (by omega),bX _ _ _ _ (c_ " ") rfl (by simp only[pS];omega),bX _ _ _ _ (ig p.2) (fmt_i h2) (by simp only[pS];omega),p9];rfl
theorem tP(h:p.1.natAbs<10^10/\p.2.natAbs<10^10):(iq p).length<=400:=by
 have e1:(c_ "closed ").length=7:=by decide +kernel
 have e2:(c_ " ").length=1:=by decide +kernel
 have J:=str_len h.1;have I:=str_len h.2;unfold iq SP;simp only[pS];omega
theorem wN{k:o_}(h:k.length<=100):(kb k).length<=400:=by
 have e1:(c_ "kind ").length=5:=by decide +kernel
 unfold kb;simp only[pS];omega
theorem zJ{w k:o_}{g:Int}(hw:w.length<=100)(Y:k.length<=100)(U:o.length<=100)(I:g.natAbs<10^10):(mM w k o g).length<=400:=by
 have J:(c_ " ").length=1:=by decide +kernel
 have es:=str_len I;unfold mM SP;simp only[pS,J];omega
theorem lj{w:o_}{I:Int}{k:o_}(hw:w.length<=100)(a:k.length<=100):∀(os:List o_) (r:List Int),(∀o∈os,o.length<=100)->(∀g∈r,g.natAbs<10^10)->∀x∈bK w I k os r,x.length<=400
 |[],_,_,_,x,h=>by simp[bK]at h|_::_,[],_,_,x,h=>by simp[bK]at h|o::os,g::r,Y,U,x,h=>by
  rw[bK,Dv]at h;rcases h with h|h
  ·split at h
   ·rw[DK]at h;rw[h];exact zJ hw a (Y o (by simp)) (U g (by simp))
   ·cases h
  ·exact lj hw a os r (λy J=>Y y (by simp[J])) (λy J=>U y (by simp[J])) x h
theorem kf{w:o_}{I:Int}{ks:List o_}(hw:w.length<=100)(J:∀k∈ks,k.length<=100):∀(l:List o_) (rows:List (List Int)),(∀k∈l,k.length<=100)->(∀r∈rows,∀g∈r,g.natAbs<10^10)->∀x∈bU w I ks l rows,x.length<=400
 |[],_,_,_,x,h=>by simp[bU]at h|_::_,[],_,_,x,h=>by simp[bU]at h|k::l,r::rows,a,Y,x,h=>by
  rw[bU,Dv]at h;rcases h with h|h
  ·exact lj hw (a k (by simp)) ks r J (Y r (by simp)) x h
  ·exact kf hw J l rows (λy U=>a y (by simp[U])) (λy U=>Y y (by simp[U])) x h
theorem kg(w:o_)(I:Int)(ks:List o_):∀(l:List o_) (rows:List (List Int)),(bU w I ks l rows).length<=l.length*ks.length
 |[],_=>by simp[bU]|_::_,[]=>by simp[bU]|k::l,r::rows=>by rw[bU,CV,CZ,Nat.succ_mul];have h1:=iB w I k ks r;have h2:=kg w I ks l rows;omega
structure Sht where
 ks:List o_
 rows:List (List Int)
 o:Option (List (List Int))
 nf:List (o_×Fli)
 cs:List tW
variable{w:Sht}
structure Sht.Good(w:Sht):Prop where
 k1:1<=w.ks.length
 k6:w.ks.length<=6
 kl:∀k∈w.ks,k.length<=100
 rows:dX w.ks.length w.rows
 o:∀r2,w.o=a_ r2->dX w.ks.length r2
 nm:w.nf.length<=40
 nl:∀p∈w.nf,p.1.length<=100/\BFl w.ks.length p.2
 cm:w.cs.length<=20
 cl:∀p∈w.cs,p.1.natAbs<10^10/\p.2.natAbs<10^10
noncomputable def Sht.kD(w:Sht):Dat:=.lst (w.ks.map .str)
noncomputable def Sht.bD(w:Sht):Dat:=match w.o with
 |some r2=>bz r2|none=>.non
noncomputable def Sht.nD(w:Sht):Dat:=.lst ((w.nf.map (·.1)).map .str)
noncomputable def Sht.fD(w:Sht):Dat:=.lst ((w.nf.map (·.2)).map flD)
noncomputable def Sht.cD(w:Sht):Dat:=.lst (w.cs.map stD)
noncomputable def Sht.rs(w:Sht):List o_:=rowsOf w.ks w.rows w.o w.nf w.cs
noncomputable def Sht.tx(w:Sht):o_:=textOf w.rs
theorem dX.nat(h:dX k rows):∀r∈rows,∀g∈r,g.natAbs<10^10:=λr I g J=>by
 have:=(h.2 r I).2 g J;have e:(10:Nat)^10=10000000000:=by decide
 omega
theorem lgap:(c_ "gap").length<=100:=by decide +kernel
theorem lbes:(c_ "beside").length<=100:=by decide +kernel
theorem Sht.Good.AX(h:w.Good):∀x∈w.rs,x.length<=400:=λx I=>by
 unfold Sht.rs rowsOf at I;simp only[Dv]at I;rcases I with(((I|I)|I)|I)|I
 ·obtain⟨k,Y,rfl⟩:=D4.mp I;exact wN (h.kl k Y)
 ·exact kf lgap h.kl w.ks w.rows h.kl h.rows.nat x I
 ·cases U:w.o with
  |none=>rw[U]at I;cases(show x∈([]:List o_)from I)|some r2=>rw[U]at I;exact kf lbes h.kl w.ks r2 h.kl (h.o r2 U).nat x I
 ·obtain⟨p,J,rfl⟩:=D4.mp I;exact tP (h.cl p J)
 ·obtain⟨p,J,rfl⟩:=D4.mp I;exact t7 (h.nl p J).1 h.kl (h.nl p J).2
theorem Sht.Good.rs_len(h:w.Good):w.rs.length<=200:=by
 unfold Sht.rs rowsOf;simp only[CV,y_];have h1:=kg "gap" 1 w.ks w.ks w.rows;have h2:(tU w.ks w.o).length<=w.ks.length*w.ks.length:=by
  cases w.o with
  |none=>simp[tU]|some r2=>exact kg _ _ _ _ _
 have I:=h.k6;have Y:=Ks I I;have U:=h.nm;have J:=h.cm;omega
theorem i9:∀xs:List o_,ia (xs.map .str)=.ok xs
 |[]=>rfl|x::xs=>by rw[Dp,e_strs1,i9 xs];rfl
theorem nl_len:NLs.length=1:=by decide +kernel
theorem nl_comp(rs:List o_)(h:∀r∈rs,r.length<=400):bM (.nm 0) ik (f2 cT (ah 0) (fC (.str "\n"))) [d_] (rs.map .str)=.ok ((rs.map (·++NLs)).map .str):=by
 rw[Dj];refine eP _ _ rs λr I=>⟨[a_ (.str r)],rfl,?_⟩
 have h1:=h r I;have h2:r.length+(c_ "\n").length<=m_:=by have:(c_ "\n").length=1:=nl_len;rw[Dq];omega
 show cT (.str r) (.str "\n")=_;unfold cT;simp only;rw[i_ h2];rfl
theorem zip_nf:∀nf:List (o_×Fli),mV ((nf.map (·.1)).map .str) ((nf.map (·.2)).map flD)=nf.map λp=>Dat.tup [.str p.1,flD p.2]
 |[]=>rfl|p::nf=>by simp only[Dp,mV,zip_nf nf]
section
variable(CR CP CS CW CE CD CK:g_)
theorem fl_comp(n:Nat)(U:ks.length<=6)(I:∀k∈ks,k.length<=100)(nf:List (o_×Fli))(h:∀p∈nf,p.1.length<=100/\BFl ks.length p.2):
  bM (.tp [0,1]) ik (fL (cY) (aa (ah 2) (aa (ah 0) (aa (ah 1) aJ)))) [d_,d_,a_ (.lst (ks.map .str))] (nf.map λp=>Dat.tup [.str p.1,flD p.2])=.ok ((nf.map (eM ks)).map .str):=by
 rw[Dj];refine eP _ _ nf λp J=>⟨[a_ (.str p.1),a_ (flD p.2),a_ (.lst (ks.map .str))],rfl,?_⟩
 obtain⟨h1,h2⟩:=h p J;have e:=oo n U h1 I h2;show(cY [.lst (ks.map .str),.str p.1,flD p.2])=_;rw[e];rfl
theorem bes_at(rows r2:List (List Int)):bu [CP] "beside" (mE CR CP rows (bz r2))=.ok (bz r2):=by
 have h1:((("beside":o_)==("gaps":o_))=b_):=by decide +kernel
 have h2:((("beside":o_)==("beside":o_))=e_):=by decide +kernel
 show(if ([CP].contains CP)=e_ then(match DN ("beside":o_) [(("gaps":o_),bz rows),(("beside":o_),bz r2)]with|some d=>Ds d|none=>stk)else stk)=_;rw[i_ (by simp),w_,h1,w_,h2]
noncomputable def Sht.ru(w:Sht):Dat:=mE CR CP w.rows w.bD
theorem Sht.bD_or(w:Sht):w.bD=.non\/∃r2,w.bD=bz r2:=by
 unfold Sht.bD;cases w.o with
 |none=>exact .inl rfl|some r2=>exact .inr ⟨r2,rfl⟩
theorem wY(n:Nat)(h:w.Good):bx CR CP CS CW CE CD CK n [w.ru CR CP]=.ok (bz w.rows):=by have e1:=gaps_at CR CP w.rows w.bD w.bD_or;have e2:=pL n w.rows (by have:=h.rows.1;have:=h.k6;omega);simp[bx,iL,Sht.ru,e1,e2]
theorem xA(n:Nat)(h:w.Good)(I:w.o=a_ r2):cx CR CP CS CW CE CD CK n [w.ru CR CP]=.ok (bz r2):=by
 have e2:=pL n r2 (by have:=(h.o r2 I).1;have:=h.k6;omega);have J:w.bD=bz r2:=by unfold Sht.bD;rw[I]
 have e1:=bes_at CR CP w.rows r2;simp[cx,gY,Sht.ru,J,e1,e2]
end
section
variable(CR CP CS CW CE CD CK:g_)
theorem ru_meth(I:CR≠CP)(w:Sht)(m:o_)(h1:(m==("gaps":o_))=b_)(h2:(m==("beside":o_))=b_)(g g2:List Dat->M Dat)(fo:ai->M Dat)(ρ:ai)(e:fo ρ=.ok (w.ru CR CP)):
  jO CR CP m g g2 fo aJ ρ=if w.o.isSome=e_ then g2 [w.ru CR CP]else g [w.ru CR CP]:=by
 unfold jO;rw[e];unfold Sht.ru Sht.bD;have J:(CP==CR)=b_:=by simp;exact λz=>I z.symm
 cases w.o with
 |none=>
  show(if isC CR m (.ins CR [("gaps",bz w.rows)])=e_ then _ else _)=_;have:isC CR m (.ins CR [("gaps",bz w.rows)])=e_:=by show((CR==CR)&&(DN m [(("gaps":o_),bz w.rows)]).isNone)=e_;rw[w_,h1];simp
  rw[i_ this];rfl
 |some r2=>
  show(if isC CR m (.ins CP [("gaps",bz w.rows),("beside",bz r2)])=e_ then _ else if isC CP m (.ins CP [("gaps",bz w.rows),("beside",bz r2)])=e_ then _ else _)=_;have Y:isC CR m (.ins CP [("gaps",bz w.rows),("beside",bz r2)])=b_:=by show((CP==CR)&&_)=b_;rw[J];rfl
  have U:isC CP m (.ins CP [("gaps",bz w.rows),("beside",bz r2)])=e_:=by show((CP==CP)&&(DN m [(("gaps":o_),bz w.rows),(("beside":o_),bz r2)]).isNone)=e_;rw[w_,h1,w_,h2];simp
  rw[Y,l_ (by decide),i_ U];rfl
theorem ru_gap(I:CR≠CP)(n:Nat)(h:w.Good)(fo:ai->M Dat)(ρ:ai)(e:fo ρ=.ok (w.ru CR CP)):jO CR CP "gap_rows" (bx CR CP CS CW CE CD CK n) (bx CR CP CS CW CE CD CK n) fo aJ ρ=.ok (bz w.rows):=by rw[ru_meth CR CP I w "gap_rows" (by decide +kernel) (by decide +kernel) _ _ fo ρ e,wY CR CP CS CW CE CD CK n h];split<;>rfl
theorem ru_bes(n:Nat)(h:w.Good)(I:w.o=a_ r2)(fo:ai->M Dat)(ρ:ai)(e:fo ρ=.ok (w.ru CR CP)):jh CP "beside_rows" (cx CR CP CS CW CE CD CK n) fo aJ ρ=.ok (bz r2):=by
 have Y:=xA CR CP CS CW CE CD CK n h I;unfold jh;rw[e];have U:w.ru CR CP=.ins CP [("gaps",bz w.rows),("beside",bz r2)]:=by unfold Sht.ru Sht.bD;rw[I];rfl
 have J:isC CP "beside_rows" (w.ru CR CP)=e_:=by rw[U];show((CP==CP)&&(DN ("beside_rows":o_) [(("gaps":o_),bz w.rows),(("beside":o_),bz r2)]).isNone)=e_;rw[w_,show(("beside_rows":o_)==("gaps":o_))=b_ by decide +kernel,w_,show(("beside_rows":o_)==("beside":o_))=b_ by decide +kernel];simp
 show(if isC CP "beside_rows" (w.ru CR CP)=e_ then _ else _)=_;rw[i_ J];exact Y
theorem ru_isi(I:CR≠CP)(w:Sht):isiC [(CR,b_),(CP,e_)] (w.ru CR CP)=.ok (.bl w.o.isSome):=by
 unfold Sht.ru Sht.bD;have J:(CP==CR)=b_:=by simp;exact λz=>I z.symm
 cases w.o with
 |none=>show(match DN CR [(CR,b_),(CP,e_)]with|some b=>Ds (Dat.bl b)|none=>stk)=_;rw[w_,show(CR==CR)=e_ by simp];rfl
 |some r2=>show(match DN CP [(CR,b_),(CP,e_)]with|some b=>Ds (Dat.bl b)|none=>stk)=_;rw[w_,J,w_,show(CP==CP)=e_ by simp];rfl
theorem Au(U:CR≠CP)(n:Nat)(h:w.Good):bS CR CP CS CW CE CD CK n [w.kD,w.ru CR CP,w.nD,w.fD,w.cD]=.ok (.str w.tx):=by
 have e1:=Bw w.ks h.kl;have e2:=ru_gap CR CP CS CW CE CD CK U n h (ah 1) [a_ w.kD,a_ (w.ru CR CP),a_ w.nD,a_ w.fD,a_ w.cD,d_] rfl;have e3:=kL n lgap w.ks h.kl h.k6 1 w.rows h.rows.nat;have e4:=ru_isi CR CP U w;have e5:=xv w.cs h.cl;have C:=fl_comp n h.k6 h.kl w.nf h.nl;have A:=nl_comp w.rs h.AX;have q:=h.rs_len;have m:w.ks.length<=16777216:=by have:=h.k6;omega
 have l:w.cs.length<=16777216:=by have:=h.cm;omega
 have k:w.nf.length<=16777216:=by have:=h.nm;omega
 have c:w.rs.length<=16777216:=by omega
 obtain⟨B,J⟩:∃B,tU w.ks w.o=B:=⟨_,rfl⟩
 have f:w.ks.length+(bU "gap" 1 w.ks w.ks w.rows).length+B.length+w.cs.length+w.nf.length<=200:=by have:=h.rs_len;unfold Sht.rs rowsOf at this;simp only[CV,y_,J]at this;exact this
 have v:∀I:List o_,I.length<=200->iG CR CP CS CW CE CD CK n [a_ w.kD,a_ (w.ru CR CP),a_ w.nD,a_ w.fD,a_ w.cD,a_ (.lst (I.map .str))]=.ok (.nx [a_ w.kD,a_ (w.ru CR CP),a_ w.nD,a_ w.fD,a_ w.cD,a_ (.lst ((I++B).map .str))]):=λI g=>by
  cases b:w.o with
  |none=>rw[b]at e4 J;have J:B=[]:=J.symm;simp[iG,e4,J]|some r2=>
   have j:=ru_bes CR CP CS CW CE CD CK n h b (ah 1) [a_ w.kD,a_ (w.ru CR CP),a_ w.nD,a_ w.fD,a_ w.cD,d_] rfl;have a:=kL n lbes w.ks h.kl h.k6 0 r2 (h.o r2 b).nat;rw[b]at e4 J;have J:bU "beside" 0 w.ks w.ks r2=B:=J;rw[J]at a;have d:I.length+B.length<=16777216:=by omega
   simp[iG,e4,j,Sht.kD,a,d]at j ⊢
 have i:w.ks.map kb++bU "gap" 1 w.ks w.ks w.rows++B++w.cs.map iq++w.nf.map (eM w.ks)=w.rs:=by rw[<- J];rfl
 have b1:w.ks.length+(bU "gap" 1 w.ks w.ks w.rows).length<=16777216:=by omega
 have b2:w.ks.length+((bU "gap" 1 w.ks w.ks w.rows).length+B.length)+w.cs.length<=16777216:=by omega
 have b3:w.ks.length+((bU "gap" 1 w.ks w.ks w.rows).length+(B.length+w.cs.length))+w.nf.length<=16777216:=by omega
 have Y:=v (w.ks.map kb++bU "gap" 1 w.ks w.ks w.rows) (by simp;omega);have r:((w.rs.map (·++NLs)).map (·.length)).sum<=16777216:=by
  have:=lenLe (w.rs.map (·++NLs)) 401 (λx p=>by obtain⟨y,o,rfl⟩:=D4.mp p;have:=h.AX y o;rw[pS,nl_len];omega)
  rw[y_]at this;omega
 have s:(c_ "").length=0:=by decide +kernel
 have es:=i9 (w.rs.map (·++NLs));have u:=yk (w.rs.map (·++NLs));have z:=zip_nf w.nf;have t:GU Dat.str (GU kb w.ks)++(GU Dat.str (bU "gap" 1 w.ks w.ks w.rows)++(GU Dat.str B++(GU Dat.str (GU iq w.cs)++GU Dat.str (GU (eM w.ks) w.nf))))=w.rs.map .str:=by rw[<- i];simp only[Dw,F_]
 rw[<- i]at c;simp only[Sht.kD,Sht.nD,Sht.fD,Sht.cD,Dw,F_]at e2 Y ⊢;simp only[CV,y_,KU]at c;simp[bS,uR,e1,m,e2,e3,b1,Y,e5,l,b2,z,C,k,b3,l7,c,-Dj];rw[t,A];have e:((w.rs.map (·++NLs)).map (·.length)).sum+(w.rs.map (·++NLs)).length*(c_ "").length<=16777216:=by rw[s,Nat.mul_zero];exact r
 simp only[ae,xa,es,Dq,i_ e,u];rfl
end
theorem intAt'{r:List Int}{i:Nat}(h:i<r.length):iA (r.map .int) (i:Int)=.ok (.int r[i]):=by unfold iA atI ixN;rw[i_ (by omega),i_ (by simp<;>omega)];simp[h]
theorem AF{i:Nat}(h:i<r.length):iA (r.map .str) (i:Int)=.ok (.str r[i]):=by unfold iA atI ixN;rw[i_ (by omega),i_ (by simp<;>omega)];simp[h]
theorem nI{α:Type}(f:α->Dat)(n:Nat)(h:∀x,okE (f x) n=e_):∀L:List α,jY (L.map f) n=e_
 |[]=>rfl|x::L=>by simp[jY,h x,nI f n h L]
theorem AL{d:Dat}(h:okE d 40=e_):neM d d=.ok (.bl b_):=by unfold neM;rw[h];simp[nS h]
theorem same_eq{d:Dat}(h:okE d 40=e_):eqM d d=.ok (.bl e_):=by unfold eqM;rw[h];simp[nS h]
section
variable(CR CP CS CW CE CD CK:g_)
noncomputable def Sht.obj(w:Sht):Dat:=.ins CS [("kinds",w.kD),("rules",w.ru CR CP),("names",w.nD),("flights",w.fD),("closed",w.cD),("text",.str w.tx)]
theorem mJ(w:Sht):bu [CS] "kinds" (w.obj CR CP CS)=.ok w.kD/\bu [CS] "rules" (w.obj CR CP CS)=.ok (w.ru CR CP)/\bu [CS] "names" (w.obj CR CP CS)=.ok w.nD/\bu [CS] "flights" (w.obj CR CP CS)=.ok w.fD/\bu [CS] "closed" (w.obj CR CP CS)=.ok w.cD/\bu [CS] "text" (w.obj CR CP CS)=.ok (.str w.tx):=by
 have k:∀a b:o_,a≠b->(a==b)=b_:=λa b h=>by simp[h]
 have key:∀(y:o_) (d:Dat),DN y [(("kinds":o_),w.kD),(("rules":o_),w.ru CR CP),(("names":o_),w.nD),(("flights":o_),w.fD),(("closed":o_),w.cD),(("text":o_),.str w.tx)]=a_ d->bu [CS] y (w.obj CR CP CS)=.ok d:=λy d h=>by show(if ([CS].contains CS)=e_ then(match DN y [(("kinds":o_),w.kD),(("rules":o_),w.ru CR CP),(("names":o_),w.nD),(("flights":o_),w.fD),(("closed":o_),w.cD),(("text":o_),Dat.str w.tx)]with|some d=>Ds d|none=>stk)else stk)=_;rw[i_ (by simp),h]
 have e1:(("rules":o_)==("kinds":o_))=b_:=by decide +kernel
 have e2:(("names":o_)==("kinds":o_))=b_:=by decide +kernel
 have e3:(("names":o_)==("rules":o_))=b_:=by decide +kernel
 have e4:(("flights":o_)==("kinds":o_))=b_:=by decide +kernel
 have e5:(("flights":o_)==("rules":o_))=b_:=by decide +kernel
 have j:(("flights":o_)==("names":o_))=b_:=by decide +kernel
 have i:(("closed":o_)==("kinds":o_))=b_:=by decide +kernel
 have g:(("closed":o_)==("rules":o_))=b_:=by decide +kernel
 have f:(("closed":o_)==("names":o_))=b_:=by decide +kernel
 have e:(("closed":o_)==("flights":o_))=b_:=by decide +kernel
 have c:(("text":o_)==("kinds":o_))=b_:=by decide +kernel
 have Y:(("text":o_)==("rules":o_))=b_:=by decide +kernel
 have U:(("text":o_)==("names":o_))=b_:=by decide +kernel
 have J:(("text":o_)==("flights":o_))=b_:=by decide +kernel
 have I:(("text":o_)==("closed":o_))=b_:=by decide +kernel
 refine⟨key _ _ ?_,key _ _ ?_,key _ _ ?_,key _ _ ?_,key _ _ ?_,key _ _ ?_⟩<;>simp only[w_,GQ,e1,e2,e3,e4,e5,j,i,g,f,e,c,Y,U,J,I]
end
section
variable(CR CP CS CW CE CD CK:g_)
theorem mem_range{d:Dat}(h:d∈gD 0 k):∃j:Nat,j<k/\d=.int j:=by obtain⟨i,hi⟩:=List.mem_iff_getElem?.mp h;obtain⟨h1,h2⟩:=yY hi;exact⟨_,h1,h2⟩
end
section
variable(CR CP CS CW CE CD CK:g_)
theorem new1(n:Nat)(h1:1<=k)(J:k<=6)(I:dX k rows):newR CR (aG) [bz rows]=.ok (mE CR CP rows .non):=by have e:=my n k rows h1 J I;simp[newR,e,mE]
theorem new2(n:Nat)(h1:1<=k)(U:k<=6)(J:dX k rows)(I:dX k r2):newP CP (aG) [bz rows,bz r2]=.ok (mE CR CP rows (bz r2)):=by
 have e1:=my n k rows h1 U J;have e2:=my n k r2 h1 U I;have Y:twoL (bz rows) (bz r2)=e_:=by simp[twoL,bz,J.1,I.1]
 simp only[newP,e1,e2,ae,Y,IF];rfl
end
noncomputable def jn(c:Nat):List (List Nat)->List Nat
 |[]=>[]|[x]=>x|x::y::r=>x++c::jn c (y::r)
theorem jn_uniq(c:Nat):∀(ps I:List (List Nat)),ps≠[]->I≠[]->(∀p∈ps,c∉p)->(∀q∈I,c∉q)->jn c ps=jn c I->ps=I:=by
 have key:∀(x y a b:List Nat),c∉x->c∉y->x++c::a=y++c::b->x=y/\a=b:=by
  intro x
  induction x with
  |nil=>
   intro y a b _ d h;cases y with
   |nil=>exact⟨rfl,by simpa using h⟩|cons z y=>exact Dc (by simp at h;simp[h.1]) d
  |cons z x Y=>
   intro y a b g d h;cases y with
   |nil=>exact Dc (by simp at h;simp[h.1]) g|cons j y=>simp only[List.cons_append,HC]at h;obtain⟨h1,h2⟩:=Y y a b (λm=>g (by simp[m])) (λm=>d (by simp[m])) h.2;exact⟨by rw[h.1,h1],h2⟩
 have U:∀{x a:List Nat},c∈x++c::a:=by intro x a;simp
 intro ps
 induction ps with
 |nil=>intro I h;exact Dc rfl h|cons x ps Y=>
  intro I _ i e J h;cases ps with
  |nil=>
   match I,i with
   |[y],_=>exact FT (λz=>[z]) h|y::f::I,_=>exact Dc (by rw[show x=_ from h];exact U) (e x (by simp))
  |cons k ps=>
   match I,i with
   |[y],_=>exact Dc (by rw[show y=_ from h.symm];exact U) (J y (by simp))|y::f::I,_=>obtain⟨h1,h2⟩:=key x y _ _ (e x (by simp)) (J y (by simp)) h;rw[h1,Y (f::I) (by simp) (by simp) (λp m=>e p (by simp[m])) (λq m=>J q (by simp[m])) h2]
theorem join_one(I a:o_):Eg I [a]=a:=rfl
theorem yi(I a b:o_)(r:List o_):Eg I (a::b::r)=a++I++Eg I (b::r):=rfl
theorem sU(c:Nat):∀xs:List o_,(Eg ⟨#[c]⟩ xs).cps.toList=jn c (xs.map λx=>x.cps.toList)
 |[]=>rfl|[x]=>rfl|x::y::r=>by rw[yi];show((x.cps++#[c])++(Eg ⟨#[c]⟩ (y::r)).cps).toList=_;rw[Jr,Jr,sU c (y::r)];simp[jn]
theorem oj(h:a.cps.toList=b.cps.toList):a=b:=by obtain⟨⟨a⟩⟩:=a;obtain⟨⟨b⟩⟩:=b;cases(show a=b from h);rfl
noncomputable def free(c:Nat)(x:o_):Prop:=c∉x.cps.toList
theorem split_of(c:Nat)(ps:List o_)(f:ps≠[])(h:∀p∈ps,free c p):Ep (Eg ⟨#[c]⟩ ps) ⟨#[c]⟩=ps:=by
 have h1:=StrLaws.join_split (Eg ⟨#[c]⟩ ps) ⟨#[c]⟩;have h2:=StrLaws.split_free (Eg ⟨#[c]⟩ ps) c;have Y:=split_pos (Eg ⟨#[c]⟩ ps) ⟨#[c]⟩;generalize Ep (Eg ⟨#[c]⟩ ps) ⟨#[c]⟩=d at h1 h2 Y;have i:jn c (d.map λx=>x.cps.toList)=jn c (ps.map λx=>x.cps.toList):=by rw[<- sU,<- sU,h1]
 have g:=jn_uniq c _ _ (by intro z;rw[Hl]at z;rw[z]at Y;simp at Y) (by simpa using f) (λp U=>by
  obtain⟨x,J,rfl⟩:=D4.mp U;exact h2 x J) (λp U=>by
  obtain⟨x,J,rfl⟩:=D4.mp U;exact h x J) i
 have I:∀(l m:List o_),(l.map λx=>x.cps.toList)=(m.map λx=>x.cps.toList)->l=m:=by
  intro l
  induction l with
  |nil=>intro m h;cases m with
   |nil=>rfl|cons _ _=>simp at h
  |cons a l e=>intro m h;cases m with
   |nil=>simp at h|cons b m=>simp only[Dp,HC]at h;rw[oj h.1,e m h.2]
 exact I _ _ g
noncomputable def lowD(c:Nat):Prop:=(97<=c/\c<=122)\/(48<=c/\c<=57)
structure Wd(x:o_):Prop where
 ne:x.cps.toList≠[]
 sg:∀c∈x.cps.toList,lowD c
theorem Wd.free{x:o_}(h:Wd x){c:Nat}(I:¬lowD c):Ru.free c x:=λm=>I (h.sg c m)
theorem FIG_list:(c_ "0123456789").cps.toList=Lc 48 10:=by decide +kernel
theorem LET_list:(c_ "abcdefghijklmnopqrstuvwxyz").cps.toList=Lc 97 26:=by decide +kernel
theorem mq(c:Nat):c∈(c_ "0123456789").cps.toList↔48<=c/\c<=57:=by rw[FIG_list,J1];omega
theorem k9(c:Nat):c∈(c_ "abcdefghijklmnopqrstuvwxyz").cps.toList↔97<=c/\c<=122:=by rw[LET_list,J1];omega
theorem one_eq(c:Nat)(s:o_)(d:Nat)(I:s=⟨#[d]⟩):eqM (.str ⟨#[c]⟩) (.str s)=.ok (.bl (q_ (c=d))):=by
 subst I;by_cases h:c=d
 ·subst h;simp[eqM,okE,eqD]
 ·have:(⟨#[c]⟩:o_)≠⟨#[d]⟩:=λz=>h (by injection z with z;injection z with z;injection z);simp[eqM,okE,eqD,h]
section
variable(CR CP CS CW CE CD CK:g_)
structure Nm(x:o_):Prop where
 wd:Wd x
 l8:x.length<=8
 hd:∃c r,x.cps.toList=c::r/\97<=c/\c<=122
end
theorem memS(k:o_)(ks:List o_):((ks.map Dat.str).any λd=>eqD d (.str k))=q_ (k∈ks):=by
 rw[Er];simp only[HV,D4,Dh];constructor
 ·rintro⟨d,⟨s,I,rfl⟩,h⟩;have:s=k:=by simpa[eqD] using h
  rw[<- this];exact I
 ·intro h;exact⟨.str k,⟨k,h,rfl⟩,by simp[eqD]⟩
theorem inS(k:o_)(ks:List o_):inM (.str k) (.lst (ks.map .str))=.ok (.bl (q_ (k∈ks))):=by have h2:jY (ks.map Dat.str) 40=e_:=nI _ _ (λ_=>rfl) ks;show(if (okE (.str k) 40&&jY (ks.map Dat.str) 40)=e_ then Ds (Dat.bl ((ks.map Dat.str).any λd=>eqD d (.str k)))else stk)=_;rw[i_ (by rw[h2];rfl),memS]
theorem uN(k:o_)(ks:List o_):ic (.str k) (.lst (ks.map .str))=.ok (.bl (!decide (k∈ks))):=by have h2:jY (ks.map Dat.str) 40=e_:=nI _ _ (λ_=>rfl) ks;show(if (okE (.str k) 40&&jY (ks.map Dat.str) 40)=e_ then Ds (Dat.bl (!((ks.map Dat.str).any λd=>eqD d (.str k))))else stk)=_;rw[i_ (by rw[h2];rfl),memS]
theorem BD(J:ks.Nodup){i:Nat}(hi:i<ks.length):vG ks ks[i]=a_ i:=by
 refine FZ.mpr ⟨hi,by simp,λj U=>?_⟩;have I:ks[j]≠ks[i]:=λz=>by have:=(J6 (show j<ks.length by omega) J (j:=i)).mp (by rw[DD (by omega),DD hi,z]);omega
 simpa using I
theorem oW(a b:Int)(h:a=b):neM (.int a) (.int b)=.ok (.bl b_):=by subst h;exact AL rfl
section
variable(CR CP CS CW CE CD CK:g_)
noncomputable def St1(p:tW):Prop:=0<=p.1/\p.1<p.2/\p.2<=1000000000
structure Fl1(k:Nat)(f:Fli):Prop where
 k0:0<=f.kind
 k1:f.kind<k
 a:0<=f.first
 b:f.first<=f.last
 c:f.last<=1000000000
 d:0<=f.due/\f.due<=1000000000
 e:0<=f.price/\f.price<=1000000000
end
structure DSt where
 ks:List o_
 G:List (List Int×Dat)
 B:List (List Int×Dat)
 nf:List (o_×Fli)
 cs:List tW
noncomputable def DSt.D(s:DSt):List Dat:=[.lst (s.ks.map .str),.dic s.G,.dic s.B,.lst ((s.nf.map (·.1)).map .str),.lst ((s.nf.map (·.2)).map flD),.lst (s.cs.map stD)]
section
variable{w:o_} 
theorem jX(l:List o_)(n:Nat):jY (l.map Dat.str) n=e_:=nI _ _ (λ_=>rfl) l
theorem get0:iA ((w::r).map Dat.str) 0=.ok (.str w):=by have:=getI_nat (ds:=(w::r).map Dat.str) (k:=0) (by simp);rw[show((0:Nat):Int)=0 from rfl]at this;rw[this];rfl
theorem t1_ok(hw:ER w "#"=b_):(fOr (fB (f2 eqM (ah 1) (fL bT aJ))) (nB (fSM lU (f2 ixD (ah 1) (fC (.int 0))) (fC (.str "#"))))) [d_,a_ (.lst ((w::r).map .str))]=.ok b_:=by
 have I:iA ((w::r).map Dat.str) 0=.ok (.str w):=get0;have e:eqM (.lst ((w::r).map Dat.str)) (.lst [])=.ok (.bl b_):=by have h1:okE (.lst ((w::r).map Dat.str)) 40=e_:=jX (w::r) 39;show(if (okE (.lst ((w::r).map Dat.str)) 40&&okE (.lst []) 40)=e_ then _ else _)=_;rw[i_ (by rw[h1];rfl)];rfl
 simp[e,I,hw,-Dp]
theorem t6_ok(x:o_):(f2 eqM (f2 ixD (ah 1) (fC (.int 0))) (fC (.str x))) [d_,a_ (.lst ((w::r).map .str))]=.ok (.bl (q_ (w=x))):=by
 have I:iA ((w::r).map Dat.str) 0=.ok (.str w):=get0;have e:eqM (.str w) (.str x)=.ok (.bl (q_ (w=x))):=by
  by_cases h:w=x
  ·subst h;simp[eqM,okE,eqD]
  ·simp[eqM,okE,eqD,h]
 simp[I,e,-Dp]
theorem tw_ok(x:o_):(fB (f2 eqM (f2 ixD (ah 1) (fC (.int 0))) (fC (.str x)))) [d_,a_ (.lst ((w::r).map .str))]=.ok (q_ (w=x)):=by show((f2 eqM (f2 ixD (ah 1) (fC (.int 0))) (fC (.str x))) [d_,a_ (.lst ((w::r).map .str))]).bind asB=_;rw[t6_ok];rfl
end
noncomputable def wK:o_:="kind"
noncomputable def wG:o_:="gap"
noncomputable def wB:o_:="beside"
noncomputable def wC:o_:="closed"
noncomputable def wF:o_:="flight"
section
variable(CR CP CS CW CE CD CK:g_)
theorem row_way(n:Nat)(s:DSt)(w:o_)(r:List o_)(hw:ER w "#"=b_):bN s.D ((w::r).map .str) =
  if w=wK then(bA [.lst (s.ks.map .str),.lst ((w::r).map .str)]).bind (qC 0 s.D)else
  if w=wG then(bw [.lst (s.ks.map .str),.lst ((w::r).map .str)]).bind (Ab 1 s.D)else
  if w=wB then(bw [.lst (s.ks.map .str),.lst ((w::r).map .str)]).bind (Ab 2 s.D)else
  if w=wC then(aC [.lst (s.cs.map stD),.lst ((w::r).map .str)]).bind (qC 5 s.D)else
  if w=wF then kH (aF) s.D ((w::r).map .str)else .ok (b_,s.D):=by
 unfold bN lT;show((fOr _ _ _).bind _)=_;rw[t1_ok hw,ae,l_ (by decide),tw_ok,ae,tw_ok,ae,tw_ok,ae,tw_ok,ae,t6_ok,ae];simp only[Dh];show(if w=wK then _ else if w=wG then _ else if w=wB then _ else if w=wC then _ else _)=_;by_cases h1:w=wK
 ·rw[i_ h1,i_ h1]
 rw[l_ h1,l_ h1];by_cases h2:w=wG
 ·rw[i_ h2,i_ h2]
 rw[l_ h2,l_ h2];by_cases U:w=wB
 ·rw[i_ U,i_ U]
 rw[l_ U,l_ U];by_cases J:w=wC
 ·rw[i_ J,i_ J]
 rw[l_ J,l_ J];by_cases I:w=wF
 ·rw[i_ I,show q_ (w=c_ "flight")=e_ from r_ I]
 ·rw[l_ I,show q_ (w=c_ "flight")=b_ from f_ I]
theorem row_none(n:Nat)(s:DSt):bN s.D []=.ok (e_,s.D):=by
 have e:eqM (.lst []) (.lst [])=.ok (.bl e_):=rfl;have t:(fOr (fB (f2 eqM (ah 1) (fL bT aJ))) (nB (fSM lU (f2 ixD (ah 1) (fC (.int 0))) (fC (.str "#"))))) [d_,a_ (.lst [])]=.ok e_:=by simp[e]
 unfold bN lT;show((fOr _ _ _).bind _)=_;rw[t];rfl
end
noncomputable def Tb(k:Nat)(G:List (List Int×Dat))(t:Nat->Nat->Int):Prop:=∀a c,a<k->c<k->(Ad G [(a:Int),(c:Int)]).getD (.int 0)=.int (t a c)
section
variable(CR CP CS CW CE CD CK:g_)
theorem Nm.l100(h:Nm x):x.length<=100:=by have:=h.l8;omega
noncomputable def uz(r:List Int)(c:Nat):Int:=r.getD c 0
end
theorem Fl1.bfl(h:Fl1 k f):BFl k f:=by obtain⟨k0,k1,a,b,c,d,e⟩:=h;constructor<;>omega
noncomputable def tabL(k:Nat)(t:Nat->Nat->Int):List (List Int):=(DY k).map λi=>(DY k).map λj=>t i j
theorem B3(k:Nat):gD 0 k=(DY k).map λi:Nat=>Dat.int (i:Int):=by unfold gD;refine Gx λi _=>?_;simp
theorem ua(h:dX k rows):tabL k (λa c=>uz (rows.getD a []) c)=rows:=by refine Ka (by simp[tabL,h.1]) λi h1 h2=>?_;have I:=h.2 rows[i] (Fd h2);refine Ka (by simp[tabL,I.1]) λj U J=>?_;simp[tabL,uz,h2,J]
section
variable(CR CP CS CW CE CD CK:g_)
theorem mL(n:Nat)(b:k<=6){G:List (List Int×Dat)}{t:Nat->Nat->Int}(h:Tb k G t):gG [.dic G,.int k]=.ok (bz (tabL k t)):=by
 have k1:(-4611686018427387904:Int)<=(k:Int):=by omega
 have k2:(k:Int)<4611686018427387904:=by omega
 have k3:((k:Int)).toNat=k:=by omega
 have I:k<=16777216:=by omega
 have J:∀i,i<k->jd [.dic G,.int (i:Nat),.int k]=.ok (qO ((DY k).map λj=>t i j)):=λi hi=>by
  have U:bM (.nm 0) ik (uW (ah 1) (fL k7 (aa (ah 2) (aa (ah 0) aJ))) (fC (.int 0))) [d_,a_ (.dic G),a_ (.int (i:Nat))] ((DY k).map λj:Nat=>Dat.int (j:Int))=.ok ((DY k).map λj=>Dat.int (t i j)):=
   eP _ _ _ λj a=>⟨[a_ (.int (j:Int)),a_ (.dic G),a_ (.int (i:Nat))],by simp,by have:=h i j hi (List.mem_range.mp a);have Y:keyD (.tup [.int (i:Nat),.int (j:Nat)])=.ok [(i:Int),(j:Int)]:=rfl;simp[uW,isDic,BI,Y,this]⟩
  simp[jd,uS,k1,k2,k3,B3,I,U];simp[qO]
 have U:bM (.nm 0) ik (fL (jd) (aa (ah 1) (aa (ah 0) (aa (ah 2) aJ)))) [d_,a_ (.dic G),a_ (.int k)] ((DY k).map λj:Nat=>Dat.int (j:Int))=.ok ((DY k).map λi=>qO ((DY k).map λj=>t i j)):=
  eP _ _ _ λi hi=>⟨[a_ (.int (i:Int)),a_ (.dic G),a_ (.int k)],by simp,by simp[J i (List.mem_range.mp hi)]⟩
 simp[gG,pj,k1,k2,k3,B3,I,U];simp[bz,tabL]
end
structure Sht.SG(w:Sht):Prop where
 k1:1<=w.ks.length
 k6:w.ks.length<=6
 kn:∀k∈w.ks,Nm k
 kd:w.ks.Nodup
 rows:dX w.ks.length w.rows
 o:∀r2,w.o=a_ r2->dX w.ks.length r2
 nm:w.nf.length<=40
 nn:∀p∈w.nf,Nm p.1/\Fl1 w.ks.length p.2
 nd:(w.nf.map (·.1)).Nodup
 cm:w.cs.length<=20
 cl:∀p∈w.cs,St1 p
theorem Sht.SG.good(h:w.SG):w.Good:=⟨h.k1,h.k6,λk J=>(h.kn k J).l100,h.rows,h.o,h.nm,λp I=>⟨(h.nn p I).1.l100,(h.nn p I).2.bfl⟩,h.cm,λp I=>by obtain⟨a,b,c⟩:=h.cl p I;omega⟩
abbrev tR(rows:List (List Int)):Nat->Nat->Int:=λa c=>uz (rows.getD a []) c
structure Desc(s:DSt)(w:Sht):Prop where
 ks:s.ks=w.ks
 nf:s.nf=w.nf
 cs:s.cs=w.cs
 g:Tb w.ks.length s.G (tR w.rows)
 b0:w.o=d_->s.B=[]
 b1:∀r2,w.o=a_ r2->s.B≠[]/\Tb w.ks.length s.B (tR r2)
section
variable{CR CE:g_}
theorem dr_at(s:DSt):bu [CD] "kinds" (drD CD s.D)=.ok (.lst (s.ks.map .str))/\bu [CD] "gaps" (drD CD s.D)=.ok (.dic s.G)/\bu [CD] "beside" (drD CD s.D)=.ok (.dic s.B)/\bu [CD] "names" (drD CD s.D)=.ok (.lst ((s.nf.map (·.1)).map .str))/\bu [CD] "flights" (drD CD s.D)=.ok (.lst ((s.nf.map (·.2)).map flD))/\bu [CD] "closed" (drD CD s.D)=.ok (.lst (s.cs.map stD)):=by
 have key:∀(y:o_) (d:Dat),((["kinds","gaps","beside","names","flights","closed"]:List o_).zip s.D).lookup y=a_ d->bu [CD] y (drD CD s.D)=.ok d:=λy d h=>by show(if ([CD].contains CD)=e_ then(match ((["kinds","gaps","beside","names","flights","closed"]:List o_).zip s.D).lookup y with|some d=>Ds d|none=>stk)else stk)=_;rw[i_ (by simp),h]
 exact⟨key _ _ (by with_unfolding_all rfl),key _ _ (by with_unfolding_all rfl),key _ _ (by with_unfolding_all rfl),key _ _ (by with_unfolding_all rfl),key _ _ (by with_unfolding_all rfl),key _ _ (by with_unfolding_all rfl)⟩
theorem zP(n:Nat){s:DSt}(h:w.SG)(d:Desc s w):cI CR CP CS CW CE CD CK n [drD CD s.D]=.ok (w.ru CR CP):=by
 obtain⟨b,c,a,_,_,_⟩:=dr_at (CD:=CD) s;have t1:=mL n h.k6 d.g;rw[ua h.rows]at t1;have f:s.ks.length=w.ks.length:=by rw[d.ks]
 rw[d.ks]at b;cases I:w.o with
 |none=>
  have U:=d.b0 I;have e1:=new1 CR CP n h.k1 h.k6 h.rows;have Y:w.ru CR CP=mE CR CP w.rows .non:=by unfold Sht.ru Sht.bD;rw[I]
  rw[Y];rw[U]at a;simp[cI,gI,fS,b,c,a,t1,e1]
 |some r2=>
  obtain⟨U,tb⟩:=d.b1 r2 I;have t2:=mL n h.k6 tb;rw[ua (h.o r2 I)]at t2;have e1:=new2 CR CP n h.k1 h.k6 h.rows (h.o r2 I);have Y:w.ru CR CP=mE CR CP w.rows (bz r2):=by unfold Sht.ru Sht.bD;rw[I]
  rw[Y];have J:s.B.isEmpty=b_:=by cases e:s.B with
   |nil=>exact Dc e U|cons _ _=>rfl
  simp[cI,gI,fS,b,c,a,t1,t2,e1,J]
end
noncomputable def zD(c:Nat):Bool:=q_ (97<=c/\c<=122)||q_ (48<=c/\c<=57)
noncomputable def xc(c:Nat):Bool:=q_ (48<=c/\c<=57)
theorem ix0'{r:List Nat}(e:z.cps.toList=c::r)(I:z.length<=16777216):wR (.str z) (.int 0)=.ok (.str ⟨#[c]⟩):=by
 show(if z.length<=m_ then _ else _)=_;rw[i_ (by rw[Dq];omega),e];have:atI (c::r) (0:Int)=a_ c:=by unfold atI ixN;simp
 rw[this]
noncomputable def jZ(x:o_)(c:Nat):Bool:=q_ (x.length<=8)&&q_ (97<=c/\c<=122)&&x.cps.toList.all zD
section
variable(CR CP CS CW CE CD CK:g_)
theorem wU(n:Nat){r:List Nat}(e:x.cps.toList=c::r)(k:x.length<=1000000):gf [.str x]=.ok (.bl (jZ x c)):=by
 have I:x.length<=16777216:=by omega
 have hsz:x.cps.size<=16777216:=I;have d:=ix0' e I;by_cases b:(8:Int)<(x.length:Int)
 ·have:jZ x c=b_:=by unfold jZ;rw[f_ (by omega)];rfl
  rw[this];simp[gf,lq,gO,I,gtD,b]
 ·by_cases a:97<=c/\c<=122
  ·have i:gO [a_ (.str x)]=.ok (.nx [a_ (.str x)]):=by
    simp[gO,I,gtD,b,d,(k9 c).mpr a]
   have h:bM (.nm 0) ik (fOrV (f2 inSD (ah 0) (fC (.str "abcdefghijklmnopqrstuvwxyz"))) (f2 inSD (ah 0) (fC (.str "0123456789")))) [d_] (x.cps.toList.map λc=>.str ⟨#[c]⟩)=.ok ((x.cps.toList.map zD).map Dat.bl):=by
    rw[Dj];refine eP _ _ _ λc j=>⟨[a_ (.str ⟨#[c]⟩)],by simp,?_⟩
    by_cases U:97<=c/\c<=122
    ·simp[fOrV,(k9 c).mpr U,zD,U]
    ·have Y:c∉(c_ "abcdefghijklmnopqrstuvwxyz").cps.toList:=λm=>U ((k9 c).mp m);by_cases J:48<=c/\c<=57
     ·simp[fOrV,Y,(mq c).mpr J,zD,J]
     ·have n2:c∉(c_ "0123456789").cps.toList:=λm=>J ((mq c).mp m);have g:zD c=b_:=by unfold zD;rw[f_ U,f_ J];rfl
      simp[fOrV,Y,n2,g]
   have f:jZ x c=(x.cps.toList.map zD).all id:=by unfold jZ;rw[r_ (show x.length<=8 by omega),r_ a,Gz];rfl
   rw[f];simp[gf,lq,i,h,hsz,-Dj,-Gz]
  ·have Y:c∉(c_ "abcdefghijklmnopqrstuvwxyz").cps.toList:=λm=>a ((k9 c).mp m);have:jZ x c=b_:=by unfold jZ;rw[f_ a,Fe];rfl
   rw[this];simp[gf,lq,gO,I,gtD,b,d,Y]
end
noncomputable def lQ(x:o_)(c:Nat):Bool:=q_ (x.length<=10)&&x.cps.toList.all xc&& !(q_ (c=48)&& !decide (x="0"))
section
variable(CR CP CS CW CE CD CK:g_)
theorem zq(n:Nat){r:List Nat}(e:x.cps.toList=c::r)(l:x.length<=1000000):aY [.str x]=.ok (if lQ x c=e_ then .int (((Em x.cps.toList:Nat):Int))else .non):=by
 have I:x.length<=16777216:=by omega
 have hsz:x.cps.size<=16777216:=I;have b:=ix0' e I;have g:bM (.nm 0) ik (f2 inSD (ah 0) (fC (.str "0123456789"))) [d_] (x.cps.toList.map λc=>.str ⟨#[c]⟩)=.ok ((x.cps.toList.map xc).map Dat.bl):=by
  rw[Dj];refine eP _ _ _ λc k=>⟨[a_ (.str ⟨#[c]⟩)],by simp,?_⟩
  by_cases z:48<=c/\c<=57
  ·simp[(mq c).mpr z,xc,z]
  ·have n2:c∉(c_ "0123456789").cps.toList:=λm=>z ((mq c).mp m);have j:xc c=b_:=by unfold xc;rw[f_ z]
   simp[n2,j]
 by_cases Y:(10:Int)<(x.length:Int)
 ·have:lQ x c=b_:=by unfold lQ;rw[f_ (by omega)];rfl
  rw[this];simp[aY,gH,eQ,I,gtD,Y]
 ·have J:((x.cps.toList.map xc).all id)=x.cps.toList.all xc:=by rw[Gz];rfl
  cases a:x.cps.toList.all xc with
  |false=>
   have:lQ x c=b_:=by unfold lQ;rw[a,Fe];rfl
   rw[this];rw[a]at J;simp[aY,gH,eQ,I,gtD,Y,g,hsz,J,-Dj,-Gz]
  |true=>
   rw[a]at J;have h:eQ [a_ (.str x)]=.ok (.nx [a_ (.str x)]):=by simp[eQ,I,gtD,Y,g,hsz,J,-Dj,-Gz]
   have i:(c_ "0")=⟨#[48]⟩:=by decide +kernel
   have e1:=one_eq c (c_ "0") 48 i;have e2:neM (.str x) (.str "0")=.ok (.bl (!decide (x="0"))):=by
    by_cases hw:x=(c_ "0")
    ·subst hw;simp[neM,okE,eqD]
    ·simp[neM,okE,eqD,hw]
   have hd:Fz x=a_ ((Em x.cps.toList:Nat):Int):=Ja (λc U=>by have:=EA.mp a c U;unfold xc at this;exact EV this) (by rw[e];simp) (by omega);have d:x.length<=640:=by omega
   by_cases U:c=48/\¬x=(c_ "0")
   ·have:lQ x c=b_:=by unfold lQ;rw[r_ U.1,f_ U.2];simp
    rw[this];have e3:eqM (.str ⟨#[c]⟩) (.str "0")=.ok (.bl e_):=by rw[e1];simp[U.1]
    have e4:neM (.str x) (.str "0")=.ok (.bl e_):=by rw[e2];simp[U.2]
    have f:dG [a_ (.str x)]=.ok (.rt .non):=by simp[dG,b,e3,e4]
    simp[aY,gH,h,f]
   ·have:lQ x c=e_:=by
     unfold lQ;rw[r_ (show x.length<=10 by omega),a];by_cases h1:c=48
     ·have h2:x=(c_ "0"):=HW λz=>U ⟨h1,z⟩;simp[h2]
     ·simp[h1]
    rw[this];have f:dG [a_ (.str x)]=.ok (.nx [a_ (.str x)]):=by
     by_cases h1:c=48
     ·have h2:x=(c_ "0"):=HW λz=>U ⟨h1,z⟩;have e3:eqM (.str ⟨#[c]⟩) (.str "0")=.ok (.bl e_):=by rw[e1];simp[h1]
      have e4:neM (.str x) (.str "0")=.ok (.bl b_):=by rw[e2];simp[h2]
      simp[dG,b,e3,e4]
     ·have e3:eqM (.str ⟨#[c]⟩) (.str "0")=.ok (.bl b_):=by rw[e1];simp[h1]
      simp[dG,b,e3]
    simp[aY,gH,h,f,d,hd]
end
theorem tN{α:Type}{p:Pat}{ft:ai->M Bool}{fe:ai->M Dat}{ρ0:ai}(g f:α->Dat)(P:α->Bool):∀(L:List α),(∀x∈L,∃ρ,lL p (g x) ρ0=.ok ρ/\ft ρ=.ok (P x)/\fe ρ=.ok (f x))->bM p ft fe ρ0 (L.map g)=.ok ((L.filter P).map f)
 |[],_=>rfl|x::L,h=>by
  obtain⟨ρ,e1,e2,e3⟩:=h x (by simp);have I:=tN g f P L λy U=>h y (by simp[U]);rw[Dp,bM,e1,ae,e2,ae];cases J:P x with
  |true=>rw[i_ rfl,e3,ae,I,IT J];rfl|false=>rw[l_ (by decide),I,IU (by rw[J];decide)]
noncomputable def pcs(c:Nat):List Nat->List (List Nat)
 |[]=>[[]]|x::r=>if x=c then []::pcs c r else match pcs c r with
  |p::ps=>(x::p)::ps|[]=>[[x]]
theorem pcs_ok(c:Nat):∀l:List Nat,pcs c l≠[]/\jn c (pcs c l)=l/\(∀p∈pcs c l,c∉p/\p.length<=l.length)/\(pcs c l).length<=l.length+1
 |[]=>⟨by simp[pcs],rfl,by simp[pcs],by simp[pcs]⟩|x::r=>by
  obtain⟨h1,h2,U,Y⟩:=pcs_ok c r;unfold pcs;cases d:pcs c r with
  |nil=>exact Dc d h1|cons p ps=>
   rw[d]at h2 U Y;by_cases J:x=c
   ·rw[i_ J];refine⟨by simp,?_,λq I=>?_,by simpa using Y⟩
    ·show []++c::jn c (p::ps)=_;rw[h2,J];rfl
    ·rcases A_.mp I with rfl|I
     ·simp
     ·obtain⟨a,b⟩:=U q I;exact⟨a,by simp;omega⟩
   ·rw[l_ J];refine⟨by simp,?_,λq I=>?_,by simp at Y ⊢;omega⟩
    ·rw[<- h2];cases ps with
     |nil=>rfl|cons y ys=>rfl
    ·rcases A_.mp I with rfl|I
     ·obtain⟨a,b⟩:=U p (by simp);refine⟨λm=>?_,by simp;omega⟩
      rcases A_.mp m with e|m
      ·exact J e.symm
      ·exact a m
     ·obtain⟨a,b⟩:=U q (by simp[I]);exact⟨a,by simp;omega⟩
theorem om(c:Nat)(x:o_):∃ps:List o_,ps≠[]/\(∀p∈ps,p.length<=x.length)/\ps.length<=x.length+1/\Ep x ⟨#[c]⟩=ps:=by
 obtain⟨h1,h2,U,a⟩:=pcs_ok c x.cps.toList;have Y:x=Eg ⟨#[c]⟩ ((pcs c x.cps.toList).map λl=>(⟨l.toArray⟩:o_)):=by
  refine oj ?_;rw[sU,Dj];have:(pcs c x.cps.toList).map ((λx:o_=>x.cps.toList)∘λl=>(⟨l.toArray⟩:o_))=pcs c x.cps.toList:=by
   conv=>rhs;rw[<- Ld (pcs c x.cps.toList)]
   exact Gx λl _=>by simp
  rw[this,h2]
 refine⟨(pcs c x.cps.toList).map λl=>(⟨l.toArray⟩:o_),by simpa using h1,λp I=>?_,by rw[y_];exact a,?_⟩
 ·obtain⟨l,J,rfl⟩:=D4.mp I;have:=(U l J).2;show l.toArray.size<=x.cps.size;simpa using this
 ·conv=>lhs;rw[Y]
  refine split_of c _ (by simpa using h1) λp I=>?_;obtain⟨l,J,rfl⟩:=D4.mp I;show c∉l.toArray.toList;simpa using (U l J).1
noncomputable def eC(x:o_):List o_:=Ep x "\n"
noncomputable def gu(r:o_):List o_:=(Ep r " ").filter λw=> !decide (w="")
theorem nl_is:(c_ "\n")=(⟨#[10]⟩:o_):=by decide +kernel
theorem sp_is:(c_ " ")=(⟨#[32]⟩:o_):=by decide +kernel
theorem rows_any(x:o_):eC x≠[]/\(∀p∈eC x,p.length<=x.length)/\(eC x).length<=x.length+1:=by
 obtain⟨ps,h1,h2,J,I⟩:=om 10 x;have:eC x=ps:=by unfold eC;rw[nl_is];exact I
 rw[this];exact⟨h1,h2,J⟩
noncomputable def WOk(w:o_):Prop:=w.cps.toList≠[]/\w.length<=1000000
theorem nZ{r:o_}(J:r.length<=1000000):∀w∈gu r,WOk w:=by
 obtain⟨ps,h1,h2,U,I⟩:=om 32 r;intro w hw;unfold gu at hw;rw[sp_is,I,D9]at hw;refine⟨λe=>?_,?_⟩
 ·have:w=c_ "":=oj (by rw[e];decide +kernel);rw[this]at hw;exact Dc hw.2 (by decide +kernel)
 ·have:=h2 w hw.1;omega
theorem u1{r:o_}(J:r.length<=1000000):(Ep r (c_ " ")).length<=16777216:=by obtain⟨ps,h1,h2,U,I⟩:=om 32 r;rw[sp_is,I];omega
section
variable(CR CP CS CW CE CD CK:g_)
theorem xG{r:o_}:bM (.nm 0) (fB (f2 neM (ah 0) (fC (.str "")))) (ah 0) [d_] ((Ep r " ").map .str)=.ok ((gu r).map .str):=by
 refine tN Dat.str Dat.str (λw=> !decide (w="")) _ λw _=>⟨[a_ (.str w)],by simp,?_,by simp⟩
 have e:neM (.str w) (.str "")=.ok (.bl (!decide (w=""))):=by
  by_cases hw:w=(c_ "")
  ·subst hw;simp[neM,okE,eqD]
  ·simp[neM,okE,eqD,hw]
 simp[e]
theorem u3(n:Nat){r:o_}(Y:r.length<=1000000):eD [.str r]=.ok (.lst ((gu r).map .str)):=by
 have U:(c_ " ").length=1:=by decide +kernel
 have J:r.length+2<=16777216:=by omega
 have I:=u1 Y;have a:=xG (r:=r);simp[eD,qW,U,J,I,a,gV]
end
noncomputable def gn(x:o_):Bool:=match x.cps.toList with
 |[]=>b_|c::_=>jZ x c
noncomputable def cV(x:o_):Option Int:=match x.cps.toList with
 |[]=>d_|c::_=>if lQ x c=e_ then a_ ((Em x.cps.toList:Nat):Int)else d_
noncomputable def kx:Option Int->Dat
 |none=>.non|some i=>.int i
noncomputable def i7(x:o_)(m:Int):Int:=match cV x with
 |none=> -1|some k=>if m<k then -1 else k
section
variable(CR CP CS CW CE CD CK:g_)
theorem yg(n:Nat)(h:WOk x):gf [.str x]=.ok (.bl (gn x)):=by
 obtain⟨h1,h2⟩:=h;unfold gn;cases e:x.cps.toList with
 |nil=>exact Dc e h1|cons c r=>exact wU n e h2
theorem ja(n:Nat)(h:WOk x):aY [.str x]=.ok (kx (cV x)):=by
 obtain⟨h1,h2⟩:=h;have e2:∀c r,x.cps.toList=c::r->cV x=if lQ x c=e_ then a_ ((Em x.cps.toList:Nat):Int)else d_:=λc r e=>by unfold cV;rw[e]
 cases e:x.cps.toList with
 |nil=>exact Dc e h1|cons c r=>rw[zq n e h2,e2 c r e];cases lQ x c<;>rfl
theorem ld_mem(c:Nat):c∈(c_ "abcdefghijklmnopqrstuvwxyz0123456789").cps.toList↔zD c=e_:=by
 have:(c_ "abcdefghijklmnopqrstuvwxyz0123456789").cps.toList=(c_ "abcdefghijklmnopqrstuvwxyz").cps.toList++(c_ "0123456789").cps.toList:=by decide +kernel
 rw[this,Dv,k9,mq];unfold zD;simp
theorem eq_chars(l:List Nat):eqM (.lst (l.map λc=>Dat.str ⟨#[c]⟩)) (.lst [])=.ok (.bl l.isEmpty):=by
 have e:l.map (λc=>Dat.str ⟨#[c]⟩)=(l.map λc=>(⟨#[c]⟩:o_)).map Dat.str:=by rw[Dj];rfl
 rw[e];have h1:okE (.lst ((l.map λc=>(⟨#[c]⟩:o_)).map Dat.str)) 40=e_:=jX _ 39;show(if (okE (.lst ((l.map λc=>(⟨#[c]⟩:o_)).map Dat.str)) 40&&okE (.lst []) 40)=e_ then _ else _)=_;rw[i_ (by rw[h1];rfl)];cases l<;>rfl
theorem ne_chars(l:List Nat):neM (.lst (l.map λc=>Dat.str ⟨#[c]⟩)) (.lst [])=.ok (.bl (!l.isEmpty)):=by
 have e:l.map (λc=>Dat.str ⟨#[c]⟩)=(l.map λc=>(⟨#[c]⟩:o_)).map Dat.str:=by rw[Dj];rfl
 rw[e];have h1:okE (.lst ((l.map λc=>(⟨#[c]⟩:o_)).map Dat.str)) 40=e_:=jX _ 39;show(if (okE (.lst ((l.map λc=>(⟨#[c]⟩:o_)).map Dat.str)) 40&&okE (.lst []) 40)=e_ then _ else _)=_;rw[i_ (by rw[h1];rfl)];cases l<;>rfl
theorem yq(P:Nat->Bool)(l:List Nat):(l.filter λc=> !P c).isEmpty=l.all P:=by
 induction l with
 |nil=>rfl|cons c l J=>
  cases I:P c with
  |true=>rw[IU (by rw[I];decide),J,GO,I,Ku]|false=>rw[IT (by rw[I];decide),GO,I];rfl
theorem zr(P:Nat->Bool)(s:o_)(h:∀c,c∈s.cps.toList↔P c=e_)(c:Nat):jb (.str ⟨#[c]⟩) (.str s)=.ok (.bl (!P c)):=by
 cases I:P c with
 |true=>simp[(h c).mpr I]|false=>
  have:c∉s.cps.toList:=λm=>by have:=(h c).mp m;rw[I]at this;cases this
  simp[this]
theorem BN(P:Nat->Bool)(s:o_)(h:∀c,c∈s.cps.toList↔P c=e_)(x:o_):bM (.nm 0) (fB (f2 jb (ah 0) (fC (.str s)))) (ah 0) [d_] (x.cps.toList.map λc=>.str ⟨#[c]⟩)=.ok ((x.cps.toList.filter λc=> !P c).map λc=>.str ⟨#[c]⟩):=by
 refine tN (λc:Nat=>Dat.str ⟨#[c]⟩) (λc:Nat=>Dat.str ⟨#[c]⟩) (λc=> !P c) _ λc _=>⟨[a_ (.str ⟨#[c]⟩)],by simp,?_,by simp⟩
 have e:=zr P s h c;simp[e]
theorem dg_mem(c:Nat):c∈(c_ "0123456789").cps.toList↔xc c=e_:=by rw[mq];unfold xc;simp
end
theorem AR{nN:Nat}{g:ai->M Flo}{ds:List Dat}{x:Dat}(I:ds.length=n)(h:g (ds.map a_++D7 (nN-ds.length) d_)=.ok (.rt x)):cv nN n g ds=.ok x:=by rw[e_run,i_ I,h];rfl
theorem neI(a b:Int):neM (.int a) (.int b)=.ok (.bl (!decide (a=b))):=by
 by_cases h:a=b
 ·subst h;rw[AL rfl];simp
 ·simp[neM,okE,eqD,h]
theorem eqI(a b:Int):eqM (.int a) (.int b)=.ok (.bl (q_ (a=b))):=by
 by_cases h:a=b
 ·subst h;simp[eqM,okE,eqD]
 ·simp[eqM,okE,eqD,h]
theorem eqS(a b:o_):eqM (.str a) (.str b)=.ok (.bl (q_ (a=b))):=by
 by_cases h:a=b
 ·subst h;simp[eqM,okE,eqD]
 ·simp[eqM,okE,eqD,h]
theorem neS(a b:o_):neM (.str a) (.str b)=.ok (.bl (!decide (a=b))):=by
 by_cases h:a=b
 ·subst h;simp[neM,okE,eqD]
 ·simp[neM,okE,eqD,h]
theorem iy(h:cV x=a_ i):0<=i:=by
 unfold cV at h;split at h
 ·cases h
 ·split at h
  ·cases h;omega
  ·cases h
theorem jr(h:gn x=e_):Nm x:=by
 unfold gn at h;split at h
 ·cases h
 ·rename_i c r e;unfold jZ at h;simp only[n_,Dh]at h;obtain⟨⟨h1,h2⟩,I⟩:=h;refine⟨⟨by rw[e];simp,λd hd=>?_⟩,h1,c,r,e,h2.1,h2.2⟩
  have:=EA.mp I d hd;unfold zD at this;simpa[lowD] using this
noncomputable def kI(ks:List o_)(x:o_):Nat:=(vG ks x).getD 0
theorem sS(h:x∈ks):vG ks x=a_ (kI ks x)/\kI ks x<ks.length/\ks[kI ks x]?=a_ x:=by
 have I:(vG ks x).isSome=e_:=by unfold vG;rw[List.findIdx?_isSome];exact HV.mpr ⟨x,h,by simp⟩
 cases e:vG ks x with
 |none=>rw[e]at I;cases I|some i=>
  have J:kI ks x=i:=by unfold kI;rw[e];rfl
  unfold vG at e;obtain⟨hi,h1,_⟩:=FZ.mp e;rw[J];exact⟨rfl,hi,by rw[DD hi];simpa using h1⟩
section
variable(CR CP CS CW CE CD CK:g_)
theorem rO(n:Nat){W:List Dat}(h:W.length≠2):bA [.lst (ks.map .str),.lst W]=.ok .non:=by have e:=neI W.length 2;rw[f_ (by omega)]at e;simp[bA,fF,dE,e]
theorem rP(n:Nat){w:o_}(h:WOk x):bA [.lst (ks.map .str),.lst [.str w,.str x]]=.ok (if (q_ (ks.length<6)&&gn x&& !decide (x∈ks))=e_ then .str x else .non):=by
 have e1:=yg n h;have e2:=uN x ks;have e3:=oW 2 2 rfl;have J:iA [.str w,.str x] 1=.ok (.str x):=rfl;by_cases Y:ks.length<6
 ·have e4:¬(6:Int)<=(ks.length:Int):=by omega
  rw[r_ Y];cases U:gn x with
  |false=>rw[U]at e1;simp[bA,fF,dE,e1,e3,e4,J]|true=>
   rw[U]at e1;by_cases I:x∈ks
   ·rw[r_ I]at e2;simp[bA,fF,dE,e1,e2,e3,e4,J,I]
   ·rw[f_ I]at e2;simp[bA,fF,dE,e1,e2,e3,e4,J,I]
 ·have e4:(6:Int)<=(ks.length:Int):=by omega
  rw[f_ Y];simp[bA,fF,dE,e3,e4]
theorem u6(n:Nat){W:List Dat}(h:W.length≠4):bw [.lst (ks.map .str),.lst W]=.ok .non:=by have e:=neI W.length 4;rw[f_ (by omega)]at e;simp[bw,fH,dj,e]
theorem zF(n:Nat):eJ [.non]=.ok (.bl b_):=by simp[eJ,nP,jw]
theorem zG(n:Nat)(h:1000000<i):eJ [.int i]=.ok (.bl b_):=by
 have h2:¬i<=1000000:=by omega
 have I:0<=i:=by omega
 simp[eJ,nP,jw,hI,h2,I]
theorem u7(n:Nat){w v:o_}(h:WOk v):bw [.lst (ks.map .str),.lst [.str w,.str x,.str y,.str v]]=.ok (if x∈ks/\y∈ks then(match cV v with
  |some i=>if i<=1000000 then .tup [.int (kI ks x),.int (kI ks y),.int i]else .non
  |none=>.non)else .non):=by
 have e1:=ja n h;have e3:=oW 4 4 rfl;have I:=uN x ks;have J:=uN y ks;have b:iA [.str w,.str x,.str y,.str v] 1=.ok (.str x):=rfl;have g2:iA [.str w,.str x,.str y,.str v] 2=.ok (.str y):=rfl;have a:iA [.str w,.str x,.str y,.str v] 3=.ok (.str v):=rfl;by_cases U:x∈ks
 ·by_cases Y:y∈ks
  ·rw[r_ U]at I;rw[r_ Y]at J;rw[i_ ⟨U,Y⟩];cases hv:cV v with
   |none=>rw[hv]at e1;have e2:=zF n;simp[bw,fH,dj,e1,e2,e3,I,J,b,g2,a,kx]|some i=>
    rw[hv]at e1;have e:=iy hv;dsimp only;by_cases hi:i<=1000000
    ·have e2:=uQ n i e hi;have d:=(sS U).1;have c:=(sS Y).1;simp[bw,fH,dj,e1,e2,e3,I,J,d,c,b,g2,a,i9,isL,kx,hi]
    ·have e2:=zG n (i:=i) (by omega);simp[bw,fH,dj,e1,e2,e3,I,J,b,g2,a,kx,hi]
  ·rw[r_ U]at I;rw[f_ Y]at J;rw[l_ (λz=>Y z.2)];simp[bw,fH,dj,e3,I,J,b,g2,a]
 ·rw[f_ U]at I;rw[l_ (λz=>U z.1)];simp[bw,fH,dj,e3,I,b,g2,a]
theorem iH(n:Nat){W:List Dat}(h:W.length≠3):aC [.lst (cs.map stD),.lst W]=.ok .non:=by have e:=neI W.length 3;rw[f_ (by omega)]at e;simp[aC,cz,bR,e]
noncomputable def stB(p:tW):Bool:=q_ (0<=p.1)&&(q_ (p.1<p.2)&&q_ (p.2<=1000000000))
theorem xP:stB p=e_↔St1 p:=by unfold stB St1;simp
theorem qk(n:Nat)(p:tW):gd [stD p]=.ok (.bl (stB p)):=by have U:iA [.int p.1,.int p.2] 0=.ok (.int p.1):=rfl;have J:iA [.int p.1,.int p.2] 1=.ok (.int p.2):=rfl;unfold stB;by_cases I:0<=p.1<;>by_cases h1:p.1<p.2<;>by_cases h2:p.2<=1000000000<;>simp[gd,mP,ji,stD,U,J,I,h1,h2]
theorem sW(n:Nat)(h:∀p∈cs,St1 p)(e:cs.length<=20)(p:tW):gF [.lst ((cs++[p]).map stD)]=.ok (.bl (q_ (cs.length<20)&&stB p)):=by
 have J:bM (.nm 0) ik (fL (gd) (aa (ah 0) aJ)) [d_] ((cs++[p]).map stD)=.ok (((cs++[p]).map stB).map Dat.bl):=by rw[Dj];exact eP _ _ _ λp d=>⟨[a_ (stD p)],by simp,by simp[qk n p]⟩
 have al:((cs++[p]).map stB).all id=stB p:=by
  rw[Dw,List.all_append,List.map_singleton,GO,List.all_nil,Kv];have:(cs.map stB).all id=e_:=EA.mpr λb a=>by obtain⟨q,U,rfl⟩:=D4.mp a;exact xP.mpr (h q U)
  rw[this];rfl
 have h2:cs.length+1<=16777216:=by omega
 by_cases h1:cs.length<20
 ·have I:(cs.length:Int)+1<=20:=by omega
  rw[r_ h1];generalize c:(cs++[p]).map stB=L at J al;have Y:L.length=cs.length+1:=by rw[<- c];simp
  simp[gF,kh,I,h2,J,gV,al,jD,-Dw]
 ·have I:¬(cs.length:Int)+1<=20:=by omega
  rw[f_ h1];simp[gF,kh,I,jD]
theorem iI(n:Nat){w:o_}(e:WOk x)(c:WOk y)(h:∀p∈cs,St1 p)(f:cs.length<=20):aC [.lst (cs.map stD),.lst [.str w,.str x,.str y]]=.ok (match cV x,cV y with
  |some i,a_ j=>if (q_ (cs.length<20)&&stB (i,j))=e_ then stD (i,j)else .non
  |_,_=>.non):=by
 have e1:=ja n e;have e2:=ja n c;have e3:=oW 3 3 rfl;have J:iA [.str w,.str x,.str y] 1=.ok (.str x):=rfl;have g2:iA [.str w,.str x,.str y] 2=.ok (.str y):=rfl;cases ex:cV x with
 |none=>
  rw[ex]at e1;have I:∀d:Dat,(d=.non\/∃i,d=.int i)->ic .non (.tup [.non,d])=.ok (.bl b_):=λd hd=>by rcases hd with rfl|⟨i,rfl⟩<;>rfl
  cases U:cV y with
  |none=>rw[U]at e2;simp[aC,cz,bR,e1,e2,e3,J,g2,kx,I .non (.inl rfl)]|some j=>rw[U]at e2;simp[aC,cz,bR,e1,e2,e3,J,g2,kx,I (.int j) (.inr ⟨j,rfl⟩)]
 |some i=>
  rw[ex]at e1;cases U:cV y with
  |none=>rw[U]at e2;have I:ic .non (.tup [.int i,.non])=.ok (.bl b_):=rfl;simp[aC,cz,bR,e1,e2,e3,J,g2,kx,I]|some j=>
   rw[U]at e2;have I:ic .non (.tup [.int i,.int j])=.ok (.bl e_):=rfl;have Y:=sW n h f (i,j);have b:cT (.lst (cs.map stD)) (.lst [.tup [.int i,.int j]])=.ok (.lst ((cs++[(i,j)]).map stD)):=by
    have:cs.length+1<=16777216:=by omega
    simp[cT,stD,this]
   dsimp only;cases a:(q_ (cs.length<20)&&stB (i,j))with
   |true=>rw[a]at Y;simp[aC,cz,bR,e1,e2,e3,J,g2,kx,I,b,Y,-Dw];rfl|false=>rw[a]at Y;simp[aC,cz,bR,e1,e2,e3,J,g2,kx,I,b,Y,-Dw]
end
noncomputable def rgB(x:Int):Bool:=q_ (0<=x)&&q_ (x<=1000000000)
noncomputable def flB(f:Fli):Bool:=q_ (f.first<=f.last)&&(rgB f.first&&(rgB f.last&&(rgB f.due&&rgB f.price)))
theorem in_non(p q r s:Option Int):inM .non (.lst [kx p,kx q,kx r,kx s])=.ok (.bl (p.isNone||(q.isNone||(r.isNone||s.isNone)))):=by cases p<;>cases q<;>cases r<;>cases s<;>rfl
theorem BM(h:flB f=e_)(c:0<=f.kind)(h1:f.kind<k):Fl1 k f:=by unfold flB rgB at h;simp only[n_,Dh]at h;obtain⟨h2,⟨b,e⟩,⟨d,a⟩,⟨Y,U⟩,J,I⟩:=h;exact⟨c,h1,b,h2,a,⟨Y,U⟩,⟨J,I⟩⟩
noncomputable def num4(a b c d:o_):Option (Int×Int×Int×Int):=match cV a,cV b,cV c,cV d with
 |some a,a_ b,a_ c,a_ d=>a_ (a,b,c,d)|_,_,_,_=>d_
section
variable(CR CP CS CW CE CD CK:g_)
theorem gW(n:Nat)(x:Int):eI [.int x]=.ok (.bl (rgB x)):=by unfold rgB;by_cases h1:0<=x<;>by_cases h2:x<=1000000000<;>simp[eI,lr,hI,h1,h2]
theorem AY(n:Nat)(f:Fli):bB [flD f]=.ok (.bl (flB f)):=by
 have J:iA [.int f.kind,.int f.first,.int f.last,.int f.due,.int f.price] 1=.ok (.int f.first):=rfl;have g2:iA [.int f.kind,.int f.first,.int f.last,.int f.due,.int f.price] 2=.ok (.int f.last):=rfl;have es:aV (.tup [.int f.kind,.int f.first,.int f.last,.int f.due,.int f.price]) (a_ 1) d_=.ok (.tup [.int f.first,.int f.last,.int f.due,.int f.price]):=by simp[aV,iQ,cX]
 have b:=gW n f.first;have r2:=gW n f.last;have a:=gW n f.due;have Y:=gW n f.price;have U:bM (.nm 0) ik (fL (eI) (aa (ah 0) aJ)) [d_] [.int f.first,.int f.last,.int f.due,.int f.price]=.ok ([rgB f.first,rgB f.last,rgB f.due,rgB f.price].map Dat.bl):=by simp[bM,b,r2,a,Y]
 unfold flB;generalize c:[rgB f.first,rgB f.last,rgB f.due,rgB f.price]=L at U;have al:L.all id=(rgB f.first&&(rgB f.last&&(rgB f.due&&rgB f.price))):=by rw[<- c];simp
 by_cases I:f.first<=f.last
 ·rw[r_ I];simp[bB,eh,flD,J,g2,es,U,al,I,jD,gV]
 ·rw[f_ I];simp[bB,eh,flD,J,g2,I,jD]
theorem iU(n:Nat){W:List Dat}(h:W.length≠7):aF [.lst (ks.map .str),.lst (ns.map .str),.lst W]=.ok .non:=by have e:=neI W.length 7;rw[f_ (by omega)]at e;simp[aF,cQ,cJ,e]
theorem iV(n:Nat){w k c d:o_}(h1:WOk nm)(R:WOk a)(Q:WOk b)(P:WOk c)(hd:WOk d):
  aF [.lst (ks.map .str),.lst (ns.map .str),.lst [.str w,.str nm,.str k,.str a,.str b,.str c,.str d]]=.ok (if (q_ (ns.length<40)&&(q_ (k∈ks)&&(gn nm&& !decide (nm∈ns))))=e_ then(match num4 a b c d with
   |some (a,b,c,d)=>if flB ⟨kI ks k,a,b,c,d⟩=e_ then flD ⟨kI ks k,a,b,c,d⟩else .non
   |none=>.non)else .non):=by
 have e3:=oW 7 7 rfl;have p:=uN k ks;have o:=inS nm ns;have e5:=yg n h1;have O:=ja n R;have n2:=ja n Q;have N:=ja n P;have L:=ja n hd;generalize s:([.str w,.str nm,.str k,.str a,.str b,.str c,.str d]:List Dat)=W;have y:W.length=7:=by rw[<- s];rfl
 have A:iA W 1=.ok (.str nm):=by rw[<- s];rfl
 have g2:iA W 2=.ok (.str k):=by rw[<- s];rfl
 have u:∀x,cQ [a_ (.lst (ks.map .str)),a_ (.lst (ns.map .str)),a_ (.lst W),d_,d_]=.ok (.rt x)->aF [.lst (ks.map .str),.lst (ns.map .str),.lst W]=.ok x:=λx h=>AR rfl h;have f:cJ [a_ (.lst (ks.map .str)),a_ (.lst (ns.map .str)),a_ (.lst W),d_,d_]=.ok (if ns.length<40/\k∈ks then .nx [a_ (.lst (ks.map .str)),a_ (.lst (ns.map .str)),a_ (.lst W),d_,d_]else .rt .non):=by
  by_cases E:ns.length<40
  ·have e4:¬(40:Int)<=(ns.length:Int):=by omega
   by_cases r:k∈ks
   ·rw[r_ r]at p;simp[cJ,y,e3,e4,g2,p,E,r]
   ·rw[f_ r]at p;simp[cJ,y,e3,e4,g2,p,r]
  ·have e4:(40:Int)<=(ns.length:Int):=by omega
   simp[cJ,y,e3,e4,E]
 have i:dm [a_ (.lst (ks.map .str)),a_ (.lst (ns.map .str)),a_ (.lst W),d_,d_]=.ok (if gn nm=e_/\nm∉ns then .nx [a_ (.lst (ks.map .str)),a_ (.lst (ns.map .str)),a_ (.lst W),d_,d_]else .rt .non):=by
  cases D:gn nm with
  |false=>rw[D]at e5;simp[dm,A,e5]|true=>
   rw[D]at e5;by_cases q:nm∈ns
   ·rw[r_ q]at o;simp[dm,A,e5,o,q]
   ·rw[f_ q]at o;simp[dm,A,e5,o,q]
 by_cases g:ns.length<40/\k∈ks
 rotate_left
 ·rw[l_ g]at f;rw[l_ (λz=>g (by simp at z;exact⟨z.1,z.2.1⟩))];exact u _ (by unfold cQ;rw[eN,f,ae])
 rw[i_ g]at f;by_cases j:gn nm=e_/\nm∉ns
 rotate_left
 ·rw[l_ j]at i;rw[l_ (λz=>j (by simp at z;exact z.2.2))];exact u _ (by unfold cQ;rw[eN,f,ae];dsimp only;rw[eN,i,ae])
 rw[i_ j]at i;rw[i_ (by simp[g.1,g.2,j.1,j.2])];have es:aV (.lst W) (a_ 3) d_=.ok (.lst [.str a,.str b,.str c,.str d]):=by rw[<- s];simp[aV,iQ,cX]
 have S:bM (.nm 0) ik (fL (aY) (aa (ah 0) aJ)) [d_] [.str a,.str b,.str c,.str d]=.ok [kx (cV a),kx (cV b),kx (cV c),kx (cV d)]:=by simp[bM,O,n2,N,L]
 have m:bP [] 3 (eF (fIt (fSl aV (ah 2) (cw (fC (.int 3))) cL)) [d_] (.nm 0) ik (fL (aY) (aa (ah 0) aJ))) [a_ (.lst (ks.map .str)),a_ (.lst (ns.map .str)),a_ (.lst W),d_,d_]=.ok (.nx [a_ (.lst (ks.map .str)),a_ (.lst (ns.map .str)),a_ (.lst W),a_ (.lst [kx (cV a),kx (cV b),kx (cV c),kx (cV d)]),d_]):=by simp[es,S,gV]
 have C:=in_non (cV a) (cV b) (cV c) (cV d);have G:=(sS g.2).1;have e:gN [a_ (.lst (ks.map .str)),a_ (.lst (ns.map .str)),a_ (.lst W),a_ (.lst [kx (cV a),kx (cV b),kx (cV c),kx (cV d)]),d_]=.ok (if ((cV a).isNone||((cV b).isNone||((cV c).isNone||(cV d).isNone)))=e_ then .rt .non else .nx [a_ (.lst (ks.map .str)),a_ (.lst (ns.map .str)),a_ (.lst W),a_ (.lst [kx (cV a),kx (cV b),kx (cV c),kx (cV d)]),d_]):=by generalize ((cV a).isNone||((cV b).isNone||((cV c).isNone||(cV d).isNone)))=t at C;cases t<;>simp[gN,C]
 have Y:((cV a).isNone||((cV b).isNone||((cV c).isNone||(cV d).isNone)))=e_->aF [.lst (ks.map .str),.lst (ns.map .str),.lst W]=.ok .non:=λh=>by rw[i_ h]at e;exact u _ (by unfold cQ;rw[eN,f,ae];dsimp only;rw[eN,i,ae];dsimp only;rw[eN,m,ae];dsimp only;rw[eN,e,ae])
 unfold num4;cases l:cV a with
 |none=>exact Y (by rw[l];rfl)|some U=>
 cases v:cV b with
 |none=>exact Y (by rw[l,v];rfl)|some J=>
 cases B:cV c with
 |none=>exact Y (by rw[l,v,B];rfl)|some I=>
 cases F:cV d with
 |none=>exact Y (by rw[l,v,B,F];rfl)|some d'=>
 rw[l,v,B,F]at m e;rw[l_ (show ¬((a_ U).isNone||((a_ J).isNone||((a_ I).isNone||(a_ d').isNone)))=e_ from λz=>(nomatch (show b_=e_ from z)))]at e;dsimp only[kx]at m e;have K:=AY n ⟨kI ks k,U,J,I,d'⟩;have ix:(gr (ah 0) (f2 ixD (ah 2) (fC (.int 2)))) [a_ (.lst (ks.map .str)),a_ (.lst (ns.map .str)),a_ (.lst W),a_ (.lst [.int U,.int J,.int I,.int d']),d_]=.ok (.int (kI ks k)):=by simp[g2,G,i9,isL]
 have H:bP [] 4 (fL k7 (aa (gr (ah 0) (f2 ixD (ah 2) (fC (.int 2)))) (aa (f2 ixD (ah 3) (fC (.int 0))) (aa (f2 ixD (ah 3) (fC (.int 1))) (aa (f2 ixD (ah 3) (fC (.int 2))) (aa (f2 ixD (ah 3) (fC (.int 3))) aJ)))))) [a_ (.lst (ks.map .str)),a_ (.lst (ns.map .str)),a_ (.lst W),a_ (.lst [.int U,.int J,.int I,.int d']),d_]=.ok (.nx [a_ (.lst (ks.map .str)),a_ (.lst (ns.map .str)),a_ (.lst W),a_ (.lst [.int U,.int J,.int I,.int d']),a_ (flD ⟨kI ks k,U,J,I,d'⟩)]):=by show((((gr (ah 0) (f2 ixD (ah 2) (fC (.int 2)))) [a_ (.lst (ks.map .str)),a_ (.lst (ns.map .str)),a_ (.lst W),a_ (.lst [.int U,.int J,.int I,.int d']),d_]).bind λx=>Ds [x,.int U,.int J,.int I,.int d']).bind k7).bind _=_;rw[ix,ae,ae];unfold k7;rw[i_ (by show 5<=m_;rw[Dq];decide)];rfl
 dsimp only;refine u _ ?_;unfold cQ;rw[eN,f,ae];dsimp only;rw[eN,i,ae];dsimp only;rw[eN,m,ae];dsimp only;rw[eN,e,ae];dsimp only;rw[eN,H,ae];dsimp only;show((((bB [flD ⟨kI ks k,U,J,I,d'⟩]).bind truD).bind λt=>if t=e_ then Ds (flD ⟨kI ks k,U,J,I,d'⟩)else Ds Dat.non).bind _)=_;rw[K];cases flB ⟨kI ks k,U,J,I,d'⟩<;>rfl
end
structure WS where
 ks:List o_
 g:PKs
 b:PKs
 nf:List (o_×Fli)
 cs:List tW
variable{s s':WS}
noncomputable def enc(ks:List o_)(g:PKs):List (List Int×Dat):=g.map λp=>([((kI ks p.1.1:Nat):Int),((kI ks p.1.2:Nat):Int)],Dat.int p.2)
noncomputable def WS.d(s:WS):DSt:=⟨s.ks,enc s.ks s.g,enc s.ks s.b,s.nf,s.cs⟩
noncomputable def yE(ks:List o_)(g:PKs):Prop:=∀p∈g,p.1.1∈ks/\p.1.2∈ks/\0<=p.2/\p.2<=1000000
theorem BS(ks:List o_)(g:PKs):(enc ks g).length=g.length:=y_ ..
theorem kI_app(h:y∈ks):kI (ks++[x]) y=kI ks y:=by have e:=(sS h).1;unfold kI vG at *;rw[List.findIdx?_append,e];rfl
theorem kI_inj(J:x∈ks)(I:y∈ks)(e:kI ks x=kI ks y):x=y:=by have h1:=(sS J).2.2;have h2:=(sS I).2.2;rw[e,h2]at h1;exact(Dt h1).symm
theorem BV(h:yE ks g)(x:o_):enc (ks++[x]) g=enc ks g:=
 Gx λp I=>by rw[kI_app (h p I).1,kI_app (h p I).2.1]
theorem yE.app(h:yE ks g)(x:o_):yE (ks++[x]) g:=λp I=>by obtain⟨a,b,c⟩:=h p I;exact⟨by simp[a],by simp[b],c⟩
theorem BU(J:x∈ks)(I:y∈ks)(Y:a∈ks)(U:b∈ks):([((kI ks a:Nat):Int),((kI ks b:Nat):Int)]=[((kI ks x:Nat):Int),((kI ks y:Nat):Int)])↔(a,b)=(x,y):=by
 constructor
 ·intro h;simp only[HC,and_true]at h;rw[kI_inj Y J (by omega),kI_inj U I (by omega)]
 ·intro h;cases h;rfl
theorem x9{ks:List o_}{x y:o_}(Y:x∈ks)(U:y∈ks):∀{g:PKs},yE ks g->Ad (enc ks g) [((kI ks x:Nat):Int),((kI ks y:Nat):Int)]=(getP g (x,y)).map Dat.int
 |[],_=>rfl|p::g,h=>by
  obtain⟨h1,h2,_⟩:=h p (by simp);have J:=x9 Y U (g:=g) λq b=>h q (by simp[b]);have a:=BU Y U h1 h2;unfold enc Ad getP at J ⊢;by_cases e:p.1=(x,y)
  ·have I:=a.mpr e;simp only[Dp,Gr,I,e,decide_true,HS]
  ·have I:¬[((kI ks p.1.1:Nat):Int),((kI ks p.1.2:Nat):Int)]=[((kI ks x:Nat):Int),((kI ks y:Nat):Int)]:=λz=>e (a.mp z);simp only[Dp,Gr,I,e,decide_false];exact J
theorem BR(U:x∈ks)(J:y∈ks)(h:yE ks g)(v:Int):ze (enc ks g) [((kI ks x:Nat):Int),((kI ks y:Nat):Int)] (.int v)=enc ks (putP g (x,y) v):=by
 unfold ze putP;rw[x9 U J h,JB];by_cases I:(getP g (x,y)).isSome=e_
 ·rw[i_ I,i_ I];unfold enc;rw[Dj,Dj];refine Gx λp a=>?_;obtain⟨h1,h2,_⟩:=h p a;have Y:=BU U J h1 h2;simp only[Function.comp_apply];by_cases e:p.1=(x,y)
  ·rw[i_ (Y.mpr e),i_ e]
  ·rw[l_ (λz=>e (Y.mp z)),l_ e]
 ·rw[l_ I,l_ I];unfold enc;rw[Dw];rfl
theorem yE.put(h:yE ks g)(Y:x∈ks)(U:y∈ks){v:Int}(J:0<=v)(h1:v<=1000000):yE ks (putP g (x,y) v):=λp I=>by
 unfold putP at I;split at I
 ·obtain⟨q,d,rfl⟩:=D4.mp I;obtain⟨a,b,c⟩:=h q d;split
  ·rename_i e;exact⟨a,b,J,h1⟩
  ·exact⟨a,b,c⟩
 ·rcases Dv.mp I with I|I
  ·exact h p I
  ·rw[DK.mp I];exact⟨Y,U,J,h1⟩
theorem y9(g:PKs)(k:o_×o_)(v:Int):(putP g k v).length<=g.length+1/\putP g k v≠[]:=by
 unfold putP;split
 ·rename_i h;refine⟨by simp,λe=>?_⟩
  rw[Hl]at e;subst e;cases h
 ·simp
structure WI(s:WS):Prop where
 kd:s.ks.Nodup
 k6:s.ks.length<=6
 kn:∀k∈s.ks,Nm k
 gi:yE s.ks s.g
 bi:yE s.ks s.b
 nm:s.nf.length<=40
 nn:∀p∈s.nf,Nm p.1/\Fl1 s.ks.length p.2
 nd:(s.nf.map (·.1)).Nodup
 cm:s.cs.length<=20
 cl:∀p∈s.cs,St1 p
noncomputable def jB:Bool->Nat
 |true=>2|false=>1
noncomputable def putB:Bool->WS->Int->o_->o_->WS
 |true,s,i,x,y=>{s with b:=putP s.b (x,y) i}
 |false,s,i,x,y=>{s with g:=putP s.g (x,y) i}
noncomputable def gapW(s:WS)(f:Int->o_->o_->WS):List o_->Option WS
 |[x,y,v]=>if x∈s.ks/\y∈s.ks then(match cV v with
  |some i=>if i<=1000000 then a_ (f i x y)else d_
  |none=>d_)else d_
 |_=>d_
noncomputable def kindW(s:WS):List o_->Option WS
 |[x]=>if (q_ (s.ks.length<6)&&gn x&& !decide (x∈s.ks))=e_ then a_ {s with ks:=s.ks++[x]}else d_
 |_=>d_
noncomputable def tO(s:WS):List o_->Option WS
 |[x,y]=>match cV x,cV y with
  |some i,a_ j=>if (q_ (s.cs.length<20)&&stB (i,j))=e_ then a_ {s with cs:=s.cs++[(i,j)]}else d_
  |_,_=>d_
 |_=>d_
noncomputable def sZ(s:WS):List o_->Option WS
 |[nm,k,a,b,c,d]=>if (q_ ((s.nf.map (·.1)).length<40)&&(q_ (k∈s.ks)&&(gn nm&& !decide (nm∈s.nf.map (·.1)))))=e_ then(match num4 a b c d with
  |some (a,b,c,d)=>if flB ⟨kI s.ks k,a,b,c,d⟩=e_ then a_ {s with nf:=s.nf++[(nm,⟨kI s.ks k,a,b,c,d⟩)]}else d_
  |none=>d_)else d_
 |_=>d_
noncomputable def An(s:WS)(w:o_)(r:List o_):Option WS:=
 if w=wK then kindW s r else
 if w=wG then gapW s (putB b_ s) r else
 if w=wB then gapW s (putB e_ s) r else
 if w=wC then tO s r else
 if w=wF then sZ s r else d_
noncomputable def mB(x:M (Bool×List Dat))(o:Option WS):Prop:=match o with
 |some s'=>x=.ok (e_,s'.d.D)|none=>∃ds,x=.ok (b_,ds)
section
variable(CR CP CS CW CE CD CK:g_)
theorem jv{ds:List Dat}:∃es,(Ds Dat.non:M Dat).bind (qC j ds)=.ok (b_,es):=⟨ds,rfl⟩
theorem lC{ds:List Dat}:∃es,(Ds Dat.non:M Dat).bind (Ab j ds)=.ok (b_,es):=⟨ds,rfl⟩
theorem Av(n:Nat)(s:WS)(I:WI s)(w:o_)(r:List o_)(U:∀x∈r,WOk x):mB ((bA [.lst (s.ks.map .str),.lst ((w::r).map .str)]).bind (qC 0 s.d.D)) (kindW s r):=by
 have J:r.length≠1->∃ds,(bA [.lst (s.ks.map .str),.lst ((w::r).map .str)]).bind (qC 0 s.d.D)=.ok (b_,ds):=λh=>by rw[rO n (by simp;omega)];exact jv
 unfold kindW;split
 ·rename_i x;have e:=rP n (ks:=s.ks) (w:=w) (U x (by simp));show mB ((bA [.lst (s.ks.map .str),.lst [.str w,.str x]]).bind _) _;rw[e];split
  ·have Y:s.ks.length<16777216:=by have:=I.k6;omega
   rw[ae];simp[mB,qC,DSt.D,WS.d,kj,Y,BV I.gi,BV I.bi]
  ·exact jv
 ·rename_i h;exact J λz=>by
   match r,z with
   |[x],_=>exact h x rfl
theorem xN(n:Nat)(s:WS)(I:WI s)(b:Bool)(d:s.g.length<10000000/\s.b.length<10000000)(w:o_)(r:List o_)(c:∀x∈r,WOk x):mB ((bw [.lst (s.ks.map .str),.lst ((w::r).map .str)]).bind (Ab (jB b) s.d.D)) (gapW s (putB b s) r):=by
 have U:r.length≠3->∃ds,(bw [.lst (s.ks.map .str),.lst ((w::r).map .str)]).bind (Ab (jB b) s.d.D)=.ok (b_,ds):=λh=>by rw[u6 n (by simp;omega)];exact lC
 unfold gapW;split
 ·rename_i x y v;have e:=u7 n (ks:=s.ks) (w:=w) (x:=x) (y:=y) (c v (by simp));show mB ((bw [.lst (s.ks.map .str),.lst [.str w,.str x,.str y,.str v]]).bind _) _;rw[e];split
  ·rename_i J;cases hv:cV v with
   |none=>exact lC|some i=>
    dsimp only;split
    ·have a:(enc s.ks s.g).length<16777216:=by rw[BS];omega
     have Y:(enc s.ks s.b).length<16777216:=by rw[BS];omega
     rw[ae];cases b with
     |true=>simp[mB,Ab,jB,putB,DSt.D,WS.d,Y,BR J.1 J.2 I.bi]|false=>simp[mB,Ab,jB,putB,DSt.D,WS.d,a,BR J.1 J.2 I.gi]
    ·exact lC
  ·exact lC
 ·rename_i h;exact U λz=>by
   match r,z with
   |[x,y,v],_=>exact h x y v rfl
theorem vO(n:Nat)(s:WS)(I:WI s)(w:o_)(r:List o_)(U:∀x∈r,WOk x):mB ((aC [.lst (s.cs.map stD),.lst ((w::r).map .str)]).bind (qC 5 s.d.D)) (tO s r):=by
 have J:r.length≠2->∃ds,(aC [.lst (s.cs.map stD),.lst ((w::r).map .str)]).bind (qC 5 s.d.D)=.ok (b_,ds):=λh=>by rw[iH n (by simp;omega)];exact jv
 unfold tO;split
 ·rename_i x y;have e:=iI n (cs:=s.cs) (w:=w) (U x (by simp)) (U y (by simp)) I.cl I.cm;show mB ((aC [.lst (s.cs.map stD),.lst [.str w,.str x,.str y]]).bind _) _;rw[e];cases ex:cV x with
  |none=>exact jv|some i=>
  cases a:cV y with
  |none=>exact jv|some j=>
  dsimp only;split
  ·have Y:s.cs.length<16777216:=by have:=I.cm;omega
   rw[ae];simp[mB,qC,DSt.D,WS.d,kj,rh,stD,Y]
  ·exact jv
 ·rename_i h;exact J λz=>by
   match r,z with
   |[x,y],_=>exact h x y rfl
theorem vN(n:Nat)(s:WS)(I:WI s)(w:o_)(r:List o_)(U:∀x∈r,WOk x):mB (kH (aF) s.d.D ((w::r).map .str)) (sZ s r):=by
 have J:aF [.lst (s.ks.map .str),.lst ((s.nf.map (·.1)).map .str),.lst ((w::r).map .str)]=.ok .non->∃ds,kH (aF) s.d.D ((w::r).map .str)=.ok (b_,ds):=λh=>by
  refine⟨s.d.D,?_⟩
  show(aF [.lst (s.ks.map .str),.lst ((s.nf.map (·.1)).map .str),.lst ((w::r).map .str)]).bind _=_;rw[h];rfl
 unfold sZ;split
 ·rename_i nm k a b c d;have e:=iV n (ks:=s.ks) (ns:=s.nf.map (·.1)) (w:=w) (nm:=nm) (k:=k) (U nm (by simp)) (U a (by simp)) (U b (by simp)) (U c (by simp)) (U d (by simp));split
  ·rename_i f;rw[i_ f]at e;cases m:num4 a b c d with
   |none=>rw[m]at e;exact J e|some p=>
    obtain⟨j,i,g,d'⟩:=p;rw[m]at e;dsimp only at e ⊢;split
    ·rename_i Y;rw[i_ Y]at e;have l:s.nf.length<16777216:=by have:=I.nm;omega
     show kH (aF) s.d.D ([w,nm,k,a,b,c,d].map .str)=_;show(aF [.lst (s.ks.map .str),.lst ((s.nf.map (·.1)).map .str),.lst [.str w,.str nm,.str k,.str a,.str b,.str c,.str d]]).bind _=_;rw[e,ae];have o:qC 4 s.d.D (flD ⟨kI s.ks k,j,i,g,d'⟩)=.ok (e_,[.lst (s.ks.map .str),.dic (enc s.ks s.g),.dic (enc s.ks s.b),.lst ((s.nf.map (·.1)).map .str),.lst ((s.nf.map (·.2)).map flD++[flD ⟨kI s.ks k,j,i,g,d'⟩]),.lst (s.cs.map stD)]):=by simp[qC,DSt.D,WS.d,kj,rh,flD,l]
     show(qC 4 s.d.D (flD ⟨kI s.ks k,j,i,g,d'⟩)).bind _=_;rw[o,ae];simp only[IF];rw[show ixD (.lst ([w,nm,k,a,b,c,d].map Dat.str)) (.int 1)=.ok (.str nm)from rfl,ae];simp[qC,DSt.D,WS.d,kj,l]
    ·rename_i Y;rw[l_ Y]at e;exact J e
  ·rename_i f;rw[l_ f]at e;exact J e
 ·rename_i h;refine J (iU n λz=>?_);have z:r.length=6:=by simpa using z
  match r,z,h with
  |[nm,k,a,b,c,d],_,h=>exact h nm k a b c d rfl
theorem take_any(n:Nat)(s:WS)(I:WI s)(b:s.g.length<10000000/\s.b.length<10000000)(w:o_)(r:List o_)(hw:ER w "#"=b_)(J:∀x∈r,WOk x):mB (bN s.d.D ((w::r).map .str)) (An s w r):=by
 rw[row_way n s.d w r hw];unfold An;by_cases h1:w=wK
 ·rw[i_ h1,i_ h1];exact Av n s I w r J
 rw[l_ h1,l_ h1];by_cases h2:w=wG
 ·rw[i_ h2,i_ h2];exact xN n s I b_ b w r J
 rw[l_ h2,l_ h2];by_cases a:w=wB
 ·rw[i_ a,i_ a];exact xN n s I e_ b w r J
 rw[l_ a,l_ a];by_cases Y:w=wC
 ·rw[i_ Y,i_ Y];exact vO n s I w r J
 rw[l_ Y,l_ Y];by_cases U:w=wF
 ·rw[i_ U,i_ U];exact vN n s I w r J
 rw[l_ U,l_ U];exact⟨_,rfl⟩
end
theorem Fl1.up(h:Fl1 k f):Fl1 (k+1) f:=⟨h.k0,by have:=h.k1;omega,h.a,h.b,h.c,h.d,h.e⟩
theorem yo(I:WI s)(b:Bool)(h:gapW s (putB b s) r=a_ s'):WI s'/\s'.g.length<=s.g.length+1/\s'.b.length<=s.b.length+1:=by
 unfold gapW at h;split at h
 ·split at h
  ·rename_i J;split at h
   ·rename_i i hv;split at h
    ·rename_i hi;cases h;have U:=iy hv;cases b with
     |true=>exact⟨⟨I.kd,I.k6,I.kn,I.gi,I.bi.put J.1 J.2 U hi,I.nm,I.nn,I.nd,I.cm,I.cl⟩,DF _,(y9 _ _ _).1⟩|false=>exact⟨⟨I.kd,I.k6,I.kn,I.gi.put J.1 J.2 U hi,I.bi,I.nm,I.nn,I.nd,I.cm,I.cl⟩,(y9 _ _ _).1,DF _⟩
    ·cases h
   ·cases h
  ·cases h
 ·cases h
theorem Am(I:WI s){w:o_}(h:An s w r=a_ s'):WI s'/\s'.g.length<=s.g.length+1/\s'.b.length<=s.b.length+1:=by
 unfold An at h;split at h
 ·unfold kindW at h;split at h
  ·rename_i x;split at h
   ·rename_i U;cases h;simp only[n_,Dh,Fy,FJ]at U;obtain⟨⟨h1,h2⟩,g⟩:=U;refine⟨⟨?_,by simp;omega,λk Y=>?_,I.gi.app x,I.bi.app x,I.nm,λp J=>⟨(I.nn p J).1,?_⟩,I.nd,I.cm,I.cl⟩,DF _,DF _⟩
    ·rw[HJ];exact⟨I.kd,by simp,λa f b e=>by rw[DK.mp e];exact λz=>g (z▸f)⟩
    ·rcases Dv.mp Y with Y|Y
     ·exact I.kn k Y
     ·rw[DK.mp Y];exact jr h2
    ·have:=(I.nn p J).2.up;simpa using this
   ·cases h
  ·cases h
 split at h
 ·exact yo I b_ h
 split at h
 ·exact yo I e_ h
 split at h
 ·unfold tO at h;split at h
  ·split at h
   ·rename_i i j _ _;split at h
    ·rename_i U;cases h;simp only[n_,Dh]at U;refine⟨⟨I.kd,I.k6,I.kn,I.gi,I.bi,I.nm,I.nn,I.nd,by simp;omega,λp J=>?_⟩,DF _,DF _⟩
     rcases Dv.mp J with J|J
     ·exact I.cl p J
     ·rw[DK.mp J];exact xP.mp U.2
    ·cases h
   ·cases h
  ·cases h
 split at h
 ·unfold sZ at h;split at h
  ·rename_i nm k a b c d;split at h
   ·rename_i U;simp only[n_,Dh,Fy,FJ]at U;obtain⟨h1,h2,g,m⟩:=U;split at h
    ·split at h
     ·rename_i l;cases h;refine⟨⟨I.kd,I.k6,I.kn,I.gi,I.bi,by simp at h1 ⊢;omega,λp J=>?_,?_,I.cm,I.cl⟩,DF _,DF _⟩
      ·rcases Dv.mp J with J|J
       ·exact I.nn p J
       ·rw[DK.mp J];exact⟨jr g,BM l (by simp) (by have:=(sS h2).2.1;simp;omega)⟩
      ·rw[Dw,HJ];exact⟨I.nd,by simp,λa f b e=>by
        have e:b=nm:=by simpa using e
        rw[e];exact λz=>m (z▸f)⟩
     ·cases h
    ·cases h
   ·cases h
  ·cases h
 ·cases h
theorem rM{m:Int}(J:0<=m):i7 x m<0↔¬∃i,cV x=a_ i/\i<=m:=by
 unfold i7;cases h:cV x with
 |none=>simp|some k=>
  have:=iy h;dsimp only;by_cases I:m<k
  ·rw[i_ I];simp;omega
  ·rw[l_ I];simp;omega
theorem g7{m:Int}(h:cV x=a_ i)(hi:i<=m):i7 x m=i:=by unfold i7;rw[h];dsimp only;rw[l_ (by omega)]
section
variable(CR CP CS CW CE CD CK:g_)
variable{w:o_} 
theorem ix0_t(I:ah 1 ρ=.ok (.lst ((w::r).map .str))):(f2 ixD (ah 1) (fC (.int 0))) ρ=.ok (.str w):=by show((ah 1 ρ).bind λa=>ixD a (.int 0))=_;rw[I,ae];show iA ((w::r).map Dat.str) 0=_;exact get0
theorem len_t(I:ah 1 ρ=.ok (.lst ((w::r).map .str))):(fL pT (aa (ah 1) aJ)) ρ=.ok (.int ((r.length+1:Nat):Int)):=by show(((ah 1 ρ).bind λa=>.ok [a]):M (List Dat)).bind pT=_;rw[I,ae,ae];show Ds (Dat.int (((w::r).map Dat.str).length:Nat))=_;rw[y_];rfl
theorem A3(I:ah 1 ρ=.ok (.lst ((w::r).map .str)))(x:o_)(m:Nat)(k:Int)(J:k=((m+1:Nat):Int)):(vH (fB (f2 eqM (f2 ixD (ah 1) (fC (.int 0))) (fC (.str x)))) (fB (f2 eqM (fL pT (aa (ah 1) aJ)) (fC (.int k))))) ρ=.ok (q_ (w=x/\r.length=m)):=by
 show(((((f2 ixD (ah 1) (fC (.int 0))) ρ).bind λa=>eqM a (.str x)).bind asB).bind λb=>if b=e_ then((((fL pT (aa (ah 1) aJ)) ρ).bind λa=>eqM a (.int k)).bind asB)else .ok b_)=_;rw[ix0_t I,ae,eqS,ae,len_t I,ae,eqI,ae];show(if q_ (w=x)=e_ then Ds (q_ (((r.length+1:Nat):Int)=k))else Ds b_)=_;by_cases h:w=x<;>by_cases h2:r.length=m
 ·rw[i_ (r_ h),r_ (by omega),r_ ⟨h,h2⟩]
 ·rw[i_ (r_ h),f_ (by omega),f_ (λz=>h2 z.2)]
 ·rw[l_ (by simpa using h),f_ (λz=>h z.1)]
 ·rw[l_ (by simpa using h),f_ (λz=>h z.1)]
end
theorem len0{r:List α}(h:r.length=0):r=[]:=FW.mp h
theorem sR{r:List α}(h:r.length=n+1):∃x t,r=x::t/\t.length=n:=by
 cases r with
 |nil=>cases h|cons x t=>exact⟨x,t,rfl,by simpa using h⟩
noncomputable def rowW(s:WS)(x:o_):Option WS:=match gu x with
 |[]=>a_ s|w::r=>if ER w "#"=e_ then a_ s else An s w r
noncomputable def w9:Nat->List o_->WS->Sum Nat WS
 |_,[],s=>.inr s|k,x::xs,s=>match rowW s x with
  |some s'=>w9 (k+1) xs s'|none=>.inl k
theorem xX(I:WI s)(h:rowW s x=a_ s'):WI s'/\s'.g.length<=s.g.length+1/\s'.b.length<=s.b.length+1:=by
 unfold rowW at h;split at h
 ·cases h;exact⟨I,DF _,DF _⟩
 ·split at h
  ·cases h;exact⟨I,DF _,DF _⟩
  ·exact Am I h
section
variable(CR CP CS CW CE CD CK:g_)
theorem Aw(n:Nat)(s:WS){w:o_}(hw:ER w "#"=e_):bN s.d.D ((w::r).map .str)=.ok (e_,s.d.D):=by
 have t:(fOr (fB (f2 eqM (ah 1) (fL bT aJ))) (nB (fSM lU (f2 ixD (ah 1) (fC (.int 0))) (fC (.str "#"))))) [d_,a_ (.lst ((w::r).map .str))]=.ok e_:=by
  have I:iA ((w::r).map Dat.str) 0=.ok (.str w):=get0;have e:eqM (.lst ((w::r).map Dat.str)) (.lst [])=.ok (.bl b_):=by have h1:okE (.lst ((w::r).map Dat.str)) 40=e_:=jX (w::r) 39;show(if (okE (.lst ((w::r).map Dat.str)) 40&&okE (.lst []) 40)=e_ then _ else _)=_;rw[i_ (by rw[h1];rfl)];rfl
  simp[e,I,hw,-Dp]
 unfold bN lT;show((fOr _ _ _).bind _)=_;rw[t];rfl
theorem row_prog(n:Nat)(s:WS)(I:WI s)(b:s.g.length<10000000/\s.b.length<10000000)(a:x.length<=1000000):mB (bN s.d.D ((gu x).map .str)) (rowW s x):=by
 have J:=nZ a;unfold rowW;cases hw:gu x with
 |nil=>exact row_none n s.d|cons w r=>
  rw[hw]at J;dsimp only;cases U:ER w "#" with
  |true=>rw[i_ rfl];exact Aw n s U|false=>rw[l_ (by decide)];exact take_any n s I b w r U λy Y=>J y (by simp[Y])
theorem uy(n:Nat):∀(xs:List o_) (k:Nat) (s:WS),WI s->(∀x∈xs,x.length<=1000000)->s.g.length+xs.length<10000000->s.b.length+xs.length<10000000 ->
  lX CW "row" (bN) (eD) k (xs.map .str) s.d.D=(match w9 k xs s with
   |.inl m=>.error (.exc CW [("row",.int (m:Nat))])|.inr s'=>.ok s'.d.D)
 |[],k,s,_,_,_,_=>rfl|x::xs,k,s,I,U,h1,h2=>by
  simp only[CZ]at h1 h2;have hw:=u3 n (U x (by simp));have J:=row_prog n s I ⟨by omega,by omega⟩ (U x (by simp));show((noX (eD [.str x])).bind _)=_;rw[hw];show((noX (bN s.d.D ((gu x).map .str))).bind _)=_;unfold w9;cases Y:rowW s x with
  |none=>rw[Y]at J;obtain⟨ds,e⟩:=J;rw[e];rfl
  |some s'=>rw[Y]at J;have e:bN s.d.D ((gu x).map .str)=.ok (e_,s'.d.D):=J;rw[e];obtain⟨b,c,g2⟩:=xX I Y;exact uy n xs (k+1) s' b (λy a=>U y (by simp[a])) (by omega) (by omega)
end
noncomputable def w0:WS:=⟨[],[],[],[],[]⟩
theorem w0_ok:WI w0:=⟨.nil,by decide,by simp[w0],λ_ h=>(nomatch h),λ_ h=>(nomatch h),by decide,by simp[w0],.nil,by decide,by simp[w0]⟩
noncomputable def tbW(ks:List o_)(g:PKs):List (List Int):=ks.map λx=>ks.map λy=>(getP g (x,y)).getD 0
noncomputable def WS.sh(s:WS):Sht:=⟨s.ks,tbW s.ks s.g,if s.b.isEmpty=e_ then d_ else a_ (tbW s.ks s.b),s.nf,s.cs⟩
theorem getP_in(h:yE ks g)(k:o_×o_):0<=(getP g k).getD 0/\(getP g k).getD 0<=1000000:=by
 unfold getP;cases e:g.find? λp=>q_ (p.1=k)with
 |none=>simp|some p=>exact(h p (List.mem_of_find?_eq_some e)).2.2
theorem xK(h:yE ks g):dX ks.length (tbW ks g):=by
 refine⟨by unfold tbW;simp,λr I=>?_⟩
 obtain⟨x,_,rfl⟩:=D4.mp I;refine⟨by simp,λv hv=>?_⟩
 obtain⟨y,_,rfl⟩:=D4.mp hv;exact getP_in h _
theorem tbW_tb(U:ks.Nodup)(h:yE ks g):Tb ks.length (enc ks g) (tR (tbW ks g)):=λa c J I=>by
 have b:kI ks ks[a]=a:=by unfold kI;rw[BD U J];rfl
 have Y:kI ks ks[c]=c:=by unfold kI;rw[BD U I];rfl
 have e:=x9 (Fd J) (Fd I) h;rw[b,Y]at e;rw[e];have:tR (tbW ks g) a c=(getP g (ks[a],ks[c])).getD 0:=by show uz ((tbW ks g).getD a []) c=_;unfold uz tbW;simp[List.getD_eq_getElem?_getD,J,I]
 rw[this];cases getP g (ks[a],ks[c])<;>rfl
theorem WS.sg(I:WI s)(J:s.ks≠[]):s.sh.SG where
 k1:=JC.mpr J
 k6:=I.k6
 kn:=I.kn
 kd:=I.kd
 rows:=xK I.gi
 o:=λr2 h=>by
  have h:(if s.b.isEmpty=e_ then d_ else a_ (tbW s.ks s.b))=a_ r2:=h;split at h
  ·cases h
  ·cases h;exact xK I.bi
 nm:=I.nm
 nn:=I.nn
 nd:=I.nd
 cm:=I.cm
 cl:=I.cl
theorem WS.desc(I:WI s):Desc s.d s.sh where
 ks:=rfl
 nf:=rfl
 cs:=rfl
 g:=tbW_tb I.kd I.gi
 b0:=λh=>by
  have h:(if s.b.isEmpty=e_ then d_ else a_ (tbW s.ks s.b))=d_:=h;split at h
  ·rename_i J;have:s.b=[]:=by simpa using J
   show enc s.ks s.b=[]
   rw[this];rfl
  ·cases h
 b1:=λr2 h=>by
  have h:(if s.b.isEmpty=e_ then d_ else a_ (tbW s.ks s.b))=a_ r2:=h;split at h
  ·cases h
  ·rename_i J;cases h;refine⟨λe=>J ?_,tbW_tb I.kd I.bi⟩
   have e:enc s.ks s.b=[]:=e;unfold enc at e;rw[Hl]at e;rw[e];rfl
theorem xU:∀(xs:List o_) (k:Nat) (s:WS),WI s->∀s',w9 k xs s=.inr s'->WI s'
 |[],_,s,I,s',h=>by cases h;exact I|x::xs,k,s,I,s',h=>by
  unfold w9 at h;cases J:rowW s x with
  |none=>rw[J]at h;cases h|some U=>rw[J]at h;exact xU xs (k+1) U (xX I J).1 s' h
section
variable(CR CP CS CW CE CD CK:g_)
theorem xY(Y:CR≠CP)(n:Nat)(u:x.length<=1000000):bJ CR CP CS CW CE CD CK n [.str x]=(match w9 1 (eC x) w0 with
  |.inl q=>.error (.exc CW [("row",.int (q:Nat))])|.inr s=>if s.ks=[]then .error (.exc CW [("row",.int 0)])else .ok (s.sh.obj CR CP CS)):=by
 obtain⟨h1,h2,v⟩:=rows_any x;have l:(c_ "\n").length=1:=by decide +kernel
 have k:x.length+2<=16777216:=by omega
 have o:(fSM iX (ah 0) (fC (.str "\n"))) [a_ (.str x),d_,d_,d_]=.ok (.lst ((eC x).map .str)):=by simp[l,k,eC]
 have g:=uy CW n (eC x) 1 w0 w0_ok (λy m=>by have:=h2 y m;omega) (by show 0+_<_;omega) (by show 0+_<_;omega);have b:gX CR CP CS CW CE CD CK n [a_ (.str x),d_,d_,d_]=(match w9 1 (eC x) w0 with
  |.inl q=>.error (.exc CW [("row",.int (q:Nat))])|.inr s=>if s.ks=[]then .error (.exc CW [("row",.int 0)])else .ok (.rt (s.sh.obj CR CP CS))):=by
  unfold gX oz;refine(i_ (show(q_ (1<4)&&q_ (2<4)&&q_ (3<4))=e_ from rfl)).trans ?_;show(noX ((fSM iX (ah 0) (fC (.str "\n"))) [a_ (.str x),d_,d_,d_])).bind _=_;rw[o];show(lX CW "row" _ _ 1 ((eC x).map .str) ds0).bind _=_;have g:lX CW "row" (bN) (eD) 1 ((eC x).map .str) ds0=_:=g;rw[g];cases i:w9 1 (eC x) w0 with
  |inl q=>rfl|inr s=>
   have I:=xU _ _ _ w0_ok s i;dsimp only;rw[ae];obtain⟨U,z,w,f,d,c⟩:=dr_at (CD:=CD) s.d;have U:bu [CD] "kinds" (drD CD s.d.D)=.ok (.lst (s.ks.map .str)):=U;have e:eqM (.lst (s.ks.map Dat.str)) (.lst [])=.ok (.bl (q_ (s.ks=[]))):=by have h1:okE (.lst (s.ks.map Dat.str)) 40=e_:=jX s.ks 39;show(if (okE (.lst (s.ks.map Dat.str)) 40&&okE (.lst []) 40)=e_ then _ else _)=_;rw[i_ (by rw[h1];rfl)];cases s.ks<;>rfl
   by_cases J:s.ks=[]
   ·rw[r_ J]at e;rw[i_ J];have a:cF CR CP CS CW CE CD CK n [a_ (.str x),a_ (drD CD s.d.D),d_,d_]=.error (.exc CW [("row",.int 0)]):=by
     simp[cF,U,e]
    rw[eN];show((cF CR CP CS CW CE CD CK n [a_ (.str x),a_ (drD CD s.d.D),d_,d_]).bind _)=_;rw[a];rfl
   ·rw[f_ J]at e;rw[l_ J];have a:cF CR CP CS CW CE CD CK n [a_ (.str x),a_ (drD CD s.d.D),d_,d_]=.ok (.nx [a_ (.str x),a_ (drD CD s.d.D),d_,d_]):=by
     simp[cF,U,e]
    have h:=WS.sg I J;have r:=zP (CR:=CR) (CP:=CP) (CS:=CS) (CW:=CW) (CE:=CE) (CD:=CD) (CK:=CK) n h (WS.desc I);have p:=Au CR CP CS CW CE CD CK Y n h.good;have t:newS CS (bS CR CP CS CW CE CD CK n) [.lst (s.ks.map .str),s.sh.ru CR CP,.lst ((s.nf.map (·.1)).map .str),.lst ((s.nf.map (·.2)).map flD),.lst (s.cs.map stD)]=.ok (s.sh.obj CR CP CS):=by show(bS CR CP CS CW CE CD CK n [s.sh.kD,s.sh.ru CR CP,s.sh.nD,s.sh.fD,s.sh.cD]).bind _=_;rw[p];rfl
    have f:bu [CD] "names" (drD CD s.d.D)=.ok (.lst ((s.nf.map (·.1)).map .str)):=f;have d:bu [CD] "flights" (drD CD s.d.D)=.ok (.lst ((s.nf.map (·.2)).map flD)):=d;have c:bu [CD] "closed" (drD CD s.d.D)=.ok (.lst (s.cs.map stD)):=c;rw[eN];show((cF CR CP CS CW CE CD CK n [a_ (.str x),a_ (drD CD s.d.D),d_,d_]).bind _)=_;rw[a,ae];have j:(cy (fL (newS CS (bS CR CP CS CW CE CD CK n)) (aa (f1 (bu [CD] "kinds") (ah 1)) (aa (fL (cI CR CP CS CW CE CD CK n) (aa (ah 1) aJ)) (aa (f1 (bu [CD] "names") (ah 1)) (aa (f1 (bu [CD] "flights") (ah 1)) (aa (f1 (bu [CD] "closed") (ah 1)) aJ))))))) [a_ (.str x),a_ (drD CD s.d.D),d_,d_]=.ok (.rt (s.sh.obj CR CP CS)):=by simp[U,f,d,c,r,t,-Dj]
    show noX (cy _ [a_ (.str x),a_ (drD CD s.d.D),d_,d_])=_;rw[j];rfl
 unfold bJ;rw[e_run];rw[i_ (show [Dat.str x].length=1 from rfl)];show((gX CR CP CS CW CE CD CK n [a_ (.str x),d_,d_,d_]).bind _)=_;rw[b];cases i:w9 1 (eC x) w0 with
 |inl q=>rfl|inr s=>
  dsimp only;by_cases J:s.ks=[]
  ·rw[i_ J,i_ J];rfl
  ·rw[l_ J,l_ J];rfl
end
section
variable(CR CP CS CW CE CD CK:g_)
theorem uM{r:List Nat}(e:x.cps.toList=c::r):eqM (.str x) (.str "")=.ok (.bl b_):=by rw[eqS,f_ λh=>?_];rw[h]at e;cases e
theorem Bs(n:Nat)(h:WOk x):cZ [.str x]=.ok (.bl (gn x)):=by
 obtain⟨h1,h2⟩:=h;have I:x.length<=16777216:=by omega
 have hsz:x.cps.size<=16777216:=I;unfold gn;cases e:x.cps.toList with
 |nil=>exact Dc e h1|cons c r=>
  dsimp only;have a:=ix0' e I;have g:=BN zD _ ld_mem x;have b:=eq_chars (x.cps.toList.filter λc=> !zD c);rw[yq]at b;have U:=uM e;by_cases Y:(8:Int)<(x.length:Int)
  ·have:jZ x c=b_:=by unfold jZ;rw[f_ (by omega)];rfl
   rw[this];simp[cZ,fZ,cU,I,gtD,ltD,Y,U]
  ·by_cases J:97<=c/\c<=122
   ·have i:cU [a_ (.str x)]=.ok (.nx [a_ (.str x)]):=by
     simp[cU,I,gtD,ltD,Y,U,a,(k9 c).mpr J]
    have d:jZ x c=x.cps.toList.all zD:=by unfold jZ;rw[r_ (show x.length<=8 by omega),r_ J];rfl
    rw[d];simp[cZ,fZ,i,g,hsz,b,-Dj]
   ·have f:c∉(c_ "abcdefghijklmnopqrstuvwxyz").cps.toList:=λm=>J ((k9 c).mp m);have:jZ x c=b_:=by unfold jZ;rw[f_ J,Fe];rfl
    rw[this];simp[cZ,fZ,cU,I,gtD,ltD,Y,U,a,f]
theorem sP(n:Nat)(h:WOk x)(m:Int):aW [.str x,.int m]=.ok (.int (i7 x m)):=by
 obtain⟨h1,h2⟩:=h;have I:x.length<=16777216:=by omega
 have hsz:x.cps.size<=16777216:=I;cases e:x.cps.toList with
 |nil=>exact Dc e h1|cons c r=>
  have v:=ix0' e I;have hw:i7 x m=if lQ x c=e_ then(if m<((Em x.cps.toList:Nat):Int)then -1 else((Em x.cps.toList:Nat):Int))else -1:=by unfold i7 cV;rw[e];dsimp only;cases lQ x c<;>rfl
  have q:=BN xc _ dg_mem x;have d:=ne_chars (x.cps.toList.filter λc=> !xc c);rw[yq]at d;have o:=uM e;cases f:x.cps.toList.all xc with
  |false=>
   have:lQ x c=b_:=by unfold lQ;rw[f,Fe];rfl
   rw[hw,this];rw[f]at d;simp[aW,dD,dv,I,gtD,ltD,o,q,hsz,d,-Dj]
  |true=>
  rw[f]at d;by_cases i:(10:Int)<(x.length:Int)
  ·have:lQ x c=b_:=by unfold lQ;rw[f_ (by omega)];rfl
   rw[hw,this];simp[aW,dD,dv,I,gtD,ltD,i,o,q,hsz,d,-Dj]
  ·have s:dv [a_ (.str x),a_ (.int m)]=.ok (.nx [a_ (.str x),a_ (.int m)]):=by
    simp[dv,I,gtD,ltD,i,o,q,hsz,d,-Dj]
   have w:(c_ "0")=⟨#[48]⟩:=by decide +kernel
   have e1:=one_eq c (c_ "0") 48 w;have hd:Fz x=a_ ((Em x.cps.toList:Nat):Int):=Ja (λc U=>by have:=EA.mp f c U;unfold xc at this;exact EV this) (by rw[e];simp) (by omega);have Y:x.length<=640:=by omega
   have t:(1:Int)<(x.length:Int)↔¬(r=[]):=by have:x.length=x.cps.toList.length:=rfl;rw[this,e];cases r<;>simp;omega
   have u:c=48->(x=(c_ "0")↔r=[]):=λU=>by
    constructor
    ·intro h;rw[h]at e;have:[48]=c::r:=e;cases this;rfl
    ·intro h;refine oj ?_;rw[e,h,U];rfl
   have p:(lQ x c=e_)↔¬(c=48/\¬x=(c_ "0")):=by unfold lQ;rw[r_ (show x.length<=10 by omega),f];by_cases h1:c=48<;>by_cases h2:x=c_ "0"<;>simp[h1,h2]
   have ft:(vH (fB (f2 gtD (fL sQ (aa (ah 0) aJ)) (fC (.int 1)))) (fB (f2 eqM (f2 wR (ah 0) (fC (.int 0))) (fC (.str "0"))))) [a_ (.str x),a_ (.int m)]=.ok (!lQ x c):=by
    by_cases k:r=[]
    ·have g:¬((1:Int)<(x.length:Int)):=λz=>(t.mp z) k;have J:lQ x c=e_:=p.mpr λ⟨a,b⟩=>b ((u a).mpr k);rw[J];simp[I,gtD,ltD,g]
    ·have g:=t.mpr k;by_cases U:c=48
     ·have J:lQ x c=b_:=by
       cases J:lQ x c with
       |false=>rfl|true=>exact Dc ⟨U,λz=>k ((u U).mp z)⟩ (p.mp J)
      have e3:eqM (.str ⟨#[c]⟩) (.str "0")=.ok (.bl e_):=by rw[e1];simp[U]
      rw[J];simp[I,gtD,ltD,g,v,e3]
     ·have J:lQ x c=e_:=p.mpr λ⟨a,_⟩=>U a;have e3:eqM (.str ⟨#[c]⟩) (.str "0")=.ok (.bl b_):=by rw[e1];simp[U]
      rw[J];simp[I,gtD,ltD,g,v,e3]
   rw[hw];cases J:lQ x c with
   |false=>
    rw[J]at ft;have j:cg [a_ (.str x),a_ (.int m)]=.ok (.rt (.int (-1))):=by unfold cg;rw[BX,e_or,ft];simp
    simp[aW,dD,s,j]
   |true=>
    rw[J]at ft;by_cases l:m<((Em x.cps.toList:Nat):Int)
    ·have j:cg [a_ (.str x),a_ (.int m)]=.ok (.rt (.int (-1))):=by
      unfold cg;rw[BX,e_or,ft];simp[Y,hd,gtD,l]
     rw[i_ rfl,i_ l];simp[aW,dD,s,j]
    ·have j:cg [a_ (.str x),a_ (.int m)]=.ok (.nx [a_ (.str x),a_ (.int m)]):=by
      unfold cg;rw[BX,e_or,ft];simp[Y,hd,gtD,l]
     rw[i_ rfl,l_ l];simp[aW,dD,s,j,Y,hd]
end
theorem v8:∀a b:List o_,zO (a.map Dat.str) (b.map Dat.str)=q_ (a=b)
 |[],[]=>rfl|[],_::_=>rfl|_::_,[]=>rfl|x::a,y::b=>by show(x==y&&zO (a.map Dat.str) (b.map Dat.str))=_;rw[v8 a b,Er];simp
theorem km(a b:List o_):eqM (.lst (a.map .str)) (.lst (b.map .str))=.ok (.bl (q_ (a=b))):=by have h1:okE (.lst (a.map Dat.str)) 40=e_:=jX a 39;have h2:okE (.lst (b.map Dat.str)) 40=e_:=jX b 39;show(if (okE (.lst (a.map Dat.str)) 40&&okE (.lst (b.map Dat.str)) 40)=e_ then Ds (Dat.bl (zO (a.map Dat.str) (b.map Dat.str)))else _)=_;rw[i_ (by rw[h1,h2];rfl),v8]
noncomputable def wS:o_:="shift"
noncomputable def wGo:o_:="gone"
noncomputable def wO:o_:="opened"
noncomputable def fQ(w:Sht):List o_->Option Sht
 |[x,y]=>(match cV x,cV y with
  |some i,a_ j=>if (q_ (w.cs.length<20)&&stB (i,j))=e_ then a_ {w with cs:=w.cs++[(i,j)]}else d_
  |_,_=>d_)
 |_=>d_
noncomputable def fK(w:Sht):List o_->Option Sht
 |[nm,k,a,b,c,d]=>if (q_ (w.nf.length<40)&&(q_ (k∈w.ks)&&(gn nm&& !decide (nm∈w.nf.map (·.1)))))=e_ then(match num4 a b c d with
  |some (a,b,c,d)=>if flB ⟨kI w.ks k,a,b,c,d⟩=e_ then a_ {w with nf:=w.nf++[(nm,⟨kI w.ks k,a,b,c,d⟩)]}else d_
  |none=>d_)else d_
 |_=>d_
noncomputable def ql(w:Sht):List o_->Option Sht
 |[x]=>if x∈w.nf.map (·.1)then a_ {w with nf:=[]}else d_
 |_=>d_
noncomputable def dh(w:Sht)(h:o_)(r:List o_):Option Sht:=if h=wF then fK w r else if h=wC then fQ w r else if h=wGo then ql w r else if h=wO/\r=[]then a_ {w with cs:=[]}else d_
noncomputable def g8:List o_->Option Int
 |[y]=>(match cV y with
  |some i=>if i<=3 then a_ i else d_
  |none=>d_)
 |_=>d_
section
variable(CR CP CS CW CE CD CK:g_)
noncomputable def vF:Option Sht->M Dat
 |some w=>.ok (w.obj CR CP CS)|none=>.error (.exc CE [])
theorem new_ok(I:CR≠CP)(n:Nat)(h:w.SG):newS CS (bS CR CP CS CW CE CD CK n) [w.kD,w.ru CR CP,w.nD,w.fD,w.cD]=.ok (w.obj CR CP CS):=by show(bS CR CP CS CW CE CD CK n [w.kD,w.ru CR CP,w.nD,w.fD,w.cD]).bind _=_;rw[Au CR CP CS CW CE CD CK I n h.good];rfl
theorem jH(I:CR≠CP)(n:Nat)(h:{w with cs:=cs}.SG):dA CR CP CS CW CE CD CK n [w.obj CR CP CS,.lst (cs.map stD)]=.ok ({w with cs:=cs}.obj CR CP CS):=by obtain⟨a,Y,U,J,c,b⟩:=mJ CR CP CS w;have e:=new_ok CR CP CS CW CE CD CK I n h;have e:newS CS (bS CR CP CS CW CE CD CK n) [w.kD,w.ru CR CP,w.nD,w.fD,.lst (cs.map stD)]=.ok ({w with cs:=cs}.obj CR CP CS):=e;simp[dA,ll,a,Y,U,J,e]
theorem iR(I:CR≠CP)(n:Nat){nf:List (o_×Fli)}(h:{w with nf:=nf}.SG):cW CR CP CS CW CE CD CK n [w.obj CR CP CS,.lst ((nf.map (·.1)).map .str),.lst ((nf.map (·.2)).map flD)]=.ok ({w with nf:=nf}.obj CR CP CS):=by obtain⟨Y,U,c,b,J,a⟩:=mJ CR CP CS w;have e:=new_ok CR CP CS CW CE CD CK I n h;have e:newS CS (bS CR CP CS CW CE CD CK n) [w.kD,w.ru CR CP,.lst ((nf.map (·.1)).map .str),.lst ((nf.map (·.2)).map flD),w.cD]=.ok ({w with nf:=nf}.obj CR CP CS):=e;simp[cW,jL,Y,U,J,e,-Dj]
theorem vB(h:w.SG)(U:w.cs.length<20)(J:St1 p):{w with cs:=w.cs++[p]}.SG:=⟨h.k1,h.k6,h.kn,h.kd,h.rows,h.o,h.nm,h.nn,h.nd,by simp;omega,λq I=>by
 rcases Dv.mp I with z|z
 ·exact h.cl q z
 ·simp at z;rw[z];exact J⟩
theorem sw_no(n:Nat){W:Dat}(e:aC [w.cD,W]=.ok .non):aX CR CP CS CW CE CD CK n [w.obj CR CP CS,W]=.error (.exc CE []):=by obtain⟨b,a,Y,U,I,J⟩:=mJ CR CP CS w;simp[aX,dM,d7,I,e]
theorem sw_yes(I:CR≠CP)(n:Nat){W:Dat}(h:w.SG)(Y:w.cs.length<20)(U:St1 p)(e:aC [w.cD,W]=.ok (stD p)):aX CR CP CS CW CE CD CK n [w.obj CR CP CS,W]=.ok ({w with cs:=w.cs++[p]}.obj CR CP CS):=by
 obtain⟨i,f,d,c,a,b⟩:=mJ CR CP CS w;have g:=jH CR CP CS CW CE CD CK I n (w:=w) (cs:=w.cs++[p]) (vB h Y U);have J:cT w.cD (.lst [stD p])=.ok (.lst ((w.cs++[p]).map stD)):=by rw[Dw];unfold Sht.cD;exact i_ (by simp;omega)
 have e:aC [w.cD,W]=.ok (.tup [.int p.1,.int p.2]):=e;have J:cT w.cD (.lst [.tup [.int p.1,.int p.2]])=.ok (.lst ((w.cs++[p]).map stD)):=J;simp[aX,dM,d7,a,e,J,g,-Dw]
theorem vQ(J:CR≠CP)(n:Nat)(h:w.SG)(hd:o_)(r:List o_)(Y:∀x∈r,WOk x):aX CR CP CS CW CE CD CK n [w.obj CR CP CS,.lst ((hd::r).map .str)]=vF CR CP CS CE (fQ w r):=by
 by_cases U:r.length=2
 ·obtain⟨x,t,rfl,b⟩:=sR U;obtain⟨y,u,rfl,a⟩:=sR b;cases len0 a;have e:=iI n (w:=hd) (Y x (by simp)) (Y y (by simp)) h.cl h.cm;have e:aC [w.cD,.lst ([hd,x,y].map .str)]=_:=e;unfold fQ;dsimp only;cases e1:cV x with
  |none=>rw[e1]at e;exact sw_no CR CP CS CW CE CD CK n e|some i=>
   cases e2:cV y with
   |none=>rw[e1,e2]at e;exact sw_no CR CP CS CW CE CD CK n e|some j=>
    rw[e1,e2]at e;dsimp only at e ⊢;by_cases I:(q_ (w.cs.length<20)&&stB (i,j))=e_
    ·rw[i_ I]at e ⊢;rw[n_]at I;exact sw_yes CR CP CS CW CE CD CK J n h (EV I.1) (xP.mp I.2) e
    ·rw[l_ I]at e ⊢;exact sw_no CR CP CS CW CE CD CK n e
 ·rw[show fQ w r=d_ by unfold fQ;split<;>first|(exact Dc rfl U)|rfl];exact sw_no CR CP CS CW CE CD CK n (iH n (by simpa using U))
theorem vA(h:w.SG)(e:w.nf.length<40)(Y:Nm nm)(J:nm∉w.nf.map (·.1))(c:Fl1 w.ks.length f):{w with nf:=w.nf++[(nm,f)]}.SG:=⟨h.k1,h.k6,h.kn,h.kd,h.rows,h.o,by simp;omega,λq U=>by
 rcases Dv.mp U with z|z
 ·exact h.nn q z
 ·simp at z;rw[z];exact⟨Y,c⟩,by
 show((w.nf++[(nm,f)]).map (·.1)).Nodup;rw[Dw];exact HJ.mpr ⟨h.nd,by simp,λa d b I=>by simp at I;rw[I];exact λz=>J (z▸d)⟩,h.cm,h.cl⟩
theorem fw_no(n:Nat){W:Dat}(e:aF [w.kD,w.nD,W]=.ok .non):bq CR CP CS CW CE CD CK n [w.obj CR CP CS,W]=.error (.exc CE []):=by obtain⟨J,b,I,a,Y,U⟩:=mJ CR CP CS w;simp[bq,ee,du,J,I,e]
theorem fw_yes(J:CR≠CP)(n:Nat){ws:List Dat}(h:w.SG)(a:w.nf.length<40)(Y:Nm nm)(U:nm∉w.nf.map (·.1))(b:Fl1 w.ks.length f)(c:iA ws 1=.ok (.str nm))(e:aF [w.kD,w.nD,.lst ws]=.ok (flD f)):bq CR CP CS CW CE CD CK n [w.obj CR CP CS,.lst ws]=.ok ({w with nf:=w.nf++[(nm,f)]}.obj CR CP CS):=by
 obtain⟨k,o,j,i,m,l⟩:=mJ CR CP CS w;have g:=iR CR CP CS CW CE CD CK J n (w:=w) (nf:=w.nf++[(nm,f)]) (vA h a Y U b);have d:cT w.nD (.lst [.str nm])=.ok (.lst (((w.nf++[(nm,f)]).map (·.1)).map .str)):=by rw[Dw,Dw];unfold Sht.nD;exact i_ (by simp;omega)
 have I:cT w.fD (.lst [flD f])=.ok (.lst (((w.nf++[(nm,f)]).map (·.2)).map flD)):=by rw[Dw,Dw];unfold Sht.fD;exact i_ (by simp;omega)
 have e:aF [w.kD,w.nD,.lst ws]=.ok (.tup [.int f.kind,.int f.first,.int f.last,.int f.due,.int f.price]):=e;have I:cT w.fD (.lst [.tup [.int f.kind,.int f.first,.int f.last,.int f.due,.int f.price]])=.ok (.lst (((w.nf++[(nm,f)]).map (·.2)).map flD)):=I;simp[bq,ee,du,k,j,i,e,d,I,g,c,-Dw,-Dj]
theorem zL(U:CR≠CP)(n:Nat)(h:w.SG)(hd:o_)(r:List o_)(I:∀x∈r,WOk x):bq CR CP CS CW CE CD CK n [w.obj CR CP CS,.lst ((hd::r).map .str)]=vF CR CP CS CE (fK w r):=by
 by_cases Y:r.length=6
 ·obtain⟨nm,t1,rfl,o⟩:=sR Y;obtain⟨k,t2,rfl,m⟩:=sR o;obtain⟨a,B,rfl,l⟩:=sR m;obtain⟨b,A,rfl,j⟩:=sR l;obtain⟨c,z,rfl,i⟩:=sR j;obtain⟨d,y,rfl,g⟩:=sR i;cases len0 g;have e:=iV n (ks:=w.ks) (ns:=w.nf.map (·.1)) (w:=hd) (k:=k) (I nm (by simp)) (I a (by simp)) (I b (by simp)) (I c (by simp)) (I d (by simp));have e:aF [w.kD,w.nD,.lst ([hd,nm,k,a,b,c,d].map .str)]=_:=e;rw[y_]at e;unfold fK;dsimp only;by_cases J:(q_ (w.nf.length<40)&&(q_ (k∈w.ks)&&(gn nm&& !decide (nm∈w.nf.map (·.1)))))=e_
  ·rw[i_ J]at e ⊢;cases e4:num4 a b c d with
   |none=>rw[e4]at e;exact fw_no CR CP CS CW CE CD CK n e|some q=>
    obtain⟨v,u,t,d'⟩:=q;rw[e4]at e;dsimp only at e ⊢;by_cases f:flB ⟨kI w.ks k,v,u,t,d'⟩=e_
    ·rw[i_ f]at e ⊢;simp only[n_,Dh,Fy,FJ]at J;obtain⟨h1,h2,s,p⟩:=J;obtain⟨_,C,_⟩:=sS h2;exact fw_yes CR CP CS CW CE CD CK U n h h1 (jr s) p (BM f (by show(0:Int)<=((kI w.ks k:Nat):Int);omega) (by show((kI w.ks k:Nat):Int)<_;omega)) rfl e
    ·rw[l_ f]at e ⊢;exact fw_no CR CP CS CW CE CD CK n e
  ·rw[l_ J]at e ⊢;exact fw_no CR CP CS CW CE CD CK n e
 ·rw[show fK w r=d_ by unfold fK;split<;>first|(exact Dc rfl Y)|rfl];exact fw_no CR CP CS CW CE CD CK n (iU n (by simpa using Y))
end
section
variable(CR CP CS CW CE CD CK:g_)
theorem CG(h:w.SG):{w with nf:=[]}.SG:=⟨h.k1,h.k6,h.kn,h.kd,h.rows,h.o,by show 0<=40;decide,λ_ q=>(nomatch q),.nil,h.cm,h.cl⟩
theorem CF(h:w.SG):{w with cs:=[]}.SG:=⟨h.k1,h.k6,h.kn,h.kd,h.rows,h.o,h.nm,h.nn,h.nd,by show 0<=20;decide,λ_ q=>(nomatch q)⟩
theorem gone_any(b:CR≠CP)(n:Nat)(h:w.SG)(I:w.nf=[(a,f)])(hd:o_)(r:List o_):aQ CR CP CS CW CE CD CK n [w.obj CR CP CS,.lst ((hd::r).map .str)]=vF CR CP CS CE (ql w r):=by
 obtain⟨z,y,J,k,v,u⟩:=mJ CR CP CS w;have m:w.nD=.lst ([a].map .str):=by unfold Sht.nD;rw[I];rfl
 have o:w.fD=.lst [flD f]:=by unfold Sht.fD;rw[I];rfl
 rw[m]at J;rw[o]at k;by_cases c:r.length=1
 ·obtain⟨x,t,rfl,l⟩:=sR c;cases len0 l;have U:=uN x [a];have e2:=oW 2 2 rfl;have e:iA [.str hd,.str x] 1=.ok (.str x):=rfl;unfold ql;dsimp only;rw[I];by_cases Y:x=a
  ·subst Y;rw[i_ (by simp)];have U:ic (.str x) (.lst [.str x])=.ok (.bl b_):=by rw[show [Dat.str x]=[x].map .str from rfl,U];simp
   have J:bu [CS] "names" (w.obj CR CP CS)=.ok (.lst [.str x]):=J;have ix:ke (.lst [.str x]) (.str x)=.ok (.int 0):=by show(match vG [x] x with|some j=>_|none=>_)=_;rw[show vG [x] x=a_ 0 from BD (ks:=[x]) (by simp) (i:=0) (by simp)];rfl
   have q:∀d:Dat,iQ [d] d_ (a_ 0)=[]:=λ_=>rfl;have p:∀d:Dat,iQ [d] (a_ 1) d_=[]:=λ_=>rfl;have s:cT (.lst []) (.lst [])=.ok (.lst []):=rfl;have g:=iR CR CP CS CW CE CD CK b n (w:=w) (nf:=[]) (CG h);have g:cW CR CP CS CW CE CD CK n [w.obj CR CP CS,.lst [],.lst []]=.ok ({w with nf:=[]}.obj CR CP CS):=g;simp[aQ,cj,bO,e2,e,J,k,U,ix,q,p,s,g,isL,vF]
  ·rw[l_ (by simpa using Y)];have U:ic (.str x) (.lst [.str a])=.ok (.bl e_):=by rw[show [Dat.str a]=[a].map .str from rfl,U];simp[Y]
   have J:bu [CS] "names" (w.obj CR CP CS)=.ok (.lst [.str a]):=J;simp[aQ,cj,bO,e2,e,J,U,vF]
 ·rw[show ql w r=d_ by unfold ql;split<;>first|(exact Dc rfl c)|rfl];have e2:neM (.int ((r.length+1:Nat):Int)) (.int 2)=.ok (.bl e_):=by rw[neI];simp;omega
  have e2:neM (.int ((r.length:Int)+1)) (.int 2)=.ok (.bl e_):=e2;simp[aQ,cj,bO,e2,vF]
theorem AJ(n:Nat)(hd:o_)(r:List o_)(Y:∀x∈r,WOk x):d9 CR CP CS CW CE CD CK n [.lst ((hd::r).map .str)]=(match g8 r with
  |some i=>.ok (.int i)|none=>.error (.exc CE [])):=by
 by_cases J:r.length=1
 ·obtain⟨x,t,rfl,U⟩:=sR J;cases len0 U;have e1:=ja n (Y x (by simp));have e2:=eqI 2 2;have I:iA [.str hd,.str x] 1=.ok (.str x):=rfl;unfold g8;dsimp only;cases e3:cV x with
  |none=>rw[e3]at e1;have e1:aY [.str x]=.ok .non:=e1;simp[d9,gj,dW,e1,e2,I]|some i=>
   rw[e3]at e1;have e1:aY [.str x]=.ok (.int i):=e1;dsimp only;by_cases hi:i<=3
   ·rw[i_ hi];have:¬(3<i):=by omega
    simp[d9,gj,dW,e1,e2,I,gtD,ltD,this]
   ·rw[l_ hi];have:3<i:=by omega
    simp[d9,gj,dW,e1,e2,I,gtD,ltD,this]
 ·rw[show g8 r=d_ by unfold g8;split<;>first|(exact Dc rfl J)|rfl];have e2:eqM (.int ((r.length+1:Nat):Int)) (.int 2)=.ok (.bl b_):=by rw[eqI];simp;omega
  have e2:eqM (.int ((r.length:Int)+1)) (.int 2)=.ok (.bl b_):=e2;simp[d9,gj,dW,e2]
end
section
variable(CR CP CS CW CE CD CK:g_)
theorem Bx(w:o_)(r:List o_):ixD (.lst ((w::r).map .str)) (.int 0)=.ok (.str w):=by have:=get0 (w:=w) (r:=r);simpa using this
theorem xx(I:CR≠CP)(n:Nat)(h:w.SG)(hd:o_)(r:List o_)(i:∀x∈r,WOk x)(j:hd=wGo->∃a f,w.nf=[(a,f)]):aU CR CP CS CW CE CD CK n [w.obj CR CP CS,.lst ((hd::r).map .str)]=vF CR CP CS CE (dh w hd r):=by
 have U:=Bx hd r;have J:truD (.lst ((hd::r).map .str))=.ok e_:=by simp
 have e1:=eqS hd wF;have e2:=eqS hd wC;have e3:=eqS hd wGo;have e4:=km (hd::r) [wO];have f1:=zL CR CP CS CW CE CD CK I n h hd r i;have g:=vQ CR CP CS CW CE CD CK I n h hd r i;have f4:=jH CR CP CS CW CE CD CK I n (CF h);have f4:dA CR CP CS CW CE CD CK n [w.obj CR CP CS,.lst []]=.ok ({w with cs:=[]}.obj CR CP CS):=f4;have f3:hd=wGo->aQ CR CP CS CW CE CD CK n [w.obj CR CP CS,.lst ((hd::r).map .str)]=vF CR CP CS CE (ql w r):=λe=>by obtain⟨a,f,d⟩:=j e;exact gone_any CR CP CS CW CE CD CK I n h d hd r
 unfold dh;have e1:eqM (.str hd) (.str (c_ "flight"))=.ok (.bl (q_ (hd=wF))):=e1;have e2:eqM (.str hd) (.str (c_ "closed"))=.ok (.bl (q_ (hd=wC))):=e2;have e3:eqM (.str hd) (.str (c_ "gone"))=.ok (.bl (q_ (hd=wGo))):=e3;generalize k:(Dat.lst ((hd::r).map .str))=W at *;have e4:eqM W (.lst [.str (c_ "opened")])=.ok (.bl (q_ (hd::r=[wO]))):=e4;by_cases h1:hd=wF
 ·rw[i_ h1];rw[r_ h1]at e1;cases Y:fK w r<;>rw[Y]at f1<;>simp[vF]at f1<;>simp[aU,bZ,bF,J,U,e1,f1,vF]
 ·rw[l_ h1];rw[f_ h1]at e1;by_cases h2:hd=wC
  ·rw[i_ h2];rw[r_ h2]at e2;cases Y:fQ w r<;>rw[Y]at g<;>simp[vF]at g<;>simp[aU,bZ,bF,bY,J,U,e1,e2,g,vF]
  ·rw[l_ h2];rw[f_ h2]at e2;by_cases c:hd=wGo
   ·rw[i_ c];have f3:=f3 c;rw[r_ c]at e3;cases Y:ql w r<;>rw[Y]at f3<;>simp[vF]at f3<;>simp[aU,bZ,bF,bY,cK,J,U,e1,e2,e3,f3,vF]
   ·rw[l_ c];rw[f_ c]at e3;by_cases b:hd=wO/\r=[]
    ·rw[i_ b];rw[r_ (show hd::r=[wO] by rw[b.1,b.2])]at e4;simp[aU,bZ,bF,bY,cK,dH,J,U,e1,e2,e3,e4,f4,vF]
    ·rw[l_ b];rw[f_ (λz=>b (by cases z;exact⟨rfl,rfl⟩))]at e4;simp[aU,bZ,bF,bY,cK,dH,J,U,e1,e2,e3,e4,vF]
theorem xw(n:Nat)(w:Sht):aU CR CP CS CW CE CD CK n [w.obj CR CP CS,.lst []]=.error (.exc CE []):=by
 have e1:∀s:o_,s≠""->eqM (.str "") (.str s)=.ok (.bl b_):=λs I=>by rw[eqS,f_ (DL I)]
 have Y:=e1 "flight" (by decide +kernel);have U:=e1 "closed" (by decide +kernel);have J:=e1 "gone" (by decide +kernel);have e4:=km [] [wO];have e4:eqM (.lst []) (.lst [.str (c_ "opened")])=.ok (.bl b_):=e4;simp[aU,bZ,bF,bY,cK,dH,Y,U,J,e4]
noncomputable def sayW(w:Sht)(k:Int):List o_->Option (Sht×Int)
 |[]=>d_|hd::r=>if hd=wS then(g8 r).map λi=>(w,i)else(dh w hd r).map λw'=>(w',k)
noncomputable def outP:Option (Sht×Int)->M (Dat×Int)
 |some z=>.ok (z.1.obj CR CP CS,z.2)|none=>.error (.exc CE [])
noncomputable def yV(w:Sht)(k:Int)(x:o_):Option (Sht×Int):=if 10∈x.cps.toList then d_ else sayW w k (gu x)
theorem vU(Y:CR≠CP)(n:Nat)(h:w.SG)(k:Int)(b:x.length<=1000000)(j:∀r,gu x=wGo::r->∃a f,w.nf=[(a,f)]):lS CR CP CS CW CE CD CK n (w.obj CR CP CS) k (.str x)=outP CR CP CS CE (yV w k x):=by
 have t1:iW [d_,a_ (.str x),d_]=.ok (q_ (10∈x.cps.toList)):=by have:=e_inSD 10 x;rw[<- nl_is]at this;simp[iW,this]
 have l:=u3 n b;have hw:=nZ b;unfold lS sayD yV;rw[t1,dJ,ae];by_cases I:10∈x.cps.toList
 ·rw[r_ I,i_ rfl,i_ I];rfl
 ·rw[f_ I,l_ (by decide),l_ I,l,dJ,ae];cases d:gu x with
  |nil=>
   have e4:=km [] [wS];have e4:eqM (.lst []) (.lst [.str (c_ "shift")])=.ok (.bl b_):=e4;have t2:eB [d_,a_ (.str x),a_ (.lst [])]=.ok b_:=by have:iQ ([]:List Dat) d_ (a_ 1)=[]:=rfl;simp[eB,e4,this]
   have t2:eB [d_,a_ (.str x),a_ (.lst (([]:List o_).map .str))]=.ok b_:=t2;rw[t2,dJ,ae,l_ (by decide)];have e:=xw CR CP CS CW CE CD CK n w;have e:aU CR CP CS CW CE CD CK n [w.obj CR CP CS,.lst (([]:List o_).map .str)]=.error (.exc CE []):=e;rw[e];rfl
  |cons hd r=>
   rw[d]at hw;have e4:=km [hd] [wS];have e4:eqM (.lst [.str hd]) (.lst [.str (c_ "shift")])=.ok (.bl (q_ (hd=wS))):=by rw[show q_ (hd=wS)=q_ ([hd]=[wS]) by simp];exact e4
   have t2:eB [d_,a_ (.str x),a_ (.lst ((hd::r).map .str))]=.ok (q_ (hd=wS)):=by
    have c:iQ ((hd::r).map Dat.str) d_ (a_ 1)=[.str hd]:=by unfold iQ cX;simp
    have g:aV (.lst ((hd::r).map Dat.str)) d_ (a_ 1)=.ok (.lst [.str hd]):=by rw[t9,c]
    generalize (Dat.lst ((hd::r).map Dat.str))=W at *;simp[eB,g,e4]
   rw[t2,dJ,ae,show sayW w k (hd::r)=if hd=wS then(g8 r).map (λi=>(w,i))else(dh w hd r).map λw'=>(w',k)from rfl];by_cases J:hd=wS
   ·rw[r_ J,i_ rfl,AJ CR CP CS CW CE CD CK n hd r (λy U=>hw y (by simp[U])),i_ J];cases g8 r<;>rfl
   ·rw[f_ J,l_ (by decide),xx CR CP CS CW CE CD CK Y n h hd r (λy U=>hw y (by simp[U])) (λe=>j r (by rw[d,e])),l_ J];cases dh w hd r<;>rfl
theorem zX{w':Sht}(h:w.SG){hd:o_}(e:dh w hd r=a_ w'):w'.SG/\w'.cs.length<=w.cs.length+1:=by
 unfold dh at e;split at e
 ·unfold fK at e;split at e
  ·split at e
   ·rename_i I;split at e
    ·rename_i e4;split at e
     ·rename_i J;cases e;simp only[n_,Dh,Fy,FJ]at I;obtain⟨h1,h2,Y,U⟩:=I;obtain⟨_,a,_⟩:=sS h2;exact⟨vA h h1 (jr Y) U (BM J (by show(0:Int)<=((kI w.ks _:Nat):Int);omega) (by show((kI w.ks _:Nat):Int)<_;omega)),DF _⟩
     ·cases e
    ·cases e
   ·cases e
  ·cases e
 ·split at e
  ·unfold fQ at e;split at e
   ·split at e
    ·split at e
     ·rename_i I;cases e;rw[n_]at I;exact⟨vB h (EV I.1) (xP.mp I.2),by simp⟩
     ·cases e
    ·cases e
   ·cases e
  ·split at e
   ·unfold ql at e;split at e
    ·split at e
     ·cases e;exact⟨CG h,DF _⟩
     ·cases e
    ·cases e
   ·split at e
    ·cases e;exact⟨CF h,FK _⟩
    ·cases e
theorem rowK_SG(h:w.SG){k:Int}{z:Sht×Int}(e:yV w k x=a_ z):z.1.SG/\z.1.cs.length<=w.cs.length+1:=by
 unfold yV at e;split at e
 ·cases e
 ·unfold sayW at e;split at e
  ·cases e
  ·split at e
   ·rename_i hd r _ _;cases I:g8 r<;>rw[I]at e<;>cases e;exact⟨h,DF _⟩
   ·rename_i hd r _ _;cases I:dh w hd r<;>rw[I]at e<;>cases e;exact zX h I
end
noncomputable def w1:Sht:=⟨["up"],[[2]],d_,[("a1",⟨0,1,8,4,3⟩)],[]⟩
theorem w1_ok:w1.SG where
 k1:=by decide
 k6:=by decide
 kn:=λk Y=>by
  have:k=(c_ "up"):=by simpa[w1] using Y
  rw[this];exact jr (by decide +kernel)
 kd:=by simp[w1]
 rows:=⟨rfl,λr U=>by
  have:r=[2]:=by simpa[w1] using U
  subst this;exact⟨rfl,λx J=>by
   have:x=2:=by simpa using J
   subst this;decide⟩⟩
 o:=λr2 h=>nomatch h
 nm:=by decide
 nn:=λp I=>by
  have:p=(c_ "a1",⟨0,1,8,4,3⟩):=by simpa[w1] using I
  subst this;exact⟨jr (by decide +kernel),⟨by decide,by decide,by decide,by decide,by decide,by decide,by decide⟩⟩
 nd:=by simp[w1]
 cm:=by decide
 cl:=λp I=>nomatch I
section
variable(CR CP CS CW CE CD CK:g_)
theorem Bv(Y:x.length<=1000000)(a b c:Option Dat):(bP [] 1 (eF (fIt (fSM iX (ah 0) (fC (.str " ")))) [d_] (.nm 0) (fB (f2 neM (ah 0) (fC (.str "")))) (ah 0))) [a_ (.str x),a,b,c]=.ok (.nx [a_ (.str x),a_ (.lst ((gu x).map .str)),b,c]):=by
 have U:(c_ " ").length=1:=by decide +kernel
 have J:x.length+2<=16777216:=by omega
 have I:=u1 Y;have d:=xG (r:=x);simp[U,J,I,d,gV]
theorem good_1(n:Nat)(x:o_)(W:List o_)(b c:Option Dat):eX [a_ (.str x),a_ (.lst (W.map .str)),b,c]=.ok (if 10∈x.cps.toList\/W=[]then .rt (.bl b_)else .nx [a_ (.str x),a_ (.lst (W.map .str)),b,c]):=by
 have e1:=e_inSD 10 x;rw[<- nl_is]at e1;have e2:=km W [];have e2:eqM (.lst (W.map .str)) (.lst [])=.ok (.bl (q_ (W=[]))):=e2;by_cases h1:10∈x.cps.toList
 ·rw[i_ (.inl h1)];rw[r_ h1]at e1;simp[eX,e1]
 ·rw[f_ h1]at e1;by_cases h2:W=[]
  ·rw[i_ (.inr h2)];rw[r_ h2]at e2;simp[eX,e1,e2]
  ·rw[l_ (λz=>z.elim h1 h2)];rw[f_ h2]at e2;simp[eX,e1,e2]
theorem BJ:∀(r:List Nat) (I:Nat),I<=r.foldl (λI c=>I*10+(c-48)) I
 |[],I=>u_ _|c::r,I=>Dz (by omega) (BJ r (I*10+(c-48)))
theorem C9(y:o_):(g8 [y]).isSome=q_ (y∈([("0":o_),"1","2","3"]:List o_)):=by
 rw[Er,Dh];constructor
 ·intro h;unfold g8 at h;dsimp only at h;cases I:cV y with
  |none=>rw[I]at h;cases h|some i=>
   rw[I]at h;dsimp only at h;by_cases hi:i<=3
   ·unfold cV at I;cases e:y.cps.toList with
    |nil=>rw[e]at I;cases I|cons c r=>
     rw[e]at I;dsimp only at I;by_cases U:lQ y c=e_
     ·rw[i_ U]at I;cases I;unfold lQ at U;rw[e]at U;simp only[n_,Dh,GO,Fy,Bool.and_eq_false_iff,FJ,Bool.not_eq_false']at U;obtain⟨⟨_,a,_⟩,b⟩:=U;have a:48<=c/\c<=57:=EV a;have hv:((Em (c::r):Nat):Int)<=3:=hi;have hv:r.foldl (λJ c=>J*10+(c-48)) (0*10+(c-48))<=3:=Int.ofNat_le.mp hv;cases r with
      |nil=>
       have hv:0*10+(c-48)<=3:=hv;have:c=48\/c=49\/c=50\/c=51:=by omega
       have d:y=⟨#[c]⟩:=oj (by rw[e]);rw[d];rcases this with rfl|rfl|rfl|rfl<;>decide +kernel
      |cons Y r2=>
       exfalso;have h1:c≠48:=λz=>by
        rcases b with q|q
        ·exact q z
        ·rw[q]at e;have:([48]:List Nat)=c::Y::r2:=e;cases this
       have g:=BJ r2 ((0*10+(c-48))*10+(Y-48));have hv:r2.foldl (λJ c=>J*10+(c-48)) ((0*10+(c-48))*10+(Y-48))<=3:=hv;omega
     ·rw[l_ U]at I;cases I
   ·rw[l_ hi]at h;cases h
 ·intro h;simp only[A_,Ez,Ha]at h;rcases h with rfl|rfl|rfl|rfl<;>decide +kernel
theorem min4(a b c d:Int):minD [.lst [.int a,.int b,.int c,.int d]]=.ok (.int (jK (jK (jK a b) c) d)):=rfl
theorem min4_neg(a b c d:Int):jK (jK (jK a b) c) d<0↔(a<0\/b<0\/c<0\/d<0):=by unfold jK;split<;>split<;>split<;>omega
theorem four_ok{c d:o_}:(¬(jK (jK (jK (i7 a 1000000000) (i7 b 1000000000)) (i7 c 1000000000)) (i7 d 1000000000)<0)/\i7 a 1000000000<=i7 b 1000000000)↔∃q,num4 a b c d=a_ q/\∀k,flB ⟨k,q.1,q.2.1,q.2.2.1,q.2.2.2⟩=e_:=by
 rw[min4_neg];have m:(0:Int)<=1000000000:=by decide
 simp only[not_or,rM m,Hf];constructor
 ·rintro⟨⟨⟨i,h1,h2⟩,⟨j,I,e⟩,⟨k,Y,o⟩,⟨l,U,n⟩⟩,hv⟩;rw[g7 h1 h2,g7 I e]at hv;refine⟨(i,j,k,l),by unfold num4;rw[h1,I,Y,U],λz=>?_⟩
  have p1:=iy h1;have p2:=iy I;have p3:=iy Y;have g:=iy U;simp[flB,rgB,hv,p1,p2,p3,g,h2,e,o,n]
 ·rintro⟨⟨i,j,k,l⟩,h,J⟩;have J:=J 0;unfold num4 at h;split at h
  ·rename_i v u t d' h1 I Y U;cases h;simp[flB,rgB]at J;obtain⟨s,⟨_,g2⟩,⟨_,f⟩,⟨_,r⟩,_,p⟩:=J;refine⟨⟨⟨i,h1,g2⟩,⟨j,I,f⟩,⟨k,Y,r⟩,⟨l,U,p⟩⟩,?_⟩
   rw[g7 h1 g2,g7 I f];exact s
  ·cases h
theorem wV(n:Nat){w k c d:o_}(h1:WOk nm)(ha:WOk a)(hb:WOk b)(Z:WOk c)(hd:WOk d)(A f:Option Dat)(hw:w=wF):
  eW [a_ (.str x),a_ (.lst ([w,nm,k,a,b,c,d].map .str)),A,f]=.ok (.rt (.bl (fK w1 [nm,k,a,b,c,d]).isSome)):=by
 have ft:=A3 (w:=w) (r:=[nm,k,a,b,c,d]) (ρ:=[a_ (.str x),a_ (.lst ([w,nm,k,a,b,c,d].map .str)),A,f]) rfl (c_ "flight") 6 7 rfl;rw[r_ ⟨hw,rfl⟩]at ft;have K:aV (.lst ([w,nm,k,a,b,c,d].map .str)) (a_ 3) d_=.ok (.lst ([a,b,c,d].map .str)):=rfl;have L:(bP [] 2 (eF (fIt (fSl aV (ah 1) (cw (fC (.int 3))) cL)) [d_] (.nm 0) ik (fL (aW) (aa (ah 0) (aa (f2 powD (fC (.int 10)) (fC (.int 9))) aJ))))) [a_ (.str x),a_ (.lst ([w,nm,k,a,b,c,d].map .str)),A,f]=.ok (.nx [a_ (.str x),a_ (.lst ([w,nm,k,a,b,c,d].map .str)),a_ (.lst [.int (i7 a 1000000000),.int (i7 b 1000000000),.int (i7 c 1000000000),.int (i7 d 1000000000)]),f]):=by
  have D:bM (.nm 0) ik (fL (aW) (aa (ah 0) (aa (f2 powD (fC (.int 10)) (fC (.int 9))) aJ))) [d_] ([a,b,c,d].map .str)=.ok ([a,b,c,d].map λx=>.int (i7 x 1000000000)):=eP _ _ _ λy s=>⟨[a_ (.str y)],by simp,by
   have s:WOk y:=by simp at s;rcases s with rfl|rfl|rfl|rfl<;>assumption
   simp[sP n s]⟩
  have D:bM (.nm 0) ik (fL (aW) (aa (ah 0) (aa (f2 powD (fC (.int 10)) (fC (.int 9))) aJ))) [d_] [.str a,.str b,.str c,.str d]=.ok [.int (i7 a 1000000000),.int (i7 b 1000000000),.int (i7 c 1000000000),.int (i7 d 1000000000)]:=D;generalize P:(Dat.lst ([w,nm,k,a,b,c,d].map .str))=W at *;simp[K,D,gV]
 have e5:=Bs n h1;have h:=eqS nm (c_ "a1");have v:=neS k (c_ "up");have g1:iA ([w,nm,k,a,b,c,d].map .str) 1=.ok (.str nm):=rfl;have g2:iA ([w,nm,k,a,b,c,d].map .str) 2=.ok (.str k):=rfl;have C:=min4 (i7 a 1000000000) (i7 b 1000000000) (i7 c 1000000000) (i7 d 1000000000);have H:(fK w1 [nm,k,a,b,c,d]).isSome=e_↔(gn nm=e_/\nm≠(c_ "a1")/\k=(c_ "up"))/\(¬(jK (jK (jK (i7 a 1000000000) (i7 b 1000000000)) (i7 c 1000000000)) (i7 d 1000000000)<0)/\i7 a 1000000000<=i7 b 1000000000):=by
  rw[four_ok];unfold fK;dsimp only;have O:(q_ (w1.nf.length<40)&&(q_ (k∈w1.ks)&&(gn nm&& !decide (nm∈w1.nf.map (·.1)))))=q_ (gn nm=e_/\nm≠(c_ "a1")/\k=(c_ "up")):=by
   rw[Er];simp[w1];constructor
   ·rintro⟨p,q,r⟩;exact⟨q,r,p⟩
   ·rintro⟨q,r,p⟩;exact⟨p,q,r⟩
  rw[O];by_cases t:gn nm=e_/\nm≠(c_ "a1")/\k=(c_ "up")
  ·rw[r_ t,i_ rfl];cases g:num4 a b c d with
   |none=>exact⟨λz=>(nomatch z),λ⟨_,q,z,_⟩=>(nomatch z)⟩
   |some q=>
    obtain⟨X,T,R,d'⟩:=q;dsimp only;by_cases u:flB ⟨kI w1.ks k,X,T,R,d'⟩=e_
    ·rw[i_ u];exact⟨λ_=>⟨t,_,rfl,λz=>u⟩,λ_=>rfl⟩
    ·rw[l_ u];exact⟨λz=>(nomatch z),λ⟨_,q,z,y⟩=>by cases z;exact Dc (y _) u⟩
  ·rw[f_ t,l_ (by decide)];exact⟨λz=>(nomatch z),λz=>Dc z.1 t⟩
 generalize hS:(fK w1 [nm,k,a,b,c,d]).isSome=S at *;generalize i7 a 1000000000=e at *;generalize i7 b 1000000000=Y at *;generalize i7 c 1000000000=j at *;generalize i7 d 1000000000=i at *;generalize jK (jK (jK e Y) j) i=o at *;have J:ixD (.lst ([w,nm,k,a,b,c,d].map .str)) (.int 1)=.ok (.str nm):=rfl;have I:ixD (.lst ([w,nm,k,a,b,c,d].map .str)) (.int 2)=.ok (.str k):=rfl;have G:ixD (.lst [.int e,.int Y,.int j,.int i]) (.int 0)=.ok (.int e):=rfl;have F:ixD (.lst [.int e,.int Y,.int j,.int i]) (.int 1)=.ok (.int Y):=rfl;generalize hN:(Dat.lst [.int e,.int Y,.int j,.int i])=N at *;generalize P:(Dat.lst ([w,nm,k,a,b,c,d].map .str))=W at *;have Q:dI [a_ (.str x),a_ W,a_ N,f]=.ok (if gn nm=e_/\nm≠(c_ "a1")/\k=(c_ "up")then .nx [a_ (.str x),a_ W,a_ N,f]else .rt (.bl b_)):=by
  by_cases U:gn nm=e_
  ·by_cases m:nm=c_ "a1"
   ·rw[r_ m]at h;rw[l_ (λz=>z.2.1 m)];simp[dI,J,I,e5,U,h]
   ·rw[f_ m]at h;by_cases l:k=c_ "up"
    ·rw[r_ l]at v;rw[i_ ⟨U,m,l⟩];simp[dI,J,I,e5,U,h,v]
    ·rw[f_ l]at v;rw[l_ (λz=>l z.2.2)];simp[dI,J,I,e5,U,h,v]
  ·rw[l_ (λz=>U z.1)];have U:gn nm=b_:=by simpa using U
   simp[dI,J,I,e5,U]
 unfold eW;rw[BX,ft,ae,i_ rfl,eN,L,ae];dsimp only;rw[eN,Q,ae];have B:¬((gn nm=e_/\nm≠(c_ "a1")/\k=(c_ "up"))/\¬(o<0)/\e<=Y)->S=b_:=λz=>by
  cases S with
  |false=>rfl|true=>exact Dc (H.mp rfl) z
 by_cases g:gn nm=e_/\nm≠(c_ "a1")/\k=(c_ "up")
 ·rw[i_ g];dsimp only;by_cases E:o<0
  ·have:¬(0<=o):=by omega
   rw[B λz=>z.2.1 E];simp[C,geD,leD,this]
  ·have:0<=o:=by omega
   by_cases r2:e<=Y
   ·rw[H.mpr ⟨g,E,r2⟩];simp[C,geD,leD,this,G,F,r2]
   ·rw[B λz=>r2 z.2.2];simp[C,geD,leD,this,G,F,r2]
 ·rw[l_ g,B λz=>g z.1]
theorem wW(n:Nat){w:o_}(m:WOk a)(I:WOk b)(U J:Option Dat)(hw:w=wC):
  eV [a_ (.str x),a_ (.lst ([w,a,b].map .str)),U,J]=.ok (.rt (.bl (fQ w1 [a,b]).isSome)):=by
 have ft:=A3 (w:=w) (r:=[a,b]) (ρ:=[a_ (.str x),a_ (.lst ([w,a,b].map .str)),U,J]) rfl (c_ "closed") 2 3 rfl;rw[r_ ⟨hw,rfl⟩]at ft;have v1:=sP n m 1000000000;have f:=sP n I 1000000000;have o:(fQ w1 [a,b]).isSome=(q_ (0<=i7 a 1000000000)&&q_ (i7 a 1000000000<i7 b 1000000000)):=by
  have c:(0:Int)<=1000000000:=by decide
  have k:=rM (x:=a) c;have g:=rM (x:=b) c;rw[Er];simp only[n_,Dh];unfold fQ;dsimp only;constructor
  ·intro h;split at h
   ·rename_i i j e1 e2;split at h
    ·rename_i I;simp[stB]at I;obtain⟨_,h1,h2,p⟩:=I;rw[g7 e1 (by omega),g7 e2 p];exact⟨h1,h2⟩
    ·cases h
   ·cases h
  ·rintro⟨h1,h2⟩;have p1:∃i,cV a=a_ i/\i<=1000000000:=Hf.mp λz=>by have:=k.mpr z;omega
   have p2:∃i,cV b=a_ i/\i<=1000000000:=Hf.mp λz=>by have:=g.mpr z;omega
   obtain⟨i,e1,l⟩:=p1;obtain⟨j,e2,d⟩:=p2;rw[g7 e1 l]at h1 h2;rw[g7 e2 d]at h2;rw[e1,e2];dsimp only;rw[i_ (by simp[stB,w1,h1,h2,d])];rfl
 rw[o];have q:ixD (.lst ([w,a,b].map .str)) (.int 1)=.ok (.str a):=rfl;have g2:ixD (.lst ([w,a,b].map .str)) (.int 2)=.ok (.str b):=rfl;unfold eV;rw[BX,ft,ae,i_ rfl,eN];generalize (Dat.lst ([w,a,b].map .str))=W at *;generalize i7 a 1000000000=Y at *;generalize i7 b 1000000000=e at *;by_cases h1:0<=Y<;>by_cases h2:Y<e<;>simp[q,g2,v1,f,leD,ltD,h1,h2]
end
section
variable(CR CP CS CW CE CD CK:g_)
theorem fE{I:Type}(o:Option α)(f:α->I):(o.map f).isSome=o.isSome:=by cases o<;>rfl
theorem ws_ne:wF≠wS/\wC≠wS/\wGo≠wS/\wO≠wS/\wC≠wF/\wGo≠wF/\wGo≠wC/\wS≠wF/\wS≠wC/\wS≠wGo/\wO≠wF/\wO≠wC/\wO≠wGo:=by decide +kernel
theorem good_any(n:Nat)(D:x.length<=1000000):k8 [.str x]=.ok (.bl (yV w1 0 x).isSome):=by
 refine AR rfl ?_;show ki [a_ (.str x),d_,d_,d_]=_;unfold ki;rw[eN,Bv D,ae];dsimp only;rw[eN,good_1 0,ae];unfold yV;by_cases J:10∈x.cps.toList
 ·rw[i_ (.inl J),i_ J];rfl
 ·rw[l_ J];have l:=nZ D;cases T:gu x with
  |nil=>rw[i_ (.inr rfl)];rfl|cons hd r=>
   rw[T]at l;have e:∀y∈r,WOk y:=λy p=>l y (by simp[p]);rw[l_ (λz=>z.elim J (λy=>nomatch y))];dsimp only;rw[show sayW w1 0 (hd::r)=if hd=wS then(g8 r).map (λi=>(w1,i))else(dh w1 hd r).map λw'=>(w',0)from rfl];obtain⟨O,n2,K,H,G,F,E,n8,n9,N,t,s,L⟩:=ws_ne;have I:ah 1 [a_ (Dat.str x),a_ (.lst ((hd::r).map .str)),d_,d_]=.ok (.lst ((hd::r).map .str)):=rfl;by_cases f:hd=wF/\r.length=6
   ·obtain⟨f,m⟩:=f;obtain⟨nm,t1,rfl,j⟩:=sR m;obtain⟨k,t2,rfl,v⟩:=sR j;obtain⟨a,t3,rfl,S⟩:=sR v;obtain⟨b,t4,rfl,R⟩:=sR S;obtain⟨c,t5,rfl,Q⟩:=sR R;obtain⟨d,t6,rfl,P⟩:=sR Q;cases len0 P;rw[eN,wV n (e nm (by simp)) (e a (by simp)) (e b (by simp)) (e c (by simp)) (e d (by simp)) d_ d_ f,l_ (by rw[f];exact O),fE];unfold dh;rw[i_ f];rfl
   have c3:eW [a_ (Dat.str x),a_ (.lst ((hd::r).map .str)),d_,d_]=.ok (.nx [a_ (Dat.str x),a_ (.lst ((hd::r).map .str)),d_,d_]):=by have ft:=A3 I (c_ "flight") 6 7 rfl;rw[f_ (show ¬(hd=c_ "flight"/\r.length=6)from f)]at ft;unfold eW;rw[BX,ft,ae,l_ (by decide)];rfl
   rw[eN,c3,ae];dsimp only;by_cases Y:hd=wC/\r.length=2
   ·obtain⟨Y,m⟩:=Y;obtain⟨a,t1,rfl,j⟩:=sR m;obtain⟨b,t2,rfl,v⟩:=sR j;cases len0 v;rw[eN,wW n (e a (by simp)) (e b (by simp)) d_ d_ Y,l_ (by rw[Y];exact n2),fE];unfold dh;rw[l_ (by rw[Y];exact G),i_ Y];rfl
   have Z:eV [a_ (Dat.str x),a_ (.lst ((hd::r).map .str)),d_,d_]=.ok (.nx [a_ (Dat.str x),a_ (.lst ((hd::r).map .str)),d_,d_]):=by have ft:=A3 I (c_ "closed") 2 3 rfl;rw[f_ (show ¬(hd=c_ "closed"/\r.length=2)from Y)]at ft;unfold eV;rw[BX,ft,ae,l_ (by decide)];rfl
   rw[eN,Z,ae];dsimp only;have C:=Bx hd r;have e3:=eqS hd wGo;have e3:eqM (.str hd) (.str (c_ "gone"))=.ok (.bl (q_ (hd=wGo))):=e3;by_cases U:hd=wGo
   ·have e4:=km (hd::r) [wGo,(c_ "a1")];have e4:eqM (.lst ((hd::r).map .str)) (.lst [.str (c_ "gone"),.str (c_ "a1")])=_:=e4;rw[r_ U]at e3;have B:eU [a_ (Dat.str x),a_ (.lst ((hd::r).map .str)),d_,d_]=.ok (.rt (.bl (q_ (hd::r=[wGo,(c_ "a1")])))):=by
     generalize (Dat.lst ((hd::r).map .str))=W at *;simp[eU,C,e3,e4]
    rw[eN,B,l_ (by rw[U];exact K),fE];unfold dh;rw[l_ (by rw[U];exact F),l_ (by rw[U];exact E),i_ U];have:(ql w1 r).isSome=q_ (hd::r=[wGo,(c_ "a1")]):=by
     rw[Er,Dh,U];unfold ql;constructor
     ·intro h;split at h
      ·split at h
       ·rename_i y p;simp[w1]at p;rw[p]
       ·cases h
      ·cases h
     ·intro h;cases h;dsimp only;rw[i_ (by simp[w1])];rfl
    rw[this];rfl
   rw[f_ U]at e3;have B:eU [a_ (Dat.str x),a_ (.lst ((hd::r).map .str)),d_,d_]=.ok (.nx [a_ (Dat.str x),a_ (.lst ((hd::r).map .str)),d_,d_]):=by generalize (Dat.lst ((hd::r).map .str))=W at *;simp[eU,C,e3]
   rw[eN,B,ae];dsimp only;by_cases g:hd=wS/\r.length=1
   ·obtain⟨g,m⟩:=g;obtain⟨y,t1,rfl,j⟩:=sR m;cases len0 j;have ft:=A3 I (c_ "shift") 1 2 rfl;rw[r_ (show hd=c_ "shift"/\[y].length=1 from⟨g,rfl⟩)]at ft;have u:=inS y [(c_ "0"),(c_ "1"),(c_ "2"),(c_ "3")];have u:inM (.str y) (.lst [.str (c_ "0"),.str (c_ "1"),.str (c_ "2"),.str (c_ "3")])=_:=u;have X:ixD (.lst ([hd,y].map .str)) (.int 1)=.ok (.str y):=rfl;rw[eN,i_ g,fE,C9];have A:eS [a_ (Dat.str x),a_ (.lst ([hd,y].map .str)),d_,d_]=.ok (.rt (.bl (q_ (y∈[(c_ "0"),(c_ "1"),(c_ "2"),(c_ "3")])))):=by
     unfold eS;rw[BX,ft,ae,i_ rfl];generalize (Dat.lst ([hd,y].map .str))=W at *;simp[X,u]
    rw[A];rfl
   have A:eS [a_ (Dat.str x),a_ (.lst ((hd::r).map .str)),d_,d_]=.ok (.nx [a_ (Dat.str x),a_ (.lst ((hd::r).map .str)),d_,d_]):=by have ft:=A3 I (c_ "shift") 1 2 rfl;rw[f_ (show ¬(hd=c_ "shift"/\r.length=1)from g)]at ft;unfold eS;rw[BX,ft,ae,l_ (by decide)];rfl
   rw[eN,A,ae];dsimp only;have e5:=km (hd::r) [wO];have e5:eqM (.lst ((hd::r).map .str)) (.lst [.str (c_ "opened")])=_:=e5;have w:(if hd=wS then(g8 r).map (λi=>(w1,i))else(dh w1 hd r).map λw'=>(w',(0:Int))).isSome=q_ (hd::r=[wO]):=by
    by_cases h1:hd=wS
    ·rw[i_ h1,fE,f_ (λz=>by cases z;exact H h1)];have:r.length≠1:=λz=>g ⟨h1,z⟩;rw[show g8 r=d_ by unfold g8;split<;>first|(exact Dc rfl this)|rfl];rfl
    ·rw[l_ h1,fE];unfold dh;by_cases h2:hd=wF
     ·rw[i_ h2,f_ (λz=>by cases z;exact t h2)];have:r.length≠6:=λz=>f ⟨h2,z⟩;rw[show fK w1 r=d_ by unfold fK;split<;>first|(exact Dc rfl this)|rfl];rfl
     ·rw[l_ h2];by_cases q:hd=wC
      ·rw[i_ q,f_ (λz=>by cases z;exact s q)];have:r.length≠2:=λz=>Y ⟨q,z⟩;rw[show fQ w1 r=d_ by unfold fQ;split<;>first|(exact Dc rfl this)|rfl];rfl
      ·rw[l_ q,l_ U];by_cases o:hd=wO/\r=[]
       ·rw[i_ o,r_ (by rw[o.1,o.2])];rfl
       ·rw[l_ o,f_ (λz=>o (by cases z;exact⟨rfl,rfl⟩))];rfl
   rw[w];generalize (Dat.lst ((hd::r).map .str))=W at *;simp[e5]
end
theorem addS(h:a.length+b.length<=16777216):cT (.str a) (.str b)=.ok (.str (a++b)):=by show(if a.length+b.length<=m_ then _ else _)=_;rw[i_ (by rw[Dq];exact h)]
theorem yj(I:o_):∀xs:List o_,(Eg I xs).length<=(xs.map (·.length)).sum+xs.length*I.length
 |[]=>FK _|[a]=>by rw[join_one];simp|a::b::r=>by have J:=yj I (b::r);rw[yi,pS,pS];simp only[Dp,List.sum_cons,CZ,Nat.add_mul]at J ⊢;omega
theorem joinB{xs:List o_}(h:∀x∈xs,x.length<=5200)(J:xs.length<=110):ie (.str " ") (.lst (xs.map .str))=.ok (.str (Eg " " xs))/\(Eg (c_ " ") xs).length<=1000000:=by
 have h1:=lenLe xs 5200 h;have I:(c_ " ").length=1:=by decide +kernel
 have h2:=yj (c_ " ") xs;rw[I]at h2;refine⟨?_,by omega⟩
 rw[xa,i9,ae,i_ (by rw[Dq,I];omega)]
noncomputable def L14:List o_:=["flight b1 up 3 9 5 2","closed 4 7","gone a1","opened","shift 2","","   ","# closed 4 7","kind b","gap up up 3","beside up up 3","shift 4","gone b","flight a1 up 3 9 5 2"]
theorem L14_ok:∀x∈L14,x.length<=20/\(Ep x " ").length<=10/\Ep x " "≠[]/\(∀y∈Ep x " ",y.length<=20)/\∀s,s<22->(Hk x d_ (a_ ((s:Nat):Int))).length<=20/\(Hk x (a_ ((s:Nat):Int)) d_).length<=20:=by decide +kernel
section
variable(CR CP CS CW CE CD CK:g_)
theorem row_any(n:Nat)(c:Int):∃x∈L14,ju [.int c]=.ok (.str x):=by
 have U:0<=c*48271%2147483647%14:=Es _ (by decide);have h1:c*48271%2147483647%14<14:=Ej _ (by decide);obtain⟨k,J⟩:=D5 U;have I:k<L14.length:=by show k<14;omega
 refine⟨L14[k],Fd I,?_⟩
 have g:=AF I;have g:iA ([("flight b1 up 3 9 5 2":o_),"closed 4 7","gone a1","opened","shift 2","","   ","# closed 4 7","kind b","gap up up 3","beside up up 3","shift 4","gone b","flight a1 up 3 9 5 2"].map Dat.str) (c*48271%2147483647%14)=.ok (.str L14[k]):=by rw[J];exact g
 simp only[Dp,HK]at g;have Y:cT (.lst [.str (c_ "flight b1 up 3 9 5 2"),.str (c_ "closed 4 7"),.str (c_ "gone a1"),.str (c_ "opened"),.str (c_ "shift 2"),.str (c_ ""),.str (c_ "   "),.str (c_ "# closed 4 7")]) (.lst [.str (c_ "kind b"),.str (c_ "gap up up 3"),.str (c_ "beside up up 3"),.str (c_ "shift 4"),.str (c_ "gone b"),.str (c_ "flight a1 up 3 9 5 2")])=.ok (.lst [.str (c_ "flight b1 up 3 9 5 2"),.str (c_ "closed 4 7"),.str (c_ "gone a1"),.str (c_ "opened"),.str (c_ "shift 2"),.str (c_ ""),.str (c_ "   "),.str (c_ "# closed 4 7"),.str (c_ "kind b"),.str (c_ "gap up up 3"),.str (c_ "beside up up 3"),.str (c_ "shift 4"),.str (c_ "gone b"),.str (c_ "flight a1 up 3 9 5 2")]):=rfl;simp[ju,qX,g,Y]
theorem pI(ws:List o_)(lo hi:Option Int):aV (.lst (ws.map .str)) lo hi=.ok (.lst ((iQ ws lo hi).map .str)):=by rw[t9];unfold iQ;simp
theorem xu{ws:List o_}{lo hi:Option Int}(h:y∈iQ ws lo hi):y∈ws:=by unfold iQ at h;exact List.mem_of_mem_drop (List.mem_of_mem_take h)
theorem pJ(ws:List o_)(lo hi:Option Int):(iQ ws lo hi).length<=ws.length:=by unfold iQ;simp only[Gi,HU];omega
theorem tV{a b:List o_}(h:a.length+b.length<=1000):cT (.lst (a.map .str)) (.lst (b.map .str))=.ok (.lst ((a++b).map .str)):=by rw[Dw];exact i_ (by rw[y_,y_,Dq];omega)
theorem join2{fB:ai->M Dat}{P:List o_}(Y:fA ρ=.ok (.lst (P.map .str)))(U:fB ρ=.ok (.lst (Q.map .str)))(h:∀x∈P++Q,x.length<=5200)(I:(P++Q).length<=110):∃y,(cy (fSM ie (fC (.str " ")) (f2 cT fA fB))) ρ=.ok (.rt (.str y))/\y.length<=1000000:=by
 obtain⟨j1,J⟩:=joinB h I;refine⟨_,?_,J⟩
 have c:=tV (a:=P) (b:=Q) (by simp at I;omega);have e:(f2 cT fA fB) ρ=.ok (.lst ((P++Q).map .str)):=by rw[e_2,Y,ae,U,ae,c]
 have e2:(fSM ie (fC (.str " ")) (f2 cT fA fB)) ρ=.ok (.str (Eg (c_ " ") (P++Q))):=by rw[e_fSM,e_c,ae,e_isS,i_ rfl,e,ae,j1]
 rw[e_ret,e2,ae]
theorem join3{fM fB:ai->M Dat}{P N:List o_}(Y:fA ρ=.ok (.lst (P.map .str)))(J:fM ρ=.ok (.lst (N.map .str)))(U:fB ρ=.ok (.lst (Q.map .str)))(h:∀x∈(P++N)++Q,x.length<=5200)(I:((P++N)++Q).length<=110):∃y,(cy (fSM ie (fC (.str " ")) (f2 cT (f2 cT fA fM) fB))) ρ=.ok (.rt (.str y))/\y.length<=1000000:=by refine join2 (P:=P++N) (Q:=Q) ?_ U h I;rw[e_2,Y,ae,J,ae];exact tV (by simp at I;omega)
theorem add3{fM fB:ai->M Dat}{c:o_}(U:fA ρ=.ok (.str a))(I:fM ρ=.ok (.str b))(J:fB ρ=.ok (.str c))(h1:a.length<=100)(h2:b.length<=100)(Y:c.length<=100):∃y,(cy (f2 cT (f2 cT fA fM) fB)) ρ=.ok (.rt (.str y))/\y.length<=1000000:=by
 refine⟨a++b++c,?_,by rw[pS,pS];omega⟩
 rw[e_ret,e_2,e_2,U,ae,I,ae,addS (by omega),ae,J,ae,addS (by rw[pS];omega),ae]
theorem bG{K:ai->M Flo}(h:t ρ=.ok b_):(bH (sIf t A bW) K) ρ=K ρ:=by rw[eN,BX,h,ae,l_ (by decide)];rfl
theorem iS{K:ai->M Flo}(h:t ρ=.ok e_)(e:A ρ=.ok (.rt (.str y))):(bH (sIf t A bW) K) ρ=.ok (.rt (.str y)):=by rw[eN,BX,h,ae,i_ rfl,e,ae]
theorem bent_any(n:Nat)(hx:x∈L14)(c:Int):∃y,iz [.str x,.int c]=.ok (.str y)/\y.length<=1000000:=by
 obtain⟨x1,x2,x3,Z,x5⟩:=L14_ok x hx;generalize hm:c*69621%2147483629=m;have m0:0<=m:=by rw[<- hm];exact Es _ (by decide)
 generalize S:Ep x (c_ " ")=ws at *;have wl:0<ws.length:=JC.mpr x3;have q:(0:Int)<(ws.length:Int):=by omega
 have R:(c_ " ").length=1:=by decide +kernel
 have L:x.length+2<=16777216:=by omega
 have O:x.length<=16777216:=by omega
 have d1:m/16%(ws.length:Int)<(ws.length:Int):=Ej _ q;have d0:0<=m/16%(ws.length:Int):=Es _ (by omega);have s1:m/16%((x.length:Int)+1)<(x.length:Int)+1:=Ej _ (by omega);have s0:0<=m/16%((x.length:Int)+1):=Es _ (by omega);generalize ha:m/16%(ws.length:Int)=a at *;generalize hs:m/16%((x.length:Int)+1)=s at *;have lp:0<(x.length:Int)+1:=by omega
 have e0:iC [a_ (.str x),a_ (.int c),d_,d_,d_,d_,d_]=(bH (bp) (bH (bo) (bH (bj) (bH (bh) (bH (bg) (bH (bc) (bH (ba) (bH (b9) (cy (ah 0)))))))))) [a_ (.str x),a_ (.int c),a_ (.int m),a_ (.lst (ws.map .str)),a_ (.int a),a_ (.int s),a_ (.int (m%16))]:=by unfold iC;simp[R,L,hm,S,e_mod q,ha,hs,O,e_mod lp]
 obtain⟨Y,rfl⟩:=D5 d0;obtain⟨t,rfl⟩:=D5 s0;obtain⟨y1,y2⟩:=x5 t (by omega);generalize f:[a_ (Dat.str x),a_ (.int c),a_ (.int m),a_ (.lst (ws.map .str)),a_ (.int (Y:Int)),a_ (.int (t:Int)),a_ (.int (m%16))]=ρ at *;have E:ah 0 ρ=.ok (.str x):=by rw[<- f];rfl
 have v2:ah 2 ρ=.ok (.int m):=by rw[<- f];rfl
 have D:ah 3 ρ=.ok (.lst (ws.map .str)):=by rw[<- f];rfl
 have C:ah 4 ρ=.ok (.int (Y:Int)):=by rw[<- f];rfl
 have v5:ah 5 ρ=.ok (.int (t:Int)):=by rw[<- f];rfl
 have v6:ah 6 ρ=.ok (.int (m%16)):=by rw[<- f];rfl
 have I:∀j:Int,(fB (f2 eqM (ah 6) (fC (.int j)))) ρ=.ok (q_ (m%16=j)):=λj=>by
  have:(f2 eqM (ah 6) (fC (.int j))) ρ=.ok (.bl (q_ (m%16=j))):=by rw[e_2,v6,ae];exact eqI _ _
  show((f2 eqM (ah 6) (fC (.int j))) ρ).bind asB=_;rw[this];rfl
 have B:(fSl aV (ah 3) cL (cw (ah 4))) ρ=.ok (.lst ((iQ ws d_ (a_ (Y:Int))).map .str)):=by show((ah 3) ρ).bind _=_;rw[D,ae];show(((ah 4) ρ).bind λd=>(asI d).bind λi=>.ok (a_ i)).bind _=_;rw[C];exact pI ws _ _
 have K:(fSl aV (ah 3) (cw (f2 cT (ah 4) (fC (.int 1)))) cL) ρ=.ok (.lst ((iQ ws (a_ ((Y:Int)+1)) d_).map .str)):=by show((ah 3) ρ).bind _=_;rw[D,ae];show((((ah 4) ρ).bind λa=>cT a (.int 1)).bind λd=>(asI d).bind λi=>.ok (a_ i)).bind _=_;rw[C];exact pI ws _ _
 have cC:(fSl aV (ah 3) (cw (ah 4)) cL) ρ=.ok (.lst ((iQ ws (a_ (Y:Int)) d_).map .str)):=by show((ah 3) ρ).bind _=_;rw[D,ae];show(((ah 4) ρ).bind λd=>(asI d).bind λi=>.ok (a_ i)).bind _=_;rw[C];exact pI ws _ _
 have kA:=pJ ws d_ (a_ (Y:Int));have kB:=pJ ws (a_ ((Y:Int)+1)) d_;have kC:=pJ ws (a_ (Y:Int)) d_;have mA:∀{lo hi:Option Int} {y:o_},y∈iQ ws lo hi->y.length<=5200:=λh=>Dz (Z _ (xu h)) (by decide);have G:∀{N:List o_} {lo hi Q T:Option Int},(∀y∈N,y.length<=5200)->∀y∈(iQ ws lo hi++N)++iQ ws Q T,y.length<=5200:=λhN y J=>by
  rcases Dv.mp J with J|J
  ·rcases Dv.mp J with J|J
   ·exact mA J
   ·exact hN y J
  ·exact mA J
 have wx:ixD (.lst (ws.map .str)) (.int (Y:Int))=.ok (.str (ws[Y]'(by omega))):=AF (r:=ws) (i:=Y) (by omega);have wxl:(ws[Y]'(by omega)).length<=20:=Z _ (Fd _);have sA:(fSl jR (ah 0) cL (cw (ah 5))) ρ=.ok (.str (Hk x d_ (a_ (t:Int)))):=by show((ah 0) ρ).bind _=_;rw[E,ae];show(((ah 5) ρ).bind λd=>(asI d).bind λi=>.ok (a_ i)).bind _=_;rw[v5];exact i_ (by rw[Dq];exact O)
 have sB:(fSl jR (ah 0) (cw (ah 5)) cL) ρ=.ok (.str (Hk x (a_ (t:Int)) d_)):=by show((ah 0) ρ).bind _=_;rw[E,ae];show(((ah 5) ρ).bind λd=>(asI d).bind λi=>.ok (a_ i)).bind _=_;rw[v5];exact i_ (by rw[Dq];exact O)
 have U:∀y:o_,y.length<=1000000->(bH (bp) (bH (bo) (bH (bj) (bH (bh) (bH (bg) (bH (bc) (bH (ba) (bH (b9) (cy (ah 0)))))))))) ρ=.ok (.rt (.str y))->∃y,iz [.str x,.int c]=.ok (.str y)/\y.length<=1000000:=λy J e=>⟨y,AR rfl (by show iC [a_ (.str x),a_ (.int c),d_,d_,d_,d_,d_]=_;rw[e0,e]),J⟩
 have P:∀k:Int,0<k->k<18446744073709551616->∀j:Int,0<j->(f2 kY (f2 gK (ah 2) (fC (.int k))) (fC (.int j))) ρ=.ok (.int (m/k%j)):=λk h1 h2 j g=>by rw[e_2,e_2,v2,ae];show((gK (.int m) (.int k)).bind λa=>kY a (.int j))=_;rw[show gK (.int m) (.int k)=.ok (.int (m/k))from i_ (by simp[h1,h2]),ae];exact i_ g
 by_cases h1:m%16=1
 ·obtain⟨y,e,J⟩:=join2 B K (λy J=>(Dv.mp J).elim mA mA) (by rw[CV];omega);exact U y J (by unfold bp bo bj bh bg bc ba b9;rw[iS (by rw[I,r_ h1]) e])
 by_cases h2:m%16=2
 ·obtain⟨y,e,J⟩:=join3 (fM:=fL bT (aa (fC (.str "7")) aJ)) (N:=[c_ "7"]) B rfl cC (G (by decide +kernel)) (by simp only[CV,CZ,EZ];omega);exact U y J (by unfold bp bo bj bh bg bc ba b9;rw[bG (by rw[I,f_ h1]),iS (by rw[I,r_ h2]) e])
 by_cases g:m%16=3
 ·have z1:(c_ "0").length=1:=by decide +kernel
  have l:(f2 cT (fC (.str "0")) (f2 ixD (ah 3) (ah 4))) ρ=.ok (.str ("0"++ws[Y]'(by omega))):=by rw[e_2,e_2,D,C];show(ixD (.lst (ws.map .str)) (.int (Y:Int))).bind _=_;rw[wx,ae];exact addS (by omega)
  obtain⟨y,e,J⟩:=join3 (fM:=fL bT (aa (f2 cT (fC (.str "0")) (f2 ixD (ah 3) (ah 4))) aJ)) (N:=["0"++ws[Y]'(by omega)]) B (by show(((f2 cT (fC (.str "0")) (f2 ixD (ah 3) (ah 4))) ρ).bind _).bind _=_;rw[l];rfl) K (G λy J=>by rw[DK.mp J,pS];omega) (by simp only[CV,CZ,EZ];omega);exact U y J (by unfold bp bo bj bh bg bc ba b9;rw[bG (by rw[I,f_ h1]),bG (by rw[I,f_ h2]),iS (by rw[I,r_ g]) e])
 by_cases p:m%16=4
 ·have F:0<=m/256%2:=Es _ (by decide);have q1:m/256%2<2:=Ej _ (by decide);have l9:(Io (c_ "9") 11).length<=5200/\(Io (c_ "9") 5000).length<=5200:=by decide +kernel
  have l:∃z:o_,z.length<=5200/\(f2 zt (fC (.str "9")) (f2 ixD (fL bT (aa (fC (.int 11)) (aa (fC (.int 5000)) aJ))) (f2 kY (f2 gK (ah 2) (fC (.int 256))) (fC (.int 2))))) ρ=.ok (.str z):=by
   have R:(c_ "9").length<=100:=by decide +kernel
   have go:∀k:Int,(f2 kY (f2 gK (ah 2) (fC (.int 256))) (fC (.int 2))) ρ=.ok (.int k)->∀v:Int,ixD (.lst [.int 11,.int 5000]) (.int k)=.ok (.int v)->0<=v/\v<=10000->(f2 zt (fC (.str "9")) (f2 ixD (fL bT (aa (fC (.int 11)) (aa (fC (.int 5000)) aJ))) (f2 kY (f2 gK (ah 2) (fC (.int 256))) (fC (.int 2))))) ρ=.ok (.str (Io (c_ "9") v)):=λk h1 v h2 g=>by rw[e_2];show((((f2 kY (f2 gK (ah 2) (fC (.int 256))) (fC (.int 2))) ρ).bind λb=>ixD (.lst [.int 11,.int 5000]) b).bind λb=>zt (.str "9") b)=_;rw[h1,ae,h2,ae];exact i_ ⟨R,g⟩
   have e:=P 256 (by decide) (by decide) 2 (by decide);rcases(by omega:m/256%2=0\/m/256%2=1)with h|h
   ·rw[h]at e;exact⟨_,l9.1,go 0 e 11 rfl (by decide)⟩
   ·rw[h]at e;exact⟨_,l9.2,go 1 e 5000 rfl (by decide)⟩
  obtain⟨z,u,l⟩:=l;obtain⟨y,e,J⟩:=join3 (fM:=fL bT (aa (f2 zt (fC (.str "9")) (f2 ixD (fL bT (aa (fC (.int 11)) (aa (fC (.int 5000)) aJ))) (f2 kY (f2 gK (ah 2) (fC (.int 256))) (fC (.int 2))))) aJ)) (N:=[z]) B (by show((_:M Dat).bind _).bind _=_;rw[l];rfl) K (G λy J=>by rw[DK.mp J];exact u) (by simp only[CV,CZ,EZ];omega);exact U y J (by unfold bp bo bj bh bg bc ba b9;rw[bG (by rw[I,f_ h1]),bG (by rw[I,f_ h2]),bG (by rw[I,f_ g]),iS (by rw[I,r_ p]) e])
 by_cases A:m%16=5
 ·have F:0<=m/256%4:=Es _ (by decide);have q1:m/256%4<4:=Ej _ (by decide);have e5:=P 256 (by decide) (by decide) 4 (by decide);obtain⟨k,w⟩:=D5 F;have o:k<([("-1":o_),"+1","1_0","x"]:List o_).length:=by show k<4;omega
  have g5:=AF o;have l:(f2 ixD (fL bT (aa (fC (.str "-1")) (aa (fC (.str "+1")) (aa (fC (.str "1_0")) (aa (fC (.str "x")) aJ))))) (f2 kY (f2 gK (ah 2) (fC (.int 256))) (fC (.int 4)))) ρ=.ok (.str (([("-1":o_),"+1","1_0","x"]:List o_)[k]'o)):=by rw[e_2];show(((f2 kY (f2 gK (ah 2) (fC (.int 256))) (fC (.int 4))) ρ).bind λb=>ixD (.lst [.str "-1",.str "+1",.str "1_0",.str "x"]) b)=_;rw[e5,ae,w];exact g5
  have u:(([("-1":o_),"+1","1_0","x"]:List o_)[k]'o).length<=5200:=(by decide +kernel:∀y∈([("-1":Str),"+1","1_0","x"]:List Str),y.length<=5200) _ (Fd _);generalize (([("-1":o_),"+1","1_0","x"]:List o_)[k]'o)=z at *;obtain⟨y,e,J⟩:=join3 (fM:=fL bT (aa (f2 ixD (fL bT (aa (fC (.str "-1")) (aa (fC (.str "+1")) (aa (fC (.str "1_0")) (aa (fC (.str "x")) aJ))))) (f2 kY (f2 gK (ah 2) (fC (.int 256))) (fC (.int 4)))) aJ)) (N:=[z]) B (by show((_:M Dat).bind _).bind _=_;rw[l];rfl) K (G λy J=>by rw[DK.mp J];exact u) (by simp only[CV,CZ,EZ];omega);exact U y J (by unfold bp bo bj bh bg bc ba b9;rw[bG (by rw[I,f_ h1]),bG (by rw[I,f_ h2]),bG (by rw[I,f_ g]),bG (by rw[I,f_ p]),iS (by rw[I,r_ A]) e])
 by_cases H:m%16=6
 ·obtain⟨y,e,J⟩:=add3 (fM:=fC (.str "\n")) (b:=c_ "\n") sA rfl sB (by omega) (by decide +kernel) (by omega);exact U y J (by unfold bp bo bj bh bg bc ba b9;rw[bG (by rw[I,f_ h1]),bG (by rw[I,f_ h2]),bG (by rw[I,f_ g]),bG (by rw[I,f_ p]),bG (by rw[I,f_ A]),iS (by rw[I,r_ H]) e])
 by_cases W:m%16=7
 ·have F:0<=m/4096%8:=Es _ (by decide);have q1:m/4096%8<8:=Ej _ (by decide);have e7:=P 4096 (by decide) (by decide) 8 (by decide);have l:∃z:o_,z.length<=100/\wR (.str "abz09 #~") (.int (m/4096%8))=.ok (.str z):=by
   obtain⟨k,w⟩:=D5 F;rw[w];have:k<8:=by omega
   have X:∀k:Nat,k<8->∃z:o_,z.length<=100/\wR (.str "abz09 #~") (.int (k:Int))=.ok (.str z):=by
    intro k w
    match k,w with
    |0,_=>exact⟨"a",by decide +kernel,rfl⟩|1,_=>exact⟨"b",by decide +kernel,rfl⟩|2,_=>exact⟨"z",by decide +kernel,rfl⟩|3,_=>exact⟨"0",by decide +kernel,rfl⟩|4,_=>exact⟨"9",by decide +kernel,rfl⟩|5,_=>exact⟨" ",by decide +kernel,rfl⟩|6,_=>exact⟨"#",by decide +kernel,rfl⟩|7,_=>exact⟨"~",by decide +kernel,rfl⟩
   exact X k this
  obtain⟨z,u,l⟩:=l;obtain⟨y,e,J⟩:=add3 (fM:=f2 wR (fC (.str "abz09 #~")) (f2 kY (f2 gK (ah 2) (fC (.int 4096))) (fC (.int 8)))) (b:=z) sA (by rw[e_2];show(((f2 kY (f2 gK (ah 2) (fC (.int 4096))) (fC (.int 8))) ρ).bind λb=>wR (.str "abz09 #~") b)=_;rw[e7,ae,l]) sB (by omega) u (by omega);exact U y J (by unfold bp bo bj bh bg bc ba b9;rw[bG (by rw[I,f_ h1]),bG (by rw[I,f_ h2]),bG (by rw[I,f_ g]),bG (by rw[I,f_ p]),bG (by rw[I,f_ A]),bG (by rw[I,f_ H]),iS (by rw[I,r_ W]) e])
 by_cases h8:m%16=8
 ·obtain⟨y,e,J⟩:=add3 (fA:=fC (.str " ")) (fM:=ah 0) (fB:=fC (.str "  ")) (a:=c_ " ") (c:=c_ "  ") rfl E rfl (by decide +kernel) (by omega) (by decide +kernel);exact U y J (by unfold bp bo bj bh bg bc ba b9;rw[bG (by rw[I,f_ h1]),bG (by rw[I,f_ h2]),bG (by rw[I,f_ g]),bG (by rw[I,f_ p]),bG (by rw[I,f_ A]),bG (by rw[I,f_ H]),bG (by rw[I,f_ W]),iS (by rw[I,r_ h8]) e])
 exact U x (by omega) (by unfold bp bo bj bh bg bc ba b9;rw[bG (by rw[I,f_ h1]),bG (by rw[I,f_ h2]),bG (by rw[I,f_ g]),bG (by rw[I,f_ p]),bG (by rw[I,f_ A]),bG (by rw[I,f_ H]),bG (by rw[I,f_ W]),bG (by rw[I,f_ h8]),e_ret,E,ae])
end
section
variable(CR CP CS CW CE CD CK:g_)
theorem sign20{k:Int}(U:0<=k)(h1:k<20):∃c:Nat,wR (.str "abz09 #+flightgonesd") (.int k)=.ok (.str ⟨#[c]⟩):=by
 obtain⟨j,rfl⟩:=D5 U;have:j<20:=by omega
 have I:∀j:Nat,j<20->wR (.str "abz09 #+flightgonesd") (.int (j:Int))=.ok (.str ⟨#[(c_ "abz09 #+flightgonesd").cps.getD j 0]⟩):=by
  intro j J
  match j,J with
  |0,_=>rfl|1,_=>rfl|2,_=>rfl|3,_=>rfl|4,_=>rfl|5,_=>rfl|6,_=>rfl|7,_=>rfl|8,_=>rfl|9,_=>rfl|10,_=>rfl|11,_=>rfl|12,_=>rfl|13,_=>rfl|14,_=>rfl|15,_=>rfl|16,_=>rfl|17,_=>rfl|18,_=>rfl|19,_=>rfl|j+20,h=>exact Dc h (by omega)
 exact⟨_,I j this⟩
theorem qI(n:Nat)(I:Option Dat):∀(L:List Int) (t:o_) (m:Int) (z:Option Dat),t.length+L.length<=1000->∃t' U J,t'.length<=t.length+L.length/\mh (.nm 3) (cR) (L.map .int) [I,a_ (.str t),a_ (.int m),z]=.ok (.nx [I,a_ (.str t'),a_ (.int U),J])
 |[],t,m,z,_=>⟨t,m,z,u_ _,rfl⟩|k::L,t,m,z,h=>by
  have a:0<=(m/7+k)%20:=Es _ (by decide);have h1:(m/7+k)%20<20:=Ej _ (by decide);obtain⟨c,Y⟩:=sign20 a h1;have e:(⟨#[c]⟩:o_).length=1:=rfl;simp only[CZ]at h;have d:cT (.str t) (.str ⟨#[c]⟩)=.ok (.str (t++⟨#[c]⟩)):=addS (by omega);obtain⟨t',U,J,b,g2⟩:=qI n I L (t++⟨#[c]⟩) (m/7+k) (a_ (.int k)) (by rw[pS];omega);refine⟨t',U,J,by rw[pS]at b;simp only[CZ];omega,?_⟩
  have body:cR [I,a_ (.str t),a_ (.int m),a_ (.int k)]=.ok (.nx [I,a_ (.str (t++⟨#[c]⟩)),a_ (.int (m/7+k)),a_ (.int k)]):=by simp[cR,Y,d]
  rw[Dp];simp[mh,body,g2]
theorem yW(m:Nat):gD 0 m=((DY m).map λi:Nat=>(i:Int)).map .int:=by rw[B3,Dj];rfl
theorem Al(n:Nat)(c:Int):∃y,dC [.int c]=.ok (.str y)/\y.length<=1000000:=by
 have U:0<=c%1000000000000000000000000000000%12:=Es _ (by decide);have f:c%1000000000000000000000000000000%12<12:=Ej _ (by decide);obtain⟨k,b⟩:=D5 U;have a:k<12:=by omega
 obtain⟨t',g,e,d,g2⟩:=qI n (a_ (.int c)) ((DY k).map λi:Nat=>(i:Int)) "" (c%1000000000000000000000000000000) d_ (by have:(c_ "").length=0:=rfl;simp[this];omega)
 have Y:(c_ "").length=0:=rfl;refine⟨t',?_,by rw[Y,y_,J5]at d;omega⟩
 have I:powD (.int 10) (.int 30)=.ok (.int 1000000000000000000000000000000):=rfl;rw[<- yW]at g2;have J:rng1 [.int (k:Int)]=.ok (gD 0 k):=e_rng1 (j:=(k:Int)) (by rw[yM,r_ (show -(2^62)<=(k:Int) by omega),r_ (show(k:Int)<2^62 by omega)];rfl);simp[dC,ij,I,b,J,g2]
noncomputable def TX:o_:="kind up\ngap up up 2\nflight a1 up 1 8 4 3\n"
noncomputable def s1W:WS:=⟨["up"],[(("up","up"),2)],[],[("a1",⟨0,1,8,4,3⟩)],[]⟩
theorem run1:w9 1 (eC TX) w0=.inr s1W:=by kernel_rfl
theorem sh1:s1W.sh=w1:=by kernel_rfl
theorem tx1:w1.tx=TX:=by decide +kernel
end
section
variable(CR CP CS CW CE CD CK:g_)
theorem words_sh:gu "shift 1"=[wS,"1"]/\gu "closed 2 3"=[wC,"2","3"]/\10∉(c_ "shift 1").cps.toList/\10∉(c_ "closed 2 3").cps.toList/\(c_ "shift 1").length<=1000000/\(c_ "closed 2 3").length<=1000000/\cV "1"=a_ 1/\cV "2"=a_ 2/\cV "3"=a_ 3:=by decide +kernel
theorem xI(I:CR≠CP)(n:Nat)(h:w.SG)(k:Int)(B:w.cs.length<=1):∃Y,lS CR CP CS CW CE CD CK n (w.obj CR CP CS) k (.str "shift 1")=.ok (w.obj CR CP CS,1)/\lS CR CP CS CW CE CD CK n (w.obj CR CP CS) 1 (.str "closed 2 3")=.ok Y:=by
 obtain⟨U,J,q,p,o,m,l,j,g⟩:=words_sh;obtain⟨A,n2,y,x,b,v,u,t,s,f,e,d,c⟩:=ws_ne;have e1:=vU CR CP CS CW CE CD CK I n h k o (λr z=>by rw[U]at z;cases z);have e2:=vU CR CP CS CW CE CD CK I n h 1 m (λr z=>by rw[J]at z;cases z);have a:yV w k (c_ "shift 1")=a_ (w,1):=by unfold yV;rw[l_ q,U];show(if wS=wS then(g8 [c_ "1"]).map (λi=>(w,i))else(dh w wS [c_ "1"]).map λw'=>(w',k))=_;rw[i_ rfl];unfold g8;dsimp only;rw[l];rfl
 have r2:yV w 1 (c_ "closed 2 3")=a_ ({w with cs:=w.cs++[(2,3)]},1):=by unfold yV;rw[l_ p,J];show(if wC=wS then(g8 [c_ "2",c_ "3"]).map (λi=>(w,i))else(dh w wC [c_ "2",c_ "3"]).map λw'=>(w',(1:Int)))=_;rw[l_ n2];unfold dh;rw[l_ b,i_ rfl];unfold fQ;dsimp only;rw[j,g];dsimp only;rw[i_ (by rw[r_ (by omega)];rfl)];rfl
 rw[a]at e1;rw[r2]at e2;exact⟨_,e1,e2⟩
theorem shown1(n:Nat):mD CS "shown" (cO CR CP CS CW CE CD CK n) (w1.obj CR CP CS)=.ok (.str TX):=by
 obtain⟨b,a,Y,U,J,I⟩:=mJ CR CP CS w1;rw[tx1]at I;unfold mD;rw[i_ (by show((CS==CS)&&(DN ("shown":o_) _).isNone)=e_;rw[GQ,Ku];rfl)]
 simp[cO,lA,I]
theorem read1(I:CR≠CP)(n:Nat):bJ CR CP CS CW CE CD CK n [.str TX]=.ok (w1.obj CR CP CS):=by rw[xY CR CP CS CW CE CD CK I n (by decide +kernel:TX.length<=1000000),run1];dsimp only;rw[l_ (by intro z;cases z),sh1]
theorem xJ(I:CR≠CP)(n:Nat)(d:y.length<=1000000)(Y U J c:Option Dat):xy CR CP CS CW CE CD CK n [Y,a_ (.str TX),U,J,a_ (.str y),c]=.ok (.nx [Y,a_ (.str TX),U,J,a_ (.str y),d_]):=by
 unfold xy AO;rw[i_ (show 5<[Y,a_ (Dat.str TX),U,J,a_ (.str y),c].length by show 5<6;decide)];have g:=good_any n d;have tg:rQ [Y,a_ (.str TX),U,J,a_ (.str y),d_]=.ok (yV w1 0 y).isSome:=by simp[rQ,g]
 have tg:rQ ([Y,a_ (.str TX),U,J,a_ (.str y),c].set 5 d_)=.ok (yV w1 0 y).isSome:=tg;have e:eqT (.str TX) (.str TX)=e_:=by show q_ (TX=TX)=e_;exact r_ rfl
 show((Ds (Dat.str TX):M Dat).bind _)=_;rw[ae,tg,dJ,ae];show((Ds (Dat.str y):M Dat).bind λr=>(Ds (Dat.str TX):M Dat).bind λt'=>_)=_;rw[ae,ae,i_ e];unfold turnD;rw[read1 CR CP CS CW CE CD CK I n,dJ,ae];have es:=vU CR CP CS CW CE CD CK I n w1_ok 0 d (λr z=>⟨_,_,rfl⟩);cases b:yV w1 0 y with
 |some z=>obtain⟨h,a⟩:=rowK_SG w1_ok b;have a:z.1.cs.length<=1:=a;obtain⟨f,t1,t2⟩:=xI CR CP CS CW CE CD CK I n h z.2 a;rw[b]at es;rw[show(Ke (a_ z))=e_ from rfl,i_ rfl,es];show((noX (lS CR CP CS CW CE CD CK n (z.1.obj CR CP CS) z.2 (.str "shift 1"))).bind _).bind _=_;rw[t1,dJ,ae];show((noX (lS CR CP CS CW CE CD CK n (z.1.obj CR CP CS) 1 (.str "closed 2 3"))).bind _).bind _=_;rw[t2];rfl
 |none=>
  obtain⟨f,t1,t2⟩:=xI CR CP CS CW CE CD CK I n w1_ok 0 (by decide);rw[b]at es;have i:refD CE (lS CR CP CS CW CE CD CK n) (mD CS "shown" (cO CR CP CS CW CE CD CK n)) (.str TX) (w1.obj CR CP CS) (.str y)=.ok (w1.obj CR CP CS,0):=by unfold refD;rw[es];show(if CE=CE then _ else _)=_;rw[i_ rfl,shown1,dJ,ae,i_ e]
  rw[show(Ke (d_:Option (Sht×Int)))=b_ from rfl,l_ (by decide),i,ae];show((noX (lS CR CP CS CW CE CD CK n (w1.obj CR CP CS) 0 (.str "shift 1"))).bind _).bind _=_;rw[t1,dJ,ae];show((noX (lS CR CP CS CW CE CD CK n (w1.obj CR CP CS) 1 (.str "closed 2 3"))).bind _).bind _=_;rw[t2];rfl
noncomputable def RW3:List o_:=["kind up","gap up up 2","flight a1 up 1 8 4 3"]
noncomputable def badL(k:Nat):List o_:=iQ RW3 d_ (a_ (k:Int))++[("gone a1":o_)]++iQ RW3 (a_ (k:Int)) d_
noncomputable def bad(k:Nat):o_:=Eg "\n" (badL k)
theorem bad_run:w9 1 (eC (bad 0)) w0=.inl 1/\w9 1 (eC (bad 1)) w0=.inl 2/\w9 1 (eC (bad 2)) w0=.inl 3/\w9 1 (eC (bad 3)) w0=.inl 4:=⟨by kernel_rfl,by kernel_rfl,by kernel_rfl,by kernel_rfl⟩
theorem bad_all(I:k<4):w9 1 (eC (bad k)) w0=.inl (k+1)/\(bad k).length<=1000000:=by
 have J:∀k,k<4->(bad k).length<=1000000:=by decide +kernel
 obtain⟨U,b1,b2,b3⟩:=bad_run;refine⟨?_,J k I⟩
 match k,I with
 |0,_=>exact U|1,_=>exact b1|2,_=>exact b2|3,_=>exact b3
theorem no_sheet(Y:CR≠CP)(n:Nat)(h:k<4):eK CR CP CS CW CE CD CK n [.lst (RW3.map .str),.int (k:Int)]=.ok (.bl e_):=by
 obtain⟨b1,b2⟩:=bad_all h;have U:=xY CR CP CS CW CE CD CK Y n b2;rw[b1]at U;have U:bJ CR CP CS CW CE CD CK n [.str (bad k)]=.error (.exc CW [("row",.int ((k+1:Nat):Int))]):=U;have l:(fSM ie (fC (.str "\n")) (f2 cT (f2 cT (fSl aV (ah 0) cL (cw (ah 1))) (fL bT (aa (fC (.str "gone a1")) aJ))) (fSl aV (ah 0) (cw (ah 1)) cL))) [a_ (.lst (RW3.map .str)),a_ (.int (k:Int)),a_ (.lst []),d_]=.ok (.str (bad k)):=by
  have e1:=pI RW3 d_ (a_ (k:Int));have e2:=pI RW3 (a_ (k:Int)) d_;have k1:=pJ RW3 d_ (a_ (k:Int));have k2:=pJ RW3 (a_ (k:Int)) d_;have k1:(iQ RW3 d_ (a_ (k:Int))).length<=3:=k1;have k2:(iQ RW3 (a_ (k:Int)) d_).length<=3:=k2;have d:=tV (a:=iQ RW3 d_ (a_ (k:Int))) (b:=[("gone a1":o_)]) (by simp only[CZ,EZ];omega);have c:=tV (a:=iQ RW3 d_ (a_ (k:Int))++[("gone a1":o_)]) (b:=iQ RW3 (a_ (k:Int)) d_) (by simp only[CV,CZ,EZ];omega);have j:∀x∈badL k,x.length<=50:=λx I=>by
   have J:∀x∈RW3,x.length<=50:=by decide +kernel
   rcases Dv.mp I with I|I
   ·rcases Dv.mp I with I|I
    ·exact J x (xu I)
    ·rw[DK.mp I];decide +kernel
   ·exact J x (xu I)
  have i:(badL k).length<=7:=by unfold badL;simp only[CV,CZ,EZ];omega
  have h1:=lenLe (badL k) 50 j;have e:(c_ "\n").length=1:=by decide +kernel
  have g:ie (.str "\n") (.lst ((badL k).map .str))=.ok (.str (bad k)):=by rw[xa,i9,ae,i_ (by rw[Dq,e];omega)];rfl
  rw[e_fSM,e_c,ae,e_isS,i_ rfl,e_2,e_2];show(((aV (.lst (RW3.map .str)) d_ (a_ (k:Int))).bind λa=>cT a (.lst ([("gone a1":o_)].map .str))).bind λa=>(aV (.lst (RW3.map .str)) (a_ (k:Int)) d_).bind λb=>cT a b).bind (ie (.str "\n"))=_;rw[e1,ae,d,ae,e2,ae,c,ae];exact g
 have m:fU CR CP CS CW CE CD CK n [a_ (.lst (RW3.map .str)),a_ (.int (k:Int)),a_ (.lst []),d_]=.ok (.nx [a_ (.lst (RW3.map .str)),a_ (.int (k:Int)),a_ (.lst [.int ((k+1:Nat):Int),.bl b_]),d_]):=by
  unfold fU;rw[rj (f:=("row",.int ((k+1:Nat):Int))) (fs:=[]) (by show((((fSM ie (fC (.str "\n")) (f2 cT (f2 cT (fSl aV (ah 0) cL (cw (ah 1))) (fL bT (aa (fC (.str "gone a1")) aJ))) (fSl aV (ah 0) (cw (ah 1)) cL))) [a_ (.lst (RW3.map .str)),a_ (.int (k:Int)),a_ (.lst []),d_]).bind λa=>Ds [a]).bind (newK CK (bJ CR CP CS CW CE CD CK n))).bind _=_;rw[l];show((bJ CR CP CS CW CE CD CK n [.str (bad k)]).bind _).bind _=_;rw[U];rfl),e_xToldR]
  rfl
 have e2:eqM (.int (k:Int)) (.int (k:Int))=.ok (.bl e_):=by rw[eqI];simp
 have e1:eqM (.lst [.int ((k:Int)+1),.bl b_]) (.lst [.int ((k:Int)+1),.bl b_])=.ok (.bl e_):=same_eq rfl;generalize (Dat.lst (RW3.map .str))=W at *;simp[eK,jf,m,e1,e2]
end
section
variable(CR CP CS CW CE CD CK:g_)
theorem cell_ok(Y:CR≠CP)(n:Nat)(c:Int)(J I d U:Option Dat):∃e,mz CR CP CS CW CE CD CK n [J,a_ (.str TX),I,a_ (.int c),d,U]=.ok (.nx [J,a_ (.str TX),I,a_ (.int c),e,d_]):=by
 obtain⟨x,i,e1⟩:=row_any n c;obtain⟨y,e2,g⟩:=bent_any n i c;obtain⟨z,e3,f⟩:=Al n (c/11);have a:=eqI (c%11) 3;by_cases h:c%11=3
 ·rw[r_ h]at a;have b:pQ [J,a_ (.str TX),I,a_ (.int c),a_ (.str y),U]=.ok (.nx [J,a_ (.str TX),I,a_ (.int c),a_ (.str z),U]):=by
   simp[pQ,a,e3]
  have t:=xJ CR CP CS CW CE CD CK Y n f J I (a_ (.int c)) U;refine⟨a_ (.str z),?_⟩
  simp[mz,e1,e2,b,t]
 ·rw[f_ h]at a;have b:pQ [J,a_ (.str TX),I,a_ (.int c),a_ (.str y),U]=.ok (.nx [J,a_ (.str TX),I,a_ (.int c),a_ (.str y),U]):=by
   simp[pQ,a]
  have t:=xJ CR CP CS CW CE CD CK Y n g J I (a_ (.int c)) U;refine⟨a_ (.str y),?_⟩
  simp[mz,e1,e2,b,t]
theorem yz(U:CR≠CP)(n:Nat)(b a:Option Dat):∀(L:List Int) (Y J I:Option Dat),∃g d f,mh (.nm 3) (mz CR CP CS CW CE CD CK n) (L.map .int) [b,a_ (.str TX),a,Y,J,I]=.ok (.nx [b,a_ (.str TX),a,g,d,f])
 |[],Y,J,I=>⟨Y,J,I,rfl⟩|c::L,Y,J,I=>by
  obtain⟨d,e⟩:=cell_ok CR CP CS CW CE CD CK U n c b a J I;obtain⟨j,i,h,k⟩:=yz U n b a L (a_ (.int c)) d d_;refine⟨j,i,h,?_⟩
  rw[Dp];simp[mh,e,k]
theorem rows_TX:Ep TX (c_ "\n")=RW3++[("":o_)]:=by decide +kernel
theorem law_true(I:CR≠CP):∀ns:List Int,ns.length<=63->∃n,m_law CR CP CS CW CE CD CK n [.lst (ns.map .int)]=.ok (.bl e_):=λns s=>by
 refine⟨0,?_⟩
 have e:cT (.lst (ns.map .int)) (.lst [.int 0])=.ok (.lst ((ns++[0]).map .int)):=by rw[Dw];exact i_ (by rw[y_,Dq];show ns.length+1<=_;omega)
 have b:∃v:Int,ixD (.lst ((ns++[0]).map .int)) (.int 0)=.ok (.int v):=by
  cases ns with
  |nil=>exact⟨0,rfl⟩|cons a r=>exact⟨a,by have:=intAt' (r:=a::r++[0]) (i:=0) (by simp);simpa using this⟩
 obtain⟨v,b⟩:=b;have f:0<=v%4:=Es _ (by decide);have v1:v%4<4:=Ej _ (by decide);obtain⟨k,l⟩:=D5 f;have U:=no_sheet CR CP CS CW CE CD CK I 0 (k:=k) (by omega);have j:(c_ "\n").length=1:=by decide +kernel
 have h:TX.length+2<=16777216:=by decide +kernel
 have sp:iX (.str TX) (.str "\n")=.ok (.lst ((RW3++[("":o_)]).map .str)):=by rw[yu,i_ (by rw[r_ j,r_ (show TX.length+2<=m_ by rw[Dq];exact h)];rfl),rows_TX]
 have g:aV (.lst ((RW3++[("":o_)]).map .str)) d_ (a_ 3)=.ok (.lst (RW3.map .str)):=rfl;have c:tQ CR CP CS CW CE CD CK 0 [a_ (.lst (ns.map .int)),a_ (.str TX),a_ (.int (k:Int)),d_,d_,d_]=.ok (.nx [a_ (.lst (ns.map .int)),a_ (.str TX),a_ (.int (k:Int)),d_,d_,d_]):=by generalize (Dat.lst (RW3.map .str))=W at *;generalize (Dat.lst ((RW3++[("":o_)]).map .str))=w at *;simp[tQ,sp,g,U,-yu]
 have m:iQ ns d_ (a_ 63)=ns:=by show(ns.drop 0).take ((if (63:Int)<0 then((63:Int)+(ns.length:Int)).toNat else min (63:Int).toNat ns.length)-0)=ns;rw[l_ (by decide),Iu];exact List.take_of_length_le (by show ns.length<=min 63 ns.length-0;omega)
 have J:aV (.lst (ns.map .int)) d_ (a_ 63)=.ok (.lst (ns.map .int)):=by
  rw[t9];have:iQ (ns.map Dat.int) d_ (a_ 63)=(iQ ns d_ (a_ 63)).map Dat.int:=by unfold iQ;simp
  rw[this,m]
 have d:cT (.lst [.int 0,.int 1]) (.lst (ns.map .int))=.ok (.lst ((0::1::ns).map .int)):=i_ (by rw[y_,Dq];show 2+ns.length<=_;omega);obtain⟨q,p,o,Y⟩:=yz CR CP CS CW CE CD CK I 0 (a_ (.lst (ns.map .int))) (a_ (.int (k:Int))) (0::1::ns) d_ d_ d_;generalize (Dat.lst (ns.map .int))=N at *;generalize u:(Dat.lst ((ns++[0]).map .int))=A at *;have Y:mh (.nm 3) (mz CR CP CS CW CE CD CK 0) ((0::1::ns).map .int) [a_ N,a_ (.str TX),a_ (.int (k:Int)),d_,d_,d_]=_:=Y;have it:gV (.lst ((0::1::ns).map .int))=.ok ((0::1::ns).map .int):=rfl;generalize t:(Dat.lst ((0::1::ns).map .int))=B at *;generalize ((0::1::ns).map Dat.int)=x at *;have c:tQ CR CP CS CW CE CD CK 0 [a_ N,a_ (.str (c_ "kind up\ngap up up 2\nflight a1 up 1 8 4 3\n")),a_ (.int (k:Int)),d_,d_,d_]=.ok (.nx [a_ N,a_ (.str TX),a_ (.int (k:Int)),d_,d_,d_]):=c;simp[m_law,g_law,e,b,l,c,J,d,it,Y]
end
theorem fin_mk{w:Ek}{K:Fg}{h:DR}{fa CR CE:g_}(_:K.In h)(_:h.Ns Du mg)(I:mg "law"=a_ (.ref fa))(Z:Zs K mg CR CP CS CW CE CD CK ANoRow AStripError ANoPlace ANoPlan ANoRules ANoSheet ANoTime ANotFree ATooMany):
  ∃fd:EJ,(∀(s:x_) (v:j_),HI s fd ⟨[v],[]⟩ [("_law_script",v)])/\∀base:DR,K.In base->base.Ns Du mg->eZ P w K mg base CX0 12 fa fd ["_law_script"] (spLaw K):=by
 obtain⟨f,fd,D,J⟩:=Z.d_law;have e:=I.symm.trans D.mg;cases e;refine⟨fd,J,λbase _ _=>law_ok (ro:=b_) (mlaw:=m_law CR CP CS CW CE CD CK) (λn=>?_) (law_true CR CP CS CW CE CD CK Z.ne)⟩
 obtain⟨U,fd',Y⟩:=ok_law (n:=n) (P:=P) (w:=w) (base:=base) Z;have e:=D.mg.symm.trans Y.d.mg;cases e;rw[D.fn.uniq Y.d.fn];exact Y.o
theorem walk{l:Hy}{q:Ec}{I:List o_}{g:(Mq)->DR->Prop}{U:Ek->DR->Prop}{d:DefRec}{K:Params->Fg}(Y:l.most=a_ 63)(J:d.params.defaults=[])(c:∀(w:Ek) (h:DR),U w h->(K w.params).In h)(F:∀(w:Ek) (mg:Mq) (fa:g_) (h:DR),(K w.params).In h->h.Ns Du mg->mg d.name=a_ (.ref fa) ->
   ∃fd:EJ,(∀(s:x_) (u:j_),HI s fd ⟨[u],[]⟩ [("_law_script",u)])/\∀base:DR,(K w.params).In base->base.Ns Du mg->eZ l.prog w (K w.params) mg base CX0 12 fa fd ["_law_script"] (spLaw (K w.params))):
  Jx q I g U l.row.toRowW d [] (λf vs=>Gn f vs):=
 L2.walk_of (n:=63) (k:=12) (x:="_law_script") (CX:=λ_=>CX0) (sp:=λw=>spLaw (K w.params)) Y (by decide) J ⟨rfl,by decide,by decide⟩ c F (λ_ _ a ns b _ e=>⟨a,ns,rfl,e,b,λ_=>rfl⟩) λ_ _ _ _ _ z=>z
end Ru
end
open PySem PySem.W PyProof.Rows
structure PySem.W.Fast:Prop where (tw1689190616037328210
tw9639578683597088808
tw9425007990473638467
tw4901877634846346844
tw8174117593770727972
tw3704395634924268725
tw1775603193512935980
tw6641664398542828487
tw10546858648542469851
tw12279983329406264100
tw1245960259731892248
tw5307303121365164677
tw13028975068902770523
tw13869995271160135877
tw549647375422107709
tw15231897827866591681
tw6632572715839177389
tw17534723523766520587
tw5932188744928715890
tw7332644365086972018
tw8182182111264513712
tw5459502168717960016
tw2192772516807993660
tw13191205095894362680
tw3334076570132417084
tw11359640348598139788
tw16421850611149135601
tw16803095537556349370
tw7745874710393601310
tw14757157524534470176
tw10438225427395818476
tw3270609857643761592
tw10720672470550177850
tw8195704064561871090
tw4076336303156624138
tw11873998879791706600
tw4981604628939213398
tw15337406482696345184
tw17000375973897569437
tw8847890434320338512
tw16006445821212504706
tw25193534884958450
tw604225819001593262
tw1521239463379388906
tw13611300757248146155
tw14570619461121218176
tw8840628861265701379
tw7026013286855032769
tw268583066485408995
tw2576304444796854221
tw10286374016459327169
tw15613390880577649955
tw5926968812148332690
tw6135300727023218132
tw10850429679928268457
tw3084685276561176367
tw6186333140043352148
tw4555548199121574465
tw17037383244017447723
tw4070281242059057918
tw13415729926972793752
tw6780163104541635238
tw4216770933801405050
tw301718777084108396
tw8711910525151257811
tw4732039110906565902
tw8775277452099336263
tw6718218596016324152
tw7554522968399010775
tw17874386513930805078
tw18080145907997666998
tw4836280614284496512
tw14136771013315009063
tw8637108127234091035
tw14610179545247405138
tw18069301225248311615
tw3149362328729287672
tw3828745870210141693
tw1814449453144790806
tw11709442601434060716
tw3257551259503803424
tw14881381784741069772
tw4734139156223879842
tw12851912315189668699
tw8816312913477412867
tw9837785021539358981
tw141006487861698546
tw1678886135660648646
tw2974335996828346152
tw5643237312689344985
tw11610483591065654326
tw3967514992040475092
tw11401151308421943221
tw12107795356803706592
tw1450638038985414469
tw14234450074875009418
tw5603978932621209926
tw5702536396721402413
tw15046080923489432078
tw9073803831002322853
tw18087746066560536105
tw13226288045224843458
tw1989601665907692923
tw900419078560356149
tw1597877962384116171
tw6475750876682532635
tw16431406215064603635
tw17817792615467073224
tw4113063549693873412
tw12401869178906204316
tw725467605647237023
tw888711275235780077
tw5153765611694169472
tw755154839589076970
tw4195054003129013304
tw7898124148024769902
tw15072721577044264264
tw17036400597065088269
tw6609481884665230511
tw14360872414673814056
tw14943781833294615576
tw7929274411194146960
tw15011819859830324171
tw9971420826062832459
tw1239751872841595569
tw9324297446664890368
tw14751788221917617560
tw15542667272352795427
tw17524272262957635289
tw14186573850009458838
tw6396094402646835237
tw7615590895268220932
tw11843741031092860087
tw11220129859913868887
tw17377077152442777599
tw11596410559990763118
tw11354144345065110783
tw15267448021886082477
tw71520502483776938
tw11753618301314781011
tw14865775484919645266
tw4873938897145301171
tw11122938017731034639
tw7507619954811564765
tw2637080312787255510
tw14891988693258387360
tw1022460601099985531
tw1094417625344337717
tw12111746558139336831
tw2029960748883702753
tw15191234141977237609
tw1090666422518879294
tw11310695137667196840
tw6529630427343858483
tw6140601898828224692
tw3125250847950699465
tw6281530624601593716
tw3385017124829317638
tw17792187706801104464
tw17599195532015128762
tw5074475857191749768
tw13597042517258784299
tw15440282691682793567
tw13853938154566701084
tw12268217171024512242
tw17713861980855318476
tw10387559878735320588
tw14416754546913063514
tw12100235530771665035
tw1880697739306822071
tw9384742530042771829
tw1540575016374141012
tw8919946812345593314
tw14749418762807737061
tw3899632086938351422
tw15467575195181374043
tw16975253716150554505
tw4699360607584237542
tw5696909064346652876
tw16746084637810519120
tw8708310824861167292
tw18414287411102646745
tw3410133342843344901
tw17840975963448182623
tw11456729040390571214
tw6605834052838825208
tw7987056324532510783
tw14357266764399193028
tw18284082197795402309
tw11357646501701096518
tw855946234573127269
tw4828930660530723803
tw12315151312281162641
tw11611057443254292088
tw10722909719556525769
tw11421507151569542422
tw8787427160842907553
tw14862941276918188255
tw17292922522000214472
tw2946528318369232575
tw16451160914242675526
tw13707586776271579236
tw2811128833406374959
tw16950873007518879770
tw10357325032578502714
tw14667914189363153840
tw18276746651726708723
tw1959382517556978014
tw4174774037074965453
tw11330075664480101818
tw15904899757012141746
tw16494086609608315508
tw14834405488405118256
tw17405986243181927305
tw13654221537315844573
tw4675293848616609793
tw1165067163864972199
tw506831527455957788
tw5754409669581489831
tw11981469261701755836
tw11435992478780967147
tw10106263243644776734
tw840918111468433308
tw15371792306459762085
tw16175494142297021309
tw17556780193920625962
tw16610942879593385996
tw8907112346635419106
tw17648448670712402542
tw3851771265778850313
tw17238949600090166815
tw8529593387492804356
tw16999577049795981805
tw3054348667478412927
tw4770990418846265631
tw10624533447005834385
tw5751018750976385054
tw6294474048336047816
tw5823734885124528092
tw14627531673021425796
tw7678739946157060763
tw11330001217976111029
tw11568590162662844061
tw16830729346244572109
tw411137331110918317
tw1018798143597859813
tw15979874025057881691
tw18027914693582382342
tw17511425341031751818
tw6575999839289308616
tw16300106934614960180
tw3593951176197072594
tw15960804161548699431
tw1512770893308510089
tw1619400535290146093
tw15570324564939957587
tw10250822141579314541
tw16258034476187939224
tw4740945255075508014
tw1944869550474530906
tw15008407613913635898
tw2482110097533949004
tw12411467007013203642
tw6887283362628996413
tw249891715225214056
tw14340475772235895187
tw17468647992083960178
tw11641453484815591341
tw11083775094139695230
tw13743989749940948405
tw10246106821074895953
tw17002595481711366763
tw13242538891602419259
tw351923385256413029
tw10219858453690226156
tw13672954129042101937
tw5638078763176021912
tw15920970052259395713
tw14500744371485516611
tw2441138506215832870
tw17390475775327735297
tw8964214719332915059
tw17601336539225828102
tw10810836814377704328
tw16329427749961118698
tw9363107784725233793
tw14332539562684083438
tw12125602500182657300
tw5754843435470926635
tw18291129519057625423
tw16370798566159449992
tw604644829228496144
tw15294211152864284830
tw14259196611326764092
tw12308493137978193127
tw14687383358077539905
tw16542015799921174140
tw7248611955912383665
tw11401680090173688542
tw3235475369163550350
tw8997025833657582258
tw2193140501616639025
tw784936446279939135
tw5968445121251230526
tw6129469367122602541
tw571211876523802292
tw6371778717778269452
tw14880702614519528693
tw2797773251254939949
tw1048320164972543013
tw6742546762361424859
tw6666564049870940705
tw14218549404677856301
tw4448603760309433727
tw4202079445381698534
tw16991603265967372589
tw6807557266284654347
tw5681093940205802525
tw13030536293222392077
tw8204535855321700359
tw10405268788281504299
tw1623297450233531789
tw10729313574958589089
tw1476123544335360064
tw12879100056699408798
tw14301692873037534916
tw14889911755886112808
tw6435881760501670194
tw17033722054565288452
tw4371312945404167082
tw3700399639125373976
tw3788434702799229983
tw4076135803491668376
tw3918458957995504312
tw18047448239446480939
tw3368678899042300280
tw12730545537713152075
tw10271972504480195284
tw6468692446334376234
tw8001884548687954975
tw9805779047253533048
tw6320023959314735680
tw5544704650972173462
tw11209754759627561782
tw14508113468422306097
tw9536301061185650217
tw9604272371927776373
tw2082717019080237221
tw5988210577734594075
tw1370622609100623168
tw4723978079167940773
tw12593727844873104727
tw10878326400688318377
tw6574129228676359105
tw6155077731916693893
tw12730859979804129301
tw7064381959760038195
tw1506475757832308031
tw10964139323971841523
tw13540718064588211664
tw10953841851525239160
tw2960443753943457142
tw8502542760295438112
tw9016922578675740898
tw14337859634321539247
tw10572133110793962989
tw8188607358369248261
tw16081979425516081538
tw18101105559777507775
tw15266066322492362080
tw5363289208120729682
tw12801208225634802211
tw3890821388503797712
tw7483721045945603231
tw9627512293555232490
tw12986018304888646906
tw11403119119764144677
tw8376002052709501162
tw1591065159503585448
tw16597013333301912360
tw10108621245812447999
tw11100452614755550636
tw13482711562444110392
tw13785338619649412045
tw13901932953560142112:True)
set_option maxRecDepth 100000 in
set_option maxHeartbeats 0 in
theorem PySem.Challenge.cw_wakeorder_k81_rows_refused_holds : PySem.Challenge.rw_wakeorder_k81_rows_refused.Holds := by
 w_on;o_law;k_head;(case hw=>w_witness2)
 k_fill
 refine Ru.walk (l:=PySem.Challenge.rw_wakeorder_k81_rows_refused) rfl rfl (fun w h Y=>PySem.W.kIn_of Y) ?F
 case F=>
  intro w mg fa h KX G hmg;refine' Ru.fin_mk KX G hmg ?z
  case z=>
   constructor
   all_goals first|exact L2.dF KX G|exact PySem.W.mg_none_of KX G (by k_is)|exact ⟨_,mg_of KX G (by k_is)⟩|exact mg_of KX G (by k_is)|exact L2.mF|exact L2.kF KX G|exact L2.tF KX G|exact L2.iF|exact L2.xF KX G|exact L2.xM KX G L2.mF|exact L2.lF KX G|exact L2.rS L2.mF|k_is|kernel_rfl|decide +kernel|(constructor<;>first|k_is|kernel_rfl|rfl|decide +kernel)|(simp only [List.mem_cons,List.not_mem_nil,or_false,forall_eq_or_imp,forall_eq];repeat' constructor)<;>first|k_is|kernel_rfl
