import PyProof.Rows.All
import Wide.All
import OpenK.AllK
import PySem.Challenge.RW_wakeorder_k53_papers_told
open Option renaming some->aa,none->af,isSome_iff_exists->gh,map_some->gW,map_eq_some_iff->ja,isSome_map->j9
open PySem renaming wpAny_bind->ab,wpAny_pure->ai,Value->aj,Shared->ao,starEach->au,Addr->av,sizeLine->ay,model->aI,wpAny->aP,boot_len->aY,eval->a_,wpAny_call_entry->bh,Str->br,wpAny_newObj_type->bw,Heap->bF,wpAny_callSpecial?_slot->bK,Program->bL,wpAny_dictEntries->bP,sysModules->bT,Expr->bX,Stmt->bY,compareOp->bZ,wpAny_mono->b9,cLine->b_,Paired->cb,backTo->cu,attributeBase->cy,mainGlobals->cz,DictEntry->cF,wpAny_field->cJ,mem_of_lookup->cN,wpAny_truthy_bool->cU,wpAny_holding->c6,World->c8,wpAny_dictEpoch->di,cellsFrom->dj,Around->dD,swapsWith->dJ,binaryOp->dO,FuncData->dX,wpAny_isInstance->d9,wpAny_setField_rec->eC,wpAny_seqItems->eD,assignEach->eG,foldedSetIterable->eO,wpAny_rule->eU,wpAny_attempt->eV,wpAny_typeNameOfWhole_itemiter->fg,wpAny_typeNameOfWhole_valiter->fH,wpAny_typeNameOfWhole_keyiter->fJ,sizeLine_eq->fK,keywordEach->fN,wpAny_pyIter_tuple->fS,bootBuiltins->fT,wpAny_passesOwn->fW,NameKind->fX,wpAny_setField->gm,holding->gq,codeAny_mono->gu,wpAny_tupleItemsOf->gG,wpAny_Call_method0_late->gM,wpAny_pyIter_enum->gR,wpAny_fieldsOf->gS,ZipApart->gT,wpAny_notOrdered_dict->gY,evalArgs_none->gZ,wpAny_forIn_list->hI,reduceHash->hR,eqBool->hV,behindInMarks->ic,Keyword->ie,backToKw->ik,rawInt->iw,wpAny_richCompare_same_room->iJ,wpAny_Call_Name_kw->iX,tupleKind_room_in1->iY,call->i0,wpAny_onRaise->jk,assign->jl,Sem->jo,setField->ju,wpAny_load->jE,wpAny_isOneOf_itemiter->jF,wpAny_Assign_Subscript->jG,standAt->jH,pyNext->jI,codeAny->jJ,IsItemIter->jK,wpAny_execs_nil->jR,codeAny_builtin->jS,atKey->jT,wpAny_isOneOf_valiter->jV,isSubtype_tuple_tuple->jW,Obj->j5,wpAny_letGo->kc,sliceBounds->ke,pyHash->kf,isSubtype_stop->kg,getMethod->kr,BindsTo->kv,wpAny_handled->kN,swapsWithSole->kO,swappedStores->kQ,wpAny_setItem_heap->kZ,IsPair->k9,Pos->lj,wpAny_pyIter_slot->lA,wpAny_pyIter_list->lC,concat_meets->lE,callerA->lG,call_meetsIn->lH,bindArgs->lI,Scope->lK,wpAny_Dict_empty->l_,noFill_tuple_add->md,IsPart->mf,wpAny_throw->mm,wpAny_of_eq->mn,wpAny_specialOf->mx,pushCells_keeps->my,letOwnedTupleGo->mz,Within->mB,wpAny_letOwnedTupleGo_items->mI,storedH->mJ,wpAny_newTuple->mP,wpAny_letOwnedTupleGo_enum->mQ,numAt->mS,newFunctionEnv->mT,call_meets->mU,Env->m7,wpAny_standAt->nh,wpAny_newList->ni,wpAny_comprehension_free->nj,seq_tuple_add->nq,rangeSize_one->nr,nums_intItems->nt,lastMarks->nL,eqIsQuiet->nM,bindL->nO,PassesOwn->nS,Fin->nT,seqIndex_neg->n5,pyIter->n6,isTrue->n8,intKind->n9,getItem->n_,wpAny_isOneOf_keyiter->ot,wpAny_pyIter_keyiter->oE,seqIndex_of->oF,numAt_eq->oG,intItems_at->oH,callWith->oI,bindC->oJ,Model->oM,HeapKind->oN,call_enumerate_list->o_,wpAny_Name->pE,intKind_is->pF,builtinsNs->pH,Result->pI,wpAny_assign_Name->pN,unaryOp->pO,slot_list_getitem->pP,setItem->pQ,putAt->pR,hashInt->pS,call_sum_walkAnyS->pU,wpAny_pyIter_zip->p6,wpAny_execs_cons->p7,small_one->p8
open Bool renaming false->ae,true->ag,and_eq_true->aU,false_ne_true->dE,eq_iff_iff->hG,false_eq_true->iu,or_eq_true->o8,and_false->pD,true_and->pM
open PySem.Heap renaming get?_push_of_some->ah,get?_push_size->aw,lt_size->aE,size_push->cB,ExtBut->cC,SameBut->dG,get?_update_other->e8,get?_update_self->fO,IsTuple->mL
open Nat renaming le_refl->aq,lt_of_lt_of_le->aH,le_trans->aQ,ne_of_lt->bg,zero_le->bz,lt_of_le_of_ne->bC,le_of_lt->b7,lt_of_succ_lt->cR,ne_of_gt->cW,zero_add->dB,mul_le_mul->dC,add_le_add_left->dS,succ_le_succ->dZ,le_add_right->d7,pos_of_ne_zero->fy,lt_irrefl->gw,le_of_eq->gJ,eq_zero_of_not_pos->gK,add_assoc->gX,le_antisymm->hZ,add_lt_add_left->ij,sub_le->iG,lt_of_le_of_lt->iH,sub_pos_of_lt->iU,lt_succ_self->jg,le_of_sub_eq_zero->jA,le_succ->jP,add_le_add_right->jQ,sub_self->kH,pred_lt_of_lt->kI,lt_trichotomy->kJ,le_of_succ_le->kK,le_of_lt_succ->kL,succ_ne_self->lg,not_lt_of_le->lh,mul_add->lu,add_sub_cancel_left->mN,sub_zero->mZ,lt_trans->m6,one_pos->nH,add_mul->nI,mul_le_mul_left->nX,add_right_comm->oh,lt_succ_of_lt->oB,not_le_of_lt->oU,max_eq_right->oV,lt_of_not_le->oW,le_of_not_lt->oX,le_max_right->oY,min_le_left->pq,min_eq_left->pz,mul_comm->qh,lt_or_ge->qi
open List renaming length_map->az,getElem?_set_ne->aB,getElem?_eq_some_iff->aD,getElem?_set_self->aG,replicate->aK,length_set->aL,mem_cons->aM,map_cons->aO,map_map->aR,getElem?_map->aV,length_cons->aW,range->aX,mem_append->aZ,mem_append_right->bf,mem_map->bp,mem_filter->bq,mem_range->bA,length_append->bB,foldl_cons->bD,pairwise_append->bG,mem_cons_of_mem->bH,append_assoc->bJ,map_congr_left->bM,mem_of_getElem?->bS,mem_cons_self->bW,append_nil->b8,mem_append_left->cf,lookup->cg,mem_singleton->cj,getElem?_eq_getElem->cv,take_append_drop->cw,size_toArray->cx,getD_eq_getElem?_getD->cD,not_mem_nil->cI,getElem?_append_left->cL,drop_eq_getElem_cons->cM,find?_cons->cV,pairwise_cons->cZ,lookup_cons->c_,length_take->dc,getElem_mem->dh,take_of_length_le->dz,nodup_append->dK,getElem?_cons_succ->dM,nodup_cons->dN,getElem?_append_right->d8,pairwise_iff_getElem->eB,length_range->eI,mem_reverse->eR,length_eq_zero_iff->eS,all_eq_true->eT,set_cons_zero->e9,set_cons_succ->e_,length_replicate->fQ,drop_zero->f_,length_drop->gd,getElem_of_mem->gk,length->gC,nodup_nil->gF,length_singleton->gQ,map_append->g_,getElem?_range->h_,drop_drop->ir,mem_or_eq_of_mem_set->iI,take_sublist->iQ,pairwise_map->iR,getElem_map->jb,ext_getElem->jc,drop_length->jd,range_succ_eq_map->ji,filter_eq_nil_iff->jj,getElem?_eq_none->jt,range'->jC,mem_of_mem_take->jD,map_replicate->j_,reverse_perm->ky,foldl_append->kz,ext_getElem?->kA,drop_sublist->kB,take_length->kU,range'_succ->kW,any_eq_true->kX,of_mem_zip->lx,map_const'->lz,setIfInBounds_toArray->lX,perm_ext_iff_of_nodup->lY,foldl->lZ,drop_left->l8,map_take->mr,eq_of_mem_replicate->mv,getElem?_replicate->mH,map_nil->mO,range_eq_range'->m9,mem_of_mem_drop->m_,replicate_succ->nJ,mem_filterMap->nY,find?_eq_none->nZ,getElem_take->oi,find?_isSome->oj,cons_append->oC,length_nil->oZ,forIn_cons->o6,take_succ->pA,map->pB,drop_take->pC,map_id->qj
open Decidable renaming decide->aF
open PyProof.Rows renaming wpS_pure->aJ,pendingOf->bj,SortSt->bo,boot_tuple->bE,callWith_type1->bR,Keyed->bU,wpS_bind->dq,boot_list->dH,slot_tuple_getitem->eY,seqObj->gb,wpS_modify->gI,wpS->g8,kindOf->iC,envOfC->iE,IntsAre->iN,wpS_get->jM,subscriptTail_builtinR->jN,AllBare->jO,wpS_lift->ki,failedOf->kj,boot_sorted->kl,boot_max->km,arrOf->kT,boot_range->mX,boot_all->mY,listUpdate_at->nG,lt_int->nW,wpS_mono->oO,seqEpoch_at->oP,mergeAt'->oQ,elem'->oR,SortKind->oS,Call_->oT,setPending->pK,IsTup->p5
open PySem.Value renaming ref->aT,none->cA,type->gO,int->i3,bool->lJ
open PySem.W renaming kitOne->ba,keepIn->ck,findIn->cp,fnOf->cE,cellsFrom_some->eW,emptyDict->fE,codeIn->fU,instObj->gg,plainGet->gH,kia_one->gU,callWith_K->hX,specialIn->il,hasDictIn->ip,makesIn->i9,methodCall_KW->jf,lookIn->jm,plainGet_of->jv,plainOver->jX,nsIn->jY,isFn->jZ,OpenLaw->kh,takerIn->kC,kcp_self->nu,handedIn->nv,WalkO->nC,takesIn->nP,readsIn->nQ,findCls->nR,kas_ask->oe,mroIn->ou,mg_of->oz
open PySem.Builtin.Tuple renaming tupleHashOf->bc,tupleItemsOf->j7,tupleExact->qe
open PySem.NameKind renaming free->bx,cell->dP
open Ne renaming symm->bO
open Array renaming length_toList->bQ,getElem?_eq_none->dT,getElem?_toList->gN,toList_inj->i8,toList->kq,perm_iff_toList_perm->lQ,getElem?_eq_getElem->l9,forIn_toList->nK
open False renaming elim->bV
open Except renaming ok->cG,error->eZ,bind->kM
open PySem.Builtin.Dict renaming showsAll->cH,samePairs->kS
open PySem.F renaming slot_dict_valueiterator_next->cK,slot_dict_itemiterator_next->cQ,slot_dict_keyiterator_next->cT,slot_tuple_iterator_next->d_,plainAttrs_dict->eN,slot_dict_items->gn,plainAttrs_list->gp,slot_list_append->gB,slot_zip_next->gD,type_list_append->iy,args_tuple_add_2->iz,entry_tuple_add->iK,slot_tuple_add->i5,slot_tuple_hash->i_,args_dict_valueiterator_next_1->jn,entry_dict_valueiterator_next->jq,args_dict_itemiterator_next_1->jr,entry_dict_itemiterator_next->jx,args_dict_keyiterator_next_1->jy,entry_dict_keyiterator_next->jB,args_tuple_iterator_next_1->jL,entry_tuple_iterator_next->jU,slot_dict_values_iter->ku,slot_dict_items_iter->kE,plain_list_iadd->k_,args_dict_items_1->ll,slot_dict_values->lM,entry_dict_items->lN,type_dict_items->lS,slot_dict_clear->lU,args_zip_next_1->lV,slot_tuple_eq->mh,slot_dict_iter->mi,entry_zip_next->mj,slot_dict_get->mq,slot_dict_ne->mE,args_object_init_2->mG,slot_list_extend->mV,entry_proto_collect->nU,entry_list_iadd->pk,slot_tuple_lt->pX,slot_int_rmul->pZ
open Pure renaming pure->cO
open Option.some renaming inj->cP,injEq->g9
open Int renaming toNat_natCast->cS,le_trans->cY,le_of_lt->dW,emod_lt_of_pos->fD,emod_nonneg->gA,neg_le_neg->gL,le_refl->iV,not_lt->ko
open PySem.Heap.SameBut renaming update->c9
open LawfulBEq renaming eq_of_beq->dw
open PySem.Paired renaming length->dQ
open PySem.Calls renaming callWith_builtin->dR,spliced_cons->j6,Name_function_global->lO,call_function_entry->lW,evalArgs_plain->mW,spliced_nil->nV
open List.Pairwise renaming nil->dU,sublist->qk,imp_of_mem->ql
open Except.ok renaming inj->ee
open List.Perm renaming refl->eJ
open PySem.PassesOwn renaming never->eX
open PySem.Obj renaming mapSeq->fj,data_mapFields->fw,isFreed_of_fields->jw,cls_mapFields->kD,data_mapDictKeys->nF,mapDictKeys->pj,mapFields->pV
open PySem.Builtin.Slice renaming slicePlaces->fF,sliceAdjust->gV,slicePartIndex->qf,sliceApplied->qg
open PySem.Builtin.List renaming listTooLong->fV
open PySem.Builtin.Range renaming rangeSize->fZ,small->i6
open PySem.SeqAt renaming EqAt->gv,ne_of_list_tuple->mC,RcNeAt->mD,RcAt->nE
open True renaming intro->gz
open Prod renaming fst->gE,ext->kx
open PyProof.Rows.SortSt renaming mk'->ig
open PySem.AutoSeq1 renaming wpAny_loadPart'->iq
open PySem.Builtin.Dict_items renaming ownedTupleFields->iA,ownsTuple->jh
open ForInStep renaming yield->iW
open PySem.Builtin.SmallTypes renaming nextOf->jz,ownedTupleIsFree->oA
open List.cons renaming injEq->kn
open Classical renaming byContradiction->kY
open PySem.Shared renaming TypeIs->lR,heap->mK
open PySem.Around renaming under_plainId->mM
open PyProof.Rows.IsTup renaming new->og
open Function renaming comp->om
open PySem.W.KatTups renaming cons->oK,nil->ph
open ForIn renaming forIn->o7
open Std.Legacy.Range renaming forIn_eq_forIn_range'->o9
open PySem.W.Looks renaming of_pure->pf,here->p_
open PySem.Challenge renaming pw_wakeorder_k53_papers_told->pJ
open Max renaming max->pL
open PySem.Heap.IsSliceOf renaming new->pW
open PySem.Walks renaming list->p9
open PySem.IsiPair renaming dict_dict->qc
abbrev aA:=@if_neg
abbrev aC:=@if_pos
abbrev bu:=@absurd
abbrev cq:=@decide_eq_false
abbrev dA:=@decide_eq_true
abbrev dI:=@congrArg
abbrev eA:=@decide_eq_true_eq
abbrev eK:=@StateT
abbrev fG:=@DecidableEq
abbrev i7:=@ForInStep
abbrev j8:=@of_decide_eq_true
abbrev mw:=@beq_eq_false_iff_ne
abbrev ng:=@if_false
abbrev oo:=@Decidable
set_option Elab.async false
set_option linter.all false
set_option maxRecDepth 100000
set_option maxHeartbeats 4000000
abbrev Fg:=PySem.W.Frag
abbrev Pn:=List (av×j5)
abbrev Vp:=aj->ao->Prop
abbrev Mq:=br->Option aj
set_option compiler.extract_closed false
noncomputable section
theorem Jq0(_:True:=by rfl):True:=trivial
local macro_rules|`(~~~$t)=>`(autoParam $t Jq0._auto_1)
theorem Jq1(_:True:=by decide):True:=trivial
local macro_rules|`($t⁻¹)=>`(autoParam $t Jq1._auto_1)
theorem Jq2_(_:True:=by k_is):True:=trivial
def Jq2:Lean.Syntax:=Jq2_._auto_1
theorem Jq3_(_:True:=by first|exact .inl rfl|exact .inr rfl|assumption):True:=trivial
def Jq3:Lean.Syntax:=Jq3_._auto_1
theorem Jq4_(_:True:=by intro _;rfl):True:=trivial
def Jq4:Lean.Syntax:=Jq4_._auto_1
theorem Jq5_(_:True:=by first|exact Or.inl rfl|exact Or.inr (Or.inl rfl)|exact Or.inr (Or.inr rfl)):True:=trivial
def Jq5:Lean.Syntax:=Jq5_._auto_1
theorem Jq6_(_:True:=by first|exact Or.inl rfl|exact Or.inr rfl):True:=trivial
def Jq6:Lean.Syntax:=Jq6_._auto_1
theorem Jq7_(_:True:=by with_unfolding_all rfl):True:=trivial
def Jq7:Lean.Syntax:=Jq7_._auto_1
theorem Jq8_(_:True:=by exact⟨rfl,rfl,rfl,by decide +kernel,rfl,by decide +kernel,by decide +kernel⟩):True:=trivial
def Jq8:Lean.Syntax:=Jq8_._auto_1
theorem Jq9_(_:True:=by first|k_is|kernel_rfl):True:=trivial
def Jq9:Lean.Syntax:=Jq9_._auto_1
theorem Jq10_(_:True:=by first|exact nomark _|with_unfolding_all rfl):True:=trivial
def Jq10:Lean.Syntax:=Jq10_._auto_1
theorem Jq11_(_:True:=by exact λ_ _=>rfl):True:=trivial
def Jq11:Lean.Syntax:=Jq11_._auto_1
theorem Jq12_(_:True:=by exact PassesOwn.never):True:=trivial
def Jq12:Lean.Syntax:=Jq12_._auto_1
theorem Jq13_(_:True:=by intro _ _ _ _ _ _ us hl;repeat' (first|(simp at hl;done)|rfl|(cases us<;>try rename_i us))):True:=trivial
def Jq13:Lean.Syntax:=Jq13_._auto_1
theorem dkK{p:Prop}(h:p:=by decide +kernel):p:=h
theorem ac{p:Prop}(h:p:=by lia):p:=h
theorem ad{p:Prop}(h:p:=by simp):p:=h
theorem am{p:Prop}(h:p:=by decide):p:=h
theorem a0{p:Prop}(h:p:=by grind):p:=h
theorem a7{p:Prop}(h:p:=by simp_all):p:=h
abbrev PySem.Shared.z(s:PySem.Shared):=s.heap.objs.size
set_option bootstrap.genMatcherCode false
set_option genSizeOf false
set_option genInjectivity false
namespace Lake
open PySem PySem.Spec PyProof.Rows
abbrev bm:=List aj
abbrev be:=List Nat
abbrev a8:=List Int
variable{a b dx C:av}{h h':bF}{x name m qual:br}{e c tg:bX}{A1:Pn}{g':Array GenState}{ch fp:List av}{N ps:List br}{i j k:Nat}{A:dD}{E Q:aj->ao->Prop}{u:aj}{s':ao}{pos pos' p:lj}{K:Fg}{es:List bX}{g:Int->Int->Int}{body:List bY}{P:bL}{w:c8}{op op':CmpOp}{us:List aj}{mA mg:br->Option aj}{pl:jo Bool}{kw:List (br×aj)}{outer:List m7}{fd:dX}{scope:lK}
set_option genInjectivity true in
set_option bootstrap.genMatcherCode true in
inductive V where
 |non|bl (b:Bool)|int (i:Int)|ref (a:av)|ty (n:String)
 deriving DecidableEq
abbrev bi:=List V
variable{v y:V}{xs vs:List V}
noncomputable def A5:V->aj->Prop
 |.non,u=>u=cA|.bl b,u=>u=lJ b|.int i,u=>∃t,u=i3 i t
 |.ref a,u=>u=aT a|.ty n,u=>u=gO n
abbrev A6:bi->bm->Prop:=cb A5
theorem A6.length{xs:bi}{us:bm}(r:A6 xs us):xs.length=us.length:=dQ r
inductive AtI{α:Type}(S P:α->Prop):Prop
 |mk (u:α) (e:S u) (r:P u)
theorem A6.get:∀{xs:bi} {us:bm} {i:Nat} {x:V},A6 xs us->xs[i]?=aa x->AtI (λu=>us[i]?=aa u) (A5 x)
 |_,_,_,_,.nil,e=>by simp at e|_,_,0,_,.cons r _,e=>by simp at e;subst e;exact⟨_,rfl,r⟩|_,_,i+1,x,.cons _ t,e=>by obtain⟨u,h1,I⟩:=A6.get t (by simpa using e);exact⟨u,a7,I⟩
theorem A6.set{x:V}{u:aj}(r:A5 x u):∀{xs:bi} {us:bm} (i:Nat),A6 xs us->A6 (xs.set i x) (us.set i u)
 |_,_,_,.nil=>.nil|_,_,0,.cons _ t=>.cons r t|_,_,i+1,.cons q t=>.cons q (A6.set r i t)
theorem A6.append:∀{xs ys:bi} {us I:bm},A6 xs us->A6 ys I->A6 (xs++ys) (us++I)
 |_,_,_,_,.nil,s=>s|_,_,_,_,.cons r t,s=>.cons r (A6.append t s)
theorem A6.take:∀{xs:bi} {us:bm} (n:Nat),A6 xs us->A6 (xs.take n) (us.take n)
 |_,_,0,_=>.nil|_,_,_+1,.nil=>.nil|_,_,n+1,.cons r t=>.cons r (A6.take n t)
theorem A6.drop:∀{xs:bi} {us:bm} (n:Nat),A6 xs us->A6 (xs.drop n) (us.drop n)
 |_,_,0,r=>r|_,_,_+1,.nil=>.nil|_,_,n+1,.cons _ t=>A6.drop n t
def JG:Option V->Option aj->Prop
 |some v,aa u=>A5 v u|none,af=>True|_,_=>False
set_option genInjectivity true in
inductive HO where
  |lst (xs:List V)
  |tup (xs:List V)
  |ins (C dx:av) (fs:List (br×V))
  |own (x:av)
  |xd (fs:List (br×V))
  |met (f x:av)
  |rng (lo hi:Int)
  |frz (o:j5) (u:HO)
  |tbl (ps:Array aj)
  |ext (φ:bF->Prop)
noncomputable abbrev Hp:=av->Option HO
variable{H H':Hp}
def upd(H:Hp)(a:av)(o:HO):Hp:=λb=>if b=a then aa o else H b
def dy{o:HO}:upd H a o a=aa o:=by simp[upd]
theorem dV{o:HO}(h:b≠a):upd H a o b=H b:=by simp_all[upd]
theorem eP{o:HO}(h:H a=aa o)(h':H b=af):a≠b:=ac
section
variable(P:bL)(w:c8)
def uo(H:Hp)(h:bF)(a:av):HO->Prop
 |.lst xs=>xs.length<=ay/\∃(its:bm) (n:Nat),A6 xs its/\h.get? a=aa {cls:=.type "list",data:=.seq its.toArray n}
 |.tup xs=>xs.length<=ay/\∃its:bm,A6 xs its/\p5 h a its.toArray
 |.ins C dx fs=>H dx=aa (.own a)/\fs.length<=1000/\dx≠a/\h.get? a=aa (gg C dx) /\
   ∃mA,h.Ns1 dx mA/\(∀f,JG (fs.lookup f) (mA f))/\mB mA (fs.map (·.1))
 |.own _=>∃o,h.get? a=aa o
 |.xd fs=>∃mA,h.Ns1 a mA/\∀f,JG (fs.lookup f) (mA f)
 |.rng lo hi=>∃t u v,h.get? a=aa {cls:=.type "range",data:=.fields #[.int lo t,.int hi u,.int 1 v]}
 |.frz o u=>h.get? a=aa o/\uo H h a u|.tbl ps=>h.get? a=aa {cls:=.none,data:=.fields ps}|.met f x=>h.get? a=aa (PySem.W.methodObj (.ref f) (.ref x))|.ext I=>I h/\(∃o,h.get? a=aa o)/\∀h1 S:bF,I h1->(∀o,h1.get? a=aa o->S.get? a=aa o)->I S
def HOk(H:Hp)(h:bF):Prop:=∀a o,H a=aa o->uo H h a o
end
section
variable{o:HO}
theorem uo.lt(x:uo H h a o):a<h.objs.size:=by
 cases o with
 |lst xs=>obtain⟨_,_,_,_,e⟩:=x;exact aE e
 |tup xs=>obtain⟨_,_,_,p⟩:=x;exact p.lt
 |ins C dx fs=>obtain⟨_,_,_,e,_⟩:=x;exact aE e
 |own y=>obtain⟨_,e⟩:=x;exact aE e
 |xd fs=>obtain⟨_,⟨_,_,_,e,_⟩,_⟩:=x;exact aE e
 |rng lo hi=>obtain⟨_,_,_,e⟩:=x;exact aE e
 |frz S u=>obtain⟨e,_⟩:=x;exact aE e
 |tbl ps=>exact aE (show h.get? a=aa _ from x)|met f y=>exact aE (show h.get? a=aa _ from x)|ext I=>obtain⟨_,⟨_,e⟩,_⟩:=x;exact aE e
def uo.stay(x:uo H h a o)(k:∀b u,(b=a\/H b=aa (.own a))->h.get? b=aa u->h'.get? b=aa u)(Y:∀b,H b=aa (.own a)->H' b=aa (.own a))(i:∀b xs,H b=aa (.tup xs)->H' b=aa (.tup xs)):uo H' h' a o:=by
 induction o with
 |lst xs=>obtain⟨z,its,n,r,e⟩:=x;exact⟨z,its,n,r,k _ _ (.inl rfl) e⟩
 |tup xs=>obtain⟨z,its,r,I,e,c⟩:=x;exact⟨z,its,r,I,k _ _ (.inl rfl) e,c⟩
 |ins C dx fs=>obtain⟨d,z,S,e,mA,⟨od,es,ep,e2,c⟩,r⟩:=x;exact⟨Y _ d,z,S,k _ _ (.inl rfl) e,mA,⟨od,es,ep,k _ _ (.inr d) e2,c⟩,r⟩
 |own y=>obtain⟨I,e⟩:=x;exact⟨I,k _ _ (.inl rfl) e⟩
 |xd fs=>obtain⟨mA,⟨od,es,ep,e,c⟩,r⟩:=x;exact⟨mA,⟨od,es,ep,k _ _ (.inl rfl) e,c⟩,r⟩
 |rng lo hi=>obtain⟨t,u,v,e⟩:=x;exact⟨t,u,v,k _ _ (.inl rfl) e⟩
 |frz I u U=>obtain⟨e,q⟩:=x;exact⟨k _ _ (.inl rfl) e,U q⟩
 |tbl ps=>exact k a _ (.inl rfl) x|met f y=>exact k a _ (.inl rfl) x|ext g=>obtain⟨p,⟨o,e⟩,st⟩:=x;exact⟨st _ _ p λo q=>k _ _ (.inl rfl) q,⟨o,k _ _ (.inl rfl) e⟩,st⟩
theorem HOk.lt(x:HOk H h)(e:H a=aa o):a<h.objs.size:=(x a o e).lt
def HOk.fresh(x:HOk H h)(e:h.objs.size<=a):H a=af:=by
 cases q:H a with
 |none=>rfl|some u=>exact bu (aH (x.lt q) e) (gw _)
def HOk.kept(x:HOk H h)(k:∀b u,h.get? b=aa u->h'.get? b=aa u):HOk H h':=λa o e=>(x a o e).stay (λb u _ q=>k b u q) (λ_ q=>q) λ_ _ q=>q
theorem HOk.laid(x:HOk H h)(k:∀b u,h.get? b=aa u->h'.get? b=aa u)(U:h.objs.size<=a)(S:uo (upd H a o) h' a o):HOk (upd H a o) h':=λb u e=>by
 have I:=x.fresh U;by_cases Y:b=a
 .simp_all[dy]
 .rw[dV Y]at e;exact(x b u e).stay (λc v _ q=>k c v q) (λc q=>by rw[dV (eP q I)];exact q) λc xs q=>by rw[dV (eP q I)];exact q
end
def Rd(H:Hp)(a:av)(u:HO):Prop:=H a=aa u\/∃o,H a=aa (.frz o u)
def Rd.ok{u:HO}(r:Rd H a u)(x:HOk H h):uo H h a u:=by
 rcases r with r|⟨o,r⟩
 .exact x a u r
 .obtain⟨_,q⟩:=x a _ r;exact q
noncomputable def Mut:Option HO->Prop
 |some (.lst _)=>True|some (.ins _ _ _)=>True|some (.ext _)=>True|_=>False
section
variable{x e:av}{o':HO}
theorem HOk.write(ok:HOk H h)(S:Mut (H x))(f:e=x\/H e=aa (.own x))(k:∀b u,b≠e->h.get? b=aa u->h'.get? b=aa u)(U:∃u,h'.get? e=aa u)(d:uo (upd H x o') h' x o'):HOk (upd H x o') h':=λb u q=>by
 have I:∀c y,H c=aa (.own y)->c≠x:=λc y r z=>by subst z;rw[r]at S;exact S
 by_cases g:b=x
 .simp_all[dy]
 .rw[dV g]at q;by_cases Y:b=e
  .have a:H b=aa (.own x):=by
    rcases f with z|z
    .simp_all
    .rw[Y];exact z
   rw[q]at a;cases a;obtain⟨v,i⟩:=U;exact⟨v,a7⟩
  .refine(ok b u q).stay (λc v j r=>k c v ?_ r) (λc r=>by rw[dV (I c b r)];exact r) λc xs r=>by rw[dV ((λc xs r z=>by subst z;rw[r]at S;exact S) c xs r)];exact r
   grind
end
structure Un(fs ex:List av)(H H':Hp)(h h':bF):Prop where
 keep:∀b o,h.get? b=aa o->H b=af->b∉fs->b∉ex->h'.get? b=aa o
 slot:∀b o,h.get? b=aa o->H b=af->b∈fs->b∉ex->∃sl,h'.get? b=aa {o with slots:=sl}
 free:∀b o,h.get? b=aa o->H b=af->b∉ex->H' b=af
 there:∀b o,h.get? b=aa o->b∉ex->∃o',h'.get? b=aa o'
 tups:∀b xs,H b=aa (.tup xs)->H' b=aa (.tup xs)
 frzs:∀b o u,H b=aa (.frz o u)->H' b=aa (.frz o u)
 tbls:∀b ps,H b=aa (.tbl ps)->∃more,H' b=aa (.tbl (ps++more))
section
variable{fs ex:List av}{H1:Hp}{h1:bF}{x e:av}{o:HO}
def Un.any(u:Un fs ex H H1 h h1){I:j5}(q:h.get? b=aa I)(n:H b=af)(S:b∉ex):∃Y,h1.get? b=aa {I with slots:=Y}:=by
 by_cases U:b∈fs
 .exact u.slot b I q n U S
 .exact⟨I.slots,u.keep b I q n U S⟩
theorem Un.kept(k:∀b u,h.get? b=aa u->h'.get? b=aa u):Un fs ex H H h h':=
 ⟨λb I q _ _ _=>k b I q,λb I q _ _ _=>⟨I.slots,k b I q⟩,λ_ _ _ n _=>n,λb I q _=>⟨I,k b I q⟩,λ_ _ q=>q,λ_ _ _ q=>q,λ_ ps q=>⟨#[],a7⟩⟩
def Un.refl:Un fs ex H H h h:=Un.kept λ_ _ q=>q
def Un.laid(k:∀b u,h.get? b=aa u->h'.get? b=aa u)(S:h.objs.size<=a)(I:H a=af):Un fs ex H (upd H a o) h h' where
 keep:=λb u q _ _ _=>k b u q
 slot:=λb u q _ _ _=>⟨u.slots,k b u q⟩
 free:=λb u q n _=>by rw[dV (bg (aH (aE q) S))];exact n
 there:=λb u q _=>⟨u,k b u q⟩
 tups:=λb xs q=>by rw[dV (eP q I)];exact q
 frzs:=λb u xs q=>by rw[dV (eP q I)];exact q
 tbls:=λb ps q=>⟨#[],by rw[dV (eP q I),q];simp⟩
theorem Un.write(S:Mut (H x))(d:e=x\/H e=aa (.own x))(k:∀b u,b≠e->h.get? b=aa u->h'.get? b=aa u)(a:∃u,h'.get? e=aa u):Un fs ex H (upd H x o) h h':=by
 have Y:∀b,H b=af->b≠x:=λb n z=>by subst z;rw[n]at S;exact S
 have U:∀b,H b=af->b≠e:=λb n z=>by simp_all
 have I:∀b u,H b=aa u->¬Mut (aa u)->b≠x:=λb u q c z=>by simp_all
 refine⟨λb u q n _ _=>k b u (U b n) q,λb u q n _ _=>⟨u.slots,k b u (U b n) q⟩,λb u q n _=>by rw[dV (Y b n)];exact n,λb u q _=>?_,
  λb xs q=>by rw[dV (I b _ q λz=>z)];exact q,λb u xs q=>by rw[dV (I b _ q λz=>z)];exact q,λb ps q=>⟨#[],by rw[dV (I b _ q λz=>z),q];simp⟩⟩
 grind
end
noncomputable def trk(h:bF)(H:Hp):List av:=(aX h.objs.size).filter λa=>(H a).isSome
def hidT(h:bF)(H:Hp):bF:=PySem.W.hideAll h (trk h H)
def MP(h:bF)(H:Hp):(hidT h H).objs.size=h.objs.size:=PySem.W.hideAll_size _ _
theorem hidT_get{o:j5}(e:h.get? b=aa o)(n:H b=af):(hidT h H).get? b=aa o:=
 PySem.W.hideAll_get _ e λI=>by
  have q:=(bq.mp I).2
  simp_all
theorem of_hidT{o:j5}(e:(hidT h H).get? b=aa o):h.get? b=aa o/\H b=af:=by
 have I:=PySem.W.of_hideAll _ e;refine⟨I,?_⟩
 cases q:H b with
 |none=>rfl|some x=>
  have z:(hidT h H).get? b=af:=PySem.W.hideAll_none _ (bq.mpr ⟨bA.mpr (aE I),by simp[q]⟩)
  simp_all
structure Mod(K:Fg)(mg:br->Option aj)(base:bF):Prop where
 kin:K.In base
 glob:base.Ns cz mg
 blt:∃mb,base.Ns pH mb/\∀x:br,x≠"__name__"->mb x=fT x
 nolimit:base.NoLimit
structure Cx where
 prog:bL
 w:c8
 K:Fg
 mg:br->Option aj
 base:bF
 A:dD
 N:List br
 s₀:ao
 H₀:Hp
 env:m7
 outer:List m7
 stack:List m7
 ex:List av
 fn:br->Bool
 calm:Bool
 pn:Pn
 xe:aj->ao->Prop
variable{X:Cx}
noncomputable def frs(l:List m7):List av:=l.filterMap (·.frame)
abbrev Cx.fs(X:Cx):List av:=frs X.outer
def Vis(sc:lK)(x:br):Prop:=sc.names.lookup x=aa .local\/sc.names.lookup x=aa .cell\/sc.names.lookup x=aa .free
def Loc(sc:lK)(x:br):Prop:=sc.names.lookup x=aa .local\/sc.names.lookup x=aa .cell
def Look(env:m7)(h:bF)(m:br->Option aj)(x:br)(u:aj):Prop:=
 (env.kindOf x=aa .local/\m x=aa u)\/((env.kindOf x=aa .cell\/env.kindOf x=aa .free)/\∃c,env.cells.lookup x=aa c/\h.IsCell c (aa u))
structure Cx.Ok(X:Cx):Prop where
 mod:Mod X.K X.mg X.base
 kind:X.env.scope.kind=.function
 glob:X.env.globals=cz
 blt:X.env.builtins=pH
 above:X.s₀.heap.objs.size<=X.env.locals
 inj:∀x y c,X.env.cells.lookup x=aa c->X.env.cells.lookup y=aa c->x=y
 has:∀x,(X.env.kindOf x=aa .cell\/X.env.kindOf x=aa .free)->∃c,X.env.cells.lookup x=aa c
 cab:∀x c,X.fn x=ag->X.env.cells.lookup x=aa c->X.s₀.heap.objs.size<=c
 hd:X.calm=ag->X.A.handled=af
 frames:X.A.frames=aa X.stack
 stk:X.stack=X.outer\/(X.stack=X.env::X.outer/\X.env.frame=aa X.env.locals)
 exf:∀b∈X.ex,b≠X.env.locals/\∀x c,X.env.cells.lookup x=aa c->c≠b
 bs:∀b o,X.base.get? b=aa o->X.s₀.heap.get? b=aa o/\X.H₀ b=af
 bsz:X.base.objs.size<=X.s₀.heap.objs.size
 noex:∀b o,X.base.get? b=aa o->b∉X.ex
 exfs:∀b∈X.ex,b∉X.fs
 KY:X.s₀.heap.FunFrames X.base X.outer
 frf:∀b∈X.fs,X.H₀ b=af
structure A3(X:Cx)(A1:Pn)(σ:List (Option V))(H:Hp)(s:ao):Prop where
 ok:X.Ok
 os:s.os=X.s₀.os
 bare:jO s.gens
 base:Un X.fs X.ex X.H₀ H X.s₀.heap s.heap
 loc:∃m,s.heap.Ns X.env.locals m/\∀(i:Nat) (x:br) (v:V),X.N[i]?=aa x->σ[i]?=aa (aa v)->Vis X.env.scope x->∃u,A5 v u/\Look X.env s.heap m x u
 cell:∀x c,X.env.cells.lookup x=aa c->∃v,s.heap.IsCell c v
 free:H X.env.locals=af
 freeC:∀x c,X.env.cells.lookup x=aa c->H c=af
 pin:∀p∈X.pn++A1,s.heap.get? p.1=aa p.2/\H p.1=af/\p.1≠X.env.locals/\p.1∉X.fs/\∀v,p.2.data≠.cell v
 hok:HOk H s.heap
 len:σ.length=X.N.length
section
variable{σ:List (Option V)}{s:ao}
theorem Cx.Ok.nofr(ok:X.Ok){o:j5}(e:X.base.get? b=aa o):b∉X.fs:=λI=>by
 have:=(ok.KY.mem I).1
 simp_all
theorem A3.bs(I:A3 X A1 σ H s):∀b o,X.base.get? b=aa o->s.heap.get? b=aa o/\H b=af:=λb o e=>⟨I.base.keep b o (I.ok.bs b o e).1 (I.ok.bs b o e).2 (I.ok.nofr e) (I.ok.noex b o e),I.base.free b o (I.ok.bs b o e).1 (I.ok.bs b o e).2 (I.ok.noex b o e)⟩
def A3.bk(I:A3 X A1 σ H s):∀b o,X.base.get? b=aa o->s.heap.get? b=aa o:=λb o e=>(I.bs b o e).1
theorem A3.mod(I:A3 X A1 σ H s):Mod X.K X.mg X.base:=I.ok.mod
def A3.kIn(I:A3 X A1 σ H s):X.K.In s.heap:=I.ok.mod.kin.keeps I.bk
theorem A3.lt(I:A3 X A1 σ H s):X.env.locals<s.heap.objs.size:=let ⟨_,S,_⟩:=I.loc;S.lt
def A3.sz(I:A3 X A1 σ H s):X.s₀.heap.objs.size<=s.heap.objs.size:=aQ I.ok.above (b7 I.lt)
def A3.nofs(I:A3 X A1 σ H s)(h:s.heap.objs.size<=a):a∉X.fs:=λU=>by obtain⟨_,o,S,_⟩:=I.ok.KY.mem U;exact bu (aH (aE S) (aQ I.sz h)) (gw _)
theorem A3.cne(I:A3 X A1 σ H s):∀x c,X.env.cells.lookup x=aa c->c≠X.env.locals:=λx c e z=>by
 obtain⟨v,o,Y,a⟩:=I.cell x c e;obtain⟨m,⟨o',es,ep,S,U,_⟩,_⟩:=I.loc
 simp_all
theorem A3.KY(I:A3 X A1 σ H s):s.heap.FunFrames X.base X.outer:=by
 have U:∀(l:List m7),(∀b∈frs l,b∈X.fs)->X.s₀.heap.FunFrames X.base l->s.heap.FunFrames X.base l:=by
  intro l
  induction l with
  |nil=>intro _ _;trivial|cons env r c=>intro Y h;obtain⟨i,⟨L,o,j,g,f,k⟩,d⟩:=h;have S:=Y L (by simp_all[frs]);obtain⟨m,e⟩:=I.base.slot L o f (I.ok.frf L S) S λz=>I.ok.exfs L z S;exact⟨i,⟨L,_,j,g,e,k⟩,c (λb a=>Y b (by simp_all[frs])) d⟩
 exact U X.outer (λ_ a=>a) I.ok.KY
theorem A3.stack(I:A3 X A1 σ H s):s.heap.FunFrames X.base X.stack:=by
 rcases I.ok.stk with e|⟨e,U⟩
 .rw[e];exact I.KY
 .rw[e];obtain⟨m,S,_⟩:=I.loc;refine .cons (by rw[I.ok.kind];decide) U S ?_ I.KY;exact Heap.get?_none_of_le (aQ I.ok.bsz I.ok.above)
theorem A3.Er(I:A3 X A1 σ H s):∀b∈frs X.stack,b∈X.env.locals::X.fs:=λb U=>by
 rcases I.ok.stk with e|⟨e,S⟩
 .simp_all
 simp_all[frs]
def A3.Lw(I:A3 X A1 σ H s):∀b∈frs X.stack,H b=af:=λb S=>by
 rcases aM.mp (I.Er b S)with e|S
 .rw[e];exact I.free
 .obtain⟨_,o,U,_⟩:=I.ok.KY.mem S;exact I.base.free b o U (I.ok.frf b S) λz=>I.ok.exfs b z S
theorem A3.step{t':Nat}{W:Drawn}(I:A3 X A1 σ H s)(f:∀b∈ch,(b∈X.ex\/X.s₀.heap.objs.size<=b)/\b≠X.env.locals/\(∀x c,X.env.cells.lookup x=aa c->c≠b)/\∀p∈X.pn++A1,p.1≠b)(a:∀b o,b≠X.env.locals->b∉X.fs->b∉ch->s.heap.get? b=aa o->H b=af->h'.get? b=aa o)(j:∀b o,b≠X.env.locals->b∈X.fs->b∉ch->s.heap.get? b=aa o->H b=af->∃F,h'.get? b=aa {o with slots:=F})(U:∀b o,b∉ch->s.heap.get? b=aa o->H b=af->H' b=af)(t:∀b o,b∉ch->s.heap.get? b=aa o->∃o',h'.get? b=aa o')(A:∀b xs,H b=aa (.tup xs)->H' b=aa (.tup xs))(D:∀b o u,H b=aa (.frz o u)->H' b=aa (.frz o u))(K:∀b ps,H b=aa (.tbl ps)->∃C,H' b=aa (.tbl (ps++C)))(ns:∀m,s.heap.Ns X.env.locals m->h'.Ns X.env.locals m)(G:HOk H' h')(T:jO g'):
  A3 X A1 σ H' {s with heap:=h',gens:=g',drawn:=W,toks:=t'}:=by
 have B:∀b o,X.s₀.heap.get? b=aa o->b≠X.env.locals:=λb o e=>bg (aH (aE e) I.ok.above);have h:∀b o,X.s₀.heap.get? b=aa o->b∉X.ex->b∉ch:=λb o e S w=>by
  rcases(f b w).1 with z|z
  .exact S z
  .exact bu (aH (aE e) z) (gw _)
 have g:∀x c,X.env.cells.lookup x=aa c->∀v,s.heap.IsCell c v->h'.IsCell c v:=λx c e v ⟨o,y,J⟩=>by
  have Y:=λz=>(f c z).2.2.1 x c e rfl;by_cases P:c∈X.fs
  .obtain⟨F,q⟩:=j c o (I.cne x c e) P Y y (I.freeC x c e);exact⟨_,q,J⟩
  .exact⟨o,a c o (I.cne x c e) P Y y (I.freeC x c e),J⟩
 refine⟨I.ok,I.os,T,⟨λb o e n w S=>?_,λb o e n w S=>?_,λb o e n S=>?_,λb o e S=>?_,λb xs e=>A b xs (I.base.tups b xs e),λb o xs e=>D b o xs (I.base.frzs b o xs e),λb ps e=>?_⟩,?_,λx c e=>?_,?_,λx c e=>?_,λp O=>?_,G,I.len⟩
 .exact a b o (B b o e) w (h b o e S) (I.base.keep b o e n w S) (I.base.free b o e n S)
 .obtain⟨F,e1⟩:=I.base.slot b o e n w S;obtain⟨E,e2⟩:=j b _ (B b o e) w (h b o e S) e1 (I.base.free b o e n S);exact⟨E,e2⟩
 .obtain⟨o',e1⟩:=I.base.there b o e S;exact U b o' (h b o e S) e1 (I.base.free b o e n S)
 .obtain⟨o',e1⟩:=I.base.there b o e S;exact t b o' (h b o e S) e1
 .obtain⟨Z,e1⟩:=I.base.tbls b ps e
  grind
 .obtain⟨m,Q,R⟩:=I.loc;refine⟨m,ns m Q,λi x v e1 e2 e3=>?_⟩
  obtain⟨u,r,l⟩:=R i x v e1 e2 e3;refine⟨u,r,?_⟩
  rcases l with l|⟨k,c,e,z⟩
  .exact .inl l
  .exact .inr ⟨k,c,e,g x c e _ z⟩
 .obtain⟨v,z⟩:=I.cell x c e;exact⟨v,g x c e v z⟩
 .obtain⟨m,⟨o,_,_,y,_⟩,_⟩:=I.loc;exact U _ o (λz=>(f _ z).2.1 rfl) y I.free
 .obtain⟨v,o,y,J⟩:=I.cell x c e;exact U c o (λz=>(f c z).2.2.1 x c e rfl) y (I.freeC x c e)
 .obtain⟨e,n,N,L,d⟩:=I.pin p O;have Y:=λz=>(f p.1 z).2.2.2 p O rfl;exact⟨a p.1 p.2 N L Y e n,U p.1 p.2 Y e n,N,L,d⟩
def A3.un{t':Nat}(I:A3 X A1 σ H s)(u:Un X.fs [] H H' s.heap h')(U:HOk H' h'):A3 X A1 σ H' {s with heap:=h',toks:=t'}:=by
 obtain⟨m,⟨o,es,ep,c,r⟩,_⟩:=id I.loc;obtain⟨g,f⟩:=u.any c I.free ad;exact I.step (ch:=[]) (λ_ z=>nomatch z) (λb o _ Y _ e n=>u.keep b o e n Y ad) (λb o _ Y _ e n=>u.slot b o e n Y ad) (λb o _ e n=>u.free b o e n ad) (λb o _ e=>u.there b o e ad) u.tups u.frzs u.tbls (λh d=>by obtain⟨o',a,ep',S,r'⟩:=d;rw[c]at S;cases S;exact⟨_,a,ep',f,r'⟩) U I.bare
def A3.call{t':Nat}{k:Drawn}(I:A3 X A1 σ H s)(u:Un (frs X.stack) ch H H' s.heap h')(a:HOk H' h')(i:jO g')(Y:∀b∈ch,(b∈X.ex\/X.s₀.heap.objs.size<=b)/\b≠X.env.locals/\(∀x c,X.env.cells.lookup x=aa c->c≠b)/\∀p∈X.pn++A1,p.1≠b):
  A3 X A1 σ H' {s with heap:=h',gens:=g',drawn:=k,toks:=t'}:=by
 obtain⟨m,⟨o,es,ep,g,r⟩,_⟩:=id I.loc;obtain⟨l,d⟩:=u.any g I.free λz=>(Y _ z).2.1 rfl;exact I.step Y (λb o d j S e n=>u.keep b o e n (λz=>(aM.mp (I.Er b z)).elim d j) S) (λb o _ _ S e n=>u.any e n S) (λb o S e n=>u.free b o e n S) (λb o S e=>u.there b o e S) u.tups u.frzs u.tbls (λq h=>by obtain⟨o',f,ep',U,r'⟩:=h;rw[g]at U;cases U;exact⟨_,f,ep',d,r'⟩) a i
theorem A3.turned{t':Nat}{S:av}(I:A3 X A1 σ H s)(k:∀b o,b≠S->s.heap.get? b=aa o->h'.get? b=aa o)(i:H S=af)(Y:S≠X.env.locals)(h1:S∈X.ex\/X.s₀.heap.objs.size<=S)(h:∀x c,X.env.cells.lookup x=aa c->c≠S)(g:∀p∈X.pn++A1,p.1≠S):A3 X A1 σ H {s with heap:=h',toks:=t'}:=by
 refine I.step (ch:=[S]) (λb f=>?_) (λb o _ _ U e _=>k b o (λz=>U (by simp[z])) e) (λb o _ _ U e _=>⟨o.slots,k b o (λz=>U (by simp[z])) e⟩) (λ_ _ _ _ n=>n)
  (λb o U e=>⟨o,k b o (λz=>U (by simp[z])) e⟩) (λ_ _ e=>e) (λ_ _ _ e=>e) (λb ps e=>⟨#[],a7⟩) (λm d=>?_) (λb u e=>?_) I.bare
 .have e:=by simpa using f
  subst e;exact⟨h1,Y,h,g⟩
 .obtain⟨o,es,ep,a,r⟩:=d;exact⟨o,es,ep,k _ o (bO Y) a,r⟩
 .refine(I.hok b u e).stay (λc v U q=>k c v ?_ q) (λ_ q=>q) λ_ _ q=>q
  lia
def A3.tok(I:A3 X A1 σ H s)(t:Nat):A3 X A1 σ H {s with toks:=t}:=I.un Un.refl I.hok
theorem A3.kept{t':Nat}(I:A3 X A1 σ H s)(k:∀b u,s.heap.get? b=aa u->h'.get? b=aa u):A3 X A1 σ H {s with heap:=h',toks:=t'}:=I.un (Un.kept k) (I.hok.kept k)
theorem A3.laid{a:av}{o:HO}{t':Nat}(I:A3 X A1 σ H s)(k:∀b u,s.heap.get? b=aa u->h'.get? b=aa u)(U:s.heap.objs.size<=a)(S:uo (upd H a o) h' a o):
  A3 X A1 σ (upd H a o) {s with heap:=h',toks:=t'}:=I.un (Un.laid k U (I.hok.fresh U)) (I.hok.laid k U S)
theorem A3.write{x e:av}{o:HO}{t':Nat}(I:A3 X A1 σ H s)(Y:Mut (H x))(a:e=x\/H e=aa (.own x))(k:∀b u,b≠e->s.heap.get? b=aa u->h'.get? b=aa u)(S:∃u,h'.get? e=aa u)(U:uo (upd H x o) h' x o):A3 X A1 σ (upd H x o) {s with heap:=h',toks:=t'}:=I.un (Un.write Y a k S) (I.hok.write Y a k S U)
def A3.weak{S:List (Option V)}(I:A3 X A1 σ H s)(a:S.length=σ.length)(w:∀(i:Nat) v,S[i]?=aa (aa v)->σ[i]?=aa (aa v)):A3 X A1 S H s:=
 ⟨I.ok,I.os,I.bare,I.base,let ⟨m,Y,U⟩:=I.loc;⟨m,Y,λi x v e1 e2 e3=>U i x v e1 (w i v e2) e3⟩,I.cell,I.free,I.freeC,I.pin,I.hok,a.trans I.len⟩
def A3.D6{pins':Pn}(I:A3 X A1 σ H s)(h:∀p∈pins',s.heap.get? p.1=aa p.2/\H p.1=af/\p.1≠X.env.locals/\p.1∉X.fs/\∀v,p.2.data≠.cell v):A3 X pins' σ H s:=
 ⟨I.ok,I.os,I.bare,I.base,I.loc,I.cell,I.free,I.freeC,λp S=>(aZ.mp S).elim (λz=>I.pin p (cf _ z)) (h p),I.hok,I.len⟩
def IS(I:N.Nodup)(a:N[i]?=aa x)(b:N[j]?=aa x):i=j:=by obtain⟨h1,e1⟩:=aD.mp a;obtain⟨S,e2⟩:=aD.mp b;exact(List.getElem_inj I).mp (e1.trans e2.symm)
theorem Ep{M:oM}{Q:Unit->ao->Prop}(I:A3 X A1 σ H s)(hN:X.N.Nodup)(hi:X.N[i]?=aa x)(Y:Loc X.env.scope x)(r:A5 v u)(h:∀s',A3 X A1 (σ.set i (aa v)) H s'->(∃a,dG a s.heap s'.heap/\(a=X.env.locals\/X.env.cells.lookup x=aa a))->Q () s')(hf:autoParam (X.fn x=ag\/X.env.scope.names.lookup x=aa .local) Jq3):aP M A (storeName X.env x u) Q E s:=by
 obtain⟨m,Z,hl⟩:=id I.loc;have D:(X.env.scope.kind==.class||(X.env.scope.kind==.module&&X.env.locals != X.env.globals))=ae:=by rw[I.ok.kind];rfl
 have g:i<σ.length:=by rw[I.len];exact(aD.mp hi).1
 have B:=I.cne;have U:∀{a:av} {h':bF},(∃o,s.heap.get? a=aa o/\H a=af)->dG a s.heap h'->HOk H h':=λ{a h'} ha S b ob e=>by
  refine(I.hok b ob e).stay (λc J f q=>(S.2 c ?_).trans q) (λ_ q=>q) λ_ _ q=>q
  lia
 rcases Y with C|C
 .refine wpAny_storeName_local C Z (λh' W S=>?_) D;obtain⟨oL,_,_,T,_⟩:=id Z;refine h _ ⟨I.ok,I.os,I.bare,⟨λb o e n w Y=>?_,λb o e n w Y=>?_,I.base.free,λb o e Y=>?_,I.base.tups,I.base.frzs,I.base.tbls⟩,⟨_,W,λj y K e1 e2 e3=>?_⟩,λy c e=>?_,I.free,I.freeC,λp P=>?_,U ⟨oL,T,I.free⟩ S,by simpa using I.len⟩ ⟨_,S,.inl rfl⟩
  .exact(S.2 b (bg (aH (aE e) I.ok.above))).trans (I.base.keep b o e n w Y)
  .obtain⟨N,e1⟩:=I.base.slot b o e n w Y;exact⟨N,(S.2 b (bg (aH (aE e) I.ok.above))).trans e1⟩
  .obtain⟨o',e1⟩:=I.base.there b o e Y;exact⟨o',(S.2 b (bg (aH (aE e) I.ok.above))).trans e1⟩
  .by_cases l:j=i
   .subst l;rw[hi]at e1;cases e1;rw[aG g]at e2;cases e2;exact⟨u,r,.inl ⟨C,ad⟩⟩
   .rw[aB (bO l)]at e2;obtain⟨L,r',q⟩:=hl j y K e1 e2 e3;refine⟨L,r',?_⟩
    rcases q with⟨k,e⟩|⟨k,c,e,z⟩
    .refine .inl ⟨k,?_⟩;have:y≠x:=λe=>l (IS hN e1 (e▸hi))
     simp_all
    .exact .inr ⟨k,c,e,z.sameBut S (B y c e)⟩
  .obtain⟨J,z⟩:=I.cell y c e;exact⟨J,z.sameBut S (B y c e)⟩
  .obtain⟨e,n,F,O,d⟩:=I.pin p P;exact⟨(S.2 p.1 F).trans e,n,F,O,d⟩
 .have t:X.fn x=ag:=by
   rcases hf with z|z
   .exact z
   .simp_all
  obtain⟨c,f⟩:=I.ok.has x (.inl C);obtain⟨J,z⟩:=I.cell x c f;refine wpAny_storeName_cell I.ok.kind C f z (λh' hc' S=>?_);obtain⟨oc,R,hocd⟩:=id z;refine h {s with heap:=h'} ⟨I.ok,I.os,I.bare,⟨λb o e n w Y=>?_,λb o e n w Y=>?_,I.base.free,λb o e Y=>?_,I.base.tups,I.base.frzs,I.base.tbls⟩,⟨m,Z.sameBut S (bO (B x c f)),λj y K e1 e2 e3=>?_⟩,λy G e=>?_,I.free,I.freeC,λp P=>?_,U ⟨oc,R,I.freeC x c f⟩ S,by simpa using I.len⟩ ⟨c,S,.inr f⟩
  .exact(S.2 b (bg (aH (aE e) (I.ok.cab x c t f)))).trans (I.base.keep b o e n w Y)
  .obtain⟨N,e1⟩:=I.base.slot b o e n w Y;exact⟨N,(S.2 b (bg (aH (aE e) (I.ok.cab x c t f)))).trans e1⟩
  .obtain⟨o',e1⟩:=I.base.there b o e Y;exact⟨o',(S.2 b (bg (aH (aE e) (I.ok.cab x c t f)))).trans e1⟩
  .by_cases l:j=i
   .subst l;rw[hi]at e1;cases e1;rw[aG g]at e2;cases e2;exact⟨u,r,.inr ⟨.inl C,c,f,hc'⟩⟩
   .rw[aB (bO l)]at e2;obtain⟨L,r',q⟩:=hl j y K e1 e2 e3;refine⟨L,r',?_⟩
    rcases q with q|⟨k,G,e,z'⟩
    .exact .inl q
    .refine .inr ⟨k,G,e,z'.sameBut S ?_⟩;rintro rfl;exact l (IS hN e1 (I.ok.inj _ _ _ e f▸hi))
  .by_cases hcc:G=c
   .grind
   .obtain⟨w2,z2⟩:=I.cell y G e;exact⟨w2,z2.sameBut S hcc⟩
  .obtain⟨e,n,F,O,d⟩:=I.pin p P;refine⟨(S.2 p.1 ?_).trans e,n,F,O,d⟩
   grind
def Ik{M:oM}{Q:Unit->ao->Prop}(I:A3 X A1 σ H s)(Y:X.N.Nodup)(hi:X.N[i]?=aa x)(S:Loc X.env.scope x)(r:A5 v u)(h:∀s',A3 X A1 (σ.set i (aa v)) H s'->Q () s')(U:autoParam (X.fn x=ag\/X.env.scope.names.lookup x=aa .local) Jq3):aP M A (storeName X.env x u) Q E s:=
 Ep I Y hi S r (λs' a _=>h s' a) U
def A3.call'(I:A3 X A1 σ H s)(Y:s'.os=s.os)(u:Un (frs X.stack) ch H H' s.heap s'.heap)(S:HOk H' s'.heap)(a:jO s'.gens)(U:∀b∈ch,(b∈X.ex\/X.s₀.heap.objs.size<=b)/\b≠X.env.locals/\(∀x c,X.env.cells.lookup x=aa c->c≠b)/\∀p∈X.pn++A1,p.1≠b):A3 X A1 σ H' s':=by obtain⟨h',g',d,t',o'⟩:=s';subst Y;exact I.call u S a U
end
abbrev XK:=aj->Option av->Hp->Prop
noncomputable abbrev St:=List (Option V)
variable{σ:St}
abbrev VK:=V->Hp->Prop
abbrev TE:=St->Hp->VK->Prop
variable{ta tb te:TE}
abbrev TT:=St->Hp->(Bool->Hp->Prop)->Prop
variable{tc:TT}
abbrev TA:=St->Hp->(bi->Hp->Prop)->Prop
variable{t:TA}
structure Ends where
 nx:St->Hp->Prop
 rt:VK
 bk:St->Hp->Prop:=λ_ _=>False
 ct:St->Hp->Prop:=λ_ _=>False
abbrev TS:=Ends->St->Hp->Prop
inductive EP(X:Cx)(A1:Pn)(σ:St)(Q:VK)(u:aj)(s':ao):Prop
 |mk (v:V) (H':Hp) (I:A3 X A1 σ H' s') (r:A5 v u) (q:Q v H')
inductive TP(X:Cx)(A1:Pn)(σ:St)(Q:Bool->Hp->Prop)(b:Bool)(s':ao):Prop
 |mk (H':Hp) (I:A3 X A1 σ H' s') (q:Q b H')
inductive AP(X:Cx)(A1:Pn)(σ:St)(Q:List V->Hp->Prop)(us:List aj)(s':ao):Prop
 |mk (vs:List V) (H':Hp) (I:A3 X A1 σ H' s') (r:A6 vs us) (q:Q vs H')
inductive NP(X:Cx)(A1:Pn)(Q:St->Hp->Prop)(s':ao):Prop
 |mk (σ':St) (H':Hp) (I:A3 X A1 σ' H' s') (q:Q σ' H')
inductive RP(X:Cx)(A1:Pn)(Q:VK)(u:aj)(s':ao):Prop
 |mk (v:V) (σ':St) (H':Hp) (I:A3 X A1 σ' H' s') (r:A5 v u) (q:Q v H')
def SP(X:Cx)(A1:Pn)(D:Ends)(f:Flow)(s':ao):Prop:=
 match f with
 |.next=>NP X A1 D.nx s'|.brk=>NP X A1 D.bk s'|.cont=>NP X A1 D.ct s'|.ret u=>RP X A1 D.rt u s'
def PE(X:Cx)(e:bX)(t:TE):Prop:=
 ∀(A1:Pn) (s:ao) (σ:St) (H:Hp) (Q:VK),A3 X A1 σ H s->t σ H Q->aP (aI X.prog X.w) X.A (a_ e X.env) (EP X A1 σ Q) X.xe s
def PT(X:Cx)(e:bX)(t:TT):Prop:=
 ∀(A1:Pn) (s:ao) (σ:St) (H:Hp) (Q:Bool->Hp->Prop),A3 X A1 σ H s->t σ H Q->aP (aI X.prog X.w) X.A (n8 e X.env (a_ e X.env)) (TP X A1 σ Q) X.xe s
def PW(X:Cx)(e:bX)(t:TT):Prop:=
 ∀(I:jo aj) (A1:Pn) (s:ao) (σ:St) (H:Hp) (Q:Bool->Hp->Prop),A3 X A1 σ H s->t σ H Q->aP (aI X.prog X.w) X.A (n8 e X.env I) (TP X A1 σ Q) X.xe s
def PW.pt{t:TT}(h:PW X e t):PT X e t:=h _
def PA(X:Cx)(es:List bX)(t:TA):Prop:=
 ∀(pos:lj) (A1:Pn) (s:ao) (σ:St) (H:Hp) (Q:bi->Hp->Prop),A3 X A1 σ H s->t σ H Q->aP (aI X.prog X.w) X.A (spliced (cu pos (au es X.env))) (AP X A1 σ Q) X.xe s
def PS(X:Cx)(st:bY)(t:TS):Prop:=
 ∀(A1:Pn) (s:ao) (σ:St) (H:Hp) (D:Ends),A3 X A1 σ H s->t D σ H->aP (aI X.prog X.w) X.A (exec st X.env) (SP X A1 D) X.xe s
def PSs(X:Cx)(st:List bY)(t:TS):Prop:=
 ∀(A1:Pn) (s:ao) (σ:St) (H:Hp) (D:Ends),A3 X A1 σ H s->t D σ H->aP (aI X.prog X.w) X.A (execs st X.env) (SP X A1 D) X.xe s
def A7{α:Type}{t:jo α}{Q I:α->ao->Prop}{M:oM}{s:ao}(h:aP M A t Q E s)(S:∀a s,Q a s->I a s):aP M A t I E s:=b9 h S λ_ _ x=>x
section
noncomputable def wj(i:Nat):TE:=λσ H Q=>∃v,σ[i]?=aa (aa v)/\Q v H
noncomputable def tC(v:V):TE:=λ_ H Q=>Q v H
def pe_int{i j pos}:PE X (.Constant (.int i) j pos) (tC (.int i)):=λ_ _ _ H _ I h=>wpAny_Constant_int ⟨.int i,H,I.tok _,⟨_,rfl⟩,h⟩
def pe_bl{b j pos}:PE X (.Constant (.bool b) j pos) (tC (.bl b)):=λ_ _ _ H _ I h=>Constant_bool ⟨.bl b,H,I,rfl,h⟩
def pe_non{j pos}:PE X (.Constant .none j pos) (tC .non):=λ_ _ _ H _ I h=>Constant_none ⟨.non,H,I,rfl,h⟩
def Gl(X:Cx)(x:br):Prop:=X.env.kindOf x=aa .globalImplicit
def Dz{s:ao}(I:A3 X A1 σ H s)(U:Gl X x)(S:X.mg x=aa u)(h:Q u s)(Y:((x==("__debug__":br))=ae)⁻¹):aP (aI X.prog X.w) X.A (a_ (.Name x pos) X.env) Q E s:=
 lO I.ok.kind U (Calls.loadGlobal_global (by rw[I.ok.glob];exact I.mod.glob.keeps I.bk) S h) Y
def xf{s:ao}(I:A3 X A1 σ H s)(a:Gl X x)(Y:X.mg x=af)(S:fT x=aa u)(h:Q u s)(U:(x≠"__name__")⁻¹)(b:((x==("__debug__":br))=ae)⁻¹):aP (aI X.prog X.w) X.A (a_ (.Name x pos) X.env) Q E s:=by obtain⟨d,h1,c⟩:=I.mod.blt;exact lO I.ok.kind a (Calls.loadGlobal_builtin (by rw[I.ok.glob];exact I.mod.glob.keeps I.bk) Y (by rw[I.ok.blt];exact h1.keeps I.bk) ((c x U).trans S) h) b
def pe_glob(U:Gl X x)(S:X.mg x=aa u)(r:A5 v u)(Y:((x==("__debug__":br))=ae)⁻¹):PE X (.Name x pos) (tC v):=
 λ_ _ _ H _ I h=>Dz I U S ⟨v,H,I,r,h⟩ Y
def pe_bltn(a:Gl X x)(Y:X.mg x=af)(S:fT x=aa u)(r:A5 v u)(U:(x≠"__name__")⁻¹)(b:((x==("__debug__":br))=ae)⁻¹):PE X (.Name x pos) (tC v):=
 λ_ _ _ H _ I h=>xf I a Y S ⟨v,H,I,r,h⟩ U b
variable{a b:bX}
variable{tA tB':TT}{rest:List bX}
noncomputable def tAnd(t u:TT):TT:=λσ H Q=>t σ H λc H1=>if c=ag then u σ H1 Q else Q ae H1
noncomputable def tOr(t u:TT):TT:=λσ H Q=>t σ H λc H1=>if c=ag then Q ag H1 else u σ H1 Q
noncomputable def tNot(t:TT):TT:=λσ H Q=>t σ H λc H1=>Q (!c) H1
def pw_and(e:PT X a tA)(d:PW X (.BoolOp .And (b::rest) pos) tB'):PW X (.BoolOp .And (a::b::rest) pos) (tAnd tA tB'):=by
 intro U A1 s σ H Q I h;refine isTrue_and (A7 (e A1 s σ H _ I h) λc s1 Y=>?_);obtain⟨H1,S,q1⟩:=Y;cases c with
 |true=>exact d U A1 s1 σ H1 Q S q1|false=>exact⟨H1,S,q1⟩
def pw_or(e:PT X a tA)(d:PW X (.BoolOp .Or (b::rest) pos) tB'):PW X (.BoolOp .Or (a::b::rest) pos) (tOr tA tB'):=by
 intro U A1 s σ H Q I h;refine isTrue_or (A7 (e A1 s σ H _ I h) λc s1 Y=>?_);obtain⟨H1,S,q1⟩:=Y;cases c with
 |true=>exact⟨H1,S,q1⟩|false=>exact d U A1 s1 σ H1 Q S q1
def pt_not(U:PT X a tA):PT X (.UnaryOp .Not a pos) (tNot tA):=by intro A1 s σ H Q I h;refine isTrue_not (A7 (U A1 s σ H (λc H1=>Q (!c) H1) I h) λ_ _ S=>?_);obtain⟨H1,Y,q1⟩:=S;exact⟨H1,Y,q1⟩
noncomputable def tAndV(ta tb:TE):TE:=λσ H Q=>ta σ H λx H1=>∃c,x=.bl c/\if c=ag then tb σ H1 Q else Q (.bl ae) H1
noncomputable def tNotV(ta:TE):TE:=λσ H Q=>ta σ H λx H1=>∃c,x=.bl c/\Q (.bl (!c)) H1
def pe_and(e:PE X a ta)(d:PE X (.BoolOp .And (b::rest) pos) tb):PE X (.BoolOp .And (a::b::rest) pos) (tAndV ta tb):=by
 intro A1 s σ H Q I h;refine BoolOp_and (A7 (e A1 s σ H _ I h) λv s1 Y=>?_);obtain⟨x,H1,S,U,q1⟩:=Y;obtain⟨c,rfl,q1⟩:=q1;cases U;refine cU ?_;cases c with
 |true=>exact d A1 s1 σ H1 Q S q1|false=>exact⟨.bl ae,H1,S,rfl,q1⟩
def pe_not(Y:PE X a ta):PE X (.UnaryOp .Not a pos) (tNotV ta):=by intro A1 s σ H Q I h;refine UnaryOp_ (A7 (Y A1 s σ H _ I h) λv s1 U=>?_);obtain⟨x,H1,b,S,q1⟩:=U;obtain⟨c,rfl,q1⟩:=q1;cases S;exact not_of (cU ⟨.bl (!c),H1,b,rfl,q1⟩)
noncomputable def tIf(t:TT)(ta tb:TE):TE:=λσ H Q=>t σ H λc H1=>if c=ag then ta σ H1 Q else tb σ H1 Q
def pe_ifExp(Y:PT X c tA)(f:PE X a ta)(e:PE X b tb):PE X (.IfExp c a b pos) (tIf tA ta tb):=by
 intro A1 s σ H Q I h;refine wpAny_IfExp (A7 (Y A1 s σ H _ I h) λd s1 U=>?_);obtain⟨H1,S,q1⟩:=U;cases d with
 |true=>exact f A1 s1 σ H1 Q S q1|false=>exact e A1 s1 σ H1 Q S q1
end
inductive KLs(K:Fg)(a:av)(xs:List V):Prop
 |mk (o:j5) (its:Array aj) (n:Nat) (k:K.lookup a=aa o) (c:o.cls=.type "list") (d:o.dict=af) (s:o.data=.seq its n) (z:its.size<=ay) (r:A6 xs its.toList)
inductive KTp(K:Fg)(a:av)(xs:List V):Prop
 |mk (o:j5) (its:Array aj) (n:Nat) (k:K.lookup a=aa o) (c:o.cls=.type "tuple") (s:o.data=.seq its n) (z:its.size<=ay) (r:A6 xs its.toList)
def SqL(K:Fg)(H:Hp)(a:av)(xs:bi):Prop:=Rd H a (.lst xs)\/KLs K a xs
def SqT(K:Fg)(H:Hp)(a:av)(xs:bi):Prop:=Rd H a (.tup xs)\/KTp K a xs
noncomputable def absV:aj->Option V
 |.none=>aa .non|.bool b=>aa (.bl b)|.int i _=>aa (.int i)|.ref a=>aa (.ref a)|.type n=>aa (.ty n)|_=>af
def A5.abs{x:V}(r:A5 x u):absV u=aa x:=by
 cases x with
 |non=>cases r;rfl|bl _=>cases r;rfl|int _=>obtain⟨t,rfl⟩:=r;rfl
 |ref _=>cases r;rfl|ty _=>cases r;rfl
def A5.inj{x y:V}{u:aj}(r:A5 x u)(q:A5 y u):x=y:=cP (r.abs.symm.trans q.abs)
theorem A6.inj:∀{xs ys:bi} {us:bm},A6 xs us->A6 ys us->xs=ys
 |_,_,_,.nil,.nil=>rfl|_,_,_,.cons r t,.cons r' t'=>by rw[r.inj r',A6.inj t t']
section
variable{s:ao}{ys:List V}
def SqL.of(h:H a=aa (.lst xs)):SqL K H a xs:=.inl (.inl h)
def SqT.of(h:H a=aa (.tup xs)):SqT K H a xs:=.inl (.inl h)
inductive AsQ(P:Array aj->Prop)(xs:List V):Prop
 |mk (its:List aj) (r:A6 xs its) (p:P its.toArray) (z:xs.length<=ay)
theorem A3.list(I:A3 X A1 σ H s)(h:SqL X.K H a xs):AsQ (PlainL s.heap a) xs:=by
 rcases h with h|⟨o,its,n,S,Y,U,c,b,r⟩
 .obtain⟨z,its,n,r,e⟩:=h.ok I.hok;exact⟨its,r,⟨_,n,e,rfl,rfl,rfl⟩,z⟩
 .refine⟨its.toList,r,⟨o,n,I.kIn a o S,Y,U,a7⟩,?_⟩
  have e:=r.length
  simp_all
theorem A3.tuple(I:A3 X A1 σ H s)(h:SqT X.K H a xs):AsQ (p5 s.heap a) xs:=by
 rcases h with h|⟨o,its,n,S,U,b,Y,r⟩
 .obtain⟨z,its,r,p⟩:=h.ok I.hok;exact⟨its,r,p,z⟩
 .refine⟨its.toList,r,⟨o,I.kIn a o S,U,n,a7⟩,?_⟩
  have e:=r.length
  simp_all
def A3.IY(I:A3 X A1 σ H s)(h:SqL X.K H a xs)(h':SqL X.K H a ys):xs=ys:=by
 obtain⟨its,r,⟨o,n,e,_,_,d⟩,_⟩:=I.list h;obtain⟨its',r',⟨o',Y,S,_,_,U⟩,_⟩:=I.list h';rw[e]at S;cases S;rw[d]at U;injection U with d1 _
 have:=by simpa using dI kq d1
 subst this;exact r.inj r'
def A3.xx(I:A3 X A1 σ H s)(h:SqT X.K H a xs)(h':SqT X.K H a ys):xs=ys:=by
 obtain⟨its,r,⟨o,e,_,n,d⟩,_⟩:=I.tuple h;obtain⟨its',r',⟨o',S,_,Y,U⟩,_⟩:=I.tuple h';rw[e]at S;cases S;rw[d]at U;injection U with d1 _
 have:=by simpa using dI kq d1
 subst this;exact r.inj r'
end
noncomputable abbrev Cx.wish(X:Cx)(E:aj->ao->Prop):Cx:={X with xe:=E}
abbrev Cx.nox(X:Cx):Cx:=X.wish λ_ _=>False
theorem Cx.Ok.wish{X:Cx}(ok:X.Ok)(E:aj->ao->Prop):(X.wish E).Ok:=
 ⟨ok.mod,ok.kind,ok.glob,ok.blt,ok.above,ok.inj,ok.has,ok.cab,ok.hd,ok.frames,ok.stk,ok.exf,ok.bs,ok.bsz,ok.noex,ok.exfs,ok.KY,ok.frf⟩
def Cx.Ok.yz(ok:(X.wish E).Ok):X.Ok:=
 ⟨ok.mod,ok.kind,ok.glob,ok.blt,ok.above,ok.inj,ok.has,ok.cab,ok.hd,ok.frames,ok.stk,ok.exf,ok.bs,ok.bsz,ok.noex,ok.exfs,ok.KY,ok.frf⟩
section
variable{s:ao}
theorem A3.wish(I:A3 X A1 σ H s)(E:aj->ao->Prop):A3 (X.wish E) A1 σ H s:=⟨I.ok.wish E,I.os,I.bare,I.base,I.loc,I.cell,I.free,I.freeC,I.pin,I.hok,I.len⟩
theorem A3.yz(I:A3 (X.wish E) A1 σ H s):A3 X A1 σ H s:=⟨I.ok.yz,I.os,I.bare,I.base,I.loc,I.cell,I.free,I.freeC,I.pin,I.hok,I.len⟩
theorem SP.yz{D:Ends}{f:Flow}{s':ao}(h:SP (X.wish E) A1 D f s'):SP X A1 D f s':=by
 cases f with
 |next=>obtain⟨S,H',I,q⟩:=h;exact⟨S,H',I.yz,q⟩
 |brk=>obtain⟨S,H',I,q⟩:=h;exact⟨S,H',I.yz,q⟩
 |cont=>obtain⟨S,H',I,q⟩:=h;exact⟨S,H',I.yz,q⟩
 |ret u=>obtain⟨v,S,H',I,r,q⟩:=h;exact⟨v,S,H',I.yz,r,q⟩
theorem PSs.nox{st:List bY}{t:TS}(h:PSs X.nox st t):PSs X st t:=λA1 s σ H D I hw=>b9 (h A1 s σ H D (I.wish _) hw) (λ_ _ q=>q.yz) λ_ _ z=>bV z
end
section
variable{st:bY}{rest:List bY}{t u:TS}
def JU:TS:=λD σ H=>D.nx σ H
def y9(t u:TS):TS:=λD σ H=>t {D with nx:=u D} σ H
def D5:PSs X [] JU:=λ_ _ σ H _ I h=>jR ⟨σ,H,I,h⟩
def lP(h1:PS X st t)(U:PSs X rest u):PSs X (st::rest) (y9 t u):=by
 intro A1 s σ H D I h;refine p7 (A7 (h1 A1 s σ H {D with nx:=u D} I h) λf s1 q=>?_);cases f with
 |next=>obtain⟨S,H',Y,q⟩:=q;exact U A1 s1 S H' D Y q
 |ret v=>exact q|brk=>exact q|cont=>exact q
def rj(h1:PS X st t):PSs X [st] t:=by
 intro A1 s σ H D I h;refine p7 (A7 (h1 A1 s σ H D I h) λf s1 q=>?_);cases f with
 |next=>exact jR q|ret v=>exact q|brk=>exact q|cont=>exact q
def A3.quiet{s:ao}(I:A3 X A1 σ H s):interactive X.env=ae:=by simp[interactive,I.ok.kind]
def CG(te:TE):TS:=λD σ H=>te σ H λ_ H1=>D.nx σ H1
def xm(Y:PE X e te)(S: ~~~(dJ e af pos.line X.env=cO ae)):PS X (.Expr e pos) (CG te):=by intro A1 s σ H D I h;refine wpAny_Expr_any (A7 (Y A1 s σ H _ I h) λv s1 U=>?_) I.quiet S;obtain⟨x,H1,a,b,q1⟩:=U;exact⟨σ,H1,a,q1⟩
def tRet(te:TE):TS:=λD σ H=>te σ H D.rt
def EY(Y:PE X e te):PS X (.Return (aa e) pos) (tRet te):=by intro A1 s σ H D I h;refine wpAny_Return_some (A7 (Y A1 s σ H _ I h) λv s1 U=>?_);obtain⟨x,H1,a,S,q1⟩:=U;exact⟨x,σ,H1,a,S,q1⟩
def tIfS(c:TT)(t u:TS):TS:=λD σ H=>c σ H λb H1=>if b=ag then t D σ H1 else u D σ H1
def LW{a b:List bY}(Y:PT X c tc)(f:PSs X a t)(e:PSs X b u):PS X (.If c a b pos) (tIfS tc t u):=by
 intro A1 s σ H D I h;refine wpAny_If (A7 (Y A1 s σ H _ I h) λd s1 U=>?_);obtain⟨H1,S,q1⟩:=U;cases d with
 |true=>exact f A1 s1 σ H1 D S q1|false=>exact e A1 s1 σ H1 D S q1
noncomputable def tNever:TS:=λ_ _ _=>False
def LV{sts:List bY}:PSs X sts tNever:=λ_ _ _ _ _ _ h=>h.elim
end
abbrev TG:=V->St->Hp->(St->Hp->Prop)->Prop
abbrev TGs:=bi->St->Hp->(St->Hp->Prop)->Prop
def PG(X:Cx)(I:bX)(t:TG):Prop:=
 ∀(A1:Pn) (s:ao) (σ:St) (H:Hp) (v:V) (u:aj) (Q:St->Hp->Prop),A3 X A1 σ H s->A5 v u->t v σ H Q ->
  aP (aI X.prog X.w) X.A (jl I X.env u) (λ_ s'=>NP X A1 Q s') X.xe s
def PGs(X:Cx)(ts:List bX)(t:TGs):Prop:=
 ∀(A1:Pn) (s:ao) (σ:St) (H:Hp) (vs:bi) (us:bm) (Q:St->Hp->Prop),A3 X A1 σ H s->A6 vs us->t vs σ H Q ->
  aP (aI X.prog X.w) X.A (assignInOrder ((eG ts X.env).map (·.2)) us) (λ_ s'=>NP X A1 Q s') X.xe s
abbrev TSet:=V->V->V->Hp->(Hp->Prop)->Prop
def PSet(X:Cx)(t:TSet):Prop:=
 ∀(A1:Pn) (s:ao) (σ:St) (H:Hp) (o i v:V) (ov I u:aj) (Q:Hp->Prop),A3 X A1 σ H s->A5 o ov->A5 i I->A5 v u->t o i v H Q ->
  aP (aI X.prog X.w) X.A (pQ ov I u) (λ_ s'=>TP X A1 σ (λ_=>Q) ag s') X.xe s
noncomputable def r9(i:Nat):TG:=λv σ H Q=>Q (σ.set i (aa v)) H
def ub(Y:X.N.Nodup)(hi:X.N[i]?=aa x)(S:Loc X.env.scope x)(U:autoParam (X.fn x=ag\/X.env.scope.names.lookup x=aa .local) Jq3):PG X (.Name x pos) (r9 i):=by intro A1 s σ H v u Q I r h;exact pN (Ik I Y hi S r (λs' a=>⟨_,H,a,h⟩) U)
noncomputable def gNil:TGs:=λvs σ H Q=>vs=[]/\Q σ H
noncomputable def gCons(t:TG)(u:TGs):TGs:=λvs σ H Q=>∃v r,vs=v::r/\t v σ H λI H'=>u r I H' Q
def M3:PGs X [] gNil:=by intro A1 s σ H vs us Q I r h;obtain⟨e,h⟩:=h;subst e;exact assignInOrder_nil ⟨σ,H,I,h⟩
def ze{t:TG}{u:TGs}(h1:PG X e t)(b:PGs X es u)(Y: ~~~((eG (e::es) X.env).map (·.2)=jl e X.env::(eG es X.env).map (·.2))):PGs X (e::es) (gCons t u):=by
 intro A1 s σ H vs us Q I r h;obtain⟨v,d,e1,h⟩:=h;subst e1;cases r with
 |cons r U=>rw[Y];refine assignInOrder_cons (A7 (h1 A1 s σ H _ _ _ I r h) λ_ s1 a=>?_);obtain⟨S,H1,c,q1⟩:=a;exact b A1 s1 S H1 _ _ Q c U q1
def gTup(K:Fg)(n:Nat)(t:TGs):TG:=λv σ H Q=>∃a xs,v=.ref a/\SqT K H a xs/\xs.length=n/\t xs σ H Q
def gSub(to I:TE)(t:TSet):TG:=λv σ H Q=>to σ H λo H1=>I σ H1 λi H2=>t o i v H2 λS=>Q σ S
def pg_sub{o i:bX}{to Y:TE}{t:TSet}(e:PE X o to)(hi:PE X i Y)(d:PSet X t)(m:autoParam (∀v,jl (.Subscript o i pos) X.env v=(do
   let ov <-gq [v] (a_ o X.env)
   let S <-gq [v,ov] (a_ i X.env)
   jH pos
   gq [v,ov,S] (pQ ov S v)
   release [v,ov,S] [])) Jq4):PG X (.Subscript o i pos) (gSub to Y t):=by
 intro A1 s σ H v u Q I r h;refine ab (c6 (A7 (e A1 s σ H _ I h) λov s1 U=>?_));obtain⟨x,H1,j,b,q1⟩:=U;refine ab (c6 (A7 (hi A1 s1 σ H1 _ j q1) λS s2 U=>?_));obtain⟨y,H2,g,a,q2⟩:=U;refine ab (nh (ab (c6 (A7 (d A1 s2 σ H2 x y v ov S u _ g b a r q2) λ_ l U=>?_))));obtain⟨k,f,c⟩:=U;exact wpAny_release ⟨σ,k,f,c⟩
def GA(te:TE)(g:TG):TS:=λD σ H=>te σ H λx H1=>g x σ H1 D.nx
def LX{g:TG}(b:PE X e te)(a:PG X tg g)(U: ~~~(kO [tg] e pos.line X.env=cO ae))(hw: ~~~(kQ [tg] e X.env=cO af))(h1: ~~~((eG [tg] X.env).map (·.2)=[jl tg X.env])):PS X (.Assign [tg] e pos) (GA te g):=by intro A1 s σ H D I h;refine wpAny_Assign_stores (A7 (b A1 s σ H _ I h) λv s1 Y=>?_) U hw;obtain⟨x,H1,c,S,q1⟩:=Y;rw[h1];exact A7 (a A1 s1 σ H1 x v _ c S q1) λ_ s2 q=>q
def zW(d:X.N.Nodup)(hi:X.N[i]?=aa x)(U:Loc X.env.scope x)(c:PE X e te)(Y: ~~~(dJ e (aa (.Name x pos')) pos.line X.env=cO ae))(b:autoParam (X.fn x=ag\/X.env.scope.names.lookup x=aa .local) Jq3):
  PS X (.Assign [.Name x pos'] e pos) (GA te (r9 i)):=by
 intro A1 s σ H D I h;refine wpAny_Assign_Name (A7 (c A1 s σ H _ I h) λv s1 a=>?_) Y;obtain⟨y,H1,g,S,q1⟩:=a;exact Ik g d hi U S (λs2 f=>⟨_,H1,f,q1⟩) b
def tWhile(c:TT)(tb:TS):TS:=λD σ H=>∃W:Nat->St->Hp->Prop,(∃m,W m σ H)/\∀m σ H,W m σ H ->
 c σ H λb H1=>if b=ag then ∃N:St->Hp->Prop,(∀I H',N I H'->∃S,S<m/\W S I H')/\tb {D with nx:=N,ct:=N,bk:=D.nx} σ H1 else D.nx σ H1
def ps_while{tb:TS}(e:nS (aI X.prog X.w) X.A X.env X.xe)(t:PT X c tc)(u:PSs X body tb):PS X (.While c body [] pos) (tWhile tc tb):=by
 intro A1 s σ H D I h;obtain⟨W,⟨r,q⟩,Y⟩:=h;refine wpAny_While (codeAny_whileLoop (λn s'=>NP X A1 (W n) s') ?_ r ⟨σ,H,I,q⟩);rintro n s1 ⟨U,H1,w,p⟩;refine fW e (A7 (t A1 s1 U H1 _ w (Y n U H1 p)) λb s2 e=>?_);obtain⟨H2,o,q2⟩:=e;cases b with
 |true=>
  obtain⟨N,m,q2⟩:=q2;refine fW e (A7 (u A1 s2 U H2 _ o q2) λf x d=>?_);cases f with
  |next=>obtain⟨S,a,l,i⟩:=d;obtain⟨j,k,g⟩:=m S a i;exact⟨j,k,S,a,l,g⟩
  |cont=>obtain⟨S,a,l,i⟩:=d;obtain⟨j,k,g⟩:=m S a i;exact⟨j,k,S,a,l,g⟩
  |brk=>exact d|ret v=>exact d
 |false=>exact jR ⟨U,H2,o,q2⟩
structure It where
 go:Nat->Hp->Prop
 yld:Nat->Hp->V->Hp->Prop
 stop:Nat->Hp->Prop
def KS(X:Cx)(A1:Pn)(H:Hp)(b:av):Prop:=
 H b=af/\b≠X.env.locals/\b∉X.fs/\(b∈X.ex\/X.s₀.heap.objs.size<=b)/\(∀x c,X.env.cells.lookup x=aa c->c≠b)/\∀p∈X.pn++A1,p.1≠b
theorem A3.MX{s:ao}(I:A3 X A1 σ H s)(S:s.heap.objs.size<=b)(Y:H' b=af):KS X A1 H' b:=by
 refine⟨Y,cW (aH I.lt S),I.nofs S,.inr (aQ I.sz S),λx c e z=>?_,λp U z=>?_⟩
 .obtain⟨v,q⟩:=I.cell x c e;exact bu (aH q.lt a7) (gw _)
 .exact bu (aH (aE (I.pin p U).1) a7) (gw _)
inductive TnP(X:Cx)(A1:Pn)(σ:St)(u:aj)(s:ao)(Y:V->Hp->Prop)(T:Prop)(fp:List av):Prop
 |mk (x:V) (H':Hp) (I:A3 X A1 σ H' s) (r:A5 x u) (y:Y x H') (t:T) (n:∀b∈fp,H' b=af)
structure Turn(P:bL)(w:c8)(K:Fg)(tg:bX)(J:It)(fp:List av)(it:av)(tn:Nat->bF->Prop):Prop where
 mem:it∈fp
 obj:∀i h,tn i h->∀b∈fp,∃o,h.get? b=aa o/\∀v,o.data≠.cell v
 keep:∀i h h',tn i h->(∀b∈fp,∀o,h.get? b=aa o->h'.get? b=aa o)->tn i h'
 item:∀(X:Cx),X.prog=P->X.w=w->X.K=K->X.calm=ag->∀(i:Nat) (A1:Pn) (s:ao) (σ:St) (H:Hp) (E:aj->ao->Prop),A3 X A1 σ H s->(∀b∈fp,KS X A1 H b)->tn i s.heap->J.go i H ->
  aP (aI P w) X.A (jI (.ref it)) (λr s1=>∃u,r=aa u /\
   aP (aI P w) X.A (mz tg (.ref it) u) (λ_ s2=>TnP X A1 σ u s2 (J.yld i H) (tn (i+1) s2.heap) fp) E s1) E s
 done:∀(X:Cx),X.prog=P->X.w=w->X.K=K->X.calm=ag->∀(i:Nat) (A1:Pn) (s:ao) (σ:St) (H:Hp) (E:aj->ao->Prop),A3 X A1 σ H s->(∀b∈fp,KS X A1 H b)->tn i s.heap->J.stop i H ->
  aP (aI P w) X.A (jI (.ref it)) (λr s1=>r=af/\A3 X A1 σ H s1) E s
 self:∀(A:dD) (i:Nat) (s:ao) (Q:aj->ao->Prop) (E:aj->ao->Prop),tn i s.heap->Q (.ref it) s->aP (aI P w) A (n6 (.ref it)) Q E s
abbrev TI:=St->Hp->(It->Hp->Prop)->Prop
inductive PIE(X:Cx)(A1:Pn)(σ:St)(tg:bX)(R:It->Hp->Prop)(itv:aj)(s2:ao):Prop
 |mk (it:av) (fp:List av) (tn:Nat->bF->Prop) (J:It) (H':Hp) (e:itv=.ref it) (I:A3 X A1 σ H' s2) (t:Turn X.prog X.w X.K tg J fp it tn) (z:tn 0 s2.heap) (f:∀b∈fp,KS X A1 H' b) (r:R J H')
def PI(X:Cx)(tg iter:bX)(wi:TI):Prop:=
 ∀(A1:Pn) (s:ao) (σ:St) (H:Hp) (R:It->Hp->Prop),A3 X A1 σ H s->wi σ H R ->
  aP (aI X.prog X.w) X.A (a_ iter X.env) (λv s1=>aP (aI X.prog X.w) X.A (n6 v) (PIE X A1 σ tg R) X.xe s1) X.xe s
def go_of{M : oM}{A : dD}{E : aj -> ao -> Prop}{s : ao}{tg : bX}{S : av}{u : aj}{o : j5}{n : String}{vs : Array aj}{Q : Unit -> ao -> Prop}(U : s.heap.get? S = aa o)(b : o.cls = .type n)(a : o.data = .fields vs)(Y : ["enumerate", "zip", "dict_itemiterator", "dict_reverseitemiterator", "odict_iterator", "itertools.zip_longest", "itertools.pairwise"].contains n = ae)(I : Q () s): aP M A (mz tg (.ref S) u) Q E s := by
  cases tg <;> first
    | exact ai I
    | (cases u <;> first
        | exact ai I
        | (refine ab (jE U ?_)
           rw[b,a];show aP M A (if (["enumerate", "zip", "dict_itemiterator", "dict_reverseitemiterator", "odict_iterator", "itertools.zip_longest", "itertools.pairwise"].contains n && vs[0]?== aa (iw _)) = ag then _ else _) Q E s;rw[aA (by intro h; rw[Y]at h; cases h)];exact ai I))
def Itl(K:Fg)(a:av):It:=
 ⟨λi H=>∃xs x,SqL K H a xs/\xs[i]?=aa x,λi H x H'=>H'=H/\∀xs,SqL K H a xs->xs[i]?=aa x,λi H=>∃xs,SqL K H a xs/\xs.length<=i⟩
def Itt(K:Fg)(a:av):It:=
 ⟨λi H=>∃xs x,SqT K H a xs/\xs[i]?=aa x,λi H x H'=>H'=H/\∀xs,SqT K H a xs->xs[i]?=aa x,λi H=>∃xs,SqT K H a xs/\xs.length<=i⟩
noncomputable def Itr(lo:Int)(n:Nat):It:=⟨λi _=>i<n,λi H x H'=>H'=H/\x=.int (lo+i),λi _=>n<=i⟩
theorem Ej(a U:av):Turn P w K tg (Itl K a) [U] U (λi h=>h.IsListIter U a i) where
 mem:=by simp
 obj:=λi h st b S=>by
  have e:=by simpa using S
  obtain⟨o,e,c,d⟩:=st
  simp_all
 keep:=λi h h' st k=>st.at λo e=>k U ad o e
 item:=by intro X n hw q r i A1 s σ H E I g st m;subst n hw q;obtain⟨xs,x,f,l⟩:=m;obtain⟨its,j,p,v⟩:=I.list f;obtain⟨u,z,t⟩:=j.get l;obtain⟨f0,f1,f2,f3,f4,f5⟩:=g U ad;refine wpAny_pyNext_list_item st p.isList (x:=u) a7 λh' Y sb=>?_;obtain⟨o,e,c,d⟩:=id Y;exact⟨u,rfl,go_of e c d am ⟨x,H,(I.turned (t':=s.toks) (λb o S e=>(sb.2 b S).trans e) f0 f1 f3 f4 f5),t,⟨rfl,λys y=>by rw[I.IY y f];exact l⟩,Y,λb S=>(g b S).1⟩⟩
 done:=by intro X n hw q r i A1 s σ H E I g st m;subst n hw q;obtain⟨xs,f,l⟩:=m;obtain⟨its,j,p,v⟩:=I.list f;obtain⟨f0,f1,f2,f3,f4,f5⟩:=g U ad;have A:=j.length;exact wpAny_pyNext_list_end (I.ok.hd r) st p.isList a7 λh' eb=>⟨rfl,I.turned (λb o S e=>eb b o S e) f0 f1 f3 f4 f5⟩
 self:=λ_ _ _ _ _ st h=>wpAny_pyIter_listiter st h
theorem BK(a U:av):Turn P w K tg (Itt K a) [U] U (λi h=>h.IsTupleIter U a i) where
 mem:=by simp
 obj:=λi h st b S=>by
  have e:=by simpa using S
  obtain⟨o,e,c,d⟩:=st
  simp_all
 keep:=λi h h' st k=>st.at λo e=>k U ad o e
 item:=by intro X n hw q r i A1 s σ H E I g st m;subst n hw q;obtain⟨xs,x,f,l⟩:=m;obtain⟨its,j,p,v⟩:=I.tuple f;obtain⟨u,z,t⟩:=j.get l;obtain⟨f0,f1,f2,f3,f4,f5⟩:=g U ad;refine wpAny_pyNext_tuple_item st (show s.heap.IsTuple a its.toArray from p) (x:=u) a7 λh' Y sb=>?_;obtain⟨o,e,c,d⟩:=id Y;exact⟨u,rfl,go_of e c d am ⟨x,H,(I.turned (t':=s.toks) (λb o S e=>(sb.2 b S).trans e) f0 f1 f3 f4 f5),t,⟨rfl,λys y=>by rw[I.xx y f];exact l⟩,Y,λb S=>(g b S).1⟩⟩
 done:=by intro X n hw q r i A1 s σ H E I g st m;subst n hw q;obtain⟨xs,f,l⟩:=m;obtain⟨its,j,p,v⟩:=I.tuple f;obtain⟨f0,f1,f2,f3,f4,f5⟩:=g U ad;have A:=j.length;exact wpAny_pyNext_tuple_end (I.ok.hd r) st (show s.heap.IsTuple a its.toArray from p) a7 λh' eb=>⟨rfl,I.turned (λb o S e=>eb b o S e) f0 f1 f3 f4 f5⟩
 self:=λ_ _ _ _ _ st h=>wpAny_pyIter_tupleiter st h
theorem JP(S:av)(lo:Int)(n:Nat):Turn P w K tg (Itr lo n) [S] S (λi h=>IsRangeIter h S (lo+(i:Nat)*1) ((n:Int)-(i:Nat)) 1) where
 mem:=by simp
 obj:=λi h st b Y=>by simp_all
 keep:=λi h h' st k=>k S ad _ st
 item:=by
  intro X f hw g d i A1 s σ H E I a st c;subst f hw g;obtain⟨f0,f1,f2,f3,f4,f5⟩:=a S ad;have W:=Walks.range (prog:=X.prog) (w:=X.w) (I.ok.hd d) S lo 1 n;refine W.item i s _ _ c st λv h' m l U j=>?_;obtain⟨t,rfl⟩:=l;refine⟨_,rfl,go_of U rfl rfl am ⟨.int _,H,(I.turned (λb o Y e=>j b o a7 e) f0 f1 f3 f4 f5),⟨t,?_⟩,⟨rfl,rfl⟩,U,λb Y=>(a b Y).1⟩⟩
  simp
 done:=by intro X f hw g d i A1 s σ H E I a st c;obtain⟨f0,f1,f2,f3,f4,f5⟩:=a S ad;exact wpAny_pyNext_range_end (I.ok.hd d) st (by have:n<=i:=c;lia) λh' eb=>⟨rfl,I.turned (λb o Y e=>eb b o Y e) f0 f1 f3 f4 f5⟩
 self:=λ_ _ _ _ _ st h=>wpAny_pyIter_rangeiter st h
theorem IC{s:ao}{R:It->Hp->Prop}{lo hi:Int}{t u v:Tok}{U:Nat}(I:A3 X A1 σ H s)(h1: -(2^62)<=lo)(d:lo<2^62)(c: -(2^62)<=hi)(a:hi<2^62)(q:R (Itr lo (hi-lo).toNat) H):aP (aI X.prog X.w) X.A (n6 (.ref s.heap.objs.size)) (PIE X A1 σ tg R) E {s with heap:=s.heap.push {cls:=.type "range",data:=.fields #[.int lo t,.int hi u,.int 1 v]},toks:=U}:=by
 refine wpAny_pyIter_range (IsRange.new ..) (p8 h1 d c a) ?_;have S:A3 X A1 σ H {s with heap:=s.heap.push {cls:=.type "range",data:=.fields #[.int lo t,.int hi u,.int 1 v]},toks:=U}:=I.kept λb o e=>ah _ e;refine⟨(s.heap.push {cls:=.type "range",data:=.fields #[.int lo t,.int hi u,.int 1 v]}).objs.size,[(s.heap.push {cls:=.type "range",data:=.fields #[.int lo t,.int hi u,.int 1 v]}).objs.size],_,_,H,rfl,
  S.kept λb o e=>ah _ e,JP _ lo (hi-lo).toNat,?_,λb Y=>?_,q⟩
 .have e1:lo+((0:Nat))*1=lo:=by simp
  have e2:(((hi-lo).toNat:Nat))-((0:Nat))=fZ lo hi 1:=by rw[nr];split<;>lia
  rw[e1,e2];exact aw _ rfl
 .have e:b=(s.heap.push {cls:=.type "range",data:=.fields #[.int lo t,.int hi u,.int 1 v]}).objs.size:=by simpa using Y
  subst e;exact S.MX (aq _) (S.hok.fresh (aq _))
def iRng1(ta:TA):TI:=λσ H R=>ta σ H λvs H1=>∃j:Int,vs=[.int j]/\ -(2^62)<=j/\j<2^62/\R (Itr 0 j.toNat) H1
def iRng2(ta:TA):TI:=λσ H R=>ta σ H λvs H1=>∃i j:Int,vs=[.int i,.int j]/\(-(2^62)<=i/\i<2^62/\ -(2^62)<=j/\j<2^62)/\R (Itr i (j-i).toNat) H1
theorem M1{a:bX}{ta:TA}(d:Gl X "range")(c:X.mg "range"=af)(f:PA X [a] ta)(Y: ~~~(au [a] X.env=[(ae,a_ a X.env)])):PI X tg (.Call (.Name "range" p) [a] [] pos) (iRng1 ta):=by
 intro A1 s σ H R I h;refine oT (xf I d c mX (bR (A7 (f pos A1 s σ H _ I h) λus s1 b=>?_) Y rfl));obtain⟨vs,H1,g,U,q1⟩:=b;obtain⟨j,e,q1,q2,q⟩:=q1;subst e;cases U with
 |cons r S=>cases S;obtain⟨t,rfl⟩:=r;exact call_range_1 (IC g ac ac q1 q2 a7)
theorem M0{a b:bX}{ta:TA}(k:Gl X "range")(g:X.mg "range"=af)(l:PA X [a,b] ta)(n: ~~~(au [a,b] X.env=[(ae,a_ a X.env),(ae,a_ b X.env)]))(U: ~~~(au [b] X.env=[(ae,a_ b X.env)])):
  PI X tg (.Call (.Name "range" p) [a,b] [] pos) (iRng2 ta):=by
 intro A1 s σ H R I h;refine oT (xf I k g mX (bR (A7 (l pos A1 s σ H _ I h) λus s1 f=>?_) a7 (by rw[U];rfl)));obtain⟨vs,H1,m,Y,q1⟩:=f;obtain⟨i,j,e,⟨q1,q2,d,c⟩,q⟩:=q1;subst e;cases Y with
 |cons r S=>
  cases S with
  |cons r' S=>cases S;obtain⟨t,rfl⟩:=r;obtain⟨t',rfl⟩:=r';exact call_range_2 (IC m q1 q2 d c q)
def CF(wi:TI)(g:TG)(tb:TS):TS:=λD σ H=>wi σ H λJ H1=>∃W:Nat->Nat->St->Hp->Prop,(∃m,W 0 m σ H1)/\∀i m σ H,W i m σ H ->
 (J.stop i H/\D.nx σ H)\/(J.go i H/\∃N:St->Hp->Prop,(∀I H',N I H'->∃U,U<m/\W (i+1) U I H')/\∀x H',J.yld i H x H'->g x σ H' λS H2=>tb {D with nx:=N,ct:=N,bk:=D.nx} S H2)
def IF(fp:List av)(h:bF):Pn:=fp.filterMap λb=>(h.get? b).map λo=>(b,o)
theorem wQ{o:j5}(I:b∈fp)(e:h.get? b=aa o):(b,o)∈IF fp h:=nY.mpr ⟨b,I,a7⟩
theorem Mg{p:av×j5}(I:p∈IF fp h):p.1∈fp/\h.get? p.1=aa p.2:=by
 obtain⟨b,S,e⟩:=nY.mp I;cases q:h.get? b with
 |none=>simp_all|some o=>grind
theorem A3.pinned{s:ao}(I:A3 X A1 σ H s)(U:∀b∈fp,KS X A1 H b)(a:∀b∈fp,∃o,s.heap.get? b=aa o/\∀v,o.data≠.cell v):A3 X (A1++IF fp s.heap) σ H s:=
 I.D6 λp S=>(aZ.mp S).elim (λz=>I.pin p (bf _ z)) λz=>by
  obtain⟨Y,e⟩:=Mg z;obtain⟨f0,f1,f2,_⟩:=U p.1 Y
  grind
def A3.CB{pl:Pn}{s:ao}(I:A3 X (A1++pl) σ H s):A3 X A1 σ H s:=I.D6 λp S=>I.pin p (bf _ (cf _ S))
def yC{iter:bX}{wi:TI}{g:TG}{tb:TS}(U:nS (aI X.prog X.w) X.A X.env X.xe)(Q:X.calm=ag)(hi:PI X tg iter wi)(hg:PG X tg g)(j:PSs X body tb)(hs:autoParam (∀x,eO iter X.env x=cO x) Jq4):PS X (.For tg iter body [] pos) (CF wi g tb):=by
 intro A1 s σ H D I h;refine wpAny_For (A7 (hi A1 s σ H _ I h) λv s1 h1=>A7 h1 λitv s2 h2=>?_) hs;obtain⟨it,fp,O,J,H2,e,I2,T,F,f2,W,⟨m0,w0⟩,w⟩:=h2;subst e;have c:∀{H':Hp},(∀b∈fp,H' b=af)->∀b∈fp,KS X A1 H' b:=λhn b j=>⟨hn b j,(f2 b j).2⟩
 refine codeAny_forLoop_any (λn s'=>∃i a H',A3 X A1 a H' s'/\O i s'.heap/\(∀b∈fp,H' b=af)/\W i n a H') ?_ m0 ⟨0,σ,H2,I2,F,λb j=>(f2 b j).1,w0⟩;rintro n P ⟨i,Y,C,R,z,B,w3⟩;rcases w i n Y C w3 with⟨y,qn⟩|⟨go,N,hN,step⟩
 .refine fW U (A7 (T.done X rfl rfl rfl Q i A1 P Y C X.xe R (c B) z y) λr s4 U=>?_);obtain⟨K,I4⟩:=U;subst K;exact jR ⟨Y,C,I4,qn⟩
 .refine fW U (A7 (T.item X rfl rfl rfl Q i A1 P Y C X.xe R (c B) z go) λr s4 U=>?_);obtain⟨u,K,h4⟩:=U;subst K;refine fW U (A7 h4 λ_ s5 U=>?_);obtain⟨x,Z,I5,r5,y5,t,L⟩:=U;refine fW U (A7 (hg _ s5 Y Z x u _ (I5.pinned (c L) (T.obj _ _ t)) r5 (step x Z y5)) λ_ s6 U=>?_);obtain⟨E,H6,I6,q6⟩:=U;refine fW U (A7 (j _ s6 E H6 _ I6 q6) λf G q=>?_);have k:∀{S:St} {p:Hp},A3 X _ S p G->N S p->∃m,m<n/\∃i a H',A3 X A1 a H' G/\O i G.heap/\(∀b∈fp,H' b=af)/\W i m a H':=λ{S p} l A=>by
   obtain⟨m',hm,w7⟩:=hN S p A;refine⟨m',hm,i+1,S,p,l.CB,T.keep _ _ _ t λb j o e=>(l.pin (b,o) (bf _ (bf _ (wQ j e)))).1,λb j=>?_,w7⟩
   obtain⟨o,e,d⟩:=T.obj _ _ t b j;exact(l.pin (b,o) (bf _ (bf _ (wQ j e)))).2.1
  cases f with
  |next=>obtain⟨S,p,l,A⟩:=q;exact k l A
  |cont=>obtain⟨S,p,l,A⟩:=q;exact k l A
  |brk=>obtain⟨S,p,l,q⟩:=q;exact⟨S,p,l.CB,q⟩
  |ret v=>obtain⟨x7,S,p,l,r7,q⟩:=q;exact⟨x7,S,p,l.CB,r7,q⟩
abbrev R2:=V->V->Hp->VK->Prop
variable{r r':R2}
def OpR(X:Cx)(f:aj->aj->jo aj)(r:R2):Prop:=
 ∀(A1:Pn) (s:ao) (σ:St) (H:Hp) (x y:V) (v u:aj) (Q:VK),A3 X A1 σ H s->A5 x v->A5 y u->r x y H Q ->
  aP (aI X.prog X.w) X.A (f v u) (EP X A1 σ Q) X.xe s
def UnR(X:Cx)(f:aj->jo aj)(r:V->Hp->VK->Prop):Prop:=
 ∀(A1:Pn) (s:ao) (σ:St) (H:Hp) (x:V) (v:aj) (Q:VK),A3 X A1 σ H s->A5 x v->r x H Q ->
  aP (aI X.prog X.w) X.A (f v) (EP X A1 σ Q) X.xe s
def sH(X:Cx)(f:aj)(r:bi->Hp->VK->Prop):Prop:=
 ∀(A1:Pn) (s:ao) (σ:St) (H:Hp) (xs:bi) (us:bm) (Q:VK),A3 X A1 σ H s->A6 xs us->r xs H Q ->
  aP (aI X.prog X.w) X.A (i0 f us) (EP X A1 σ Q) X.xe s
def TruR(X:Cx)(r:V->Hp->(Bool->Hp->Prop)->Prop):Prop:=
 ∀(A1:Pn) (s:ao) (σ:St) (H:Hp) (x:V) (v:aj) (Q:Bool->Hp->Prop),A3 X A1 σ H s->A5 x v->r x H Q ->
  aP (aI X.prog X.w) X.A (truthy v) (TP X A1 σ Q) X.xe s
noncomputable def tOp(r:R2)(ta tb:TE):TE:=λσ H Q=>ta σ H λx H1=>tb σ H1 λy H2=>r x y H2 Q
noncomputable def tUn(r:V->Hp->VK->Prop)(ta:TE):TE:=λσ H Q=>ta σ H λx H1=>r x H1 Q
noncomputable def rI(C:Int->Int->Prop)(g:Int->Int->V):R2:=λx y H Q=>∃i j,x=.int i/\y=.int j/\C i j/\Q (g i j) H
noncomputable def rI0(g:Int->Int->V):R2:=λx y H Q=>∃i j,x=.int i/\y=.int j/\Q (g i j) H
noncomputable def rU(g:Int->V):V->Hp->VK->Prop:=λx H Q=>∃i,x=.int i/\Q (g i) H
section
variable{a b:bX}
def binT(i:PE X a ta)(g:PE X b tb){s:ao}{R:V->V->Hp->Prop}(I:A3 X A1 σ H s)(h:ta σ H λx H1=>tb σ H1 λy H2=>R x y H2){f:aj->aj->jo aj}(e:∀v u s2 x y H2,A3 X A1 σ H2 s2->A5 x v->A5 y u->R x y H2->aP (aI X.prog X.w) X.A (f v u) Q X.xe s2):
  aP (aI X.prog X.w) X.A (a_ a X.env) (λv U=>aP (aI X.prog X.w) X.A (a_ b X.env) (λu S=>aP (aI X.prog X.w) X.A (f v u) Q X.xe S) X.xe U) X.xe s:=by
 refine A7 (i A1 s σ H _ I h) λv s1 Y=>?_;obtain⟨x,H1,k,d,q1⟩:=Y;refine A7 (g A1 s1 σ H1 _ k q1) λu s2 Y=>?_;obtain⟨y,H2,j,c,q2⟩:=Y;exact e v u s2 x y H2 j d c q2
def pe_op{op:Operator}(Y:OpR X (dO op) r)(d:PE X a ta)(c:PE X b tb):PE X (.BinOp a op b pos) (tOp r ta tb):=by intro A1 s σ H Q I h;exact wpAny_BinOp (binT d c I h λv u s2 x y H2 e U S q=>Y A1 s2 σ H2 x y v u Q e U S q)
def pe_un{op:UnaryOp}{r:V->Hp->VK->Prop}(Y:UnR X (pO op) r)(b:PE X a ta):PE X (.UnaryOp op a pos) (tUn r ta):=by intro A1 s σ H Q I h;refine UnaryOp_ (A7 (b A1 s σ H _ I h) λv s1 U=>?_);obtain⟨x,H1,c,S,q1⟩:=U;exact Y A1 s1 σ H1 x v Q c S q1
def opI{f:aj->aj->jo aj}{C:Int->Int->Prop}(S:∀(i j:Int) (t u:Tok) (s:ao) (Q:aj->ao->Prop) (E:aj->ao->Prop),C i j->Q (.int (g i j) s.toks) {s with toks:=s.toks+1}->aP (aI X.prog X.w) X.A (f (.int i t) (.int j u)) Q E s):
  OpR X f (rI C λi j=>.int (g i j)):=by
 intro A1 s σ H x y v u Q I Y U h;obtain⟨i,j,rfl,rfl,a,q⟩:=h;obtain⟨t,rfl⟩:=Y;obtain⟨t',rfl⟩:=U;exact S i j t t' s _ _ a ⟨.int _,H,I.tok _,⟨_,rfl⟩,q⟩
def opI0{f:aj->aj->jo aj}(S:∀(i j:Int) (t u:Tok) (s:ao) (Q:aj->ao->Prop) (E:aj->ao->Prop),Q (.int (g i j) s.toks) {s with toks:=s.toks+1}->aP (aI X.prog X.w) X.A (f (.int i t) (.int j u)) Q E s):
  OpR X f (rI0 λi j=>.int (g i j)):=by
 intro A1 s σ H x y v u Q I Y U h;obtain⟨i,j,rfl,rfl,q⟩:=h;obtain⟨t,rfl⟩:=Y;obtain⟨t',rfl⟩:=U;exact S i j t t' s _ _ ⟨.int _,H,I.tok _,⟨_,rfl⟩,q⟩
def opB0{f:aj->aj->jo aj}{g:Int->Int->Bool}(S:∀(i j:Int) (t u:Tok) (s:ao) (Q:aj->ao->Prop) (E:aj->ao->Prop),Q (.bool (g i j)) s->aP (aI X.prog X.w) X.A (f (.int i t) (.int j u)) Q E s):
  OpR X f (rI0 λi j=>.bl (g i j)):=by
 intro A1 s σ H x y v u Q I Y U h;obtain⟨i,j,rfl,rfl,q⟩:=h;obtain⟨t,rfl⟩:=Y;obtain⟨t',rfl⟩:=U;exact S i j t t' s _ _ ⟨.bl _,H,I,rfl,q⟩
def CPow(i j:Int):Prop:=0<=j/\j<=1000000/\i.natAbs<2^64
def CMul(i j:Int):Prop:=(-(2^64)<i/\i<2^64)\/(-(2^64)<j/\j<2^64)
def CMul.ok{i j:Int}(h:CMul i j):IntMulOk i j:=by
 rcases h with⟨h1,I⟩|⟨h1,I⟩
 .exact .of_left (intBits_le_64 h1 I)
 .exact .of_right (intBits_le_64 h1 I)
def op_add:OpR X (dO .Add) (rI0 λi j=>.int (i+j)):=opI0 λ_ _ _ _ _ _ _ q=>add_int q
def op_sub:OpR X (dO .Sub) (rI0 λi j=>.int (i-j)):=opI0 λ_ _ _ _ _ _ _ q=>sub_int q
def op_mul:OpR X (dO .Mult) (rI CMul λi j=>.int (i*j)):=opI λ_ _ _ _ _ _ _ I q=>mul_int q I.ok
theorem op_mod:OpR X (dO .Mod) (rI (λ_ j=>0<j) λi j=>.int (i%j)):=opI λi j _ _ _ _ _ I q=>by exact mod_int' ac (by rw[Int.fmod_eq_emod_of_nonneg i ac];exact q)
def op_pow:OpR X (dO .Pow) (rI CPow λi j=>.int (i^j.toNat)):=opI λ_ _ _ _ _ _ _ I q=>pow_int_small I.1 I.2.1 I.2.2 q
def unI{f:aj->jo aj}{g:Int->Int}(S:∀(i:Int) (t:Tok) (s:ao) (Q:aj->ao->Prop) (E:aj->ao->Prop),Q (.int (g i) s.toks) {s with toks:=s.toks+1}->aP (aI X.prog X.w) X.A (f (.int i t)) Q E s):
  UnR X f (rU λi=>.int (g i)):=by
 intro A1 s σ H x v Q I U h;obtain⟨i,rfl,q⟩:=h;obtain⟨t,rfl⟩:=U;exact S i t s _ _ ⟨.int (g i),H,I.tok _,⟨_,rfl⟩,q⟩
def un_neg:UnR X (pO .USub) (rU λi=>.int (-i)):=unI λ_ _ _ _ _ q=>neg_int q
end
noncomputable def scal:V->V->Bool
 |.non,.non=>ag|.non,.int _=>ag|.int _,.non=>ag|.non,.bl _=>ag|.bl _,.non=>ag|.int _,.int _=>ag|.bl _,.bl _=>ag|_,_=>ae
def rNe:R2:=λx y H Q=>scal x y=ag/\Q (.bl (!decide (x=y))) H
def dec_int{i j:Int}:aF (V.int i=V.int j)=(i==j):=by rw[hG];simp
def dec_bl{i j:Bool}:aF (V.bl i=V.bl j)=(i==j):=by rw[hG];simp
section
variable{a b:bX}{tc:TE}
def yK{s:ao}{Q:VK}{k k':Bool}(I:A3 X A1 σ H s)(q:Q (.bl k) H)(e:k=k'):EP X A1 σ Q (.bool k') s:=by subst e;exact⟨.bl k,H,I,rfl,q⟩
def op_ne:OpR X (bZ .NotEq) rNe:=by
 intro A1 s σ H x y v u Q I Y S h;obtain⟨U,q⟩:=h;cases x with
 |non=>
  cases Y;cases y with
  |non=>cases S;exact PySem.EqNone.ne_none_none (yK I q ad)|bl j=>cases S;exact PySem.EqNone.ne_none_bool (yK I q ad)|int j=>obtain⟨t',rfl⟩:=S;exact PySem.EqNone.ne_none_int (yK I q ad)
  |_=>exact bu (show ae=ag from U) dE
 |bl i=>
  cases Y;cases y with
  |non=>cases S;exact PySem.EqNone.ne_bool_none (yK I q ad)|bl j=>cases S;exact ne_bool (yK I q (dI not dec_bl))|_=>exact bu (show ae=ag from U) dE
 |int i=>
  obtain⟨t,rfl⟩:=Y;cases y with
  |non=>cases S;exact PySem.EqNone.ne_int_none (yK I q ad)|int j=>obtain⟨t',rfl⟩:=S;exact ne_int (yK I q (dI not dec_int))
  |_=>exact bu (show ae=ag from U) dE
 |_=>cases y<;>exact bu (show ae=ag from U) dE
def op_lt:OpR X (bZ .Lt) (rI0 λi j=>.bl (aF (i<j))):=opB0 λ_ _ _ _ _ _ _ q=>nW q
def op_le:OpR X (bZ .LtE) (rI0 λi j=>.bl (aF (i<=j))):=opB0 λ_ _ _ _ _ _ _ q=>le_int q
def op_gt:OpR X (bZ .Gt) (rI0 λi j=>.bl (aF (j<i))):=opB0 λ_ _ _ _ _ _ _ q=>gt_int q
def op_notN:OpR X (bZ .IsNot) (λx y H Q=>y=.non/\Q (.bl (!decide (x=.non))) H):=by
 intro A1 s σ H x y v u Q I U S h;obtain⟨rfl,q⟩:=h;cases S;refine isnot_none_gen (yK I q ?_);cases x<;>first
  |(obtain⟨t,rfl⟩:=U;rfl)
def OpR.or{f:aj->aj->jo aj}(h:OpR X f r)(h':OpR X f r'):OpR X f (λx y H Q=>r x y H Q\/r' x y H Q):=by
 intro A1 s σ H x y v u Q I U S q;rcases q with q|q
 .exact h A1 s σ H x y v u Q I U S q
 .exact h' A1 s σ H x y v u Q I U S q
theorem nomark(b:bX)(h:(op≠.In)⁻¹)(I:(op≠.NotIn)⁻¹):ic op b=ae:=by
 have e1:(op==CmpOp.In)=ae:=by cases op<;>first|simp_all
 have e2:(op==CmpOp.NotIn)=ae:=by cases op<;>first|simp_all
 cases b<;>simp[ic,e1,e2]
def pe_cmpR(Y:OpR X (bZ op) r)(e:PE X a ta)(d:PE X b tb)(c:ic op b=ae):PE X (.Compare a [op] [b] pos) (tOp r ta tb):=by intro A1 s σ H Q I h;exact wpAny_Compare1 (binT e d I h λv u s2 x y H2 f U S q=>Y A1 s2 σ H2 x y v u Q f U S q) c
noncomputable def tTest(t:TE):TT:=λσ H Q=>t σ H λx H'=>∃k,x=.bl k/\Q k H'
def LU(f:OpR X (bZ op) r)(j:PE X a ta)(i:PE X b tb)(g:ic op b=ae):PT X (.Compare a [op] [b] pos) (tTest (tOp r ta tb)):=by
 intro A1 s σ H Q I h;refine wpAny_isTrue_Compare1 (A7 (j A1 s σ H _ I h) λv s1 ⟨x,H1,n,Y,q1⟩=>A7 (i A1 s1 σ H1 _ n q1) λu s2 ⟨y,H2,m,U,q2⟩=>A7 (f A1 s2 σ H2 x y v u _ m Y U q2) λc p ⟨z,o,l,S,k,e,d⟩=>?_) g
 subst e;cases S;exact cU ⟨o,l,d⟩
noncomputable def Lm(r r':R2)(ta tb tc:TE):TE:=λσ H Q=>ta σ H λx H1=>tb σ H1 λy H2=>r x y H2 λz I=>∃k,z=.bl k /\
 (if k=ag then tc σ I λS U=>r' y S U Q else Q (.bl ae) I)
def pe_chain(t:OpR X (bZ op) r)(S:OpR X (bZ op') r')(C:PE X a ta)(B:PE X b tb)(A:PE X c tc)(w:autoParam (nL [op,op'] [b,c]=ae) Jq7):PE X (.Compare a [op,op'] [b,c] pos) (Lm r r' ta tb tc):=by
 intro A1 s σ H Q I h;refine Compare_chain (A7 (C A1 s σ H _ I h) λv s1 ⟨x,H1,F,p,q1⟩=>chain_link (A7 (B A1 s1 σ H1 _ F q1) λu s2 ⟨y,H2,E,U,q2⟩=>A7 (t A1 s2 σ H2 x y v u _ E p U q2) λd m ⟨z,g,f,o,k,e,Y⟩=>?_)) w
 subst e;cases o;refine cU ?_;cases k with
 |false=>exact ite_ff ⟨.bl ae,g,f,rfl,Y⟩|true=>exact ite_tt (chain_last (A7 (A A1 m σ g _ f Y) λj l ⟨i,G,D,n,q⟩=>S A1 l σ G y i u j Q D U n q))
def pt_chain(C:OpR X (bZ op) r)(U:OpR X (bZ op') r')(G:PE X a ta)(F:PE X b tb)(E:PE X c tc)(D:autoParam (nL [op,op'] [b,c]=ae) Jq7):PT X (.Compare a [op,op'] [b,c] pos) (tTest (Lm r r' ta tb tc)):=by
 intro A1 s σ H Q I h;refine isTrue_chain (A7 (G A1 s σ H _ I h) λv s1 ⟨x,H1,O,t,q1⟩=>test_link (A7 (F A1 s1 σ H1 _ O q1) λu s2 ⟨y,H2,N,Y,q2⟩=>A7 (C A1 s2 σ H2 x y v u _ N t Y q2) λd n ⟨z,i,g,q,k,e,f⟩=>?_)) D
 subst e;cases q;refine cU ?_;cases k with
 |false=>obtain⟨k',J,B⟩:=f;cases J;exact ite_ff ⟨i,g,B⟩
 |true=>refine ite_tt (test_last (A7 (E A1 n σ i _ g f) λl m S=>?_));obtain⟨j,R,L,p,A⟩:=S;refine A7 (U A1 m σ R y j u l _ L Y p A) λZ W S=>?_;obtain⟨T,P,K,o,k2,e2,w⟩:=S;subst e2;cases o;exact cU ⟨P,K,w⟩
def TruV(K:Fg)(x:V)(H:Hp)(k:Bool):Prop:=
 match x with
 |.non=>k=ae|.bl b=>k=b|.int i=>k=(i != 0)|.ref p=>(∃xs,SqL K H p xs/\k= !xs.isEmpty)\/∃xs,SqT K H p xs/\k= !xs.isEmpty
 |_=>False
def Cb{its:bm}(r:A6 xs its):(!its.toArray.isEmpty)= !xs.isEmpty:=by cases r<;>simp
def IZ:(ay:Nat)<2^63:=by simp[fK]
theorem tru_ok:TruR X (λx H Q=>∃k,TruV X.K x H k/\Q k H):=by
 intro A1 s σ H x v Q I Y h;obtain⟨k,e,q⟩:=h;have d:=fK;cases x with
 |non=>cases Y;subst e;exact truthy_none ⟨H,I,q⟩|bl b=>cases Y;subst e;exact cU ⟨H,I,q⟩|int i=>obtain⟨t,rfl⟩:=Y;subst e;exact PySem.P.truthy_int ⟨H,I,q⟩
 |ref p=>
  cases Y;have U:=e;rcases U with⟨xs,a,U⟩|⟨xs,a,U⟩
  .subst U;obtain⟨its,r,pl,c⟩:=I.list a;have S:=r.length;exact wpAny_truthy_list pl.isList a0 ⟨H,I.tok _,by rw[Cb r];exact q⟩
  .subst U;obtain⟨its,r,pl,c⟩:=I.tuple a;have S:=r.length;exact truthy_tuple pl a0 ⟨H,I.tok _,by rw[Cb r];exact q⟩
 |_=>exact(show False from e).elim
def pt_truth(c:PE X a ta)(b:∀S,n8 a X.env S=(do let v <-S;jH a.pos;gq [v] (truthy v))):
  PT X a (λσ H Q=>ta σ H λx H'=>∃k,TruV X.K x H' k/\Q k H'):=by
 intro A1 s σ H Q I h;refine isTrue_plain (A7 (c A1 s σ H _ I h) λv s1 Y=>?_) (b _);obtain⟨x,H1,d,U,q1⟩:=Y;exact tru_ok A1 s1 σ H1 x v Q d U q1
def vals1{x:V}(r:A6 [x] us):∃u,us=[u]/\A5 x u:=by
 cases r with
 |cons S I=>cases I;exact⟨_,rfl,S⟩
def vals2{x:V}(r:A6 [x,y] us):∃u I,us=[u,I]/\A5 x u/\A5 y I:=by
 cases r with
 |cons a Y=>
  cases Y with
  |cons U S=>cases S;exact⟨_,_,rfl,a,U⟩
def Ny(U:X.calm=ag):sH X (.builtin "max") (λxs H Q=>∃i j,xs=[.int i,.int j]/\Q (.int (if j>i then j else i)) H):=by
 intro A1 s σ H xs us Q I r h;obtain⟨i,j,rfl,q⟩:=h;obtain⟨u,Y,rfl,⟨t,rfl⟩,⟨t',rfl⟩⟩:=vals2 r;refine max_two_ints (I.ok.hd U) λh' a k=>⟨_,H,I.kept k,?_,q⟩
 by_cases S:j>i
 .rw[aC S,aC S];exact⟨_,rfl⟩
 .rw[aA S,aA S];exact⟨_,rfl⟩
def Nw(U:X.calm=ag):sH X (.builtin "min") (λxs H Q=>∃i j,xs=[.int i,.int j]/\Q (.int (if j<i then j else i)) H):=by
 intro A1 s σ H xs us Q I r h;obtain⟨i,j,rfl,q⟩:=h;obtain⟨u,Y,rfl,⟨t,rfl⟩,⟨t',rfl⟩⟩:=vals2 r;refine min_two_ints (I.ok.hd U) λh' a k=>⟨_,H,I.kept k,?_,q⟩
 by_cases S:j<i
 .rw[aC S,aC S];exact⟨_,rfl⟩
 .rw[aA S,aA S];exact⟨_,rfl⟩
end
structure ObjM(h:bF)(x dx C:av)(mA:br->Option aj):Prop where
 obj:h.get? x=aa (gg C dx)
 ns:h.Ns1 dx mA
 ne:dx≠x
theorem Mr(n:h.Ns1 dx mA):∃od,h.get? dx=aa od/\∀name,jm name od=aa (mA name):=by
 obtain⟨o,es,ep,U,c,b,_,Y⟩:=n;refine⟨o,U,λname=>?_⟩
 have e:=Y name;unfold nsFind findBy at e;rw[<-Array.find?_toList]at e;unfold jm;rw[c];dsimp only;split
 .simp_all
 .rename_i q;have a:es.toList.any (·.refKey)=ae:=by
   rw[List.any_eq_false];intro y S;obtain⟨z,t,I⟩:=b y (Array.mem_toList_iff.mp S);simp[DictEntry.refKey,I]
  grind
theorem ObjM.look{x:av}(I:ObjM h x dx C mA):∃od,PySem.W.InstAt h x (gg C dx) C (aa od)/\∀name,jm name od=aa (mA name):=
 let ⟨od,S,U⟩:=Mr I.ns
 ⟨od,⟨I.obj,rfl,rfl,S⟩,U⟩
section
variable{prog:bL}{s:ao}{x f:av}{v:aj}
theorem get_map{S:Bool}(X:K.In s.heap)(I:ObjM s.heap x dx C mA)(a:gH K C name=ag)(Y:ip K C=ag)(b:cp K (.ref C) name=aa af)(c:mA name=aa v)(U:nv v=ag)(h:Q v {s with toks:=s.toks+1}):
  aP (aI prog w) A (getAttr (.ref x) name S) Q E s:=by
 obtain⟨od,J,d⟩:=I.look;exact PySem.W.get_value X J (jv a).1 (PySem.W.findObj_own Y b rfl a7) U h
theorem get_meth{Q:aj×bm->ao->Prop}(X:K.In s.heap)(I:ObjM s.heap x dx C mA)(S:gH K C name=ag)(Y:cp K (.ref C) name=aa (aa (.ref f)))(U:jZ K (.ref f)=ag)(a:mA name=af)(h:Q (.ref f,[.ref x]) s):
  aP (aI prog w) A (kr (.ref x) name pl) Q E s:=by
 obtain⟨od,J,b⟩:=I.look;exact PySem.W.method_fn X J (jv S).1 (jv S).2 Y (beq_iff_eq.mp U) (by show(jm name od).map _=aa ae;simp_all) h
theorem set_map{ns:List br}{Q:Unit->ao->Prop}(X:K.In s.heap)(I:ObjM s.heap x dx C mA)(f:cp K (.ref C) "__setattr__"=aa (aa (.builtin "object.__setattr__")))(g:jX K C=ag)(e:kC K C name=aa af)(i:ip K C=ag)(hw:mB mA ns)(hsz:ns.length<=ay)(h:∀h',ObjM h' x dx C (λy=>if y=name then aa v else mA y)->dG dx s.heap h'->Q () {s with heap:=h',toks:=s.toks+2}):
  aP (aI prog w) A (setAttr (.ref x) name v) Q E s:=by
 obtain⟨od,J,n⟩:=I.look;refine PySem.W.set_plain X J f (PySem.W.osa_open X J g e λb=>?_);obtain⟨o,j,c⟩:=PySem.W.any_some i;refine ab (ai (ab (ab (wpAny_loadPart I.obj (ab (p_ (PySem.W.looks_clsIn X j) ?_))))));rw[c];refine ai (ab (ai (ab ?_)));refine wpAny_nsSet1 I.ns λh' U S=>?_;obtain⟨m,k,l,Y,a,d⟩:=U.count (PySem.Within.cons name v hw);refine ab (wpAny_lookBehind Y (by rw[a];exact pastItsLine_dict (aQ d a7)) ?_);exact ai (h _ ⟨(S.2 _ (bO I.ne)).trans I.obj,U,I.ne⟩ S)
def make_map{R:pI->ao->Prop}{vs:bm}(X:K.In s.heap)(S:i9 K C=ag)(hi:cp K (.ref C) "__init__"=aa (aa (.ref f)))(U:PySem.W.typeIn K (.ref f)=aa (.type "function"))(h:jJ (aI prog w) (A.under (.builtin "type.__call__" ⟨.ref C::vs,kw⟩)) (.call (.ref f) ⟨.ref (s.heap.objs.size+1)::vs,kw⟩) (PySem.W.InitBack (s.heap.objs.size+1) R)
   {s with heap:=(s.heap.push fE).push (gg C s.heap.objs.size)}):
  jJ (aI prog w) A (.call (.ref C) ⟨vs,kw⟩) R s:=by
 obtain⟨a,g,d,t,Y⟩:=s;exact PySem.W.make_core (PySem.W.makes_of X S) (PySem.W.looks_findIn X hi) (λI=>PySem.W.bind_fn X I U) (.inl rfl) h
end
def GC(f:br)(v:V):List (br×V)->List (br×V)
 |[]=>[(f,v)]|(g,x)::r=>if g=f then(g,v)::r else(g,x)::GC f v r
theorem Aj(f g:br)(v:V):∀fs:List (br×V),(GC f v fs).lookup g=if g=f then aa v else fs.lookup g
 |[]=>by
  show cg g [(f,v)]=_
  grind
 |(k,x)::r=>by
  have I:=Aj f g v r;rw[show GC f v _=(if k=f then(k,v)::r else(k,x)::GC f v r)from rfl]
  grind
theorem Ao(f:br)(v:V):∀fs:List (br×V),f∈(GC f v fs).map (·.1)/\∀g,g∈fs.map (·.1)->g∈(GC f v fs).map (·.1)
 |[]=>⟨by simp[GC],λg h=>by simp at h⟩|(k,x)::r=>by
  obtain⟨S,I⟩:=Ao f v r;rw[show GC f v _=(if k=f then(k,v)::r else(k,x)::GC f v r)from rfl]
  grind
theorem Am(f:br)(v:V):∀fs:List (br×V),(GC f v fs).length<=fs.length+1
 |[]=>by simp[GC]|(k,x)::r=>by
  have I:=Am f v r;rw[show GC f v _=(if k=f then(k,v)::r else(k,x)::GC f v r)from rfl]
  grind
def JG.some_of{o:Option aj}(r:JG (aa v) o):∃u,o=aa u/\A5 v u:=by
 cases o with
 |none=>exact(show False from r).elim|some u=>exact⟨u,rfl,r⟩
def JG.none_of{o:Option aj}(r:JG af o):o=af:=by
 cases o with
 |none=>rfl|some u=>exact(show False from r).elim
def MQ(r:A5 v u):nv u=ag:=by
 cases v with
 |non=>cases(show u=cA from r);rfl|bl b=>cases(show u=lJ b from r);rfl|int i=>obtain⟨t,e⟩:=(show ∃t,u=i3 i t from r);cases e;rfl
 |ref a=>cases(show u=aT a from r);rfl|ty n=>cases(show u=gO n from r);rfl
section
variable{fs:List (br×V)}
def Hr(I:HOk H h)(e:H a=aa (.ins C dx fs)):∃mA,ObjM h a dx C mA/\(∀f,JG (fs.lookup f) (mA f))/\mB mA (fs.map (·.1))/\fs.length<=1000/\H dx=aa (.own a):=by
 obtain⟨d,z,U,S,mA,n,r,q⟩:=(show uo H h a _ from I a _ e)
 exact⟨mA,⟨S,n,U⟩,r,q,z,d⟩
end
structure Cls(K:Fg)(C:av):Prop where
 pg:gH K C Str.empty=ag
 hd:ip K C=ag
 po:jX K C=ag
 sa:cp K (.ref C) "__setattr__"=aa (aa (.builtin "object.__setattr__"))
def Cls.get(c:Cls K C)(f:br):gH K C f=ag:=c.pg
def wc(K:Fg)(C:av)(f:br):Prop:=cp K (.ref C) f=aa af
def wc.taker{f:br}(n:wc K C f):kC K C f=aa af:=by unfold kC;rw[show cp K _ f=aa af from n];rfl
structure Meth(K:Fg)(C:av)(m:br)(f:av):Prop where
 at_:cp K (.ref C) m=aa (aa (.ref f))
 fn:jZ K (.ref f)=ag
 kp:ck K (.ref f)=ag
section
variable{s:ao}{fs:List (br×V)}{f:br}
def Kt{b:Bool}(I:A3 X A1 σ H s)(e:H a=aa (.ins C dx fs))(c:Cls X.K C)(n:wc X.K C f)(l:fs.lookup f=aa v)(h:∀u s',A3 X A1 σ H s'->A5 v u->Q u s'):aP (aI X.prog X.w) A (getAttr (.ref a) f b) Q E s:=by obtain⟨mA,O,r,_,_,_⟩:=Hr I.hok e;obtain⟨u,U,S⟩:=JG.some_of (by rw[<-l];exact r f);exact get_map I.kIn O (c.get f) c.hd n U (MQ S) (h u _ (I.tok _) S)
def Cc{g:av}{Q:aj×bm->ao->Prop}(I:A3 X A1 σ H s)(e:H a=aa (.ins C dx fs))(c:Cls X.K C)(k:Meth X.K C m g)(l:fs.lookup m=af)(h:Q (.ref g,[.ref a]) s):aP (aI X.prog X.w) A (kr (.ref a) m pl) Q E s:=by obtain⟨mA,O,r,_,_,_⟩:=Hr I.hok e;exact get_meth I.kIn O (c.get m) k.at_ k.fn (JG.none_of (by rw[<-l];exact r m)) h
theorem JX{Q:Unit->ao->Prop}(I:A3 X A1 σ H s)(e:H a=aa (.ins C dx fs))(c:Cls X.K C)(n:wc X.K C f)(j:fs.length<1000)(U:A5 y u)(h:∀s',A3 X A1 σ (upd H a (.ins C dx (GC f y fs))) s'->Q () s'):aP (aI X.prog X.w) A (setAttr (.ref a) f u) Q E s:=by
 obtain⟨mA,O,r,wi,_,S⟩:=Hr I.hok e;refine set_map I.kIn O c.sa c.po n.taker c.hd wi (by rw[az,fK];lia) λh' O' sb=>h _ ?_;refine I.write (by rw[e];exact gz) (.inr S) (λb q d z=>(sb.2 b d).trans z) (let ⟨o,_,_,i,_⟩:=O'.ns;⟨o,i⟩) ?_;refine⟨by rw[dV O.ne];exact S,?_,O.ne,O'.obj,_,O'.ns,λg=>?_,λg Y=>?_⟩
 .have:=Am f y fs;lia
 .rw[Aj];by_cases q:g=f
  .rw[aC q,aC q];exact U
  simp_all
 .by_cases q:g=f
  .rw[q];exact(Ao f y fs).1
  .refine(Ao f y fs).2 g (wi g λz=>Y ?_)
   simp_all
def A3.made(I:A3 X A1 σ H s):A3 X A1 σ (upd (upd H s.heap.objs.size (.own (s.heap.objs.size+1))) (s.heap.objs.size+1) (.ins C s.heap.objs.size []))
  {s with heap:=(s.heap.push fE).push (gg C s.heap.objs.size)}:=by
 have e1:(s.heap.push fE).get? s.z=aa fE:=aw s.heap rfl;have e2:=by
  have:=aw (s.heap.push fE) (o:=gg C s.z) rfl
  rwa [cB]at this
 have a:=I.laid (o:=.own (s.z+1)) (t':=s.toks) (λb u q=>ah _ q) (aq _) ⟨_,e1⟩;refine a.laid (λb u q=>ah _ q) (gJ (cB _ _)) ?_;have S:s.z≠s.z+1:=bg (jg _);refine⟨by rw[dV S,dy],bz _,S,e2,λ_=>af,(Heap.Ns1.of_empty (⟨fE,#[],_,e1,rfl,(λe Y=>bu Y ad),λ_=>rfl⟩)).at λo q=>ah _ q,λ_=>gz,λy U=>bu rfl U⟩
end
def tFld(K:Fg)(ta:TE)(f:br):TE:=λσ H Q=>ta σ H λx H1=>∃a C dx fs v,x=.ref a/\H1 a=aa (.ins C dx fs)/\Cls K C/\wc K C f/\fs.lookup f=aa v/\Q v H1
def sFld(K:Fg)(ta tv:TE)(f:br):TS:=λD σ H=>tv σ H λy H1=>ta σ H1 λx H2=>∃a C dx fs,x=.ref a/\H2 a=aa (.ins C dx fs)/\Cls K C/\wc K C f/\fs.length<1000 /\
 D.nx σ (upd H2 a (.ins C dx (GC f y fs)))
section
variable{o value:bX}{f:br}{tv:TE}
def M7(b:PE X e ta)(d:cy e f X.env (a_ e X.env)=a_ e X.env):PE X (.Attribute e f pos) (tFld X.K ta f):=by intro A1 s σ H Q I h;refine Attribute_any_ (A7 (b A1 s σ H _ I h) λu s1 Y=>?_) (by rw[arm_eval_Attribute,d]);obtain⟨x,H1,i,S,a,C,dx,fs,v,ex,ea,c,n,l,q⟩:=Y;subst ex;obtain rfl:u=aT a:=S;exact Kt i ea c n l λj s2 g U=>⟨v,H1,g,U,q⟩
def ps_fld(e:PE X o ta)(b:PE X value tv)(d:dJ value (aa (.Attribute o f pos')) pos.line X.env=cO ae):PS X (.Assign [.Attribute o f pos'] value pos) (sFld X.K ta tv f):=by intro A1 s σ H D I h;refine plainObj_wpAny_Assign_Attribute (A7 (b A1 s σ H _ I h) λu s1 S=>?_) d;obtain⟨y,H1,j,U,q⟩:=S;refine A7 (e A1 s1 σ H1 _ j q) λov s2 S=>?_;obtain⟨x,H2,i,Y,a,C,dx,fs,ex,ea,c,n,l,q2⟩:=S;subst ex;obtain rfl:ov=aT a:=Y;exact JX i ea c n l U λk g=>⟨σ,_,g,q2⟩
end
structure vc(k:Nat)(A:dD):Prop where
 hd:A.handled=af
 dp:A.depth+3*k+5<recursionLimit
 un:A.units+16*k+200<b_
theorem vc.mono(r:vc k A)(h:j<=k):vc j A:=⟨r.hd,by have:=r.dp;lia,by have:=r.un;lia⟩
theorem vc.deeper{k:Nat}{A:dD}(r:vc (k+1) A)(env:m7):vc k (A.deeper env):=
 ⟨r.hd,by have:=r.dp;show A.depth+1+3*k+5<_;lia,by have:=r.un;show A.units+3+16*k+200<_;lia⟩
theorem Kk:(A.under (.builtin "type.__call__" ⟨.ref C::us,kw⟩)).depth=A.depth+1:=by rfl
theorem Kj:(A.under (.builtin "type.__call__" ⟨.ref C::us,kw⟩)).units=A.units+1:=by rfl
theorem vc.make(r:vc (k+1) A)(C:av)(us:bm)(kw:List (br×aj)):vc k (A.under (.builtin "type.__call__" ⟨.ref C::us,kw⟩)):=
 ⟨r.hd,by have:=r.dp;grind[Kk],by have:=r.un;grind[Kj]⟩
theorem vc.depth{k:Nat}{A:dD}(r:vc k A):A.depth<recursionLimit:=by have:=r.dp;lia
theorem vc.units{k:Nat}{A:dD}(r:vc k A):A.units+64<b_:=by have:=r.un;lia
noncomputable def Ii:TA:=λ_ H Q=>Q [] H
noncomputable def zF(ta:TE)(I:TA):TA:=λσ H Q=>ta σ H λx H1=>I σ H1 λxs H2=>Q (x::xs) H2
def rL:PA X [] Ii:=λ_ _ _ _ H Q I h=>nV ⟨[],H,I,.nil,h⟩
def nD(c:PE X e te)(b:PA X es t)(a: ~~~(au (e::es) X.env=(ae,a_ e X.env)::au es X.env)):PA X (e::es) (zF te t):=by intro pos A1 s σ H Q I h;rw[a];refine j6 (A7 (c A1 s σ H _ I h) λu s1 S=>?_);obtain⟨x,H1,f,Y,q1⟩:=S;refine A7 (b pos A1 s1 σ H1 _ f q1) λus s2 S=>?_;obtain⟨xs,H2,d,U,q2⟩:=S;exact⟨x::xs,H2,d,.cons Y U,q2⟩
def tTup(t:TA):TE:=λσ H Q=>t σ H λxs H1=>xs.length<=ay/\∀p,H1 p=af->Q (.ref p) (upd H1 p (.tup xs))
def tLst(t:TA):TE:=λσ H Q=>t σ H λxs H1=>xs.length<=ay/\∀p,H1 p=af->Q (.ref p) (upd H1 p (.lst xs))
def pe_tup{U}(h:PA X es t):PE X (.Tuple es U pos) (tTup t):=by
 intro A1 s σ H Q I Y;refine wpAny_Tuple_spliced (A7 (h pos A1 s σ H _ I Y) λus s1 a=>?_);obtain⟨xs,H1,S,r,z,q⟩:=a;refine⟨by rw[<-r.length];exact z,?_⟩
 refine⟨.ref s1.z,upd H1 s1.z _,S.laid (λb u e=>ah _ e) (aq _) ?_,rfl,q _ (S.hok.fresh (aq _))⟩
 exact⟨z,us,r,⟨_,aw _ rfl,rfl,_,rfl⟩⟩
def IH(h:PA X es t):PE X (.List es pos) (tLst t):=by
 intro A1 s σ H Q I U;refine wpAny_List_spliced (A7 (h pos A1 s σ H _ I U) λus s1 Y=>?_);obtain⟨xs,H1,S,r,z,q⟩:=Y;refine⟨by rw[<-r.length];exact z,?_⟩
 refine⟨.ref s1.z,upd H1 s1.z _,S.laid (λb u e=>ah _ e) (aq _) ?_,rfl,q _ (S.hok.fresh (aq _))⟩
 exact⟨z,us,0,r,aw _ rfl⟩
abbrev Sp:=bi->Hp->VK->XK->Prop
variable{sp:Sp}
abbrev CXT:=List m7->Hp->ao->XK->aj->ao->Prop
variable{CX:CXT}
structure Env0(P:bL)(w:c8)(K:Fg)(mg:br->Option aj)(base:bF)(A:dD)(outer:List m7)(s:ao)(H:Hp):Prop where
 frames:A.frames=aa outer
 mod:Mod K mg base
 bs:∀b o,base.get? b=aa o->s.heap.get? b=aa o/\H b=af
 bsz:base.objs.size<=s.heap.objs.size
 KY:s.heap.FunFrames base outer
 frf:∀b∈frs outer,H b=af
 hok:HOk H s.heap
 bare:jO s.gens
inductive CE(outer:List m7)(P:bL)(w:c8)(H:Hp)(s:ao)(Q:VK)(u:aj)(s':ao):Prop
 |mk (v:V) (H':Hp) (o:s'.os=s.os) (b:jO s'.gens) (n:Un (frs outer) [] H H' s.heap s'.heap) (k:HOk H' s'.heap) (r:A5 v u) (q:Q v H')
def CR(CX:CXT)(outer:List m7)(P:bL)(w:c8)(H:Hp)(s:ao)(Q:VK)(E:XK)(r:pI)(s':ao):Prop:=
 match r with
 |.ok (.ret u)=>CE outer P w H s Q u s'|.ok _=>False|.error e=>CX outer H s E e s'
structure vT(P:bL)(w:c8)(K:Fg)(mg:br->Option aj)(base:bF)(CX:CXT)(k:Nat)(f:av)(fd:dX)(ps:List br)(sp:Sp):Prop where
 len:∀vs H Q E,sp vs H Q E->vs.length=ps.length
 run:∀(A:dD) (outer:List m7) (s:ao) (H:Hp) (args:Args) (us:bm) (vs:bi) (Q:VK) (E:XK),vc k A->Env0 P w K mg base A outer s H->kv s fd args (ps.zip us)->A6 vs us->sp vs H Q E ->
  jJ (aI P w) A (.call (.ref f) args) (CR CX outer P w H s Q E) s
def Env0.make{base:bF}{s:ao}(e:Env0 P w K mg base A outer s H)(C:av)(us:bm)(kw:List (br×aj)):
  Env0 P w K mg base (A.under (.builtin "type.__call__" ⟨.ref C::us,kw⟩)) outer s H:=⟨by first|(simpa[Around.under,Code.envs,Code.isFrame,pushEnvs] using e.frames),e.mod,e.bs,e.bsz,e.KY,e.frf,e.hok,e.bare⟩
section
variable{s:ao}
def A3.env0(I:A3 X A1 σ H s):Env0 X.prog X.w X.K X.mg X.base X.A X.stack s H:=
 ⟨I.ok.frames,I.ok.mod,I.bs,aQ I.ok.bsz I.sz,I.stack,I.Lw,I.hok,I.bare⟩
def A3.after{Q:VK}(I:A3 X A1 σ H s)(h:CE X.stack X.prog X.w H s Q u s'):EP X A1 σ Q u s':=by obtain⟨v,H',c,S,a,Y,r,q⟩:=h;obtain⟨e,g,d,t,U⟩:=s';obtain rfl:U=s.os:=c;exact⟨v,H',I.call a Y S (λb z=>bu z ad),r,q⟩
end
noncomputable def Ln(sp:Sp)(dvs:bi)(E:XK)(t:TA):TE:=λσ H Q=>t σ H λvs H1=>sp (vs++dvs) H1 Q E
def tMeth(C:av)(m:br)(sp:Sp)(dvs:bi)(E:XK)(ta:TE)(t:TA):TE:=λσ H Q=>ta σ H λx H1=>∃a dx fs,x=.ref a/\H1 a=aa (.ins C dx fs)/\fs.lookup m=af /\
 t σ H1 λvs H2=>sp (x::(vs++dvs)) H2 Q E
def tMake(C:av)(sp:Sp)(dvs:bi)(E:XK)(t:TA):TE:=λσ H Q=>t σ H λvs H1=>∀x dx,H1 x=af->H1 dx=af->dx≠x ->
 sp (.ref x::(vs++dvs)) (upd (upd H1 dx (.own x)) x (.ins C dx [])) (λv H2=>v=.non/\Q (.ref x) H2) E
def Binds(K:Fg)(fd:dX)(ps:List br)(ds:bm):Prop:=
 ∀(s:ao) (us:bm),K.In s.heap->(us++ds).length=ps.length->kv s fd ⟨us,[]⟩ (ps.zip (us++ds))
def Binds.all(h:∀us:bm,us.length=ps.length->lI fd ⟨us,[]⟩=cO (ps.zip us)):Binds K fd ps []:=λs us _ I=>by rw[b8]at I ⊢;exact .of_eq (h us I)
def Passes(CX:CXT)(X:Cx)(E:XK):Prop:=∀(A1:Pn) (σ:St) (H:Hp) (s:ao) (e:aj) (s':ao),A3 X A1 σ H s->CX X.stack H s E e s'->X.xe e s'
section
variable{f:av}{dvs:List V}{ds:List aj}{E:XK}{apos:lj}{o:bX}
theorem Ir{s:ao}{Q:VK}(F:vT X.prog X.w X.K X.mg X.base CX k f fd ps sp)(a:vc k X.A)(c:Binds X.K fd ps ds)(b:A6 dvs ds)(Y:Passes CX X E)(I:A3 X A1 σ H s)(r:A6 vs us)(h:sp (vs++dvs) H Q E):aP (aI X.prog X.w) X.A (i0 (.ref f) us) (EP X A1 σ Q) X.xe s:=by
 have U:=r.append b;refine wpAny_call (gu (F.run X.A X.stack s H _ _ _ Q E a I.env0 (c s us I.kIn (by rw[<-U.length];exact F.len _ _ _ _ h)) U h) λr s' S=>?_);cases r with
 |error e=>exact Y A1 σ H s e s' I S|ok fl=>
  cases fl with
  |ret u=>exact I.after S|next=>exact bV S|brk=>exact bV S|cont=>exact bV S
def D7(F:vT X.prog X.w X.K X.mg X.base CX k f fd ps sp)(b:vc k X.A)(i:Gl X x)(d:X.mg x=aa (.ref f))(g:ck X.K (.ref f)=ag)(m:Binds X.K fd ps ds)(l:A6 dvs ds)(a:Passes CX X E)(n:PA X (e::es) t)(U:((x==("__debug__":br))=ae)⁻¹)(j: ~~~(au (e::es) X.env=(ae,a_ e X.env)::au es X.env))(S: ~~~((cu pos (au es X.env)).any (·.1)=ae)):
  PE X (.Call (.Name x p) (e::es) [] pos) (Ln sp dvs E t):=by
 intro A1 s σ H Q I h;refine iX (Dz I i d ?_ U);refine hX I.ok.mod.kin g (A7 (n pos A1 s σ H _ I h) λus s1 c=>?_) j S;obtain⟨vs,H1,Y,r,q⟩:=c;refine⟨Y.kIn,?_⟩
 exact Ir F b m l a Y r q
def pe_meth(w:PE X o ta)(c:Cls X.K C)(d:Meth X.K C m f)(F:vT X.prog X.w X.K X.mg X.base CX k f fd ps sp)(v:vc k X.A)(z:Binds X.K fd ps ds)(y:A6 dvs ds)(n:Passes CX X E)(A:PA X (e::es) t)(U: ~~~(au (e::es) X.env=(ae,a_ e X.env)::au es X.env))(Y: ~~~((cu pos (au es X.env)).any (·.1)=ae))(p: ~~~(a_ (.Call (.Attribute o m apos) (e::es) [] pos) X.env=(do
   let ov <-a_ o X.env
   jH apos.atName
   let (f,S) <-gq [ov] (kr ov m pl)
   oI pos f S (cu pos (au (e::es) X.env)) (ik pos (fN [] X.env))))):
  PE X (.Call (.Attribute o m apos) (e::es) [] pos) (tMeth C m sp dvs E ta t):=by
 intro A1 s σ H Q I h;refine jf (A7 (w A1 s σ H _ I h) λu s1 b=>?_) p;obtain⟨x,H1,i,j,a,dx,fs,ex,ea,l,q⟩:=b;subst ex;obtain rfl:u=aT a:=j;refine Cc i ea c d l ?_;refine hX I.ok.mod.kin d.kp (A7 (A pos A1 s1 σ H1 _ i q) λus s2 b=>?_) U Y;obtain⟨vs,H2,g,r,q2⟩:=b;refine⟨g.kIn,?_⟩
 exact Ir (vs:=.ref a::vs) F v z y n g (.cons rfl r) q2
def pe_meth0(j:PE X o ta)(c:Cls X.K C)(Y:Meth X.K C m f)(F:vT X.prog X.w X.K X.mg X.base CX k f fd ps sp)(g:vc k X.A)(p:Binds X.K fd ps ds)(n:A6 dvs ds)(d:Passes CX X E)(e: ~~~(a_ (.Call (.Attribute o m apos) [] [] pos) X.env=(do
   let ov <-a_ o X.env
   jH apos.atName
   let (f,S) <-gq [ov] (kr ov m pl)
   oI pos f S (cu pos (au [] X.env)) (ik pos (fN [] X.env))))):
  PE X (.Call (.Attribute o m apos) [] [] pos) (tMeth C m sp dvs E ta Ii):=by
 intro A1 s σ H Q I h;refine jf (A7 (j A1 s σ H _ I h) λu s1 i=>?_) e;obtain⟨x,H1,U,b,a,dx,fs,ex,ea,l,q⟩:=i;subst ex;obtain rfl:u=aT a:=b;refine Cc U ea c Y l ?_;exact PySem.W.callWith_K0 U.kIn Y.kp (Ir (vs:=[.ref a]) F g p n d U (.cons rfl .nil) q)
structure Mk(K:Fg)(C f:av):Prop where
 makes:i9 K C=ag
 init:cp K (.ref C) "__init__"=aa (aa (.ref f))
 fn:jZ K (.ref f)=ag
 kp:ck K (.ref C)=ag
theorem run_make{s:ao}{Q:VK}(M:Mk X.K C f)(F:vT X.prog X.w X.K X.mg X.base CX k f fd ps sp)(g:vc (k+1) X.A)(l:Binds X.K fd ps ds)(j:A6 dvs ds)(d:Passes CX X E)(I:A3 X A1 σ H s)(r:A6 vs us)(h:∀x dx,H x=af->H dx=af->dx≠x->sp (.ref x::(vs++dvs)) (upd (upd H dx (.own x)) x (.ins C dx [])) (λv H2=>v=.non/\Q (.ref x) H2) E):
  aP (aI X.prog X.w) X.A (i0 (.ref C) us) (EP X A1 σ Q) X.xe s:=by
 have a:=h (s.z+1) s.z (I.hok.fresh (jP _)) (I.hok.fresh (aq _)) (bg (jg _));have U:=A3.made (C:=C) I;have Y:A6 (V.ref (s.z+1)::(vs++dvs)) (aT (s.z+1)::(us++ds)):=.cons rfl (r.append j);have i:(aT (s.z+1)::us++ds).length=ps.length:=by have e:=Y.length;rw[F.len _ _ _ _ a]at e;exact e.symm
 refine wpAny_call (make_map (f:=f) I.kIn M.makes M.init (beq_iff_eq.mp M.fn) (gu (F.run _ X.stack _ _ ⟨aT (s.z+1)::us,[]⟩ (aT (s.z+1)::(us++ds)) _ _ E (g.make C us [])
  (U.env0.make C us []) (l _ (aT (s.z+1)::us) U.kIn i) Y a) λr s' S=>?_))
 cases r with
 |error e=>exact d A1 σ _ _ e s' U S|ok fl=>
  cases fl with
  |ret u=>obtain⟨v,H',m,b,ev,c⟩:=U.after S;subst ev;exact⟨b,⟨V.ref (s.z+1),H',m,rfl,c⟩⟩
  |next=>exact bV S|brk=>exact bV S|cont=>exact bV S
def M5(M:Mk X.K C f)(F:vT X.prog X.w X.K X.mg X.base CX k f fd ps sp)(b:vc (k+1) X.A)(g:Gl X x)(d:X.mg x=aa (.ref C))(l:Binds X.K fd ps ds)(j:A6 dvs ds)(a:Passes CX X E)(m:PA X (e::es) t)(U:((x==("__debug__":br))=ae)⁻¹)(i: ~~~(au (e::es) X.env=(ae,a_ e X.env)::au es X.env))(S: ~~~((cu pos (au es X.env)).any (·.1)=ae)):
  PE X (.Call (.Name x p) (e::es) [] pos) (tMake C sp dvs E t):=by
 intro A1 s σ H Q I h;refine iX (Dz I g d ?_ U);refine hX I.ok.mod.kin M.kp (A7 (m pos A1 s σ H _ I h) λus s1 c=>?_) i S;obtain⟨vs,H1,Y,r,q⟩:=c;refine⟨Y.kIn,?_⟩
 exact run_make M F b l j a Y r q
end
structure uq(N P:List br)(sc:lK):Prop where
 kind:sc.kind=.function
 co:sc.isCoroutine=ae
 gen:sc.isGenerator=ae
 nd:N.Nodup
 pre:N.take P.length=P
 par:∀x∈P,sc.names.lookup x=aa .local\/sc.names.lookup x=aa .cell
 nofree:∀y∈sc.names,y.2≠.free
theorem Gq{S:br->Option fX}{x:br}:∀{I:List (br×aj)} {m:br->Option aj},(∀v,(x,v)∉I)->nO S I m x=m x
 |[],_,_=>rfl|(n,v)::r,m,h=>by
  unfold nO;rw[Gq λw hw=>h w (bH _ hw)];split
  .grind
  .rfl
theorem Gs{S:br->Option fX}{x:br}:∀{I:List (br×aj)} {m:br->Option aj},(∀v,(x,v)∉I)->oJ S I m x=m x
 |[],_,_=>rfl|(n,v)::r,m,h=>by
  unfold oJ;rw[Gs λw hw=>h w (bH _ hw)];split
  .rfl
  grind
theorem Gr{I:br->Option fX}{x:br}{v:aj}:∀{P:List br} {vs:bm} {i:Nat} {m:br->Option aj},P.Nodup->P[i]?=aa x->vs[i]?=aa v->I x=aa .local ->
  nO I (P.zip vs) m x=aa v
 |[],_,_,_,_,h,_,_=>by simp at h|_::_,[],_,_,_,_,h,_=>by simp at h|p::P,w::vs,0,m,U,h1,S,Y=>by simp at h1 S;subst h1;subst S;show nO I ((p,w)::P.zip vs) m p=_;unfold nO;rw[Gq λv a=>(dN.mp U).1 (lx a).1,aC Y];simp|p::P,w::vs,i+1,m,U,h1,S,Y=>by unfold nO;exact Gr (dN.mp U).2 (by simpa using h1) (by simpa using S) Y
theorem Gu{I:br->Option fX}{x:br}{v:aj}:∀{P:List br} {vs:bm} {i:Nat} {m:br->Option aj},P.Nodup->P[i]?=aa x->vs[i]?=aa v->I x≠aa .local ->
  oJ I (P.zip vs) m x=aa v
 |[],_,_,_,_,h,_,_=>by simp at h|_::_,[],_,_,_,_,h,_=>by simp at h|p::P,w::vs,0,m,U,h1,S,Y=>by simp at h1 S;subst h1;subst S;show oJ I ((p,w)::P.zip vs) m p=_;unfold oJ;rw[Gs λv a=>(dN.mp U).1 (lx a).1,aA Y];simp|p::P,w::vs,i+1,m,U,h1,S,Y=>by unfold oJ;exact Gu (dN.mp U).2 (by simpa using h1) (by simpa using S) Y
noncomputable def start(N:List br)(vs:bi):St:=vs.map aa++aK (N.length-vs.length) af
def Nj(CX:CXT)(P:bL)(w:c8)(K:Fg)(mg:br->Option aj)(base:bF)(N:List br)(qual:br)(scope:lK)(f:av)(S:aj)(A:dD)(outer:List m7)(s:ao)(H:Hp)(E:XK):Cx where
 prog:=P
 w:=w
 K:=K
 mg:=mg
 base:=base
 A:=A.deeper (iE qual scope s.heap.objs.size f S)
 N:=N
 s₀:=s
 H₀:=H
 env:=iE qual scope s.heap.objs.size f S
 outer:=outer
 stack:=iE qual scope s.heap.objs.size f S::outer
 ex:=[]
 calm:=ag
 fn:=λ_=>ag
 pn:=[]
 xe:=λe s'=>aP (aI P w) (A.deeper (iE qual scope s.heap.objs.size f S)) (leaving (iE qual scope s.heap.objs.size f S) e) (λ_ I=>CX outer H s E e I) (λU I=>CX outer H s E U I) s'
def Jz{sc:lK}{n:Nat}(h:sc.names.lookup x=aa .cell):∃c,(dj n sc.names []).lookup x=aa c:=by exact gh.mp (eW sc.names n [] (.inl h))
theorem MM{base:bF}{f:av}{l:aj}{s s1:ao}{E:XK}(S:uq N ps scope)(B:A.handled=af)(I:Env0 P w K mg base A outer s H)(F:vs.length=ps.length)(r:A6 vs us)(x:InCallC s s.heap.objs.size (nO (iE qual scope s.heap.objs.size f l).kindOf (ps.zip us) λ_=>af) (dj (s.heap.objs.size+1) scope.names []) (oJ (iE qual scope s.heap.objs.size f l).kindOf (ps.zip us) λ_=>af) s1):
  A3 (Nj CX P w K mg base N qual scope f l A outer s H E) [] (start N vs) H s1:=by
 have t:ps.length<=N.length:=by have:=dI gC S.pre;rw[dc]at this;lia
 obtain⟨h1,D,rfl,n⟩:=x.done;have U:∀b,b∉(Nj CX P w K mg base N qual scope f l A outer s H E).ex:=λb z=>bu (show b∈[]from z) ad;refine⟨⟨I.mod,S.kind,rfl,rfl,aq _,λy z c h1 j=>?_,λy d=>?_,λy c _ h=>?_,λ_=>B,Around.frames_deeper I.frames,.inr ⟨rfl,rfl⟩,λb z=>bu z (U b),I.bs,I.bsz,λb _ _=>U b,λb z=>bu z (U b),I.KY,I.frf⟩,
  rfl,I.bare,Un.kept n,⟨_,x.toInCall.ns,λi y v h1 j G=>?_⟩,λy c h=>⟨_,x.cell y c h⟩,I.hok.fresh (aq _),λy c h=>?_,λp g=>bu (show p∈[]from g) ad,I.hok.kept n,?_⟩
 .exact name_of_addr x.apart (cN h1) (cN j)
 .rcases d with d|d
  .exact Jz d
  .exact bu rfl (S.nofree _ (cN d))
 .exact b7 (x.above y c (cN h))
 .have hi:i<vs.length:=by
   unfold start at j;by_cases hi:i<vs.length
   .exact hi
   .simp_all[d8,mH]
  have C:vs[i]?=aa v:=by
   unfold start at j;rw[cL a7]at j;cases e:vs[i]? with
   |none=>simp_all|some a=>simp_all
  obtain⟨u,m,o⟩:=r.get C;have g:ps[i]?=aa y:=by rw[<-S.pre,List.getElem?_take_of_lt ac];exact h1
  have Y:ps.Nodup:=by rw[<-S.pre];exact S.nd.sublist (iQ _ _)
  refine⟨u,o,?_⟩
  rcases S.par y (bS g)with k|k
  .exact .inl ⟨k,Gr Y g m k⟩
  .obtain⟨c,e⟩:=Jz k;refine .inr ⟨.inl k,c,e,?_⟩;have q:=x.cell y c e;rw[Gu Y g m (by show scope.names.lookup y≠_;simp_all)]at q;exact q
 .exact I.hok.fresh (b7 (x.above y c (cN h)))
 .unfold start;show _=N.length
  simp_all
theorem fn_of{base:bF}{f:av}{U:Arguments}{B kV doc pm cdv ct oc:aj}{an od:Option av}{osl:Array (Option aj)}(F:K.lookup f=aa ⟨oc,od,.func (cE name qual U body scope B kV doc pm an cdv ct),osl⟩)(z:fU K cdv qual=ag)(S:uq N ps scope)(g:∀vs H Q E,sp vs H Q E->vs.length=ps.length)(c:∀(A:dD) (outer:List m7) (s:ao) (H:Hp) (vs:bi) (Q:VK) (E:XK),vc k (A.deeper (iE qual scope s.heap.objs.size f cdv))->sp vs H Q E ->
   ∃t,PSs (Nj CX P w K mg base N qual scope f cdv A outer s H E) body t/\t {nx:=λ_ H'=>Q .non H',rt:=Q} (start N vs) H):
  vT P w K mg base CX (k+1) f (cE name qual U body scope B kV doc pm an cdv ct) ps sp:=by
 refine⟨g,λA outer s H C us vs Q E p j T r h=>?_⟩
 have D:=j.mod.kin.keeps λb o e=>(j.bs b o e).1;have m:=j.mod.nolimit.keeps λb o e=>(j.bs b o e).1;have a:∀y∈ps.zip us,scope.names.lookup y.1=aa .local\/(scope.names.lookup y.1=aa .cell/\((dj (s.z+1) scope.names []).lookup y.1).isSome=ag):=λ⟨n,v⟩ G=>by
  rcases S.par n (lx G).1 with q|q
  .exact .inl q
  .exact .inr ⟨q,eW _ _ _ (.inl q)⟩
 refine codeAny_call_function p.depth (D _ _ F) rfl S.co S.gen rfl (PySem.W.codeRec_of D z) (T _ _ _ _ ?_);refine wpAny_newFunctionEnv_cells S.kind a λenv R s1 x=>?_;subst R;refine⟨m.keeps x.toInCall.keep,codeAny_func ?_⟩
 obtain⟨t,L,O⟩:=c A outer s H vs Q E (p.deeper _) h;have I:A3 (Nj CX P w K mg base N qual scope f cdv A outer s H E) [] _ H s1:=MM S p.hd j (g _ _ _ _ h) r x;refine b9 (L [] s1 _ H _ I O) (λfl s' d=>?_) λe s' d=>d;have i:∀{Y:St} {H':Hp} {v:V} {u:aj},A3 (Nj CX P w K mg base N qual scope f cdv A outer s H E) [] Y H' s'->A5 v u->Q v H'->CE outer P w H s Q u s':=
  λ{Y H' v u} J l q=>⟨v,H',J.os,J.bare,J.base,J.hok,l,q⟩
 cases fl with
 |ret u=>obtain⟨v,Y,H',J,l,q⟩:=d;exact i J l q
 |next=>obtain⟨Y,H',J,q⟩:=d;exact i (v:=V.non) J rfl q
 |brk=>
  obtain⟨_,_,_,q⟩:=d
  simp_all
 |cont=>
  obtain⟨_,_,_,q⟩:=d
  simp_all
section
variable{id T:String}{r:List V->Hp->VK->Prop}
noncomputable def tCB(r:bi->Hp->VK->Prop)(t:TA):TE:=λσ H Q=>t σ H λvs H1=>r vs H1 Q
def xG(i:sH X (.builtin id) r)(f:Gl X x)(d:X.mg x=af)(a:fT x=aa (.builtin id))(j:PA X (e::es) t)(c:(x≠"__name__")⁻¹)(U:((x==("__debug__":br))=ae)⁻¹)(g: ~~~(au (e::es) X.env=(ae,a_ e X.env)::au es X.env))(S: ~~~((cu pos (au es X.env)).any (·.1)=ae)):PE X (.Call (.Name x p) (e::es) [] pos) (tCB r t):=by intro A1 s σ H Q I h;refine iX (xf I f d a ?_ c U);refine PyProof.Rows.callWith_builtin1 (A7 (j pos A1 s σ H _ I h) λus s1 b=>?_) g S;obtain⟨vs,H1,k,Y,q1⟩:=b;exact i A1 s1 σ H1 vs us Q k Y q1
def zX(i:sH X (.type T) r)(f:Gl X x)(d:X.mg x=af)(a:fT x=aa (.type T))(j:PA X (e::es) t)(c:(x≠"__name__")⁻¹)(U:((x==("__debug__":br))=ae)⁻¹)(g: ~~~(au (e::es) X.env=(ae,a_ e X.env)::au es X.env))(S: ~~~((cu pos (au es X.env)).any (·.1)=ae)):PE X (.Call (.Name x p) (e::es) [] pos) (tCB r t):=by intro A1 s σ H Q I h;refine iX (xf I f d a ?_ c U);refine bR (A7 (j pos A1 s σ H _ I h) λus s1 b=>?_) g S;obtain⟨vs,H1,k,Y,q1⟩:=b;exact i A1 s1 σ H1 vs us Q k Y q1
end
end Lake
namespace Lake.HT
open PySem PyProof.Rows
section
open PySem.SeqAt
open PySem.AutoSeq1 (wpAny_loadPart')
open PySem.MeetsSeq PySem.MeetsSeq2 PySem.MeetsSeq3
end
section
variable{prog:bL}{w:c8}{A:dD}{E:aj->ao->Prop}{s:ao}
theorem cat_tup{t b:av}{vs I:bm}{Q:aj->ao->Prop}(j:p5 s.heap t vs.toArray)(m:p5 s.heap b I.toArray)(p:vs≠[])(h1:I=[]->Q (.ref t) s)(o:I≠[]->Q (.ref s.heap.objs.size) {s with heap:=s.heap.push {cls:=.type "tuple",data:=.seq (vs++I).toArray}})(hsz:vs.length+I.length<=ay):aP (aI prog w) A (dO .Add (.ref t) (.ref b)) Q E s:=by
 obtain⟨⟨cls,h,data,g⟩,a,l,n,k⟩:=id j;obtain⟨⟨i,Y,f,U⟩,S,d,n2,c⟩:=id m;subst l k d c;have e:vs.toArray++I.toArray=(vs++I).toArray:=by simp
 by_cases hw:I=[]
 .exact lE ⟨_,a,rfl⟩ ⟨_,S,rfl⟩ md nq i5 iK (iz _ _)
   (tuple_addW1 t b vs.toArray I.toArray n n2 h Y g U a7 (by simp[hw])) ⟨a,S,h1 hw⟩
 .refine lE ⟨_,a,rfl⟩ ⟨_,S,rfl⟩ md nq i5 iK (iz _ _)
   (tuple_addW2 t b vs.toArray I.toArray n n2 h Y g U a7 a7 a7) ⟨a,S,?_⟩
  rw[e];exact o hw
noncomputable def sIx(n d:Nat):Option Int->Nat
 |none=>d|some v=>if v<0 then(v+(n:Int)).toNat else min v.toNat n
theorem sIx_le(n d:Nat)(I:d<=n)(o:Option Int):sIx n d o<=n:=by
 cases o with
 |none=>exact I|some v=>
  show(if v<0 then(v+n).toNat else min v.toNat n)<=n
  lia
theorem Nq(v:Int)(n d:Nat):(if v<0 then pL (v+(n:Int)) 0 else min v (n:Int))=((sIx n d (aa v):Nat):Int):=by
 show(if v<0 then pL _ 0 else min v n)=(((if v<0 then(v+(n:Int)).toNat else min v.toNat n):Nat))
 grind
theorem KQ(lo hi:Option Int)(n:Nat):gV lo hi 1 (n:Int)=(((sIx n 0 lo:Nat):Int),((sIx n n hi:Nat):Int)):=by
 have h1:¬((1:Int)<0):=ac
 unfold gV;simp only[h1,ng];refine kx ?_ ?_
 .cases lo with
  |none=>rfl|some v=>exact Nq v n 0
 .cases hi with
  |none=>rfl|some v=>exact Nq v n n
theorem Ke(i j:Nat):fF (i:Int) (j:Int) 1=j-i:=by
 unfold fF
 lia
def BQ{v:aj}{o:Option Int}{Q:Option Int->ao->Prop}(p:mf v o)(h:Q o s):aP (aI prog w) A (qf v) Q E s:=by
 cases p with
 |none=>exact slicePart_none h|int i t=>exact slicePart_int h
def yO{a:av}{Y U:aj}{lo hi:Option Int}{n:Nat}{Q:Int×Int×Nat->ao->Prop}(c:s.heap.IsSliceOf a Y U .none)(pl:mf Y lo)(b:mf U hi)(h:Q (((sIx n 0 lo:Nat):Int),1,sIx n n hi-sIx n 0 lo) s):aP (aI prog w) A (qg (.ref a) (cO (n:Int))) Q E s:=by obtain⟨e,I,d,S⟩:=id c;refine ab (ab (cJ I S rfl (ab (cJ I S rfl (ab (cJ I S rfl (ai ?_)))))));refine ab (slicePart_none ?_);refine ab (BQ pl (ab (BQ b (ab (ai ?_)))));show aP _ _ (match gV lo hi 1 n with|(lo,hi)=>cO (lo,(1:Int),fF lo hi 1)) _ _ s;rw[KQ lo hi n];show aP _ _ (cO (((sIx n 0 lo):Int),1,fF ((sIx n 0 lo:Nat)) ((sIx n n hi:Nat)) 1)) _ _ s;rw[Ke];exact ai h
theorem pick_gen(xs:Array aj)(i k:Nat):((aX k).filterMap λ(m:Nat)=>xs[((i:Int)+(m:Int)*1).toNat]?).toArray=((xs.toList.drop i).take k).toArray:=by
 have e:(λ(m:Nat)=>xs[(i+(m:Int)*1).toNat]?)=λm=>xs[i+m]?:=by
  funext m
  have:(i+(m:Int)*1).toNat=i+m:=ac
  rw[this]
 have:=pick_run xs i k;have e2:((λx=>xs[x]?)∘λx=>i+x)=λm=>xs[i+m]?:=rfl
 simp_all
theorem yk{t e:av}{I:Array aj}{d c:aj}{lo hi:Option Int}{Q:aj->ao->Prop}(U:p5 s.heap t I)(f:s.heap.IsSliceOf e d c .none)(pl:mf d lo)(g:mf c hi)(hw:¬(sIx I.size 0 lo=0/\sIx I.size I.size hi=I.size))(h:Q (.ref s.heap.objs.size) {s with heap:=s.heap.push {cls:=.type "tuple",data:=.seq ((I.toList.drop (sIx I.size 0 lo)).take (sIx I.size I.size hi-sIx I.size 0 lo)).toArray}})(hsz:I.size<=ay):aP (aI prog w) A (n_ (.ref t) (.ref e)) Q E s:=by
 have S:=by
  show((I.toList.drop (sIx I.size 0 lo)).take (sIx I.size I.size hi-sIx I.size 0 lo)).toArray.size<=ay;rw[cx,dc,gd,bQ]
  lia
 obtain⟨i,Y,b,j⟩:=id f;unfold n_
 try with_reducible refine c6 ?_
 refine ab (wpAny_sequenceKey U.typeIs am ?_);refine ab (bK U.typeIs eY
  (bh eY U.typeIs entry_tuple_getitem ?_ (args_tuple_getitem _ _)))
 show aP _ _ (j7 _ >>= _) _ _ s;refine ab (tupleItemsOf_ U ?_);refine ab (wpAny_typeOf (⟨i,Y,b⟩) ?_);refine ab (yO f pl g ?_);have a:¬((((sIx I.size 0 lo):Int)==0&&(1:Int)==1&&(sIx I.size I.size hi-sIx I.size 0 lo)==I.size)=ag):=by intro q;rw[aU,aU]at q;have q1:=dw q.1.1;have q2:=dw q.2;exact hw ⟨ac,ac⟩
 show aP _ _ (if (((sIx I.size 0 lo):Int)==0&&1==1&&(sIx I.size I.size hi-sIx I.size 0 lo)==I.size)=ag then _ else _) _ _ s;rw[aA a,pick_gen]
 first
  |exact ab (bw (ab (ai (ai ⟨_,rfl,ai h⟩))) S)
end
end Lake.HT
namespace Lake
open PySem PySem.Spec PyProof.Rows
variable{X:Cx}{e:bX}{pos:lj}{r:V->Option Int->Option Int->Hp->VK->Prop}{xs ys:List V}{us its its':List aj}{α:Type}{n:Nat}{i:Int}{A1:Pn}{σ:St}{H:Hp}{T:String}{x:V}
abbrev TO:=St->Hp->(Option Int->Hp->Prop)->Prop
inductive OP(X:Cx)(A1:Pn)(σ:St)(Q:Option Int->Hp->Prop)(u:aj)(s':ao):Prop
 |mk (o:Option Int) (H':Hp) (I:A3 X A1 σ H' s') (r:mf u o) (q:Q o H')
def PO(X:Cx)(e:Option bX)(t:TO):Prop:=
 ∀(A1:Pn) (s:ao) (σ:St) (H:Hp) (Q:Option Int->Hp->Prop),A3 X A1 σ H s->t σ H Q ->
  aP (aI X.prog X.w) X.A (evalPart e X.env) (λu s'=>OP X A1 σ Q u s') X.xe s
noncomputable def tNoPart:TO:=λ_ H Q=>Q af H
noncomputable def tPart(t:TE):TO:=λσ H Q=>t σ H λx H1=>∃i,x=.int i/\Q (aa i) H1
def intsAre_of{ns:a8}:∀{us:bm},A6 (ns.map V.int) us->iN us ns:=by
 induction ns with
 |nil=>intro us r;cases r;exact .nil|cons n ns U=>
  intro us r;cases r with
  |cons S I=>obtain⟨t,e⟩:=S;subst e;exact .cons n t (U I)
section
variable{te:TE}{lo hi:Option bX}{tl th:TO}{p2:lj}
def po_none:PO X af tNoPart:=by intro A1 s σ H Q I h;exact ai ⟨af,H,I,.none,h⟩
def po_some(h:PE X e te):PO X (aa e) (tPart te):=by intro A1 s σ H Q I hw;refine A7 (h A1 s σ H _ I hw) λu s1 U=>?_;obtain⟨x,H1,Y,S,q1⟩:=U;obtain⟨i,rfl,q⟩:=q1;obtain⟨t,rfl⟩:=S;exact⟨aa i,H1,Y,.int i t,q⟩
def SlR(X:Cx)(r:V->Option Int->Option Int->Hp->VK->Prop):Prop:=
 ∀(A1:Pn) (s:ao) (σ:St) (H:Hp) (x:V) (v S I:aj) (lo hi:Option Int) (U:av) (Q:VK),A3 X A1 σ H s->A5 x v->s.heap.IsSliceOf U S I .none->mf S lo->mf I hi->r x lo hi H Q ->
  ∃T id,typeLookup (.type T) "__getitem__"=cO (aa (.builtin id))/\s.TypeIs v T/\aP (aI X.prog X.w) X.A (n_ v (.ref U)) (EP X A1 σ Q) X.xe s
def SlR.or{r':V->Option Int->Option Int->Hp->VK->Prop}(h:SlR X r)(h':SlR X r'):SlR X (λx lo hi H Q=>r x lo hi H Q\/r' x lo hi H Q):=by
 intro A1 s σ H x v U S lo hi Y Q I a c pl b q;rcases q with q|q
 .exact h A1 s σ H x v U S lo hi Y Q I a c pl b q
 .exact h' A1 s σ H x v U S lo hi Y Q I a c pl b q
noncomputable def tSl(r:V->Option Int->Option Int->Hp->VK->Prop)(te:TE)(tl th:TO):TE:=λσ H Q=>te σ H λx H1=>tl σ H1 λl H2=>th σ H2 λu I=>r x l u I Q
def pe_slice(j:SlR X r)(n:PE X e te)(k:PO X lo tl)(g:PO X hi th):PE X (.Subscript e (.Slice lo hi af p2) pos) (tSl r te tl th):=by intro A1 s σ H Q I h;refine Subscript_ (A7 (n A1 s σ H _ I h) λv s1 S=>?_);obtain⟨x,H1,w,c,q1⟩:=S;refine wpAny_Slice (A7 (k A1 s1 σ H1 _ w q1) λa s2 S=>?_);obtain⟨l,H2,t,pl,q2⟩:=S;refine A7 (g A1 s2 σ H2 _ t q2) λY U S=>?_;obtain⟨u,y,p,f,d⟩:=S;refine ai ?_;obtain⟨T,id,o,i,m⟩:=j A1 {U with heap:=U.heap.push {cls:=.type "slice",data:=.fields #[a,Y,.none]}} σ y x v a Y l u U.z Q (p.kept (t':=U.toks) λb z q=>ah _ q) c (pW ..) pl f d;exact tail_any i o m (by rfl)
def cutV(xs:bi)(lo hi:Option Int):bi:=(xs.drop (HT.sIx xs.length 0 lo)).take (HT.sIx xs.length xs.length hi-HT.sIx xs.length 0 lo)
theorem AQ(xs:bi)(lo hi:Option Int):(cutV xs lo hi).length<=xs.length:=by
 unfold cutV;rw[dc,gd]
 lia
def rSlT(K:Fg):V->Option Int->Option Int->Hp->VK->Prop:=λx lo hi H Q=>∃a xs,x=.ref a/\SqT K H a xs /\
 ¬(HT.sIx xs.length 0 lo=0/\HT.sIx xs.length xs.length hi=xs.length)/\∀p,H p=af->Q (.ref p) (upd H p (.tup (cutV xs lo hi)))
theorem sl_tup:SlR X (rSlT X.K):=by
 intro A1 s σ H x v i g lo hi j Q I Y f pl c h;obtain⟨a,xs,rfl,e,hw,q⟩:=h;cases Y;obtain⟨its,r,U,d⟩:=I.tuple e;have S:its.toArray.size=xs.length:=by exact r.length.symm
 refine⟨"tuple",_,eY.lookup,U.typeIs,?_⟩
 refine HT.yk U f pl c (by rw[S];exact hw) ?_ a7;rw[S];refine⟨.ref s.z,_,I.laid (λb k q=>ah _ q) (aq _) ?_,rfl,q _ (I.hok.fresh (aq _))⟩
 exact⟨aQ (AQ xs lo hi) d,_,(r.drop _).take _,og _ _⟩
def rCatT(K:Fg):R2:=λx y H Q=>∃a b xs ys,x=.ref a/\y=.ref b/\SqT K H a xs/\SqT K H b ys/\xs≠[]/\xs.length+ys.length<=ay /\
 (ys=[]->Q (.ref a) H)/\(ys≠[]->∀p,H p=af->Q (.ref p) (upd H p (.tup (xs++ys))))
def A6.Hk(r:A6 xs us):us=[]↔xs=[]:=by
 cases r with
 |nil=>simp|cons _ _=>simp
theorem op_catT:OpR X (dO .Add) (rCatT X.K):=by
 intro A1 s σ H x y v u Q I d c h;obtain⟨a,b,xs,ys,rfl,rfl,i,g,f,e,q1,q2⟩:=h;cases d;cases c;obtain⟨its,U,p1,_⟩:=I.tuple i;obtain⟨Y,S,p2,_⟩:=I.tuple g;refine HT.cat_tup p1 p2 (λz=>f (U.Hk.mp z)) (λz=>⟨.ref a,H,I,rfl,q1 (S.Hk.mp z)⟩) (λz=>?_) (by rw[<-U.length,<-S.length];exact e);refine⟨.ref s.z,_,I.laid (λb j q=>ah _ q) (aq _) ?_,rfl,q2 (λw=>z (S.Hk.mpr w)) _ (I.hok.fresh (aq _))⟩
 exact⟨a7,_,U.append S,og _ _⟩
end
noncomputable def ixN(n:Nat)(i:Int):Option Nat:=if 0<=i then(if i<n then aa i.toNat else af)else if -(n:Int)<=i then aa (i+n).toNat else af
def atI(xs:List α)(i:Int):Option α:=(ixN xs.length i).bind λj=>xs[j]?
theorem Hq{j:Nat}(h:ixN n i=aa j):seqIndex? i n=aa j/\j<n/\ -(n:Int)<=i/\i<n:=by
 unfold ixN at h;by_cases I:0<=i
 .by_cases h1:i<n
  .grind[oF]
  simp_all
 .by_cases h1: -n<=i
  .grind[n5]
  simp_all
theorem NG{xs:List α}{v:α}(h:atI xs i=aa v):∃j,seqIndex? i xs.length=aa j/\xs[j]?=aa v/\j<xs.length/\ -(xs.length:Int)<=i/\i<xs.length:=by
 unfold atI at h;cases e:ixN xs.length i with
 |none=>simp_all|some j=>rw[e]at h;obtain⟨h1,U,S,I⟩:=Hq e;exact⟨j,h1,h,U,S,I⟩
def HV(b:bX):Prop:=∀o i,subscripted b ae o i=operate [o,i] (n_ o i)
def IxR(X:Cx)(r:R2):Prop:=
 ∀(value I:bX) (A1:Pn) (s:ao) (σ:St) (H:Hp) (x y:V) (v u:aj) (Q:VK),A3 X A1 σ H s->A5 x v->A5 y u->r x y H Q ->
  subscripted I ae v u=operate [v,u] (n_ v u)->aP (aI X.prog X.w) X.A (subscriptTail value I v u) (EP X A1 σ Q) X.xe s
def MtR(X:Cx)(id:String)(r:V->bi->Hp->VK->Prop):Prop:=
 ∀(A1:Pn) (s:ao) (σ:St) (H:Hp) (x:V) (xs:bi) (v:aj) (us:bm) (Q:VK),A3 X A1 σ H s->A5 x v->A6 xs us->r x xs H Q ->
  aP (aI X.prog X.w) X.A (i0 (.builtin id) (v::us)) (EP X A1 σ Q) X.xe s
section
variable{a b:bX}{ta tb:TE}
def IxR.or{r r':R2}(h:IxR X r)(h':IxR X r'):IxR X (λx y H Q=>r x y H Q\/r' x y H Q):=by
 intro value S A1 s σ H x y v u Q I Y U q a;rcases q with q|q
 .exact h value S A1 s σ H x y v u Q I Y U q a
 .exact h' value S A1 s σ H x y v u Q I Y U q a
def pe_ix{r:R2}(c:IxR X r)(e:PE X a ta)(d:PE X b tb)(Y:HV b):PE X (.Subscript a b pos) (tOp r ta tb):=by intro A1 s σ H Q I h;exact Subscript_ (binT e d I h λv u s2 x y H2 f U S q=>c a b A1 s2 σ H2 x y v u Q f U S q (Y _ _))
def rIxL(K:Fg):R2:=λx y H Q=>∃p xs i v,x=.ref p/\y=.int i/\SqL K H p xs/\atI xs i=aa v/\Q v H
def rIxT(K:Fg):R2:=λx y H Q=>∃p xs i v,x=.ref p/\y=.int i/\SqT K H p xs/\atI xs i=aa v/\Q v H
theorem ix_list:IxR X (rIxL X.K):=by
 intro value U A1 s σ H x y v u Q I f e h b;obtain⟨p,xs,i,z,rfl,rfl,g,l,q⟩:=h;cases f;obtain⟨t,rfl⟩:=e;obtain⟨its,r,pl,A⟩:=I.list g;obtain⟨j,h1,o,C,n,m⟩:=NG l;obtain⟨w,d,Y⟩:=r.get o;have k:=r.length;have B:=IZ;have S:EP X A1 σ Q w s:=⟨z,H,I,Y,q⟩
 by_cases c:0<=i
 .have a:=by
   rw[oF c m]at h1;exact cP h1
  exact item_listR pl.isList c ac (by rw[a];simpa using d) S b
 .have a:(i+its.toArray.size).toNat=j:=by
   rw[n5 ac n]at h1;rw[cx,<-k];exact cP h1
  exact jN pl.isList.typeIs pP.lookup
   (wpAny_getItem_list_neg pl.isList ac a7 ac (by rw[a];simpa using d) ⟨rfl,S⟩) b
theorem ix_tup:IxR X (rIxT X.K):=by
 intro value S A1 s σ H x y v u Q I a Y h b;obtain⟨p,xs,i,z,rfl,rfl,c,d,q⟩:=h;cases a;obtain⟨t,rfl⟩:=Y;obtain⟨its,r,pl,g⟩:=I.tuple c;obtain⟨j,h1,e,o,n,m⟩:=NG d;obtain⟨w,f,U⟩:=r.get e;have l:=r.length;have k:=IZ;exact jN pl.typeIs eY.lookup
  (getItem_tuple (j:=j) pl ac ac a7 (by simpa using f) ⟨rfl,(⟨z,H,I,U,q⟩)⟩) b
def rIx(K:Fg):R2:=λx y H Q=>rIxL K x y H Q\/rIxT K x y H Q
def ix_seq:IxR X (rIx X.K):=ix_list.or ix_tup
def Ki(its:bm)(n j:Nat)(u:aj):fj (·.setIfInBounds j u) {cls:=.type "list",data:=.seq its.toArray n}={cls:=.type "list",data:=.seq (its.set j u).toArray n}:=by simp[fj]
theorem A3.lst{A1:Pn}{σ:St}{H:Hp}{s:ao}{p:av}{xs:bi}(I:A3 X A1 σ H s)(h:H p=aa (.lst xs)):
  ∃(its:bm) (n:Nat),A6 xs its/\s.heap.get? p=aa {cls:=.type "list",data:=.seq its.toArray n}/\xs.length<=ay:=by
 obtain⟨z,its,n,r,e⟩:=I.hok p _ h;exact⟨its,n,r,e,z⟩
def A3.lstUpd{s:ao}{p:av}{S:Nat}{f:j5->j5}(I:A3 X A1 σ H s)(h:H p=aa (.lst xs))(a:s.heap.get? p=aa {cls:=.type "list",data:=.seq its.toArray n})(U:f {cls:=.type "list",data:=.seq its.toArray n}={cls:=.type "list",data:=.seq its'.toArray S})(r:A6 ys its')(Y:ys.length<=ay)(t:Nat):
  A3 X A1 σ (upd H p (.lst ys)) {s with heap:=s.heap.update p f,toks:=t}:=by
 have e:(s.heap.update p f).get? p=aa {cls:=.type "list",data:=.seq its'.toArray S}:=by rw[fO f a (by rw[U]<;>rfl),U]
 refine I.write (by rw[h];trivial) (.inl rfl) (λb u c q=>(e8 _ _ (bO c)).trans q) ⟨_,e⟩ ?_;exact⟨Y,its',S,r,e⟩
def rSetL:V->V->V->Hp->(Hp->Prop)->Prop:=λo i v H Q=>∃p xs k j,o=.ref p/\i=.int k/\H p=aa (.lst xs)/\ixN xs.length k=aa j/\Q (upd H p (.lst (xs.set j v)))
theorem set_list:PSet X rSetL:=by
 intro A1 s σ H o i v ov m u Q I ro d c h;obtain⟨p,xs,k,j,rfl,rfl,Y,f,q⟩:=h;cases ro;obtain⟨t,rfl⟩:=d;obtain⟨its,n,r,S,w⟩:=I.lst Y;obtain⟨h1,y,l,g⟩:=Hq f;have e:=r.length;have x:=IZ;have b:=
  I.lstUpd Y S (Ki its n j u) (r.set c j) a7 s.toks
 by_cases a:0<=k
 .have U:=by
   rw[oF a g]at h1;exact cP h1
  exact PySem.W.ki_setAt S a ac a7 (by rw[U];exact⟨_,b,q⟩)
 .have U:(k+its.toArray.size).toNat=j:=by
   rw[n5 ac l]at h1;rw[cx,<-e];exact cP h1
  exact PySem.W.ki_setBack S ac a7 ac (by rw[U];exact⟨_,b,q⟩)
theorem Ez(lo hi:Option Int)(n:Nat):(ke lo hi af n).1=((HT.sIx n 0 lo:Nat):Int)/\(ke lo hi af n).2.1=((HT.sIx n n hi:Nat):Int)/\(ke lo hi af n).2.2=1:=by
 refine⟨?_,?_,rfl⟩
 .cases lo with
  |none=>rfl|some i=>
   simp[ke,HT.sIx,]
   grind
 .cases hi with
  |none=>rfl|some i=>
   simp[ke,HT.sIx,]
   grind
def CK(its:bm)(lo hi:Option Int):slicePick its.toArray lo hi af=((its.drop (HT.sIx its.length 0 lo)).take (HT.sIx its.length its.length hi-HT.sIx its.length 0 lo)).toArray:=by obtain⟨h1,S,I⟩:=Ez lo hi its.toArray.size;unfold slicePick;rw[h1,S,I];simp only[sliceRange_one,pick_run,cx]
def rSlL(K:Fg):V->Option Int->Option Int->Hp->VK->Prop:=λx lo hi H Q=>∃a xs,x=.ref a/\SqL K H a xs/\∀p,H p=af->Q (.ref p) (upd H p (.lst (cutV xs lo hi)))
theorem sl_list:SlR X (rSlL X.K):=by
 intro A1 s σ H x v i g lo hi j Q I Y f pl c h;obtain⟨a,xs,rfl,e,q⟩:=h;cases Y;obtain⟨its,r,U,d⟩:=I.list e;have S:=r.length;refine⟨"list",_,pP.lookup,U.isList.typeIs,?_⟩
 refine wpAny_getItem_list_slice U.isList f pl c .none ad ?_ a7;rw[CK,<-S];refine⟨.ref s.z,_,I.laid (λb k q=>ah _ q) (aq _) ?_,rfl,q _ (I.hok.fresh (aq _))⟩
 exact⟨aQ (AQ xs lo hi) d,_,0,(r.drop _).take _,aw _ rfl⟩
theorem wK:sH X (.builtin "len") (λxs H Q=>∃p ys,xs=[.ref p]/\(SqL X.K H p ys\/SqT X.K H p ys)/\Q (.int ys.length) H):=by
 intro A1 s σ H xs us Q I r h;obtain⟨p,ys,rfl,S,q⟩:=h;obtain⟨u,rfl,Y⟩:=vals1 r;cases Y;have b:=IZ;rcases S with S|S
 .obtain⟨its,r',pl,a⟩:=I.list S;have U:=r'.length;exact Calls.call_len_list pl.isList a0 ⟨.int ys.length,H,I.tok _,⟨s.toks+1,a7⟩,q⟩
 .obtain⟨its,r',pl,a⟩:=I.tuple S;have U:=r'.length;exact len_tuple pl a0 ⟨.int ys.length,H,I.tok _,⟨s.toks+1,a7⟩,q⟩
def sH.or{f:aj}{r r':bi->Hp->VK->Prop}(h:sH X f r)(h':sH X f r'):sH X f (λxs H Q=>r xs H Q\/r' xs H Q):=by
 intro A1 s σ H xs us Q I S q;rcases q with q|q
 .exact h A1 s σ H xs us Q I S q
 .exact h' A1 s σ H xs us Q I S q
theorem Gj:sH X (.type "list") (λxs H Q=>∃p ys,xs=[.ref p]/\(SqL X.K H p ys\/SqT X.K H p ys)/\∀l,H l=af->Q (.ref l) (upd H l (.lst ys))):=by
 intro A1 s σ H xs us Q I r h;obtain⟨p,ys,rfl,a,q⟩:=h;obtain⟨u,rfl,j⟩:=vals1 r;cases j;have d:∀(its:bm),A6 ys its->ys.length<=ay->∀(h':bF) (S:Nat),(∀b o',s.heap.get? b=aa o'->h'.get? b=aa o') ->
   h'.get? s.z=aa {cls:=.type "list",dict:=af,data:=.seq its.toArray S,slots:=#[]}->EP X A1 σ Q _ {s with heap:=h'}:=λits r' Y h' S U e=>
  ⟨.ref s.z,_,I.laid U (aq _) (show uo _ h' _ (.lst ys)from⟨Y,its,S,r',e⟩),rfl,q _ (I.hok.fresh (aq _))⟩
 rcases a with a|a
 .obtain⟨its,r',pl,Y⟩:=I.list a;have c:=r'.length;obtain⟨o,f,i,n,g⟩:=pl.isList;exact call_list_seq p (.inl rfl) f i g (λh' S U e=>d its r' Y h' S U e) a7
 .obtain⟨its,r',pl,Y⟩:=I.tuple a;have c:=r'.length;obtain⟨o,f,i,n,g⟩:=pl;exact call_list_seq p (.inr rfl) f i g (λh' S U e=>d its r' Y h' S U e) a7
theorem E5:sH X (.type "tuple") (λxs H Q=>∃p ys,xs=[.ref p]/\((SqL X.K H p ys/\∀l,H l=af->Q (.ref l) (upd H l (.tup ys)))\/(SqT X.K H p ys/\Q (.ref p) H))):=by
 intro A1 s σ H xs us Q I r h;obtain⟨p,ys,rfl,h⟩:=h;obtain⟨u,rfl,c⟩:=vals1 r;cases c;rcases h with⟨S,q⟩|⟨S,q⟩
 .obtain⟨its,r',pl,U⟩:=I.list S;have Y:=r'.length;refine call_tuple_list pl.isList (λh' d=>?_) a7;have a:=I.kept (t':=s.toks) d;exact⟨.ref h'.objs.size,_,(a.laid (t':=s.toks) (λb o e=>ah _ e) (aq _) (show uo _ _ _ (.tup ys)from⟨U,its,r',og _ _⟩)),rfl,q _ (a.hok.fresh (aq _))⟩
 .obtain⟨its,r',pl,U⟩:=I.tuple S;exact call_tuple_same pl ⟨.ref p,H,I,rfl,q⟩
def tyV(K:Fg)(T:String)(x:V)(H:Hp):Prop:=T="list"/\∃p xs,x=.ref p/\SqL K H p xs
def tyV_is{s:ao}{v:aj}(I:A3 X A1 σ H s)(r:A5 x v)(ty:tyV X.K T x H):
  s.TypeIs v T/\∀a,v=.ref a->∃S,s.heap.get? a=aa S/\S.dict=af:=by
 obtain⟨rfl,p,xs,rfl,U⟩:=ty;cases r;obtain⟨its,_,pl,_⟩:=I.list U;refine⟨pl.isList.typeIs,λa e=>?_⟩
 cases e;obtain⟨o,n,e,c,Y,_⟩:=pl;exact⟨o,e,Y⟩
def tBM(K:Fg)(T:String)(r:V->bi->Hp->VK->Prop)(to:TE)(t:TA):TE:=λσ H Q=>to σ H λx H1=>tyV K T x H1/\t σ H1 λxs H2=>r x xs H2 Q
variable{o:bX}{es:List bX}{to:TE}{t:TA}{name:br}{apos cpos:lj}{id:String}{r:V->List V->Hp->VK->Prop}
def pe_bm(pa:PlainAttrs T)(a:Slot T name id)(c:typeOf (.builtin id)=cO (.type "method_descriptor"))(m:MtR X id r)(l:PE X o to)(n:PA X (e::es) t)(Y: ~~~(cy o name X.env (a_ o X.env)=a_ o X.env))(b: ~~~(((cu cpos (au (e::es) X.env)).all (λx=> !x.1)&&(ik cpos (fN [] X.env)).all (λx=>x.1.isSome)
   &&aF ((e::es).length+([]:List ie).length+(if ([]:List ie).isEmpty then 0 else 1)<30))=ag))(U: ~~~((apos.endLine==cpos.line)=ag))(k: ~~~(au (e::es) X.env=(ae,a_ e X.env)::au es X.env))(S: ~~~((cu cpos (au es X.env)).any (·.1)=ae)):
  PE X (.Call (.Attribute o name apos) (e::es) [] cpos) (tBM X.K T r to t):=by
 intro A1 s σ H Q I h;refine wpAny_Call_method_late Y b U rfl (A7 (l A1 s σ H _ I h) λv s1 d=>?_);obtain⟨x,H1,i,f,ty,q1⟩:=d;obtain⟨h1,p⟩:=tyV_is i f ty;refine⟨T,id,pa,a,c,h1,p,?_⟩
 have g:=n cpos A1 s1 σ H1 _ i q1;rw[k]at g ⊢;refine dR (by show(ae||(cu cpos (au es X.env)).any (·.1))=ae;rw[S]<;>rfl) (mW ?_);refine A7 g λus s2 d=>?_;obtain⟨vs,H2,q,j,q2⟩:=d;exact m A1 s2 σ H2 x vs v us Q q f j q2
/- xs.append(e),list.index on a module's tuple .. are MtR facts of 06m -/
end
def MtM(X:Cx)(id:String)(r:V->bi->Hp->VK->Prop):Prop:=
 ∀(A1:Pn) (s:ao) (σ:St) (H:Hp) (x:V) (xs:bi) (v:aj) (us:bm) (Q:VK),A3 X A1 σ H s->A5 x v->A6 xs us->r x xs H Q ->
  aP (aI X.prog X.w) X.A (i0 (.builtin id) (v::us)) (EP X A1 σ Q) X.xe s
def A6.one(h:A6 [x] us):∃u,us=[u]/\A5 x u:=by
 cases h with
 |cons r t=>cases t;exact⟨_,rfl,r⟩
def A6.two{y:V}(h:A6 [x,y] us):∃u v,us=[u,v]/\A5 x u/\A5 y v:=by
 cases h with
 |cons r t=>obtain⟨v,rfl,q⟩:=A6.one t;exact⟨_,_,rfl,r,q⟩
theorem A6.rep{xs:bi}{us:bm}(h:A6 xs us):∀k:Nat,A6 (aK k xs).flatten (aK k us).flatten
 |0=>.nil|k+1=>by exact A6.append h (A6.rep h k)
theorem foldl_rep(its:bm):∀(k:Nat) (I:bm),
  lZ (λU S=>U++S) I.toArray (aK k its.toArray)=(I++(aK k its).flatten).toArray
 |0,I=>by simp|k+1,I=>by simp[nJ,foldl_rep]
section
variable{s:ao}{l:av}
def A3.lset{f:Array aj->Array aj}{t':Nat}(I:A3 X A1 σ H s)(c:H l=aa (.lst xs))(e:s.heap.get? l=aa {cls:=.type "list",data:=.seq its.toArray n})(a:f its.toArray=its'.toArray)(U:A6 ys its')(S:ys.length<=ay):
  A3 X A1 σ (upd H l (.lst ys)) {s with heap:=s.heap.update l (fj f),toks:=t'}:=by
 have q:=PySem.IsL.update e f;rw[a]at q;refine I.write (by rw[c];exact trivial) (.inl rfl) (λb' u b Y=>(e8 s.heap _ (bO b)).trans Y) ⟨_,q⟩ ?_;exact⟨S,its',_,U,q⟩
def A3.lnew{t':Nat}(I:A3 X A1 σ H s)(U:A6 ys its)(S:ys.length<=ay):
  A3 X A1 σ (upd H s.heap.objs.size (.lst ys)) {s with heap:=s.heap.push {cls:=.type "list",data:=.seq its.toArray},toks:=t'}:=
 I.laid (λ_ _ q=>ah _ q) (aq _) ⟨S,its,0,U,aw _ rfl⟩
theorem A3.fresh(I:A3 X A1 σ H s):H s.heap.objs.size=af:=I.hok.fresh (aq _)
def A3.lstM(I:A3 X A1 σ H s)(S:H l=aa (.lst xs)):xs.length<=ay/\∃(its:bm) (n:Nat),A6 xs its/\xs.length=its.length/\s.heap.get? l=aa {cls:=.type "list",data:=.seq its.toArray n}:=by obtain⟨z,its,n,r,e⟩:=I.hok l _ S;exact⟨z,its,n,r,r.length,e⟩
theorem IP(h:n<=ay):fV n=ae:=by simp_all[fV]
end
def zR:V->bi->Hp->VK->Prop:=λx vs H Q=>∃l xs y,x=.ref l/\vs=[y]/\H l=aa (.lst xs)/\xs.length<ay/\Q .non (upd H l (.lst (xs++[y])))
theorem Ag:MtM X "list.append" zR:=by
 intro A1 s σ H x vs v us Q I U Y h;obtain⟨l,xs,y,rfl,rfl,S,b,q⟩:=h;cases U;obtain⟨u,rfl,a⟩:=Y.one;obtain⟨z,its,n,r,c,e⟩:=I.lstM S;refine mU gB ⟨_,e,rfl⟩ F.entry_list_append (F.args_list_append_2 _ _) (PySem.list_append l its.toArray n u a7) ⟨e,?_⟩;refine⟨.non,_,I.lset S e ad (r.append (.cons a .nil)) ?_,rfl,q⟩
 grind[]
def rExtend:V->bi->Hp->VK->Prop:=λx vs H Q=>∃l b xs I,x=.ref l/\vs=[.ref b]/\H l=aa (.lst xs)/\H b=aa (.lst I)/\xs.length+I.length<=ay/\Q .non (upd H l (.lst (xs++I)))
theorem Mn:MtM X "list.extend" rExtend:=by
 intro A1 s σ H x vs v us Q I a c h;obtain⟨l,b,xs,j,rfl,rfl,Y,i,m,q⟩:=h;cases a;obtain⟨u,rfl,d⟩:=c.one;cases d;obtain⟨z,its,n,r,o,e⟩:=I.lstM Y;obtain⟨k,S,n2,f,g,e2⟩:=I.lstM i;have hsz:its.toArray.size+S.toArray.size<=ay:=by rw[cx,cx];lia
 have U:¬(!its.toArray.isEmpty&&fV (its.toArray.size+S.toArray.size))=ag:=by rw[IP hsz,pD];exact dE
 refine mU mV ⟨_,e,rfl⟩ F.entry_list_extend (F.args_list_extend_2 _ _)
  (AutoSeq1.list_extend_list_list_0 l its.toArray n b S.toArray n2 U a7 ac) ⟨e,e2,?_⟩
 refine⟨.non,_,I.lset Y e ad (r.append f) ?_,rfl,q⟩
 simp_all
def rRep:R2:=λx y H Q=>∃l k xs,x=.ref l/\y=.int k/\H l=aa (.lst xs)/\ -(2^63)<=k/\k<2^63/\xs.length*k.toNat<=ay /\
 ∀p,H p=af->Q (.ref p) (upd H p (.lst (aK k.toNat xs).flatten))
def len_rep(xs:List α)(k:Nat):(aK k xs).flatten.length=k*xs.length:=by simp
theorem op_rep:OpR X (dO .Mult) rRep:=by
 intro A1 s σ H x y v u Q I j i h;obtain⟨l,k,xs,rfl,rfl,p,h1,w,g,q⟩:=h;cases j;obtain⟨t,rfl⟩:=i;obtain⟨z,its,n,r,o,e⟩:=I.lstM p;have Y:its.toArray.size*k.toNat<=ay:=by rw[cx,<-o];exact g
 have c:¬its.toArray.size*k.toNat>(2^63-1)/8:=by
  have:ay<=(2^63-1)/8:=by decide
  lia
 have b:¬(!Builtin.List.listFitsIndex k)=ag:=by rw[fitsIndex_both h1 w];exact dE
 have S:¬fV (its.toArray.size*k.toNat)=ag:=by rw[IP Y];exact dE
 have U:lZ (λf d=>f++d) #[] (aK (if its.toArray.isEmpty=ag then 0 else k.toNat) its.toArray)=(aK k.toNat its).flatten.toArray:=by
  have f0:∀m,lZ (λf d=>f++d) #[] (aK m its.toArray)=(aK m its).flatten.toArray:=λm=>by
   have:=foldl_rep its m []
   simp_all
  rw[f0];cases its with
  |nil=>simp|cons a r'=>rfl
 refine wpAny_binaryOp_repeat_ref am ⟨_,e,rfl⟩ (λs'=>typeIs_int s' k t) noFill_list_mul F.fills_int_mul pZ repeat_list F.slot_int_index.lookup
  (mU pZ (typeIs_int s k t) F.entry_int_rmul (F.args_int_rmul_2 _ _) (int___rmul___int_list k t l its.toArray n)
   ⟨e,rfl,⟨_,e,rfl⟩,mU F.slot_list_mul ⟨_,e,rfl⟩ F.entry_list_mul (F.args_list_mul_2 _ _) (AutoListH.list___mul___list_int_3 l its.toArray n k t b c S) ⟨e,?_⟩⟩)
 rw[U];exact⟨.ref _,_,I.lnew (r.rep k.toNat) (by rw[len_rep,qh];exact g),rfl,q _ I.fresh⟩
end Lake
namespace Lake.Att
open PySem PySem.W PySem.Calls PyProof.Rows
def As{P:Params}{h:bF}:∀(ns:a8) (vs:bm),WellAll P h vs (ns.map WData.int)->iN vs ns:=by
 intro ns
 induction ns with
 |nil=>intro vs w;cases w;exact .nil|cons n ns I=>
  intro vs w;cases w with
  |cons a b=>cases a;exact .cons _ _ (I _ b)
theorem LF{l:kh}{n:Nat}(j:l.most=aa n){P:Params}{h:bF}{I:List WData}{S:bm}(U:l.row.toRowW.claim.pre I=ag)(e:WellAll P h S I):
  ∃a vs ns,S=[aT a]/\I=[WData.list (ns.map WData.int)]/\h.get? a=aa {cls:=.type "list",data:=.seq vs.toArray}/\iN vs ns/\ns.length<=n:=by
 have k:=(pre_splitW U).2;obtain⟨d,r,rfl,h1,o⟩:=hasAllW_cons ((pre_splitW U).1);obtain rfl:=hasAllW_nil o;obtain⟨xs,rfl,m⟩:=hasW_list h1;obtain⟨ns,rfl⟩:=items_int m;have Y:ns.length<=n:=by
  have c:=by have c:=(holds_andW k).1;rw[j]at c;exact c
  have p:=condW_of c (w_not (w_lt w_lit (w_len_list (w_arg rfl))));refine oX λq=>?_
  first
   |simp_all
 cases e with
 |cons g f=>
  cases f;cases g with
  |list i b=>exact⟨_,_,ns,rfl,rfl,i,As ns _ b,Y⟩
def LY(l:kh)(args:List WData):l.row.toRowW.claim.post args (.bool ag) args=ag:=
 postW_of
  (show WShape.has [] _ .bool=ag by rfl)
  (show(WTm.eq .res _).value [] {args:=args,res:=aa _,after:=args}=aa _ from w_eq_bool (w_res rfl) w_lit) rfl
def HQ{l:kh}{n:Nat}{q:bL}{U:List br}{z:(br->Option aj)->bF->Prop}{y:c8->bF->Prop}{d:DefRec}(D:l.most=aa n)(p:d.params.defaults=[])(h:∀(w:c8) (S I:ao) (mg j:br->Option aj) (fa:av) (o:j5) (pm i doc:aj) (a:av) (vs:bm) (ns:a8),
   Ground q U [] z w S mg j I.heap->y w I.heap ->
   I.heap.get? fa=aa o->o.data=.func (docDef d.name d.params d.body d.scope pm i doc)->I.heap.CodeRec i d.name->mg d.name=aa (.ref fa) ->
   I.heap.get? a=aa {cls:=.type "list",data:=.seq vs.toArray}->iN vs ns->ns.length<=n->I.gens=#[] ->
   jJ (aI l.prog w) lG (.call (.ref fa) ⟨[.ref a],[]⟩) (λr s'=>r=.ok (.ret (.bool ag))/\OldK I.heap s'.heap/\s'.os=I.os/\jO s'.gens) I):
  nC q U z y l.row.toRowW d [] (λf vs=>i0 f vs):=by
 intro w S I mg j G Y fa o pm i doc O kV C J s v m H x t as c u A k F;obtain rfl:O=.none:=Dflts.none v p;obtain rfl:kV=.none:=Dflts.noKw v;obtain⟨a,vs,ns,rfl,rfl,e,b,g⟩:=LF D c k;refine enter_call (gu (h w S I mg j fa o pm i doc a vs ns G Y C (fd_plain J) s m e b g H) λr s' B=>?_);obtain⟨rfl,N,L,K⟩:=B;exact⟨.inl ⟨.bool ag,.bool ag,[],rfl,λ_=>rfl,.bool ag,LY l _,λ_=>⟨dU,λ_ E=>(nomatch E)⟩⟩,N,L,K⟩
end Lake.Att
namespace Lake
open PySem PySem.Spec PyProof.Rows
variable{P prog:bL}{w:c8}{K:Fg}{mg:br->Option aj}{CX:CXT}{k n j i m lo t' nN nN2 n2 k2 ep ep' hint ia ib iS iB iL iF iLab iT iSt iAh iO iZ iP iM:Nat}{a c b C r fad fI z aS:av}{fd fdI:dX}{x qual:br}{sp:Sp}{vs us its:List aj}{X:Cx}{st st1:bo}{ps N' N ps2:List br}{oc kV doc pm cdv ct mc u k' a' b' ov:aj}{od an:Option av}{osl:Array (Option aj)}{pos spos py apos pos' q p2 q1 q2 cpos:lj}{H H1 H2 H' J F F' H0 F1 F0 FB G G':Hp}{scope sc:lK}{env:m7}{A:dD}{E Q:aj->ao->Prop}{A1:Pn}{σ:St}{ix:List (Option Nat)}{fp ch:List av}{h1 h h':bF}{t p O O2 OL O' ys out pa pb p' rest:List Nat}{elt tg iter e ex value ek ev e1 e2 e3 e4 e5:bX}{ifs elts:List bX}{tt:TT}{te tl tv td tx:TE}{y v:V}{xs:List V}{cs:List (br×av)}{es:Array cF}{pl:jo Bool}{R:List V->Hp->Prop}{ro:Bool}{α β:Type}{is:List Int}{op op':CmpOp}{sts body:List bY}{r':Array bU}{ta:TA}{κ:oS}{bd:Nat->Bool}{gs:List (List Nat×Nat)}
theorem Ei:∀{vs:bm} {ns:a8},iN vs ns->A6 (ns.map V.int) vs
 |_,_,.nil=>.nil|_,_,.cons n t h=>.cons ⟨t,rfl⟩ (Ei h)
def Only(H:Hp):Prop:=∀b,H b=af\/∃o xs,H b=aa (.frz o (.lst xs))
theorem law_call{A:br->Option aj}{fa:av}{I:ao}{ns:a8}(O:K.In I.heap)(j:I.heap.Ns cz mg)(f:I.heap.Ns pH A)(D:∀x:br,x≠"__name__"->A x=fT x)(l:I.heap.NoLimit)(hg:I.gens=#[])(E:I.heap.get? a=aa {cls:=.type "list",data:=.seq vs.toArray})(hi:iN vs ns)(hl:ns.length<=ay)(hr:vc k lG)(F:∀base:bF,K.In base->base.Ns cz mg->vT P w K mg base CX k fa fd [x] sp)(c:∀(s:ao) (u:aj),kv s fd ⟨[u],[]⟩ [(x,u)])(B:∀H:Hp,Only H->SqL K H a (ns.map V.int)->sp [.ref a] H (λv _=>v=.bl ag) λ_ _ _=>False)(G:∀H e s',CX [] H I (λ_ _ _=>False) e s'->False):
  jJ (aI P w) lG (.call (.ref fa) ⟨[.ref a],[]⟩) (λr s'=>r=.ok (.ret (.bool ag))/\OldK I.heap s'.heap/\s'.os=I.os/\jO s'.gens) I:=by
 have T:=Ei hi;have L:=hi.length;have Y:∀H:Hp,Only H->SqL K H a (ns.map V.int)->HOk H I.heap->(∀b,H b≠af->b=a)->(H a≠af->K.lookup a=af) ->
   jJ (aI P w) lG (.call (.ref fa) ⟨[.ref a],[]⟩) (λr s'=>r=.ok (.ret (.bool ag))/\OldK I.heap s'.heap/\s'.os=I.os/\jO s'.gens) I:=by
  intro H N hS i hA hK;have S:∀{b:av} {o:j5},I.heap.get? b=aa o->H b=af->(hidT I.heap H).get? b=aa o:=λe n=>hidT_get e n;have y:∀{b:av} {o:j5} {es:Array cF} {ep:Nat},I.heap.get? b=aa o->o.data=.dict es ep->H b=af:=λ{b o es ep} e d=>by grind
  have U:∀{b:av} {m:br->Option aj},I.heap.Ns b m->(hidT I.heap H).Ns b m:=λ{b m} ⟨o,es,ep,e,d,r⟩=>⟨o,es,ep,S e (y e d),d,r⟩
  have p:K.In (hidT I.heap H):=λb o e=>S (O b o e) a0
  have hM:Mod K mg (hidT I.heap H):=⟨p,U j,⟨A,U f,D⟩,let ⟨mc,h1,h2⟩:=l;⟨mc,U h1,h2⟩⟩
  have e0:Env0 P w K mg (hidT I.heap H) lG [] I H:=⟨rfl,hM,λb o e=>of_hidT e,gJ (MP _ _),trivial,λb f=>bu (show b∈([]:List av)from f) ad,i,.of_eq hg⟩
  refine gu ((F _ p (U j)).run lG [] I H ⟨[.ref a],[]⟩ [.ref a] [.ref a] _ _ hr e0 (c I (.ref a)) (.cons rfl .nil) (B H N hS)) λr s' h=>?_;cases r with
  |error e=>exact(G H e s' h).elim|ok fl=>
   cases fl with
   |next=>exact bV h|brk=>exact bV h|cont=>exact bV h|ret u=>
    obtain⟨v,H',X,t,J,g,r',q⟩:=h;have W:v=.bl ag:=q;subst W;obtain rfl:u=lJ ag:=r';refine⟨rfl,OldK.of_keep λb o e=>?_,X,t⟩
    cases q:H b with
    |none=>exact J.keep b o e q (by intro z;exact bu (show b∈([]:List av)from z) ad) ad|some u=>
     rcases N b with z|⟨Z,xs,z⟩
     .simp_all
     .have Q:=J.frzs b Z _ z;obtain⟨e1,_⟩:=i b _ z;obtain⟨e2,_⟩:=g b _ Q
      simp_all
 cases C:K.lookup a with
 |some o=>have e:=O a o C;rw[E]at e;cases e;refine Y (λ_=>af) (λ_=>.inl rfl) (.inr ⟨_,vs.toArray,_,C,rfl,rfl,rfl,a7,a7⟩) (λb u z=>by simp_all) (λb z=>bu rfl z) λz=>bu rfl z|none=>
  refine Y (λb=>if b=a then aa (.frz {cls:=.type "list",data:=.seq vs.toArray} (.lst (ns.map V.int)))else af) (λb=>?_) (.inl (.inr ⟨{cls:=.type "list",data:=.seq vs.toArray},aC rfl⟩)) (λb u z=>?_) (λb z=>?_) λ_=>C
  .grind
  .by_cases f:b=a
   .have R:=(aC f).symm.trans z;cases R;subst f;exact⟨E,a7,vs,_,T,E⟩
   simp_all
  simp_all
def walk_of{l:kh}{q:bL}{S:List br}{O:(br->Option aj)->bF->Prop}{t:c8->bF->Prop}{d:DefRec}{K:Params->Fg}{CX:c8->CXT}{sp:c8->Sp}(A:l.most=aa n)(i:n<=ay)(m:d.params.defaults=[])(z:vc k lG)(E:∀(w:c8) (h:bF),t w h->(K w.params).In h)(F:∀(w:c8) (mg:br->Option aj) (fa:av) (h:bF),(K w.params).In h->h.Ns cz mg->mg d.name=aa (.ref fa) ->
   ∃fd:dX,(∀(s:ao) (u:aj),kv s fd ⟨[u],[]⟩ [(x,u)]) /\
    ∀base:bF,(K w.params).In base->base.Ns cz mg->vT l.prog w (K w.params) mg base (CX w) k fa fd [x] (sp w))(g:∀(w:c8) (H:Hp) (a:av) (ns:a8),ns.length<=n->Only H->SqL (K w.params) H a (ns.map V.int)->sp w [.ref a] H (λv _=>v=.bl ag) λ_ _ _=>False)(p:∀(w:c8) (H:Hp) (s:ao) (e:aj) (s':ao),CX w [] H s (λ_ _ _=>False) e s'->False):
  nC q S O t l.row.toRowW d [] (λf vs=>i0 f vs):=by
 refine Att.HQ A m λw r b mg P fa o pm T doc a vs ns G Y Q R C j c U I B=>?_;have y:=E w _ Y;obtain⟨fd,D,N⟩:=F w mg fa _ y G.T.g j;exact law_call y G.T.g G.T.b G.T.builtins G.T.nolimit B c U (aQ I i) z N D (λH L J=>g w H a ns I L J) λH e s'=>p w H b e s'
def inClass(s:bY)(j:Nat):bY:=match s with
 |.ClassDef _ _ _ body _ _ _ _ _ _ _=>body.getD j (.Pass ⟨0,0,0,0⟩)|_=>.Pass ⟨0,0,0,0⟩
def sT(s:bY):Arguments:=match s with
 |.FunctionDef _ a _ _ _ _ _ _ _ _=>a|_=>{posonlyargs:=[],args:=[],vararg:=af,kwonlyargs:=[],kw_defaults:=[],kwarg:=af,defaults:=[]}
def qD(s:bY):List bY:=match s with
 |.FunctionDef _ _ b _ _ _ _ _ _ _=>b|_=>[]
def eF(s:bY):lK:=match s with
 |.FunctionDef _ _ _ _ _ _ sc _ _ _=>sc|_=>{kind:=.function,names:=[],isGenerator:=ae,isCoroutine:=ae}
noncomputable abbrev CX0:CXT:=λ_ _ _ _ _ _=>False
noncomputable abbrev E0:XK:=λ_ _ _=>False
def D8:Passes CX0 X E0:=λ_ _ _ _ _ _ _ h=>h.elim
structure Fun(K:Fg)(x qual:br)(st:bY)(f:av)(fd:dX):Prop where
 ex:∃(oc:aj) (od:Option av) (kV doc pm:aj) (an:Option av) (cdv ct:aj) (osl:Array (Option aj)),
  fd=cE x qual (sT st) (qD st) (eF st) .none kV doc pm an cdv ct/\K.lookup f=aa ⟨oc,od,.func fd,osl⟩/\fU K cdv qual=ag
 kp:ck K (.ref f)=ag
theorem Fun.binds{st:bY}{f:av}(F:Fun K x qual st f fd)(h:∀(kV doc pm:aj) (an:Option av) (cdv ct:aj) (us:bm),us.length=ps.length->lI (cE x qual (sT st) (qD st) (eF st) .none kV doc pm an cdv ct) ⟨us,[]⟩=cO (ps.zip us)):Binds K fd ps []:=by obtain⟨oc,od,kV,doc,pm,an,cdv,ct,osl,rfl,S,I⟩:=F.ex;exact .all (h kV doc pm an cdv ct)
def Jk{st:bY}{f:av}(l:K.lookup f=aa ⟨oc,od,.func (cE x qual (sT st) (qD st) (eF st) .none kV doc pm an cdv ct),osl⟩)(c:fU K cdv qual=ag)(k:ck K (.ref f)=ag):Fun K x qual st f (cE x qual (sT st) (qD st) (eF st) .none kV doc pm an cdv ct):=⟨⟨oc,od,kV,doc,pm,an,cdv,ct,osl,rfl,l,c⟩,k⟩
def pv(i:Nat)(n: ~~~(X.N[i]?=aa x))(f:autoParam (Vis X.env.scope x) Jq5)(a:((x==("__debug__":br))=ae)⁻¹)(b:((x==("__classdict__":br))=ae)⁻¹):PE X (.Name x pos) (wj i):=by
    intro A1 s σ H Q I h;obtain⟨v,e,h⟩:=h;obtain⟨m,g,k⟩:=I.loc;obtain⟨u,r,l⟩:=k i x v n e f;have Y:EP X A1 σ Q u s:=⟨v,H,I,r,h⟩
    rcases l with⟨U,j⟩|⟨U,c,d,S⟩
    .exact pE (wpAny_loadName_local I.ok.kind U g j Y) a
    .rcases U with U|U
     .exact pE (wpAny_loadName_cell I.ok.kind U d S Y) a
     .exact pE (wpAny_loadName_free I.ok.kind U d S Y b) a
theorem iteNS{c A B:Prop}[oo c](I:c)(h:B):if (!decide c)=ag then A else B:=by simp_all
def eH(H H':Hp):Prop:=∀b o,H b=aa o->H' b=aa o
def eH.refl(H:Hp):eH H H:=λ_ _ h=>h
def eH.trans(a:eH H H1)(b:eH H1 H2):eH H H2:=λc o h=>b c o (a c o h)
theorem eH.free(e:eH H H'){l:av}(h:H' l=af):H l=af:=by
 cases q:H l with
 |none=>rfl|some o=>
  rw[e l o q]at h
  lia
noncomputable def Eh(cells:List (br×av)):List (br×fX)->List (br×av)->List (br×av)
 |[],I=>I|(x,k)::r,I=>Eh cells r (if (k==bx)=ag then(x,(cells.lookup x).getD 0)::I else I)
theorem lt_ne(h1:a<n)(I:n<=b):a≠b:=ac
theorem Cr{cells:List (br×av)}{x:br}{c:av}:∀(ns:List (br×fX)) (I:List (br×av)),(Eh cells ns I).lookup x=aa c ->
  ((x,bx)∈ns/\c=(cells.lookup x).getD 0)\/I.lookup x=aa c
 |[],_,h=>.inr h|(y,k)::r,I,h=>by
  rcases Cr r _ h with⟨m,e⟩|q
  .simp_all
  grind
theorem AS{cells:List (br×av)}{x:br}:∀(ns:List (br×fX)) (I:List (br×av)),((x,bx)∈ns\/(I.lookup x).isSome=ag)->((Eh cells ns I).lookup x).isSome=ag
 |[],_,h=>h.elim (λz=>nomatch z) id
 |(y,k)::r,I,h=>by
  refine AS r _ ?_
  grind
theorem xv{x:br}{c:av}:∀(ns:List (br×fX)) (n:Nat) (I:List (br×av)),(dj n ns I).lookup x=aa c->(n<=c/\(x,dP)∈ns)\/I.lookup x=aa c
 |[],_,_,h=>.inr h|(y,k)::r,n,I,h=>by
  unfold dj at h;by_cases S:(k==dP)=ag
  .rw[aC S]at h;rcases xv r _ _ h with⟨a,m⟩|q
   .grind
   grind
  .rw[aA S]at h;rcases xv r n I h with⟨a,m⟩|q
   .simp_all
   .exact .inr q
theorem AU:∀(ns:List (br×fX)) (n:Nat) (I:List (br×av)),(∀x y c,I.lookup x=aa c->I.lookup y=aa c->x=y)->(∀x c,I.lookup x=aa c->c<n) ->
  ∀x y c,(dj n ns I).lookup x=aa c->(dj n ns I).lookup y=aa c->x=y
 |[],_,_,hi,_=>hi|(z,k)::r,n,I,hi,U=>by
  unfold dj;by_cases S:(k==dP)=ag
  .rw[aC S];refine AU r _ _ (λx y c h1 Y=>?_) (λx c h1=>?_)
   .grind
   grind
  .rw[aA S];exact AU r n I hi U
theorem yf{x:br}{c:av}:∀(ns:List (br×fX)) (h:bF) (I:List (br×av)),(dj h.objs.size ns I).lookup x=aa c ->
  I.lookup x=aa c\/(h.objs.size<=c/\(pushCells h ns).IsCell c af)
 |[],_,_,e=>.inl e|(y,k)::r,h,I,e=>by
  unfold dj at e;unfold pushCells;by_cases S:(k==dP)=ag
  .rw[aC S]at e ⊢;have q:=yf (x:=x) (c:=c) r (h.push {cls:=.type "cell",data:=.cell af}) ((y,h.objs.size)::I) a7;rcases q with q|⟨q1,q2⟩
   .rw[c_]at q;cases U:x==y with
    |true=>rw[U]at q;have e1:=cP q;subst e1;exact .inr ⟨aq _,Heap.IsCell.keeps ⟨_,aw _ rfl,rfl⟩ (my r _)⟩|false=>simp_all
   grind[cB]
  .rw[aA S]at e ⊢;exact yf r h I e
theorem ym{env:m7}(f:br×fX->List (br×av)->jo (i7 (List (br×av))))(U:∀n k cs,f (n,k) cs=if (k==bx)=ag then(do let a <-cellOf env n;cO (.yield ((n,a)::cs)))else cO (.yield cs)):
  ∀(ns:List (br×fX)) (I:List (br×av)),(∀x∈ns,x.2=bx->∃c,env.cells.lookup x.1=aa c)->o7 ns I f=(cO (Eh env.cells ns I):jo _)
 |[],I,_=>by rfl|(y,k)::r,I,b=>by
  have Y:=λx g=>b x (bH _ g);rw[o6,U];unfold Eh;by_cases S:(k==bx)=ag
  .rw[aC S,aC S];obtain⟨c,e⟩:=b (y,k) bW (dw S);have d:=e;have e2:cellOf env y=cO c:=by unfold cellOf;rw[d]
   rw[e2,d];exact ym f U r _ Y
  .rw[aA S,aA S];exact ym f U r _ Y
def Cq(I:∀x∈scope.names,x.2=bx->∃c,env.cells.lookup x.1=aa c):closureFor scope env=cO (Eh env.cells scope.names []):=by simp only[closureFor];rw[ym _ (λn k cs=>by rfl) scope.names [] I];rfl
theorem Mm{M:oM}{s:ao}{Y:av}{S:List (br×av)}{I:m7}{Q:m7->ao->Prop}(a:∀h1:bF,(∀b o,s.heap.get? b=aa o->h1.get? b=aa o)->h1.Ns s.heap.objs.size (λ_=>af) ->
   (∀x c,(dj (s.heap.objs.size+1) scope.names S).lookup x=aa c->S.lookup x=aa c\/(s.heap.objs.size<c/\h1.IsCell c af)) ->
   Q {scope:=scope,locals:=s.heap.objs.size,globals:=Y,cells:=dj (s.heap.objs.size+1) scope.names S,qual:=qual,func:=af,code:=I.code,frame:=I.frame,builtins:=I.builtins} {s with heap:=h1}):
  aP M A (mT scope Y S [] qual af .none (aa I)) Q E s:=by
 simp only[mT,Option.isSome_some,if_true];refine ab (wpAny_alloc ?_);refine ab (wpAny_layCells _ (λname U cells=>by rfl) _ _ _ _ ?_);rw[show({s with heap:=s.heap.push {cls:=.type "dict",data:=.dict #[]}}:ao).heap.objs.size=s.z+1 from cB ..];refine ab (ai (ai ?_));refine a _ (λb o e=>my _ _ b o (ah _ e)) ((Heap.Ns.new s.heap _).keeps (my _ _)) λx c e=>?_;have q:=yf (x:=x) (c:=c) scope.names (s.heap.push {cls:=.type "dict",data:=.dict #[]}) S a7
 grind[cB]
theorem BS{env:m7}{x:br}:∀{ns:List (br×fX)},ns.lookup x=aa .free ->
  (ns.map λ(n,k)=>if (k==bx&&env.scope.kind==.function&&env.kindOf n==aa .cell)then(n,dP)else(n,k)).lookup x=aa .cell \/
  (ns.map λ(n,k)=>if (k==bx&&env.scope.kind==.function&&env.kindOf n==aa .cell)then(n,dP)else(n,k)).lookup x=aa .free
 |[],h=>by simp at h|(n,k)::r,h=>by
  have S:=@BS env x r;rw[aO];dsimp only;by_cases U:(k==bx&&env.scope.kind==.function&&env.kindOf n==aa .cell)=ag
  .rw[aC U,c_];cases I:x==n with
   |true=>simp|false=>rw[c_,I]at h;exact S h
  .rw[aA U,c_];cases I:x==n with
   |true=>rw[c_,I]at h;have e:=cP h;subst e;simp|false=>rw[c_,I]at h;exact S h
theorem BU{env:m7}{x:br}:∀{ns:List (br×fX)},
  ((ns.map λ(n,k)=>if (k==bx&&env.scope.kind==.function&&env.kindOf n==aa .cell)then(n,dP)else(n,k)).lookup x=aa .cell \/
  (ns.map λ(n,k)=>if (k==bx&&env.scope.kind==.function&&env.kindOf n==aa .cell)then(n,dP)else(n,k)).lookup x=aa .free) ->
  ns.lookup x=aa .cell\/ns.lookup x=aa .free
 |[],h=>by simp at h|(n,k)::r,h=>by
  have I:=@BU env x r
  grind
def i2(X:Cx)(N':List br)(sc:lK)(L:av)(cs:List (br×av))(s:ao)(H:Hp)(fp:List av):Cx:=
 {X with
  N:=N',s₀:=s,H₀:=H,outer:=X.stack,ex:=fp,pn:=[],xe:=λ_ _=>False
  fn:=λx=> !(sc.names.any λp=>p.1==x&&p.2==bx)
  env:={scope:=relabel sc X.env,locals:=L,globals:=X.env.globals,cells:=cs,qual:=X.env.qual,func:=af,code:=X.env.code,frame:=X.env.frame,builtins:=X.env.builtins}}
def inS(ix:List (Option Nat))(σ:St):St:=ix.map λo=>match o with
 |none=>af|some j=>(σ[j]?).join
def mu(N:List br)(I:lK)(N':List br)(sc:lK)(ix:List (Option Nat)):Bool:=
 aF (ix.length=N'.length) &&
 ((aX ix.length).all λi=>match ix[i]? with
  |some (aa j)=>(match N'[i]?,N[j]? with
   |some x,aa y=>x==y&&sc.names.lookup x==aa bx|_,_=>ae)
  |_=>ag) &&
 (sc.names.all λp=>(p.2 != bx||(I.names.lookup p.1==aa dP||I.names.lookup p.1==aa bx))&&(p.2 != NameKind.local||sc.names.lookup p.1==aa NameKind.local)) &&
 (sc.names.all λp=>sc.names.all λq=> !(p.1==q.1)||p.2==q.2)
section
variable{s:ao}
def mu.len(ok:mu X.N X.env.scope N' sc ix=ag):ix.length=N'.length:=by unfold mu at ok;rw[aU,aU,aU]at ok;exact j8 ok.1.1.1
theorem mu.at(ok:mu X.N X.env.scope N' sc ix=ag){i j:Nat}{x:br}(h:ix[i]?=aa (aa j))(I:N'[i]?=aa x):X.N[j]?=aa x/\sc.names.lookup x=aa .free:=by
 unfold mu at ok;rw[aU,aU,aU]at ok;have q:=eT.mp ok.1.1.2 i (bA.mpr (aD.mp h).1);rw[h,I]at q;dsimp only at q;cases e:X.N[j]? with
 |none=>rw[e]at q;cases q|some y=>rw[e]at q;rw[aU]at q;exact⟨by rw[dw q.1],dw q.2⟩
theorem mu.fr(ok:mu X.N X.env.scope N' sc ix=ag)(h:(x,bx)∈sc.names):X.env.kindOf x=aa .cell\/X.env.kindOf x=aa .free:=by
 unfold mu at ok;rw[aU,aU]at ok;have q:=eT.mp ok.1.2 _ h;rw[aU]at q;have q1:=q.1;rw[o8]at q1;rcases q1 with z|z
 .simp_all
 .rw[o8]at z;exact z.imp (λe=>dw e) λe=>dw e
theorem mu.loc(ok:mu X.N X.env.scope N' sc ix=ag):∀x∈sc.names,x.2=NameKind.local->sc.names.lookup x.1=aa .local:=λx I e=>by
 unfold mu at ok
 grind
def mu.apart(ok:mu X.N X.env.scope N' sc ix=ag)(h1:(x,dP)∈sc.names)(I:(x,bx)∈sc.names):False:=by unfold mu at ok;rw[aU]at ok;have q:=eT.mp (eT.mp ok.2 _ h1) _ I;simp at q
def AR(I:A3 X A1 σ H s)(ok:mu X.N X.env.scope N' sc ix=ag):∀x∈sc.names,x.2=bx->∃c,X.env.cells.lookup x.1=aa c:=λx S e=>by obtain⟨n,k⟩:=x;subst e;exact I.ok.has n (mu.fr ok S)
theorem Nn(I:A3 X A1 σ H s)(ok:mu X.N X.env.scope N' sc ix=ag)(h:(Eh X.env.cells sc.names []).lookup x=aa c):(x,bx)∈sc.names/\X.env.cells.lookup x=aa c:=by
 rcases Cr _ _ h with⟨m,e⟩|z
 .obtain⟨d,S⟩:=AR I ok _ m rfl
  simp_all
 simp_all
theorem comp_inv{L:av}(I:A3 X A1 σ H s)(g:∀b∈fp,KS X A1 H b)(Z:∀b∈fp,∃o,s.heap.get? b=aa o)(ok:mu X.N X.env.scope N' sc ix=ag)(W:sc.kind=.function)(U:s.heap.objs.size<=L)(f:∀b o,s.heap.get? b=aa o->h1.get? b=aa o)(ns:h1.Ns L λ_=>af)(a:∀x c,(dj (L+1) sc.names (Eh X.env.cells sc.names [])).lookup x=aa c->(Eh X.env.cells sc.names []).lookup x=aa c\/(L<c/\h1.IsCell c af)):
  A3 (i2 X N' sc L (dj (L+1) sc.names (Eh X.env.cells sc.names [])) s H fp) [] (inS ix σ) H {s with heap:=h1}:=by
 have Y:∀x c,(Eh X.env.cells sc.names []).lookup x=aa c->(x,bx)∈sc.names/\X.env.cells.lookup x=aa c/\(∃v,s.heap.IsCell c v)/\c<s.z:=λx c e=>by obtain⟨m,K⟩:=Nn I ok e;obtain⟨v,z⟩:=I.cell x c K;exact⟨m,K,⟨v,z⟩,z.lt⟩
 have d:∀b∈fp,b<s.z:=λb z=>let ⟨o,e⟩:=Z b z;aE e;have E:∀b∈fp,∀x c,(dj (L+1) sc.names (Eh X.env.cells sc.names [])).lookup x=aa c->c≠b:=λb z x c e=>by
  have S:=d b z;rcases a x c e with q|⟨q,_⟩
  .exact(g b z).2.2.2.2.1 x c (Y x c q).2.1
  .exact by
    have h1:=(aH S U)
    lia
 have t:(i2 X N' sc L (dj (L+1) sc.names (Eh X.env.cells sc.names [])) s H fp).Ok:=by
  refine⟨I.ok.mod,W,I.ok.glob,I.ok.blt,U,?_,?_,?_,I.ok.hd,I.ok.frames,.inl rfl,?_,I.bs,aQ I.ok.bsz I.sz,?_,?_,I.stack,I.Lw⟩
  .refine AU sc.names (L+1) _ (λx y c e1 e2=>I.ok.inj x y c (Y x c e1).2.1 (Y y c e2).2.1) λx c e=>?_;exact oB (aH (Y x c e).2.2.2 U)
  .intro x P;have w:=BU (env:=X.env) (x:=x) (ns:=sc.names) P;have q:((dj (L+1) sc.names (Eh X.env.cells sc.names [])).lookup x).isSome=ag:=by
    rcases w with z|z
    .exact eW _ _ _ (.inl z)
    .exact eW _ _ _ (.inr (AS _ _ (.inl (cN z))))
   exact gh.mp q
  .intro x c C e;rcases a x c e with q|⟨q,_⟩
   .have G:(!(sc.names.any λp=>p.1==x&&p.2==bx))=ag:=C
    grind
   .exact aQ U (b7 q)
  .intro b z;have S:=d b z;exact⟨bg (aH S U),E b z⟩
  .intro b o e z;rcases(g b z).2.2.2.1 with q|q
   .exact I.ok.noex b o e q
   .exact bu (aH (aE e) (aQ I.ok.bsz q)) (gw _)
  .intro b z Q;rcases aM.mp (I.Er b Q)with q|q
   .exact(g b z).2.1 q
   .exact(g b z).2.2.1 q
 refine⟨t,rfl,I.bare,Un.kept f,⟨_,ns,λi x v D J h3=>?_⟩,λx c e=>?_,I.hok.fresh U,λx c e=>?_,λp R=>bu R (by simp[i2]),I.hok.kept f,?_⟩
 .have A:∃j,ix[i]?=aa (aa j)/\σ[j]?=aa (aa v):=by
   unfold inS at J;rw[aV]at J;cases e:ix[i]? with
   |none=>simp_all|some o=>grind
  obtain⟨j,e1,e2⟩:=A;obtain⟨e3,e4⟩:=mu.at ok e1 D;have B:=mu.fr ok (cN e4);obtain⟨m,hn,T⟩:=I.loc;obtain⟨u,r,l⟩:=T j x v e3 e2 (B.elim (λz=>.inr (.inl z)) λz=>.inr (.inr z));refine⟨u,r,.inr ⟨BS (env:=X.env) (x:=x) (ns:=sc.names) e4,?_⟩⟩
  rcases l with⟨k,_⟩|⟨k,c,e,z⟩
  .simp_all
  .have q1:=AS (cells:=X.env.cells) sc.names [] (.inl (cN e4));obtain⟨c2,q2⟩:=gh.mp q1;have F:=(Y x c2 q2).2.1;rw[e]at F;cases F;have N:=eW (x:=x) sc.names (L+1) (Eh X.env.cells sc.names []) (.inr q1);obtain⟨c3,n⟩:=gh.mp N;rcases a x c3 n with h|⟨h,q7⟩
   .rw[q2]at h;cases h;exact⟨c,n,z.keeps f⟩
   .exfalso;rcases xv _ _ _ n with⟨_,O⟩|q8
    .exact mu.apart ok O (cN e4)
    grind
 .rcases a x c e with q|⟨_,q⟩
  .obtain⟨v,z⟩:=(Y x c q).2.2.1;exact⟨v,z.keeps f⟩
  .exact⟨_,q⟩
 .rcases a x c e with q|⟨q,_⟩
  .exact I.freeC x c (Y x c q).2.1
  .exact I.hok.fresh (aQ U (b7 q))
 .show(inS ix σ).length=N'.length;unfold inS;rw[az];exact mu.len ok
end
def PTs(X:Cx)(ifs:List bX)(t:TT):Prop:=
 ∀(A1:Pn) (s:ao) (σ:St) (H:Hp) (Q:Bool->Hp->Prop),A3 X A1 σ H s->t σ H Q ->
  aP (aI X.prog X.w) X.A (o7 ifs ag λc r=>if r=ag then do let ok <-n8 c X.env (a_ c X.env);cO (iW ok)else cO (iW r)) (TP X A1 σ Q) X.xe s
noncomputable def tYes:TT:=λ_ H Q=>Q ag H
def pts_nil:PTs X [] tYes:=λ_ _ _ H _ I h=>wpAny_tests_nil ⟨H,I,h⟩
def zV{c:bX}{t:TT}(h:PT X c t):PTs X [c] t:=λA1 s σ H Q I q=>wpAny_tests_one (h A1 s σ H Q I q)
def Gi{R:pI->ao->Prop}{s:ao}{a U:aj}(J:Nat->ao->Prop)(I:∀n s,J n s->aP (aI prog w) A (jI a) (λr s1=>match r with
   |none=>R (.ok .next) s1|some v=>aP (aI prog w) A (mz tg a v) (λ_ S=>aP (aI prog w) A (jl tg env v) (λ_ s2=>
     aP (aI prog w) A (o7 ifs ag λc r=>if r=ag then do let ok <-n8 c env (a_ c env);cO (iW ok)else cO (iW r)) (λok Y=>
      if ok=ag then aP (aI prog w) A (a_ elt env) (λx e=>aP (aI prog w) A (i0 (.builtin "list.append") [U,x]) (λ_ d=>∃m,m<n/\J m d) (λ_ _=>False) e) (λ_ _=>False) Y
      else ∃m,m<n/\J m Y) (λ_ _=>False) s2) (λ_ _=>False) S) (λ_ _=>False) s1) (λ_ _=>False) s)(n:Nat)(h:J n s):jJ (aI prog w) A (.compLoop (.ListComp elt [⟨tg,iter,ifs,0⟩] scope pos) 0 a U env) R s:=by
 refine codeAny_loop rfl J (λn s g=>?_) n h;refine wpAny_noted ?_;refine ab (nh (ab (b9 (I n s g) (λr s1 h1=>?_) λ_ _ z=>z.elim)));cases r with
 |none=>exact ai h1|some v=>
  refine ab (b9 h1 (λ_ S b=>?_) λ_ _ z=>z.elim);refine ab (b9 b (λ_ s2 k=>ab (b9 k (λok Y f=>?_) λ_ _ z=>z.elim)) λ_ _ z=>z.elim);cases ok with
  |false=>exact ai ⟨rfl,f⟩|true=>exact ab (ab (b9 f (λx e j=>ab (b9 j (λ_ d i=>ai (ai ⟨rfl,i⟩)) λ_ _ z=>z.elim)) λ_ _ z=>z.elim))
def xX(J:It)(ix:List (Option Nat))(g:TG)(tt:TT)(te:TE)(σ:St)(F:bi->Hp->Prop)(H:Hp):Prop:=
 ∃W:Nat->Nat->bi->Hp->Prop,(∃m,W 0 m [] H)/\∀i m ys H,W i m ys H ->
  (J.stop i H/\ys.length<=ay/\F ys H)\/(J.go i H/\ys.length<=ay/\∃N:bi->Hp->Prop,(∀S H',N S H'->∃U,U<m/\W (i+1) U S H') /\
   ∀x H',J.yld i H x H'->g x (inS ix σ) H' λI H2=>tt I H2 λb Y=>if b=ag then te I Y λy a=>N (ys++[y]) a else N ys Y)
section
variable{s:ao}
def A3.slots0{S:St}(I:A3 X A1 S H s)(h:∀(i:Nat) v,(inS ix σ)[i]?=aa (aa v)->S[i]?=aa (aa v))(U:(inS ix σ).length=X.N.length):A3 X A1 (inS ix σ) H s:=
 I.weak (by rw[U,I.len]) h
inductive CEnd(X:Cx)(A1:Pn)(σ:St)(F:List V->Hp->Prop)(acc:aj)(L:av):pI->ao->Prop
 |mk {s':ao} {fl:Flow} {ys:List V} {H2:Hp} {m:br->Option aj} (p:av) (a:acc=.ref p) (I:A3 X A1 σ (upd H2 p (.lst ys)) s') (n:H2 p=af) (f:F ys H2) (ns:s'.heap.Ns L m) (u:(upd H2 p (.lst ys)) L=af) (l:L≠X.env.locals) (z:X.s₀.heap.objs.size<=L) (c:∀x c,X.env.cells.lookup x=aa c->c≠L) (q:∀q∈X.pn++A1,q.1≠L):CEnd X A1 σ F acc L (.ok fl) s'
theorem Gh{g:TG}{J:It}{it:av}{tn:Nat->bF->Prop}{F:bi->Hp->Prop}{E:aj->ao->Prop}(hc:X.calm=ag)(I:A3 X A1 σ H s)(T:Turn X.prog X.w X.K tg J fp it tn)(st:tn 0 s.heap)(hf:∀b∈fp,KS X A1 H b)(ok:mu X.N X.env.scope N' sc ix=ag)(hk:sc.kind=.function)(hg:∀L cs s H fp,PG (i2 X N' sc L cs s H fp) tg g)(hkeep:∀x σ' H' (Q:St->Hp->Prop),g x σ' H' Q->g x σ' H' λσ2 H2=>Q σ2 H2/\∀(i:Nat) v,σ'[i]?=aa (aa v)->(∃j,ix[i]?=aa (aa j))->σ2[i]?=aa (aa v))(ht:∀L cs s H fp,PTs (i2 X N' sc L cs s H fp) ifs tt)(he:∀L cs s H fp,PE (i2 X N' sc L cs s H fp) elt te)(tr:xX J ix g tt te σ F H):
  aP (aI X.prog X.w) X.A (newList []) (λacc s3=>aP (aI X.prog X.w) X.A (mT sc X.env.globals (Eh X.env.cells sc.names []) [] X.env.qual af .none (aa X.env)) (λO s4=>jJ (aI X.prog X.w) X.A (.compStart (.ListComp elt [⟨tg,iter,ifs,0⟩] sc pos) 0 (.ref it) acc {O with scope:=relabel sc X.env}) (CEnd X A1 σ F acc O.locals) s4) E s3) E s:=by
 obtain⟨W,⟨m0,w0⟩,turn⟩:=tr;refine bw (Mm λh1 kp ns hcl=>?_);generalize hH2:s.heap.push {cls:=.type "list",dict:=af,data:=.seq ([]:bm).toArray}=G at kp ns hcl ⊢;have eL:G.objs.size=s.z+1:=by rw[<-hH2,cB]
 have kp0:∀b o,s.heap.get? b=aa o->h1.get? b=aa o:=λb o e=>kp b o (hH2▸ah _ e);have hD0:h1.PlainList s.z #[]:=⟨_,kp _ _ (hH2▸aw _ rfl)⟩
 have fpo:∀b∈fp,∃o,s.heap.get? b=aa o:=λb z=>let ⟨o,e,_⟩:=T.obj 0 _ st b z;⟨o,e⟩;have fpl:∀b∈fp,b<s.z:=λb z=>let ⟨o,e⟩:=fpo b z;aE e;have sL:s.z<=G.objs.size:=by rw[eL];exact jP _
 have C:s.z<G.objs.size:=by rw[eL];exact jg _
 have I0:=comp_inv (h1:=h1) I hf fpo ok hk sL kp0 ns hcl;generalize S:i2 X N' sc G.objs.size (dj (G.objs.size+1) sc.names (Eh X.env.cells sc.names [])) s H fp=Y at I0;have t:Y.prog=X.prog:=by subst S;rfl
 have p:Y.w=X.w:=by subst S;rfl
 have eY3:Y.K=X.K:=by subst S;rfl
 have eY4:Y.calm=ag:=by subst S;exact hc
 have m:Y.A=X.A:=by subst S;rfl
 have U:Y.env={scope:=relabel sc X.env,locals:=G.objs.size,globals:=X.env.globals,cells:=dj (G.objs.size+1) sc.names (Eh X.env.cells sc.names []),qual:=X.env.qual,func:=af,code:=X.env.code,frame:=X.env.frame,builtins:=X.env.builtins}:=by subst S;rfl
 have eY7:Y.xe=λ_ _=>False:=by subst S;rfl
 have eY8:Y.pn=[]:=by subst S;rfl
 have eY9:Y.fs=frs X.stack:=by subst S;rfl
 have N:Y.s₀=s:=by subst S;rfl
 have eY11:Y.H₀=H:=by subst S;rfl
 have eY12:Y.ex=fp:=by subst S;rfl
 have eY13:Y.N=N':=by subst S;rfl
 have hgY:PG Y tg g:=by subst S;exact hg _ _ _ _ _
 have htY:PTs Y ifs tt:=by subst S;exact ht _ _ _ _ _
 have heY:PE Y elt te:=by subst S;exact he _ _ _ _ _
 have lenI:(inS ix σ).length=Y.N.length:=by rw[eY13];unfold inS;rw[az];exact mu.len ok
 have w:∀(b:av),b<=G.objs.size->(∀x c,X.env.cells.lookup x=aa c->c≠b)->∀x c,Y.env.cells.lookup x=aa c->c≠b:=λb a hx x c e=>by
  rw[U]at e;rcases hcl x c e with q|⟨q,_⟩
  .exact hx x c (Nn I ok q).2
  lia
 have K:∀x c,X.env.cells.lookup x=aa c->c<s.z:=λx c e=>let ⟨v,z⟩:=I.cell x c e;z.lt;have nfs:∀b,s.z<=b->b∉frs X.stack:=λb a z=>by
  rcases aM.mp (I.Er b z)with q|q
  .exact lt_ne I.lt a q.symm
  .exact I.nofs a q
 have fpY:∀(pp:Pn) (H':Hp),(∀b∈fp,H' b=af)->(∀q∈pp,q.1∉fp)->∀b∈fp,KS Y pp H' b:=λpp H' hn hq b z=>by
  have hlt:=fpl b z;refine⟨hn b z,?_,?_,.inl a7,w b (b7 (m6 hlt C)) ((hf b z).2.2.2.2.1),λq hq' e=>?_⟩
  .rw[U];exact lt_ne hlt sL
  .rw[eY9];intro hs;rcases aM.mp (I.Er b hs)with q|q
   .exact(hf b z).2.1 q
   .exact(hf b z).2.2.1 q
  grind
 have Dfp:s.z∉fp:=λz=>bu (fpl _ z) (gw _);have Dok:∀(pp:Pn) (H':Hp),H' s.z=af->(∀q∈pp,q.1≠s.z)->KS Y pp H' s.z:=λpp H' hn hq=>by
  refine⟨hn,?_,by rw[eY9];exact nfs _ (aq _),.inr (by rw[N];exact aq _),w _ sL (λx c e=>bg (K x c e)),λq hq'=>?_⟩
  .rw[U];exact bg C
  .rw[eY8]at hq';exact hq q (by simpa using hq')
 have f:jJ (aI X.prog X.w) X.A (.compLoop (.ListComp elt [⟨tg,iter,ifs,0⟩] sc pos) 0 (.ref it) (.ref s.z) Y.env) (CEnd X A1 σ F (.ref s.z) G.objs.size) {s with heap:=h1}:=by
  refine Gi (λn s'=>∃i ys its H',A3 Y [] (inS ix σ) H' s'/\tn i s'.heap/\(∀b∈fp,H' b=af)/\H' s.z=af/\s'.heap.PlainList s.z its/\A6 ys its.toList/\W i n ys H') ?_ m0
   ⟨0,[],#[],H,I0,T.keep _ _ _ st λb _ o e=>kp0 b o e,λb z=>(hf b z).1,I.hok.fresh (aq _),hD0,.nil,w0⟩
  rintro n s3 ⟨i,ys,its,Z,I3,st3,fr3,l,pl3,A,w3⟩;obtain⟨D,oD⟩:=pl3;have hpD:∀q∈[((s.z:av),({cls:=.type "list",data:=.seq its D}:j5))],q.1∉fp:=λq hq=>by have:q=_:=cj.mp hq;rw[this];exact Dfp
  have I3':A3 Y [((s.z:av),({cls:=.type "list",data:=.seq its D}:j5))] (inS ix σ) Z s3:=I3.D6 λq hq=>by grind
  rcases turn i n ys Z w3 with⟨stop,ln,qn⟩|⟨go,ln,NN,hNN,step⟩
  .have h1:=T.done Y t p eY3 eY4 i _ s3 _ Z (λ_ _=>False) I3' (fpY _ Z fr3 hpD) st3 stop;rw[m]at h1;refine b9 h1 (λr s4 h=>?_) λ_ _ z=>z;obtain⟨hr,I4⟩:=h;subst hr;obtain⟨oD4,hD4,_⟩:=I4.pin ((s.z:av),({cls:=.type "list",data:=.seq its D}:j5)) ad;obtain⟨m4,hn4,_⟩:=I4.loc;rw[U]at hn4;refine .mk s.z rfl ?_ l qn hn4 ?_ ?_ ?_ ?_ ?_
   .have B:Un (frs X.stack) fp H Z s.heap s4.heap:=by
     have:=I4.base;rw[eY9,N,eY11,eY12]at this;exact this
    have hok4:HOk Z s4.heap:=I4.hok;refine I.call' (ch:=fp) (by have:=I4.os;lia) ⟨B.keep,B.slot,λb o e nn hx=>?_,B.there,λb xs q=>?_,λb o u q=>?_,λb ps q=>?_⟩ (λb u e=>?_) I4.bare (λb a=>?_)
    .rw[dV (bg (aE e))];exact B.free b o e nn hx
    .rw[dV (eP (B.tups b xs q) l)];exact B.tups b xs q
    .rw[dV (eP (B.frzs b o u q) l)];exact B.frzs b o u q
    .obtain⟨more,z⟩:=B.tbls b ps q
     grind[dV]
    .by_cases a:b=s.z
     .subst a;rw[dy]at e;cases e;exact⟨ln,its.toList,D,A,by simpa using oD4⟩
     .rw[dV a]at e;exact(hok4 b u e).stay (λ_ _ _ q=>q) (λc q=>by rw[dV (eP q l)];exact q) λc xs q=>by rw[dV (eP q l)];exact q
    .obtain⟨f0,f1,f2,f3,f4,f5⟩:=hf b a;exact⟨f3,f1,f4,f5⟩
   .rw[dV (cW C)];have:=I4.free;rw[U]at this;exact this
   .exact cW (m6 I.lt C)
   .exact aQ I.sz sL
   .exact λx c e=>lt_ne (K x c e) sL
   .exact λq hq=>lt_ne (aE (I.pin q hq).1) sL
  .have h1:=T.item Y t p eY3 eY4 i _ s3 _ Z (λ_ _=>False) I3' (fpY _ Z fr3 hpD) st3 go;rw[m]at h1;refine b9 h1 (λr s4 h=>?_) λ_ _ z=>z;obtain⟨u,hr,h4⟩:=h;subst hr;refine b9 h4 (λ_ s5 h=>?_) λ_ _ z=>z;obtain⟨x,H5,I5,r5,y5,st5,fr5⟩:=h;have I5':=I5.pinned (fpY _ H5 fr5 hpD) (T.obj _ _ st5);have h5:=hgY _ s5 _ H5 x u _ I5' r5 (hkeep x _ H5 _ (step x H5 y5));rw[t,p,m,eY7]at h5;refine b9 h5 (λ_ s6 h=>?_) λ_ _ z=>z;obtain⟨σ6,H6,I6,q6,k6⟩:=h;have h6:=htY _ s6 σ6 H6 _ I6 q6;rw[t,p,m,eY7]at h6;refine b9 h6 (λb s7 h=>?_) λ_ _ z=>z;obtain⟨H7,I7,q7⟩:=h;have P:∀{s8:ao} {R:Hp},A3 Y ([((s.z:av),({cls:=.type "list",data:=.seq its D}:j5))]++IF fp s5.heap) σ6 R s8->A3 Y [] (inS ix σ) R s8/\tn (i+1) s8.heap/\(∀b∈fp,R b=af)/\R s.z=af/\s8.heap.get? s.z=aa {cls:=.type "list",data:=.seq its D}:=λ{s8 R} I8=>by
    obtain⟨a1,a2,_⟩:=I8.pin ((s.z:av),({cls:=.type "list",data:=.seq its D}:j5)) ad;refine⟨(I8.D6 (pins':=[]) λ_ z=>nomatch z).slots0 (λk v e=>?_) lenI,T.keep _ _ _ st5 λb a o e=>(I8.pin (b,o) (bf _ (bf _ (wQ a e)))).1,λb a=>?_,a2,a1⟩
    .refine k6 k v e ?_;unfold inS at e;rw[aV]at e;cases e2:ix[k]? with
     |none=>rw[e2]at e;cases e|some o=>
      cases o with
      |none=>rw[e2]at e;cases e|some j=>exact⟨j,rfl⟩
    .obtain⟨o,e,d⟩:=T.obj _ _ st5 b a;exact(I8.pin (b,o) (bf _ (bf _ (wQ a e)))).2.1
   cases b with
   |false=>rw[aA dE]at q7 ⊢;obtain⟨m',hm,w7⟩:=hNN _ _ q7;obtain⟨b1,b2,b3,b4,b5⟩:=P I7;exact⟨m',hm,i+1,ys,its,H7,b1,b2,b3,b4,⟨D,b5⟩,A,w7⟩
   |true=>
    rw[aC rfl]at q7 ⊢;have h7:=heY _ s7 σ6 H7 _ I7 q7;rw[t,p,m,eY7,U]at h7;rw[U];refine b9 h7 (λuu s8 h=>?_) λ_ _ z=>z;obtain⟨y,R,I8,r8,q8⟩:=h;obtain⟨m',hm,w8⟩:=hNN _ _ q8;obtain⟨b1,b2,b3,b4,b5⟩:=P I8;have ez:its.size<=ay:=by
     have h1:=A.length;have h2:its.toList.length=its.size:=by simp
     lia
    refine wpAny_list_append_plain (hsz:=ez) ⟨D,b5⟩ λh9 pl9 sb9=>?_;obtain⟨d0,d1,d2,d3,d4,d5⟩:=Dok [] R b4 (λ_ z=>nomatch z);refine⟨m',hm,i+1,ys++[y],its.push uu,R,b1.turned (t':=s8.toks) (λb o a e=>(sb9.2 b a).trans e) d0 d1 d3 d4 d5,T.keep _ _ _ b2 λb a o e=>(sb9.2 b ?_).trans e,b3,b4,pl9,?_,w8⟩
    .lia
    .rw[Array.toList_push];exact A.append (.cons r8 .nil)
 rw[U]at f;exact codeAny_compStart_list f (T.self X.A 0 _ _ _ (T.keep _ _ _ st λb _ o e=>kp0 b o e) f)
end
def tComp(wi:TI)(ix:List (Option Nat))(g:TG)(tt:TT)(te:TE):TE:=λσ H Q=>wi σ H λJ H1=>xX J ix g tt te σ (λys H2=>∀p,H2 p=af->Q (.ref p) (upd H2 p (.lst ys))) H1
def B4(ix:List (Option Nat))(g:TG):Prop:=∀x I H' (Q:St->Hp->Prop),g x I H' Q->g x I H' λS H2=>Q S H2/\∀(i:Nat) v,I[i]?=aa (aa v)->(∃j,ix[i]?=aa (aa j))->S[i]?=aa (aa v)
def gf(h:ix[k]?=aa af):B4 ix (r9 k):=λx S H' Q q=>⟨q,λi v e ⟨j,I⟩=>by
 have:k≠i:=by rintro rfl;rw[h]at I;cases I
 rw[aB this];exact e⟩
section
variable{wi:TI}{g:TG}
def pe_comp(N':List br)(ix:List (Option Nat))(t:X.calm=ag)(hi:PI X tg iter wi)(m:∀L cs s H fp,PG (i2 X N' sc L cs s H fp) tg g)(l:B4 ix g)(d:∀L cs s H fp,PTs (i2 X N' sc L cs s H fp) ifs tt)(n:∀L cs s H fp,PE (i2 X N' sc L cs s H fp) elt te)(ok: ~~~(mu X.N X.env.scope N' sc ix=ag))(U: ~~~(sc.kind=.function))(f:autoParam (∀x,eO iter X.env x=cO x) Jq4):
  PE X (.ListComp elt [⟨tg,iter,ifs,0⟩] sc pos) (tComp wi ix g tt te):=by
 intro A1 s σ H Q I h;refine nj rfl f (Cq (AR I ok)) U (mu.loc ok) (A7 (hi A1 s σ H _ I h) λv s1 h1=>A7 h1 λc s2 z=>?_);obtain⟨W,fp,N,J,H2,e,K,T,S,f2,a⟩:=z;subst e;refine A7 (Gh t K T S f2 ok U m l d n a) λF R y=>A7 y λY P w=>gu w λr O i=>?_;obtain⟨p,e2,G,j,q,k,E,D,C,B,A⟩:=i;subst e2;exact⟨_,k,λh' sb=>⟨.ref p,_,G.turned (λb o u e=>(sb.2 b u).trans e) E D (.inr C) B A,rfl,q p j⟩⟩
def Ih(j:Nat)(wi:TI)(ix:List (Option Nat))(g:TG)(tt:TT)(te:TE):TS:=λD σ H=>wi σ H λJ H1=>xX J ix g tt te σ (λys H2=>∀p,H2 p=af->D.nx (σ.set j (aa (.ref p))) (upd H2 p (.lst ys))) H1
theorem BV(N':List br)(ix:List (Option Nat)){y:br}(O:X.N.Nodup)(C:X.N[j]?=aa y)(f:X.env.scope.names.lookup y=aa .local)(G:X.calm=ag)(hi:PI X tg iter wi)(E:∀L cs s H fp,PG (i2 X N' sc L cs s H fp) tg g)(B:B4 ix g)(n:∀L cs s H fp,PTs (i2 X N' sc L cs s H fp) ifs tt)(F:∀L cs s H fp,PE (i2 X N' sc L cs s H fp) elt te)(c: ~~~(dJ (.ListComp elt [⟨tg,iter,ifs,0⟩] sc pos) (aa (.Name y py)) spos.line X.env=cO ag))(ok: ~~~(mu X.N X.env.scope N' sc ix=ag))(i: ~~~(sc.kind=.function))(t:autoParam (∀x,eO iter X.env x=cO x) Jq4):
  PS X (.Assign [.Name y py] (.ListComp elt [⟨tg,iter,ifs,0⟩] sc pos) spos) (Ih j wi ix g tt te):=by
 intro A1 s σ H D I h;rw[exec_Assign_Name_used _ _ _ _ c];refine ab (nh (ab ?_));refine ab (b9 (nj rfl t (Cq (AR I ok)) i (mu.loc ok) (A7 (hi A1 s σ H _ I h) λv s1 h1=>A7 h1 λm s2 R=>?_)) (λ_ s' w=>ai (ai w)) λ_ _ z=>z);obtain⟨it,fp,tn,J,H2,e,I2,T,U,f2,l⟩:=R;subst e;refine A7 (Gh G I2 T U f2 ok i E B n F l) λacc s3 Q=>A7 Q λS s4 P=>gu P λr s5 u=>?_;obtain⟨p,e2,I5,d,q,A,c0,c1,Z,k,W⟩:=u;subst e2;refine pN (Ep (v:=.ref p) I5 O C (.inl f) rfl (λs6 I6 d=>?_) (.inr f));obtain⟨a,sb,N⟩:=d;have ea:S.locals≠a:=by
  rcases N with z|z
  .simp_all
  .exact λe=>k y a z e.symm
 refine⟨_,A.sameBut sb ea,λh' Y=>?_⟩
 exact⟨_,_,I6.turned (λb o K e=>(Y.2 b K).trans e) c0 c1 (.inr Z) k W,q p d⟩
end
theorem JA:∀{I:List Bool} {us:bm},A6 (I.map V.bl) us->LSm.BoolsAre us I
 |[],_,.nil=>.nil|b::r,_,.cons e t=>by cases e;exact .cons b (JA t)
def call_all(k:X.calm=ag):sH X (.builtin "all") (λxs H Q=>∃(a:av) (S:List Bool),xs=[.ref a]/\SqL X.K H a (S.map V.bl)/\Q (.bl (S.all id)) H):=by
 intro A1 s σ H xs us Q I r h;obtain⟨a,S,rfl,g,q⟩:=h;obtain⟨u,rfl,f⟩:=r.one;cases f;obtain⟨its,d,p,n⟩:=I.list g;have Y:=JA d;have U:=p.isList;refine call_all_walk (lC U ?_);refine⟨s.z,[s.z,a],[s.z],its.toArray.size,_,_,λi=>(S[i]?).getD ag,rfl,p9 (A:=X.A.in1) (I.ok.hd k) _ a (bg (by obtain⟨_,e,_⟩:=U;exact aE e)) its.toArray,
  ⟨⟨_,aw _ rfl,rfl,rfl⟩,U.push _⟩,λi v s' o t l c=>?_,λh' m j=>?_⟩
 .obtain⟨b,e,rfl⟩:=Y.get i v (by simpa using l);simp[e]at c;exact cU c
 .have e:((aX its.toArray.size).all λi=>(S[i]?).getD ag)=S.all id:=by
   rw[cx,Y.length];exact LSm.range_all S
  rw[e];exact⟨.bl _,H,I.kept (LSm.kept_iter j),rfl,q⟩
def A6.atA(r:A6 xs us)(h:j<us.toArray.size):∃x,xs[j]?=aa x/\A5 x us.toArray[j]:=by
 have I:j<xs.length:=by rw[r.length];simpa using h
 obtain⟨u,e1,e2⟩:=r.get (i:=j) (x:=xs[j]) ad;refine⟨xs[j],by simp[I],?_⟩
 have:us.toArray[j]=u:=by rw[cv (by simpa using h)]at e1;simpa using cP e1
 rw[this];exact e2
def pe_gint{n:Int}(S:Gl X x)(I:∃t,X.mg x=aa (.int n t))(U:((x==("__debug__":br))=ae)⁻¹):PE X (.Name x pos) (tC (.int n)):=by obtain⟨t,e⟩:=I;exact pe_glob S e ⟨t,rfl⟩ U
section
variable{base:bF}
theorem Fun.okX{st:bY}{f:av}(F:Fun K x qual st f fd)(S:uq N ps (eF st))(U:∀vs H Q E,sp vs H Q E->vs.length=ps.length)(I:∀(cdv:aj) (A:dD) (outer:List m7) (s:ao) (H:Hp) (vs:bi) (Q:VK) (E:XK),vc k (A.deeper (iE qual (eF st) s.heap.objs.size f cdv))->sp vs H Q E ->
   ∃t,PSs (Nj CX P w K mg base N qual (eF st) f cdv A outer s H E).nox (qD st) t/\t {nx:=λ_ H'=>Q .non H',rt:=Q} (start N vs) H):vT P w K mg base CX (k+1) f fd ps sp:=by
 obtain⟨oc,od,kV,doc,pm,an,cdv,ct,osl,rfl,b,a⟩:=F.ex;refine fn_of b a S U λA outer s H vs Q E c Y=>?_;obtain⟨t,h,q⟩:=I cdv A outer s H vs Q E c Y;exact⟨t,h.nox,q⟩
structure Def(K:Fg)(mg:br->Option aj)(x:br)(st:bY)(ps:List br)(f:av)(fd:dX):Prop where
 fn:Fun K x x st f fd
 mg:mg x=aa (.ref f)
 bd:Binds K fd ps []
def def_of(S:K.In h)(G:h.Ns cz mg){st:bY}{f:av}(a:jY K cz x=aa (aa (.ref f)))(l:K.lookup f=aa ⟨oc,od,.func (cE x x (sT st) (qD st) (eF st) .none kV doc pm an cdv ct),osl⟩)(c:fU K cdv x=ag)(k:ck K (.ref f)=ag)(I:∀(kV doc pm:aj) (an:Option av) (cdv ct:aj) (us:bm),us.length=ps.length->lI (cE x x (sT st) (qD st) (eF st) .none kV doc pm an cdv ct) ⟨us,[]⟩=cO (ps.zip us)):
  Def K mg x st ps f (cE x x (sT st) (qD st) (eF st) .none kV doc pm an cdv ct):=
 ⟨Jk l c k,oz S G a,(Jk l c k).binds I⟩
structure Mth(K:Fg)(C:av)(x qual:br)(st:bY)(ps:List br)(f:av)(fd:dX):Prop where
 fn:Fun K x qual st f fd
 mt:Meth K C x f
 bd:Binds K fd ps []
structure Kls(K:Fg)(mg:br->Option aj)(x:br)(C:av):Prop where
 cl:Cls K C
 mg:mg x=aa (.ref C)
 mks:i9 K C=ag
 kp:ck K (.ref C)=ag
 c1:cp K (.ref C) "__class__"=aa (aa (.builtin "object.__class__"))
 c2:il K (.builtin "object.__class__") "__get__"=aa (aa (.builtin "getset_descriptor.__get__"))
 c3:nP K (.builtin "object.__class__")=aa ag
 c4:ou K C (.type "object")=aa ag
end
def pg_c{L:av}{s:ao}(U:N'.Nodup)(hi:N'[i]?=aa x)(I:Loc (i2 X N' sc L cs s H fp).env.scope x)(S:autoParam ((i2 X N' sc L cs s H fp).fn x=ag\/(i2 X N' sc L cs s H fp).env.scope.names.lookup x=aa .local) Jq3):PG (i2 X N' sc L cs s H fp) (.Name x pos) (r9 i):=ub U hi I S
theorem eH.upd{H:Hp}{a:av}{o:HO}(h:H a=af):eH H (upd H a o):=λb u e=>by rw[dV (eP e h)];exact e
section
variable{f:av}{dvs:List V}{ds:List aj}{E:XK}{m:br}{p:lj}{es:List bX}{t:TA}
structure Stat(K:Fg)(C:av)(mc:aj)(m:br)(f:av):Prop where
 s1:il K (.ref C) "__getattribute__"=aa (aa (.builtin "type.__getattribute__"))
 s2:nQ K C mc=ag
 s3:nR K (.ref C) mc m=aa (.val (.ref f))
 s4:ck K (.ref f)=ag
def pe_cmeth(S:Stat X.K C mc m f)(n:Gl X x)(l:X.mg x=aa (.ref C))(F:vT X.prog X.w X.K X.mg X.base CX k f fd ps sp)(i:vc k X.A)(q:Binds X.K fd ps ds)(o:A6 dvs ds)(d:Passes CX X E)(u:PA X (e::es) t)(b:((x==("__debug__":br))=ae)⁻¹)(Y: ~~~(au (e::es) X.env=(ae,a_ e X.env)::au es X.env))(a: ~~~((cu pos (au es X.env)).any (·.1)=ae))(g: ~~~(a_ (.Call (.Attribute (.Name x p) m apos) (e::es) [] pos) X.env=(do
   let ov <-a_ (.Name x p) X.env
   jH apos.atName
   let (f,U) <-gq [ov] (kr ov m pl)
   oI pos f U (cu pos (au (e::es) X.env)) (ik pos (fN [] X.env))))):
  PE X (.Call (.Attribute (.Name x p) m apos) (e::es) [] pos) (Ln sp dvs E t):=by
 intro A1 s σ H Q I h;refine jf (Dz I n l ?_ b) g;refine PySem.W.method_cls I.kIn S.s1 (PySem.W.cls_value I.kIn S.s2 S.s3 rfl ?_);refine hX I.ok.mod.kin S.s4 (A7 (u pos A1 _ σ H _ (I.tok _) h) λus s2 j=>?_) Y a;obtain⟨vs,H2,c,r,q2⟩:=j;refine⟨c.kIn,?_⟩
 exact Ir F i q o d c r q2
end
section
variable{a:bX}
def eH.tup{a:av}(e:eH H H')(h:SqT K H a xs):SqT K H' a xs:=by
 rcases h with(h|⟨o,h⟩)|h
 .exact .inl (.inl (e _ _ h))
 .exact .inl (.inr ⟨o,e _ _ h⟩)
 .exact .inr h
end
set_option genSizeOf true in
set_option genInjectivity true in
inductive A0 where
 |non|bl (b:Bool)|int (i:Int)|tup (ds:List A0)|lst (ds:List A0)|ins (C:av) (fs:List (br×A0))|dic (ks:List (List Int×A0))|dil (ks:List (Int×List (List Int)))
abbrev a9:=List A0
variable{L ds:List A0}{d:A0}{ks:List (List Int×A0)}
noncomputable abbrev JJ:=a8×av×V
abbrev b0:=List JJ
noncomputable def tHash(ks:a8):Int:=hR (bc (ks.map pS))
def rowE(x:a8×av×aj):cF:=⟨tHash x.1,.ref x.2.1,x.2.2⟩
def vt(p:JJ)(q:a8×av×aj):Prop:=p.1=q.1/\p.2.1=q.2.1/\A5 p.2.2 q.2.2
inductive B8(h:bF)(a:av)(xs:List JJ)(ep:Nat):Prop
 |mk (vs:List (List Int×av×aj)) (r:cb vt xs vs) (m:(a==bT)=ae) (z:xs.length<=ay) (n:(vs.map (·.1)).Nodup) (o:j5) (es:Array cF) (g:h.get? a=aa o) (x:o.ExactDict) (d:o.data=.dict es ep) (e:es.toList=vs.map rowE)
noncomputable def ur(a:av)(xs:b0)(ep:Nat):HO:=.ext λh=>B8 h a xs ep
noncomputable abbrev LK:=Int×List a8
abbrev bv:=List LK
def lHash(k:LK):Int:=hR (bc [pS k.1,hR (bc (k.2.map tHash))])
def rowL(x:LK×av):cF:=⟨lHash x.1,.ref x.2,.bool ag⟩
inductive KU(h:bF)(a:av)(xs:List (LK×av))(ep:Nat):Prop
 |mk (m:(a==bT)=ae) (z:xs.length<=ay) (n:(xs.map (·.1)).Nodup) (o:j5) (es:Array cF) (g:h.get? a=aa o) (x:o.ExactDict) (d:o.data=.dict es ep) (e:es.toList=xs.map rowL)
noncomputable def NO(a:av)(xs:List (LK×av))(ep:Nat):HO:=.ext λh=>KU h a xs ep
inductive y8(K:Fg)(F:Hp)(b:av)(k:LK):Prop
 |mk (r:av) (bs:List av) (p:SqT K F b [V.int k.1,V.ref r]) (q:SqT K F r (bs.map V.ref)) (l:bs.length=k.2.length) (z:∀(j:Nat) (row:List Int) (c:av),k.2[j]?=aa row->bs[j]?=aa c->SqT K F c (row.map V.int))
def KV(K:Fg)(F:Hp)(ks:bv)(xs:List (LK×av)):Prop:=xs.map (·.1)=ks/\∀x∈xs,y8 K F x.2 x.1
inductive AtX{α:Type}(S:av->α->Prop)(P:α->Prop)(v:V):Prop
 |mk (a:av) (xs:α) (e:v=.ref a) (q:S a xs) (r:P xs)
inductive CnsK(k:List Int)(S:av->Prop)(P:V->Prop)(R:List JJ->Prop)(xs:List JJ):Prop
 |mk (b:av) (v:V) (r:List JJ) (e:xs=(k,b,v)::r) (t:S b) (p:P v) (z:R r)
inductive CnsF(f:br)(P:V->Prop)(R:List (br×V)->Prop)(fs:List (br×V)):Prop
 |mk (v:V) (r:List (br×V)) (e:fs=(f,v)::r) (p:P v) (t:R r)
inductive Cns{α:Type}(P:α->Prop)(R:List α->Prop)(xs:List α):Prop
 |mk (v:α) (vs:List α) (e:xs=v::vs) (p:P v) (r:R vs)
mutual
noncomputable def i1(K:Fg)(F:Hp):A0->V->Prop
 |.non,v=>v=.non|.bl b,v=>v=.bl b|.int i,v=>v=.int i|.tup ds,v=>AtX (SqT K F) (ei K F ds) v|.lst ds,v=>AtX (SqL K F) (ei K F ds) v|.ins C gs,v=>∃a dx fs,v=.ref a/\F a=aa (.ins C dx fs)/\BJ K F gs fs
 |.dic ks,v=>AtX (λa xs=>∃ep,F a=aa (ur a xs ep)) (qm K F ks) v
 |.dil ks,v=>AtX (λa xs=>∃ep,F a=aa (NO a xs ep)) (KV K F ks) v
noncomputable def ei(K:Fg)(F:Hp):a9->bi->Prop
 |[],xs=>xs=[]|d::ds,xs=>Cns (i1 K F d) (ei K F ds) xs
noncomputable def BJ(K:Fg)(F:Hp):List (br×A0)->List (br×V)->Prop
 |[],fs=>fs=[]|(f,d)::gs,fs=>CnsF f (i1 K F d) (BJ K F gs) fs
noncomputable def qm(K:Fg)(F:Hp):List (a8×A0)->b0->Prop
 |[],xs=>xs=[]|(k,d)::ks,xs=>CnsK k (λb=>SqT K F b (k.map .int)) (i1 K F d) (qm K F ks) xs
end
mutual
noncomputable def uT:A0->Bool
 |.tup ds=>tq ds|.lst _=>ae|.ins _ _=>ae|.dic _=>ae|.dil _=>ae|_=>ag
noncomputable def tq:a9->Bool
 |[]=>ag|d::ds=>uT d&&tq ds
end
def eH.lst(e:eH H H')(h:SqL K H a xs):SqL K H' a xs:=by
 rcases h with(h|⟨o,h⟩)|h
 .exact .inl (.inl (e _ _ h))
 .exact .inl (.inr ⟨o,e _ _ h⟩)
 .exact .inr h
def y8.mono(s:eH F F'){k:LK}(h:y8 K F b k):y8 K F' b k:=
 let ⟨r,a,Y,U,l,S⟩:=h;⟨r,a,s.tup Y,s.tup U,l,λj I c e1 e2=>s.tup (S j I c e1 e2)⟩
theorem KV.mono{K:Fg}{F F':Hp}(s:eH F F'){ks:bv}{xs:List (LK×av)}(h:KV K F ks xs):KV K F' ks xs:=⟨h.1,λx I=>(h.2 x I).mono s⟩
mutual
theorem i1.mono{K:Fg}{F F':Hp}(s:eH F F'):∀{d:A0} {v:V},i1 K F d v->i1 K F' d v
 |.non,_,h=>h|.bl _,_,h=>h|.int _,_,h=>h|.tup _,_,⟨a,xs,e,q,r⟩=>⟨a,xs,e,s.tup q,ei.mono s r⟩|.lst _,_,⟨a,xs,e,q,r⟩=>⟨a,xs,e,s.lst q,ei.mono s r⟩|.ins _ _,_,⟨a,dx,fs,e,q,r⟩=>⟨a,dx,fs,e,s _ _ q,BJ.mono s r⟩|.dic _,_,⟨a,xs,e,⟨ep,q⟩,r⟩=>⟨a,xs,e,⟨ep,s _ _ q⟩,qm.mono s r⟩|.dil _,_,⟨a,xs,e,⟨ep,q⟩,r⟩=>⟨a,xs,e,⟨ep,s _ _ q⟩,KV.mono s r⟩
theorem ei.mono{K:Fg}{F F':Hp}(s:eH F F'):∀{ds:a9} {xs:bi},ei K F ds xs->ei K F' ds xs
 |[],_,h=>h|_::_,_,⟨v,vs,e,q,r⟩=>⟨v,vs,e,i1.mono s q,ei.mono s r⟩
theorem BJ.mono{K:Fg}{F F':Hp}(s:eH F F'):∀{gs:List (br×A0)} {fs:List (br×V)},BJ K F gs fs->BJ K F' gs fs
 |[],_,h=>h|(_,_)::_,_,⟨v,r,e,q,t⟩=>⟨v,r,e,i1.mono s q,BJ.mono s t⟩
theorem qm.mono{K:Fg}{F F':Hp}(s:eH F F'):∀{ks:List (a8×A0)} {xs:b0},qm K F ks xs->qm K F' ks xs
 |[],_,h=>h|(_,_)::_,_,⟨b,v,r,e,t,q,z⟩=>⟨b,v,r,e,s.tup t,i1.mono s q,qm.mono s z⟩
end
mutual
theorem i1.flat{K:Fg}{F F':Hp}(s:∀a xs,SqT K F a xs->SqT K F' a xs):∀{d:A0} {v:V},uT d=ag->i1 K F d v->i1 K F' d v
 |.non,_,_,h=>h|.bl _,_,_,h=>h|.int _,_,_,h=>h|.tup ds,_,f,⟨a,xs,e,q,r⟩=>⟨a,xs,e,s _ _ q,ei.flat s (by simpa[uT] using f) r⟩|.lst _,_,f,_=>by simp_all[uT]|.ins _ _,_,f,_=>by simp_all[uT]|.dic _,_,f,_=>by simp_all[uT]|.dil _,_,f,_=>by simp_all[uT]
theorem ei.flat{K:Fg}{F F':Hp}(s:∀a xs,SqT K F a xs->SqT K F' a xs):∀{ds:a9} {xs:bi},tq ds=ag->ei K F ds xs->ei K F' ds xs
 |[],_,_,h=>h|d::ds,_,f,⟨v,vs,e,q,r⟩=>by simp only[tq,aU]at f;exact⟨v,vs,e,i1.flat s f.1 q,ei.flat s f.2 r⟩
end
theorem ei.length{K:Fg}{F:Hp}:∀{ds:a9} {xs:bi},ei K F ds xs->xs.length=ds.length
 |[],_,h=>by rw[show _=[]from h];rfl|_::_,_,⟨_,_,e,_,r⟩=>by rw[e,aW,aW,ei.length r]
theorem ei.get{K:Fg}{F:Hp}:∀{ds:a9} {xs:bi} {i:Nat} {d:A0},ei K F ds xs->ds[i]?=aa d->AtI (λv=>xs[i]?=aa v) (i1 K F d)
 |[],_,_,_,_,e=>by simp at e|_::_,_,0,_,⟨v,vs,e,q,_⟩,h=>by simp at h;subst h e;exact⟨v,rfl,q⟩|_::_,_,i+1,_,⟨v,vs,e,_,r⟩,h=>by subst e;simp at h ⊢;exact ei.get r h
theorem ei.at{K:Fg}{F:Hp}{ds:a9}{xs:bi}{i:Nat}{v:V}(r:ei K F ds xs)(h:xs[i]?=aa v):AtI (λd=>ds[i]?=aa d) λd=>i1 K F d v:=by
 have hi:i<ds.length:=by rw[<-r.length];exact(aD.mp h).1
 obtain⟨w,e,q⟩:=r.get (i:=i) (d:=ds[i]) ad;rw[h]at e;have I:=cP e;subst I;exact⟨ds[i],ad,q⟩
def ei.nil:ei K F [] []:=rfl
def ei.cons(q:i1 K F d v)(r:ei K F ds xs):ei K F (d::ds) (v::xs):=⟨v,xs,rfl,q,r⟩
theorem ei.append{K:Fg}{F:Hp}:∀{ds es:a9} {xs ys:bi},ei K F ds xs->ei K F es ys->ei K F (ds++es) (xs++ys)
 |[],_,_,_,h,r=>by rw[show _=[]from h];exact r|_::_,_,_,_,⟨v,vs,e,q,t⟩,r=>by subst e;exact⟨v,_,rfl,q,ei.append t r⟩
theorem ei.take{K:Fg}{F:Hp}:∀{ds:a9} {xs:bi} (n:Nat),ei K F ds xs->ei K F (ds.take n) (xs.take n)
 |_,_,0,_=>rfl|[],_,_+1,h=>by rw[show _=[]from h];rfl|_::_,_,n+1,⟨v,vs,e,q,r⟩=>by subst e;exact⟨v,_,rfl,q,ei.take n r⟩
theorem ei.drop{K:Fg}{F:Hp}:∀{ds:a9} {xs:bi} (n:Nat),ei K F ds xs->ei K F (ds.drop n) (xs.drop n)
 |_,_,0,h=>h|[],_,_+1,h=>by rw[show _=[]from h];rfl|_::_,_,n+1,⟨v,vs,e,q,r⟩=>by subst e;exact ei.drop n r
theorem ei.set{K:Fg}{F:Hp}{d:A0}{v:V}(q:i1 K F d v):∀{ds:a9} {xs:bi} (n:Nat),ei K F ds xs->ei K F (ds.set n d) (xs.set n v)
 |[],_,_,h=>by rw[show _=[]from h];rfl|_::_,_,0,⟨w,vs,e,_,r⟩=>by subst e;exact⟨v,_,rfl,q,r⟩|_::_,_,n+1,⟨w,vs,e,p,r⟩=>by subst e;exact⟨w,_,rfl,p,ei.set q n r⟩
theorem ei.of_get{K:Fg}{F:Hp}:∀{ds:a9} {xs:bi},xs.length=ds.length->(∀(i:Nat) d v,ds[i]?=aa d->xs[i]?=aa v->i1 K F d v)->ei K F ds xs
 |[],[],_,_=>rfl|[],_::_,h,_=>by simp at h|_::_,[],h,_=>by simp at h|d::ds,v::vs,h,q=>⟨v,vs,rfl,q 0 d v rfl rfl,ei.of_get a7 λi e w h1 I=>q (i+1) e w a7 a7⟩
structure A2(F H F' H':Hp):Prop where
 ff:eH F F'
 hh:eH H H'
 fh:eH F' H'
 nw:∀b o,F' b=aa o->F b=aa o\/H b=af
theorem A2.refl{F H:Hp}(s:eH F H):A2 F H F H:=⟨eH.refl _,eH.refl _,s,λ_ _ h=>.inl h⟩
theorem A2.trans{F H F1 H1 I H2:Hp}(a:A2 F H F1 H1)(b:A2 F1 H1 I H2):A2 F H I H2:=
 ⟨a.ff.trans b.ff,a.hh.trans b.hh,b.fh,λx o h=>(b.nw x o h).elim (λz=>a.nw x o z) λz=>.inr (a.hh.free z)⟩
theorem A2.lay{p:av}{o:HO}(s:eH F H)(I:H p=af):A2 F H (upd F p o) (upd H p o):=
 ⟨eH.upd (s.free I),eH.upd I,λb u h=>by
  by_cases e:b=p
  .simp_all[dy]
  .rw[dV e]at h ⊢;exact s b u h,λb u h=>by
  grind[dV]⟩
def A2.grow{p:av}{o:HO}(s:eH F H)(I:H p=af):A2 F H F (upd H p o):=
 ⟨eH.refl _,eH.upd I,s.trans (eH.upd I),λ_ _ h=>.inl h⟩
def A2.same(s:eH F H)(h:eH H H'):A2 F H F H':=⟨eH.refl _,h,s.trans h,λ_ _ z=>.inl z⟩
inductive OwX{α:Type}(S:av->α->Prop)(F H0:Hp)(P:α->Prop)(v:V):Prop
 |mk (a:av) (xs:α) (e:v=.ref a) (q:S a xs) (f:F a=af) (z:H0 a=af) (r:P xs)
def yv(K:Fg)(F H0 H:Hp):A0->V->Prop
 |.lst ds,v=>OwX (λa xs=>H a=aa (.lst xs)) F H0 (ei K F ds) v|.dic ks,v=>OwX (λa xs=>∃ep,H a=aa (ur a xs ep)) F H0 (qm K F ks) v
 |.dil ks,v=>OwX (λa xs=>∃ep,H a=aa (NO a xs ep)) F H0 (KV K F ks) v
 |d,v=>i1 K F d v
noncomputable def isO:A0->Bool
 |.lst _=>ag|.dic _=>ag|.dil _=>ag|_=>ae
noncomputable def isMu:HO->Bool
 |.lst _=>ag|.ext _=>ag|_=>ae
def yv.non(I:isO d=ae):yv K F H0 H d v=i1 K F d v:=by cases d<;>first|rfl|cases I
def yv.top(I:isO d=ag)(q:yv K F H0 H d v):∃a o,v=.ref a/\H a=aa o/\isMu o=ag/\F a=af/\H0 a=af:=by
 cases d with
 |lst ds=>obtain⟨a,xs,e,p,f,z,_⟩:=q;exact⟨a,_,e,p,rfl,f,z⟩
 |dic ks=>obtain⟨a,xs,e,⟨ep,p⟩,f,z,_⟩:=q;exact⟨a,_,e,p,rfl,f,z⟩
 |dil ks=>obtain⟨a,xs,e,⟨ep,p⟩,f,z,_⟩:=q;exact⟨a,_,e,p,rfl,f,z⟩
 |_=>cases I
def yv.re(U:isO d=ag)(q:yv K F H0 H d (.ref a))(S:eH F F')(fa:F' a=af)(I:∀o,H a=aa o->H' a=aa o):yv K F' H0 H' d (.ref a):=by
 cases d with
 |lst ds=>obtain⟨b,xs,e,p,f,z,r⟩:=q;cases e;exact⟨a,xs,rfl,I _ p,fa,z,r.mono S⟩
 |dic ks=>obtain⟨b,xs,e,⟨ep,p⟩,f,z,r⟩:=q;cases e;exact⟨a,xs,rfl,⟨ep,I _ p⟩,fa,z,r.mono S⟩
 |dil ks=>obtain⟨b,xs,e,⟨ep,p⟩,f,z,r⟩:=q;cases e;exact⟨a,xs,rfl,⟨ep,I _ p⟩,fa,z,r.mono S⟩
 |_=>cases U
def yv.give(S:isO d=ag)(q:yv K F H0 H d (.ref a))(I:eH F F')(fa:F' a=H a):i1 K F' d (.ref a):=by
 cases d with
 |lst ds=>obtain⟨b,xs,e,p,f,z,r⟩:=q;cases e;exact⟨a,xs,rfl,SqL.of (fa.trans p),r.mono I⟩
 |dic ks=>obtain⟨b,xs,e,⟨ep,p⟩,f,z,r⟩:=q;cases e;exact⟨a,xs,rfl,⟨ep,fa.trans p⟩,r.mono I⟩
 |dil ks=>obtain⟨b,xs,e,⟨ep,p⟩,f,z,r⟩:=q;cases e;exact⟨a,xs,rfl,⟨ep,fa.trans p⟩,r.mono I⟩
 |_=>cases S
def Val(K:Fg)(own:Bool)(F H0 H:Hp)(d:A0)(v:V):Prop:=if own=ag then yv K F H0 H d v else i1 K F d v
def yv.back(s:eH H0 H1)(h:yv K F H1 H d v):yv K F H0 H d v:=by
 cases d with
 |lst ds=>obtain⟨a,xs,e,p,q,z,r⟩:=h;exact⟨a,xs,e,p,q,s.free z,r⟩
 |dic ks=>obtain⟨a,xs,e,p,q,z,r⟩:=h;exact⟨a,xs,e,p,q,s.free z,r⟩
 |dil ks=>obtain⟨a,xs,e,p,q,z,r⟩:=h;exact⟨a,xs,e,p,q,s.free z,r⟩
 |_=>exact h
theorem Val.back{K:Fg}{own:Bool}{F H0 H1 H:Hp}{d:A0}{v:V}(s:eH H0 H1)(h:Val K own F H1 H d v):Val K own F H0 H d v:=by
 cases own with
 |true=>exact yv.back s h|false=>exact h
theorem yv.freeze(s:eH F H)(h:yv K F H0 H d v):∃F',eH F F'/\eH F' H/\(∀b o,F' b=aa o->F b=aa o\/H0 b=af)/\i1 K F' d v:=by
 cases I:isO d with
 |true=>
  obtain⟨a,u,e,p,_,q,z⟩:=h.top I;subst e;refine⟨upd F a u,eH.upd q,λb o h=>?_,λb o h=>?_,h.give I (eH.upd q) (by rw[dy,p])⟩
  .by_cases e:b=a
   .simp_all[dy]
   .rw[dV e]at h;exact s b o h
  grind[dV]
 |false=>rw[yv.non I]at h;exact⟨F,eH.refl _,s,λ_ _ z=>.inl z,h⟩
inductive Err where
 |stuck|exc (C:av) (fs:List (br×A0))
variable{wp:Err->Prop}
noncomputable abbrev M:=Except Err
variable{g':A0->A0->M A0}
noncomputable abbrev df:=List (Option A0)
variable{ρ ρ':df}{fa fb fe fk fx fA fv f3 f4 f5 fq f0:df->M A0}{fc ft:df->M Bool}{fi fo:df->M (List A0)}{fu:df->M (Option Int)}
structure qE where
 p:Err->Hp->Hp->Prop
 mono:∀{e:Err} {F H F' H':Hp},p e F H->A2 F H F' H'->p e F' H'
 ns:∀{F H:Hp},p .stuck F H->False
noncomputable def A9:qE:=⟨λ_ _ _=>False,λh _=>h,λh=>h⟩
def eQ(K:Fg)(W:qE)(own:Bool)(F H:Hp)(r:M A0)(Q:VK):Prop:=match r with
 |.ok d=>∀v F' H',A2 F H F' H'->Val K own F' H H' d v->Q v H'|.error e=>W.p e F H
def eQ.step{W:qE}{own:Bool}{r:M A0}{Q:VK}(p:eQ K W own F H r Q)(s:A2 F H F1 H1):eQ K W own F1 H1 r Q:=by
 cases r with
 |ok d=>exact λv F' H' t q=>p v F' H' (s.trans t) (q.back s.hh)|error e=>exact W.mono p s
def eQ.frz{W:qE}{r:M A0}{Q:VK}(p:eQ K W ae F H r Q):eQ K W ag F H r Q:=by
 cases r with
 |ok d=>intro v F' H' t q;obtain⟨I,s1,s2,n,z⟩:=yv.freeze t.fh q;exact p v I H' ⟨t.ff.trans s1,t.hh,s2,λb o h=>(n b o h).elim (λz=>t.nw b o z) .inr⟩ z
 |error e=>exact p
structure rV(K:Fg)(F:Hp)(σ:St)(ρ:df):Prop where
 len:ρ.length=σ.length
 sl:∀(i:Nat) (d:A0),ρ[i]?=aa (aa d)->AtI (λv=>σ[i]?=aa (aa v)) (i1 K F d)
theorem rV.mono{K:Fg}{F F':Hp}{σ:St}{ρ:df}(r:rV K F σ ρ)(s:eH F F'):rV K F' σ ρ:=
 ⟨r.len,λi d e=>let ⟨v,h,q⟩:=r.sl i d e;⟨v,h,q.mono s⟩⟩
theorem rV.set{K:Fg}{F:Hp}{σ:St}{ρ:df}{d:A0}{v:V}(r:rV K F σ ρ)(q:i1 K F d v)(i:Nat):rV K F (σ.set i (aa v)) (ρ.set i (aa d)):=
 ⟨by rw[aL,aL,r.len],λj e h=>by
  by_cases I:i=j
  .subst I;have hi:=by
    have:=(aD.mp h).1;simpa using this
   rw[aG hi]at h;cases h;exact⟨v,by rw[aG (by rw[<-r.len];exact hi)],q⟩
  .rw[aB I]at h;obtain⟨w,h1,S⟩:=r.sl j e h;exact⟨w,a7,S⟩⟩
inductive TDx(K:Fg)(σ:St)(H:Hp)(P:Hp->df->Prop):Prop
 |mk (F:Hp) (ρ:df) (r:rV K F σ ρ) (s:eH F H) (p:P F ρ)
def tD(K:Fg)(W:qE)(own:Bool)(f:df->M A0):TE:=λσ H Q=>TDx K σ H λF ρ=>eQ K W own F H (f ρ) Q
def eu{W:qE}{own:Bool}{f:df->M A0}{R:VK}(r:rV K F σ ρ)(s:eH F H)(S:∀e,f ρ=.error e->W.p e F H)(I:∀d,f ρ=.ok d->∀v F1 H1,A2 F H F1 H1->Val K own F1 H H1 d v->R v H1):tD K W own f σ H R:=by
 refine⟨F,ρ,r,s,?_⟩
 cases e:f ρ with
 |ok d=>exact I d e|error x=>exact S x e
def tDT(K:Fg)(W:qE)(f:df->M Bool):TT:=λσ H Q=>TDx K σ H λF ρ=>match f ρ with
 |.ok b=>∀F' H',A2 F H F' H'->Q b H'|.error e=>W.p e F H
def u7{W:qE}{f:df->M Bool}{R:Bool->Hp->Prop}(r:rV K F σ ρ)(s:eH F H)(S:∀e,f ρ=.error e->W.p e F H)(I:∀b,f ρ=.ok b->∀F1 H1,A2 F H F1 H1->R b H1):tDT K W f σ H R:=by
 refine⟨F,ρ,r,s,?_⟩
 cases e:f ρ with
 |ok d=>exact I d e|error x=>exact S x e
def tDA(K:Fg)(W:qE)(f:df->M a9):TA:=λσ H Q=>TDx K σ H λF ρ=>match f ρ with
 |.ok ds=>∀vs F' H',A2 F H F' H'->ei K F' ds vs->Q vs H'|.error e=>W.p e F H
def vv{W:qE}{f:df->M a9}(r:rV K F σ ρ)(s:eH F H)(S:∀e,f ρ=.error e->W.p e F H)(I:∀ds,f ρ=.ok ds->∀vs F1 H1,A2 F H F1 H1->ei K F1 ds vs->R vs H1):tDA K W f σ H R:=by
 refine⟨F,ρ,r,s,?_⟩
 cases e:f ρ with
 |ok d=>exact I d e|error x=>exact S x e
noncomputable def de(i:Nat):df->M A0:=λρ=>match ρ[i]? with
 |some (aa d)=>.ok d|_=>.error .stuck
noncomputable def fC(d:A0):df->M A0:=λ_=>.ok d
noncomputable def f1(g:A0->M A0)(fa:df->M A0):df->M A0:=λρ=>(fa ρ).bind g
noncomputable def f2(g:A0->A0->M A0)(fa fb:df->M A0):df->M A0:=λρ=>(fa ρ).bind λa=>(fb ρ).bind λb=>g a b
noncomputable def ej:df->M a9:=λ_=>.ok []
noncomputable def b6(fa:df->M A0)(fr:df->M a9):df->M a9:=λρ=>(fa ρ).bind λa=>(fr ρ).bind λr=>.ok (a::r)
noncomputable def fL(g:a9->M A0)(fr:df->M a9):df->M A0:=λρ=>(fr ρ).bind g
noncomputable def rH(ds:a9):M A0:=if ds.length<=ay then .ok (.tup ds)else .error .stuck
noncomputable def nA(ds:a9):M A0:=if ds.length<=ay then .ok (.lst ds)else .error .stuck
noncomputable def fIte(ft:df->M Bool)(fa fb:df->M A0):df->M A0:=λρ=>(ft ρ).bind λb=>if b=ag then fa ρ else fb ρ
noncomputable def fAnd(ft fu:df->M Bool):df->M Bool:=λρ=>(ft ρ).bind λb=>if b=ag then fu ρ else .ok ae
noncomputable def fOr(ft fu:df->M Bool):df->M Bool:=λρ=>(ft ρ).bind λb=>if b=ag then .ok ag else fu ρ
noncomputable def By(ft:df->M Bool):df->M Bool:=λρ=>(ft ρ).bind λb=>.ok (!b)
noncomputable def asB:A0->M Bool
 |.bl b=>.ok b|_=>.error .stuck
def fB(fa:df->M A0):df->M Bool:=λρ=>(fa ρ).bind asB
def FO(fa fb:df->M A0):df->M A0:=λρ=>(fa ρ).bind λa=>(asB a).bind λb=>if b=ag then fb ρ else .ok (.bl ae)
noncomputable def notD:A0->M A0
 |.bl b=>.ok (.bl (!b))|_=>.error .stuck
noncomputable def truD:A0->M Bool
 |.non=>.ok ae|.bl b=>.ok b|.int i=>.ok (i != 0)|.tup ds=>.ok (!ds.isEmpty)|.lst ds=>.ok (!ds.isEmpty)|_=>.error .stuck
def yL(fa:df->M A0):df->M Bool:=λρ=>(fa ρ).bind truD
def uL(g g':A0->A0->M A0)(fa fb fc:df->M A0):df->M A0:=λρ=>(fa ρ).bind λa=>(fb ρ).bind λb=>(g a b).bind λx=>(asB x).bind λk=>if k=ag then(fc ρ).bind λc=>g' b c else .ok (.bl ae)
inductive TX2(K:Fg)(x y:V)(H:Hp)(P:Hp->A0->A0->Prop):Prop
 |mk (F:Hp) (a b:A0) (s:eH F H) (q:i1 K F a x) (r:i1 K F b y) (p:P F a b)
inductive TX1{α β:Type}(D:Hp->α->β->Prop)(x:β)(H:Hp)(P:Hp->α->Prop):Prop
 |mk (F:Hp) (a:α) (s:eH F H) (q:D F a x) (p:P F a)
def rD2(K:Fg)(W:qE)(own:Bool)(g:A0->A0->M A0):R2:=λx y H Q=>TX2 K x y H λF a b=>eQ K W own F H (g a b) Q
def rD1(K:Fg)(W:qE)(own:Bool)(g:A0->M A0):V->Hp->VK->Prop:=λx H Q=>TX1 (i1 K) x H λF a=>eQ K W own F H (g a) Q
def rDL(K:Fg)(W:qE)(own:Bool)(g:a9->M A0):bi->Hp->VK->Prop:=λxs H Q=>TX1 (ei K) xs H λF ds=>eQ K W own F H (g ds) Q
section
variable{W:qE}{own:Bool}{Q:VK}{fc:df->M A0}
def rd_c(I:∀F,i1 K F d v)(h:tD K W ae (fC d) σ H Q):tC v σ H Q:=by obtain⟨F,ρ,r,s,p⟩:=h;exact p v F H (A2.refl s) (I F)
def eQ.err{x:M A0}{e:Err}(p:eQ K W own F H x Q)(h:x=.error e):W.p e F H:=by rw[h]at p;exact p
def rd_1{g:A0->M A0}(h:tD K W own (f1 g fa) σ H Q):tUn (rD1 K W own g) (tD K W ae fa) σ H Q:=by
 obtain⟨F,ρ,r,s,p⟩:=h;refine eu r s (λe I=>p.err (by unfold f1;rw[I];rfl)) λa S x F1 H1 s1 q1=>?_;refine⟨F1,a,s1.fh,q1,?_⟩
 have e:f1 g fa ρ=g a:=by unfold f1;rw[S];rfl
 rw[e]at p;exact p.step s1
def rd_2{g:A0->A0->M A0}(h:tD K W own (f2 g fa fb) σ H Q):tOp (rD2 K W own g) (tD K W ae fa) (tD K W ae fb) σ H Q:=by
 obtain⟨F,ρ,r,s,p⟩:=h;refine eu r s (λe I=>p.err (by unfold f2;rw[I];rfl)) λa S x F1 H1 s1 q1=>?_;refine eu (r.mono s1.ff) s1.fh (λe I=>(p.step s1).err (by unfold f2;rw[S];rw[I];rfl)) λb U y Y H2 s2 q2=>?_;refine⟨Y,a,b,s2.fh,i1.mono s2.ff q1,q2,?_⟩
 have e:f2 g fa fb ρ=g a b:=by unfold f2;rw[S];rw[U];rfl
 rw[e]at p;exact p.step (s1.trans s2)
def rd_nil(h:tDA K W ej σ H R):Ii σ H R:=by obtain⟨F,ρ,r,s,p⟩:=h;exact p [] F H (A2.refl s) rfl
def rd_L{g:a9->M A0}{fr:df->M a9}(h:tD K W own (fL g fr) σ H Q):tDA K W fr σ H λxs H1=>rDL K W own g xs H1 Q:=by
 obtain⟨F,ρ,r,s,p⟩:=h;refine vv r s (λe I=>p.err (by unfold fL;rw[I];rfl)) λds S xs F1 H1 s1 q1=>⟨F1,ds,s1.fh,q1,?_⟩
 have e:fL g fr ρ=g ds:=by unfold fL;rw[S];rfl
 rw[e]at p;exact p.step s1
theorem Ij{f:df->M Bool}{R:Bool->Hp->Prop}(r:rV K F σ ρ)(s1:A2 F H F1 H1)(p:match f ρ with
 |.ok b=>∀F' H',A2 F H F' H'->R b H'|.error e=>W.p e F H):tDT K W f σ H1 R:=by
 refine⟨F1,ρ,r.mono s1.ff,s1.fh,?_⟩
 cases e:f ρ with
 |ok b=>rw[e]at p;exact λF' H' t=>p F' H' (s1.trans t)|error x=>rw[e]at p;exact W.mono p s1
theorem rd_B{R:Bool->Hp->Prop}(h:tDT K W (fB fa) σ H R):tTest (tD K W ae fa) σ H R:=by
 obtain⟨F,ρ,r,s,p⟩:=h;refine eu r s (λe I=>?_) λa S x F1 H1 s1 q1=>?_
 .have z:fB fa ρ=.error e:=by unfold fB;rw[I];rfl
  simp_all
 .have z:fB fa ρ=asB a:=by unfold fB;rw[S];rfl
  rw[z]at p;cases a with
  |bl b=>exact⟨b,q1,p F1 H1 s1⟩|_=>exact(W.ns p).elim
def tru_of{a:A0}{x:V}{b:Bool}(s:eH F H1)(q:i1 K F a x)(h:truD a=.ok b):TruV K x H1 b:=by
 cases a with
 |non=>rw[show x=.non from q];exact(ee h).symm|bl c=>rw[show x=.bl c from q];exact(ee h).symm|int i=>rw[show x=.int i from q];exact(ee h).symm|tup ds=>
  obtain⟨p,xs,e,t,r⟩:=q;subst e;refine .inr ⟨xs,s.tup t,?_⟩;rw[<-ee h];cases ds with
  |nil=>rw[show xs=[]from r];rfl|cons d ds=>obtain⟨v,vs,e,_⟩:=r;rw[e];rfl
 |lst ds=>
  obtain⟨p,xs,e,t,r⟩:=q;subst e;refine .inl ⟨xs,s.lst t,?_⟩;rw[<-ee h];cases ds with
  |nil=>rw[show xs=[]from r];rfl|cons d ds=>obtain⟨v,vs,e,_⟩:=r;rw[e];rfl
 |ins C fs=>cases h|dic ks=>cases h|dil ks=>cases h
def IB{g:A0->A0->M A0}(h:tD K W ae (uL g g' fa fb fc) σ H Q):Lm (rD2 K W ae g) (rD2 K W ae g') (tD K W ae fa) (tD K W ae fb) (tD K W ae fc) σ H Q:=by
 obtain⟨F,ρ,r,s,p⟩:=h;refine eu r s (λe S=>p.err (by unfold uL;rw[S];rfl)) λa Y x F1 H1 s1 q1=>?_;refine eu (r.mono s1.ff) s1.fh (λe S=>(p.step s1).err (by unfold uL;rw[Y];rw[S];rfl)) λb l y q H2 s2 q2=>?_;have z:uL g g' fa fb fc ρ=(g a b).bind λx=>(asB x).bind λk=>if k=ag then(fc ρ).bind λc=>g' b c else .ok (.bl ae):=by unfold uL;rw[Y];rw[l];rfl
 rw[z]at p;refine⟨q,a,b,s2.fh,i1.mono s2.ff q1,q2,?_⟩
 have p2:=p.step (s1.trans s2);cases e:g a b with
 |error x=>rw[e]at p2;exact p2|ok d=>
  rw[e]at p2;intro v o m I i;have p3:=eQ.step p2 I;cases d with
  |bl k=>
   refine⟨k,i,?_⟩
   cases k with
   |false=>exact p3 _ o m (A2.refl I.fh) rfl|true=>
    have p4:=p3;refine eu (r.mono (s1.trans (s2.trans I)).ff) I.fh (λe S=>p4.err (by rw[S];rfl)) λc j w n t U f=>⟨n,b,c,U.fh,i1.mono (I.trans U).ff q2,f,?_⟩
    rw[j]at p4;exact p4.step U
  |_=>exact(W.ns p3).elim
end
inductive Pat where
 |nm (i:Nat)|tp (is:List Nat)
noncomputable def yA:be->a9->df->df
 |i::is,d::ds,ρ=>yA is ds (ρ.set i (aa d))|_,_,ρ=>ρ
def rT:Pat->A0->df->M df
 |.nm i,d,ρ=>.ok (ρ.set i (aa d))|.tp is,.tup ds,ρ=>if ds.length=is.length then .ok (yA is ds ρ)else .error .stuck
 |.tp _,_,_=>.error .stuck
def uK:be->TGs
 |[]=>gNil|i::is=>gCons (r9 i) (uK is)
def gP(K:Fg):Pat->TG
 |.nm i=>r9 i|.tp is=>gTup K is.length (uK is)
theorem Cg{K:Fg}{F H:Hp}{R:St->Hp->Prop}:∀{is:be} {ds:a9} {vs:bi} {σ:St} {ρ:df},rV K F σ ρ->ei K F ds vs->ds.length=is.length->(∀I,rV K F I (yA is ds ρ)->R I H)->uK is vs σ H R
 |[],[],_,σ,ρ,r,q,_,h=>⟨q,h σ r⟩|[],_::_,_,_,_,_,_,e,_=>by simp at e|_::_,[],_,_,_,_,_,e,_=>by simp at e|i::is,d::ds,_,σ,ρ,r,⟨v,vs,e,q,t⟩,l,h=>⟨v,vs,e,Cg (r.set q i) t a7 h⟩
theorem gP_run{R:St->Hp->Prop}{p:Pat}(r:rV K F σ ρ)(s:eH F H)(q:i1 K F d v)(e:rT p d ρ=.ok ρ')(h:∀I,rV K F I ρ'->R I H):gP K p v σ H R:=by
 cases p with
 |nm i=>have:=ee e;subst this;exact h _ (r.set q i)|tp is=>
  cases d with
  |tup ds=>
   have U:(if ds.length=is.length then cG _ else eZ Err.stuck)=cG ρ':=e;by_cases S:ds.length=is.length
   .rw[aC S]at U;have:=ee U;subst this;obtain⟨a,xs,ev,t,z⟩:=q;exact⟨a,xs,ev,s.tup t,by rw[z.length,S],Cg r z S h⟩
   simp_all
  |_=>cases e
theorem xZ{p:Pat}{e:Err}(h:rT p d ρ=.error e):e=.stuck:=by
 cases p with
 |nm i=>cases h|tp is=>
  cases d with
  |tup ds=>
   have I:(if ds.length=is.length then cG _ else eZ Err.stuck)=eZ e:=h
   lia
  |_=>cases h;rfl
structure yx(K:Fg)(F1:Hp)(J:It)(ds:a9):Prop where
 go:∀(i:Nat) (F H:Hp),eH F1 F->eH F H->i<ds.length->J.go i H
 yl:∀(i:Nat) (F H:Hp) (x:V) (H':Hp) (d:A0),eH F1 F->eH F H->ds[i]?=aa d->J.yld i H x H'->∃F',A2 F H F' H'/\i1 K F' d x
 st:∀(F H:Hp),eH F1 F->eH F H->J.stop ds.length H
def iD(K:Fg)(W:qE)(f:df->M a9):TI:=λσ H R=>TDx K σ H λF ρ=>match f ρ with
 |.ok ds=>∀J F1 H1,A2 F H F1 H1->yx K F1 J ds->R J H1|.error e=>W.p e F H
noncomputable def wx:A0->M a9
 |.lst ds=>.ok ds|.tup ds=>.ok ds|_=>.error .stuck
def fIt(fa:df->M A0):df->M a9:=λρ=>(fa ρ).bind wx
def iSeq(K:Fg)(tl:TE):TI:=λσ H R=>tl σ H λx H1=>∃a,x=.ref a/\((∃xs,SqL K H1 a xs)/\R (Itl K a) H1\/(∃xs,SqT K H1 a xs)/\R (Itt K a) H1)
def MF(t:SqL K F a xs)(z:ei K F ds xs):yx K F (Itl K a) ds where
 go:=λi F' H' s1 s2 hi=>⟨xs,xs[i]'(by rw[z.length];exact hi),s2.lst (s1.lst t),ad⟩
 yl:=λi F' H' x H2 d s1 s2 S I=>by obtain⟨e,I⟩:=I;subst e;obtain⟨v,e1,q⟩:=z.get S;have e2:=I xs (s2.lst (s1.lst t));rw[e1]at e2;cases e2;exact⟨F',A2.refl s2,q.mono s1⟩
 st:=λF' H' s1 s2=>⟨xs,s2.lst (s1.lst t),by rw[z.length];simp⟩
def iter_tup(t:SqT K F a xs)(z:ei K F ds xs):yx K F (Itt K a) ds where
 go:=λi F' H' s1 s2 hi=>⟨xs,xs[i]'(by rw[z.length];exact hi),s2.tup (s1.tup t),ad⟩
 yl:=λi F' H' x H2 d s1 s2 S I=>by obtain⟨e,I⟩:=I;subst e;obtain⟨v,e1,q⟩:=z.get S;have e2:=I xs (s2.tup (s1.tup t));rw[e1]at e2;cases e2;exact⟨F',A2.refl s2,q.mono s1⟩
 st:=λF' H' s1 s2=>⟨xs,s2.tup (s1.tup t),by rw[z.length];simp⟩
noncomputable def eM(lo:Int)(n:Nat):a9:=(aX n).map λk:Nat=>A0.int (lo+k)
theorem C7{lo:Int}:yx K F (Itr lo n) (eM lo n) where
 go:=λi F' H' s1 s2 hi=>by show i<n;simp_all[eM]
 yl:=λi F' H' x H2 d s1 s2 I S=>by
  obtain⟨e,S⟩:=S;subst e S;unfold eM at I;rw[aV]at I;have hi:=by have:=(aD.mp (show((aX n).map λk:Nat=>A0.int (lo+k))[i]?=aa d by simp_all)).1;simpa using this
  rw[h_ hi]at I;cases I;exact⟨F',A2.refl s2,rfl⟩
 st:=λF' H' s1 s2=>by show n<=_;simp[eM]
noncomputable def ih(i:Int):Bool:=aF (-(2^62)<=i)&&aF (i<2^62)
def ye:a9->M a9
 |[.int j]=>if ih j=ag then .ok (eM 0 j.toNat)else .error .stuck
 |_=>.error .stuck
def GB:a9->M a9
 |[.int i,.int j]=>if (ih i&&ih j)=ag then .ok (eM i (j-i).toNat)else .error .stuck
 |_=>.error .stuck
noncomputable def wg(g:a9->M a9)(fr:df->M a9):df->M a9:=λρ=>(fr ρ).bind g
section
variable{W:qE}{Q:VK}
def sI(ix:List (Option Nat))(ρ:df):df:=ix.map λo=>match o with
 |none=>af|some j=>(ρ[j]?).join
def gj(p:Pat)(ft:df->M Bool)(fe:df->M A0)(ρ0:df):a9->M a9
 |[]=>.ok []|d::ds=>(rT p d ρ0).bind λρ=>(ft ρ).bind λb=>if b=ag then(fe ρ).bind λy=>(gj p ft fe ρ0 ds).bind λr=>.ok (y::r)else gj p ft fe ρ0 ds
def qO(fi:df->M a9)(ix:List (Option Nat))(p:Pat)(ft:df->M Bool)(fe:df->M A0):df->M A0:=λρ=>(fi ρ).bind λds=>if ds.length<=ay then(gj p ft fe (sI ix ρ) ds).bind λr=>.ok (.lst r)else .error .stuck
noncomputable def x6:df->M Bool:=λ_=>.ok ag
theorem rV.inS{F:Hp}{ρ:df}(r:rV K F σ ρ)(ix:List (Option Nat)):rV K F (Lake.inS ix σ) (sI ix ρ):=
 ⟨by simp[Lake.inS,sI],λi d e=>by
  unfold sI at e;unfold Lake.inS;rw[aV]at e ⊢;cases h:ix[i]? with
  |none=>simp_all|some o=>
   rw[h]at e;cases o with
   |none=>cases e|some j=>
    have e1:ρ[j]?=aa (aa d):=by
     cases z:ρ[j]? with
     |none=>simp_all|some w=>simp_all
    obtain⟨v,h1,I⟩:=r.sl j d e1;exact⟨v,a7,I⟩⟩
theorem LN{p:Pat}(h:tD K W ag (qO fi ix p ft fe) σ H Q):
  tComp (iD K W fi) ix (gP K p) (tDT K W ft) (tD K W ae fe) σ H Q:=by
 obtain⟨F,ρ,r,s,q⟩:=h;refine⟨F,ρ,r,s,?_⟩
 cases P:fi ρ with
 |error e=>exact q.err (by unfold qO;rw[P];rfl)|ok ds=>
  intro J F1 H1 s1 C;have e0:qO fi ix p ft fe ρ=if ds.length<=ay then(gj p ft fe (sI ix ρ) ds).bind λr=>.ok (.lst r)else .error .stuck:=by unfold qO;rw[P];rfl
  rw[e0]at q;by_cases O:ds.length<=ay
  .rw[aC O]at q;refine⟨λi m ys H2=>m=ds.length-i/\i<=ds.length/\∃f I,A2 F1 H1 f H2/\ei K f I ys/\I.length<=i /\
    (match gj p ft fe (sI ix ρ) (ds.drop i)with
     |.ok S=>gj p ft fe (sI ix ρ) ds=.ok (I++S)|.error e=>W.p e F H),⟨ds.length,ac,bz _,F1,[],A2.refl s1.fh,rfl,bz _,?_⟩,?_⟩
   .rw[f_];cases e:gj p ft fe (sI ix ρ) ds with
    |ok S=>rfl|error x=>exact q.err (by rw[e];rfl)
   .rintro i m ys H2 ⟨rfl,hi,f,I,s2,B,ly,l⟩;have w:ys.length<=ay:=by rw[B.length];lia
    by_cases g:i<ds.length
    .have ed:ds.drop i=ds[i]::ds.drop (i+1):=cM g;rw[ed]at l;refine .inr ⟨C.go i f H2 s2.ff s2.fh g,w,λt H'=>(i+1<=ds.length/\∃f I,A2 F1 H1 f H'/\ei K f I t/\I.length<=i+1 /\
      (match gj p ft fe (sI ix ρ) (ds.drop (i+1))with
       |.ok S=>gj p ft fe (sI ix ρ) ds=.ok (I++S)|.error e=>W.p e F H)),λt H' n=>⟨ds.length-(i+1),ac,rfl,n⟩,λx H' y=>?_⟩
     obtain⟨T,k,q3⟩:=C.yl i f H2 x H' ds[i] s2.ff s2.fh ad y;have Z:rV K T (Lake.inS ix σ) (sI ix ρ):=(r.mono (s1.trans (s2.trans k)).ff).inS ix;have u:A2 F H T H':=s1.trans (s2.trans k);have ec:gj p ft fe (sI ix ρ) (ds[i]::ds.drop (i+1))=(rT p ds[i] (sI ix ρ)).bind λU=>(ft U).bind λb=>if b=ag then(fe U).bind λy=>(gj p ft fe (sI ix ρ) (ds.drop (i+1))).bind λr=>.ok (y::r)else gj p ft fe (sI ix ρ) (ds.drop (i+1)):=by rw[gj]
     rw[ec]at l;cases A:rT p ds[i] (sI ix ρ)with
     |error e=>rw[A]at l;have:=xZ A;subst this;exact(W.ns l).elim|ok U=>
      rw[A]at l;refine gP_run Z k.fh q3 A λX N=>?_;have c:match ((ft U).bind λb=>if b=ag then(fe U).bind λy=>(gj p ft fe (sI ix ρ) (ds.drop (i+1))).bind λr=>.ok (y::r)else gj p ft fe (sI ix ρ) (ds.drop (i+1)))with
       |.ok S=>gj p ft fe (sI ix ρ) ds=.ok (I++S)|.error e=>W.p e F H:=l
      refine u7 N k.fh (λe D=>by rw[D]at c;exact W.mono c u) λb E F5 H5 o=>?_;rw[E]at c;cases b with
      |false=>
       have Y:match gj p ft fe (sI ix ρ) (ds.drop (i+1))with
        |.ok S=>gj p ft fe (sI ix ρ) ds=.ok (I++S)|.error e=>W.p e F H:=c
       exact⟨g,F5,I,s2.trans (k.trans o),B.mono (k.trans o).ff,ac,Y⟩
      |true=>
       have Y:match ((fe U).bind λy=>(gj p ft fe (sI ix ρ) (ds.drop (i+1))).bind λr=>.ok (y::r))with
        |.ok S=>gj p ft fe (sI ix ρ) ds=.ok (I++S)|.error e=>W.p e F H:=c
       refine eu (N.mono o.ff) o.fh (λe D=>by rw[D]at Y;exact W.mono Y (u.trans o)) λd hd v F6 H6 L q6=>?_;rw[hd]at Y;refine⟨g,F6,I++[d],s2.trans (k.trans (o.trans L)),ei.append (B.mono (k.trans (o.trans L)).ff) ⟨v,[],rfl,q6,rfl⟩,by simp;lia,?_⟩
       have j:match ((gj p ft fe (sI ix ρ) (ds.drop (i+1))).bind λr=>.ok (d::r):M a9)with
        |.ok S=>gj p ft fe (sI ix ρ) ds=.ok (I++S)|.error e=>W.p e F H:=Y
       cases R:gj p ft fe (sI ix ρ) (ds.drop (i+1))with
       |ok S=>rw[R]at j;show _=cG ((I++[d])++S);rw[bJ];exact j|error x=>rw[R]at j;exact j
    .have:i=ds.length:=ac
     subst this;rw[jd]at l;have z:gj p ft fe (sI ix ρ) ds=.ok (I++[]):=l;rw[b8]at z;rw[z]at q;refine .inl ⟨C.st f H2 s2.ff s2.fh,w,λa G=>?_⟩;have st:A2 F H f H2:=s1.trans s2;exact q (.ref a) f _ (st.trans (A2.grow s2.fh G)) ⟨a,ys,rfl,dy,s2.fh.free G,st.hh.free G,B⟩
  .rw[aA O]at q;exact(W.ns q).elim
end
set_option genInjectivity true in
inductive A4 where
 |nx (ρ:df)|rt (d:A0)|bk (ρ:df)|ct (ρ:df)
variable{g g2:df->M A4}
structure Rep(K:Fg)(F0 H0 FB:Hp)(O:be)(F H:Hp)(σ:St)(ρ:df):Prop where
 st:A2 F0 H0 F H
 fb:eH FB F
 len:ρ.length=σ.length
 fz:∀(i:Nat) (d:A0),ρ[i]?=aa (aa d)->i∉O->AtI (λv=>σ[i]?=aa (aa v)) (i1 K F d)
 ow:∀(i:Nat) (d:A0),ρ[i]?=aa (aa d)->i∈O->AtI (λv=>σ[i]?=aa (aa v)) (yv K F H0 H d)
 ap:∀(i j:Nat) (d e:A0) (a:av),i∈O->j∈O->(ρ[i]?=aa (aa d)/\isO d=ag)->(ρ[j]?=aa (aa e)/\isO e=ag)->σ[i]?=aa (aa (.ref a))->σ[j]?=aa (aa (.ref a))->i=j
def yw(O O2:be)(σ:St)(ρ:df)(b:av):Prop:=∃(i:Nat) (d:A0),i∈O/\i∉O2/\isO d=ag/\ρ[i]?=aa (aa d)/\σ[i]?=aa (aa (.ref b))
open Classical in
noncomputable def plus(F H:Hp)(A:Addr->Prop):Hp:=λb=>if A b then H b else F b
open Classical in
noncomputable def minus(F:Hp)(A:Addr->Prop):Hp:=λb=>if A b then none else F b
theorem wo{A:av->Prop}(h:A b):plus F H A b=H b:=by simp_all[plus]
theorem t4{A:av->Prop}(h:¬A b):plus F H A b=F b:=by simp_all[plus]
theorem IV{A:av->Prop}(h:A b):minus F A b=af:=by simp_all[minus]
theorem vg{A:av->Prop}(h:¬A b):minus F A b=F b:=by simp_all[minus]
theorem Rep.own(r:Rep K F0 H0 FB O F H σ ρ)(h:yw O O2 σ ρ b):F b=af/\H0 b=af/\∃o,H b=aa o/\isMu o=ag:=by
 obtain⟨i,d,hi,_,I,e1,e2⟩:=h;obtain⟨v,e3,q⟩:=r.ow i _ e1 hi;rw[e2]at e3;obtain⟨a,o,e,p,m,f,z⟩:=q.top I
 simp_all
theorem Rep.xn(r:Rep K F0 H0 FB O F H σ ρ):eH F (plus F H (yw O O2 σ ρ)):=λb o h=>by
 by_cases I:yw O O2 σ ρ b
 .rw[(r.own I).1]at h;cases h
 simp_all[t4]
theorem Rep.tG(r:Rep K F0 H0 FB O F H σ ρ):eH (plus F H (yw O O2 σ ρ)) H:=λb o h=>by
 by_cases I:yw O O2 σ ρ b
 .simp_all[wo]
 .rw[t4 I]at h;exact r.st.fh b o h
theorem Rep.freeze(r:Rep K F0 H0 FB O F H σ ρ)(S:∀i∈O2,i∈O):Rep K F0 H0 FB O2 (plus F H (yw O O2 σ ρ)) H σ ρ where
 st:=⟨r.st.ff.trans r.xn,r.st.hh,r.tG,λb o h=>by
  by_cases g:yw O O2 σ ρ b
  .exact .inr (r.own g).2.1
  .rw[t4 g]at h;exact r.st.nw b o h⟩
 fb:=r.fb.trans r.xn
 len:=r.len
 fz:=λi d e hi=>by
  by_cases U:i∈O
  .obtain⟨v,e3,q⟩:=r.ow i d e U;refine⟨v,e3,?_⟩
   cases I:isO d with
   |true=>obtain⟨a,_,ev,_⟩:=q.top I;subst ev;exact q.give I r.xn (wo ⟨i,d,U,hi,I,e,e3⟩)
   |false=>rw[yv.non I]at q;exact q.mono r.xn
  .obtain⟨v,e3,q⟩:=r.fz i d e U;exact⟨v,e3,q.mono r.xn⟩
 ow:=λi d e hi=>by
  obtain⟨v,e3,q⟩:=r.ow i d e (S i hi);refine⟨v,e3,?_⟩
  cases I:isO d with
  |true=>
   obtain⟨a,o,ev,p,_,f,z⟩:=q.top I;subst ev;refine q.re I r.xn ?_ λ_ h=>h;have:¬yw O O2 σ ρ a:=λ⟨j,l,Y,k,c,f1,f2⟩=>by
    have:=r.ap i j d l a (S i hi) Y ⟨e,I⟩ ⟨f1,c⟩ e3 f2
    simp_all
   simp_all[t4]
  |false=>rw[yv.non I]at q ⊢;exact q.mono r.xn
 ap:=λi j d e a hi Y=>r.ap i j d e a (S i hi) (S j Y)
def Rep.repE(r:Rep K F0 H0 FB [] F H σ ρ):rV K F σ ρ:=⟨r.len,λi d e=>r.fz i d e ad⟩
def Rep.wm(r:Rep K F0 H0 FB O F H σ ρ):rV K (plus F H (yw O [] σ ρ)) σ ρ:=(r.freeze ad).repE
noncomputable def erase:be->df->df
 |[],ρ=>ρ|i::is,ρ=>erase is (ρ.set i af)
theorem sm:∀(O:be) (ρ:df),(erase O ρ).length=ρ.length
 |[],_=>rfl|i::is,ρ=>by rw[erase,sm,aL]
theorem FP:∀(O:be) (ρ:df) (i:Nat) (d:A0),(erase O ρ)[i]?=aa (aa d)->ρ[i]?=aa (aa d)/\i∉O
 |[],_,_,_,h=>⟨h,ad⟩|j::is,ρ,i,d,h=>by
  obtain⟨h1,S⟩:=FP is _ i d h;by_cases e:j=i
  .subst e;have I:=by
    have:=(aD.mp h1).1;simpa using this
   rw[aG I]at h1;cases h1
  .rw[aB e]at h1;exact⟨h1,by simp[S];lia⟩
def Rep.xD(r:Rep K F0 H0 FB O F H σ ρ):rV K F σ (erase O ρ):=
 ⟨by rw[sm,r.len],λi d e=>let ⟨h1,I⟩:=FP O ρ i d e;r.fz i d h1 I⟩
theorem Rep.step(r:Rep K F0 H0 FB O F H σ ρ)(s:A2 F H F1 H1):Rep K F0 H0 FB O F1 H1 σ ρ where
 st:=r.st.trans s
 fb:=r.fb.trans s.ff
 len:=r.len
 fz:=λi d e hi=>let ⟨v,e3,q⟩:=r.fz i d e hi;⟨v,e3,q.mono s.ff⟩
 ow:=λi d e hi=>by
  obtain⟨v,e3,q⟩:=r.ow i d e hi;refine⟨v,e3,?_⟩
  cases I:isO d with
  |true=>
   obtain⟨a,u,ev,p,_,f,z⟩:=q.top I;subst ev;refine q.re I s.ff ?_ (s.hh a);cases e1:F1 a with
   |none=>rfl|some o=>
    rcases s.nw a o e1 with h|h
    .simp_all
    simp_all
  |false=>rw[yv.non I]at q ⊢;exact q.mono s.ff
 ap:=r.ap
theorem Rep.u9(r:Rep K F0 H0 FB O F H σ ρ)(s:A2 (plus F H (yw O [] σ ρ)) H F1 H1):Rep K F0 H0 FB O (minus F1 (yw O [] σ ρ)) H1 σ ρ:=by
 refine r.step ⟨λb o h=>?_,s.hh,λb o h=>?_,λb o h=>?_⟩
 .by_cases I:yw O [] σ ρ b
  .rw[(r.own I).1]at h;cases h
  .rw[vg I];exact s.ff b o (by simp_all[t4])
 .by_cases I:yw O [] σ ρ b
  .simp_all[IV]
  .rw[vg I]at h;exact s.fh b o h
 .by_cases I:yw O [] σ ρ b
  .simp_all[IV]
  .rw[vg I]at h;rcases s.nw b o h with z|z
   .simp_all[t4]
   simp_all
theorem Rep.C1(r:Rep K F0 H0 FB O F H σ ρ)(s:A2 (plus F H (yw O [] σ ρ)) H F1 H1)(a:av)(xs:bi)(h:SqT K F1 a xs):SqT K (minus F1 (yw O [] σ ρ)) a xs:=by
 have key:∀{b:av} {o:HO},F1 b=aa o->isMu o=ae->minus F1 (yw O [] σ ρ) b=aa o:=λ{b o} h n=>by
  by_cases I:yw O [] σ ρ b
  .obtain⟨_,_,u,e,m⟩:=r.own I;have:=s.ff b u (by simp_all[wo])
   simp_all
  simp_all[vg]
 rcases h with(h|⟨o,h⟩)|h
 .exact .inl (.inl (key h rfl))
 .exact .inl (.inr ⟨o,key h rfl⟩)
 .exact .inr h
theorem Rep.set{d:A0}{v:V}(r:Rep K F0 H0 FB O F H σ ρ)(q:i1 K F d v)(i:Nat):Rep K F0 H0 FB (O.filter (· != i)) F H (σ.set i (aa v)) (ρ.set i (aa d)) where
 st:=r.st
 fb:=r.fb
 len:=by rw[aL,aL,r.len]
 fz:=λj e h S=>by
  by_cases I:i=j
  .subst I;have hi:=by
    have:=(aD.mp h).1;simpa using this
   rw[aG hi]at h;cases h;exact⟨v,by rw[aG (by rw[<-r.len];exact hi)],q⟩
  .rw[aB I]at h;rw[aB I];exact r.fz j e h λz=>S (bq.mpr ⟨z,by simpa using bO I⟩)
 ow:=λj e h S=>by obtain⟨h1,f⟩:=bq.mp S;rw[aB (λz=>by simp[z]at f)]at h ⊢;exact r.ow j e h h1
 ap:=λj k ds es a S c e1 e2 e3 e4=>by obtain⟨b,Y⟩:=bq.mp S;obtain⟨U,k2⟩:=bq.mp c;rw[aB (λz=>by simp[z]at Y)]at e1 e3;rw[aB (λz=>by simp[z]at k2)]at e2 e4;exact r.ap j k ds es a b U e1 e2 e3 e4
theorem Rep.setOwn(r:Rep K F0 H0 FB O F H σ ρ)(q:yv K F H0 H d v)(p:∀a,v=.ref a->isO d=ag->¬yw O [i] σ ρ a):Rep K F0 H0 FB (i::O.filter (· != i)) F H (σ.set i (aa v)) (ρ.set i (aa d)) where
 st:=r.st
 fb:=r.fb
 len:=by rw[aL,aL,r.len]
 fz:=λj e h U=>by simp only[aM,not_or]at U;have I:i≠j:=λz=>U.1 z.symm;rw[aB I]at h ⊢;exact r.fz j e h λz=>U.2 (bq.mpr ⟨z,by simpa using bO I⟩)
 ow:=λj e h U=>by
  by_cases I:i=j
  .subst I;have hi:=by
    have:=(aD.mp h).1;simpa using this
   rw[aG hi]at h;cases h;exact⟨v,by rw[aG (by rw[<-r.len];exact hi)],q⟩
  .rw[aB I]at h ⊢;rcases aM.mp U with z|z
   .simp_all
   .exact r.ow j e h (bq.mp z).1
 ap:=λj k ds es a U u e1 e2 e3 e4=>by
  have key:∀{k':Nat} {Y S:A0},k'∈O->k'≠i->((ρ.set i (aa d))[i]?=aa (aa Y)/\isO Y=ag)->((ρ.set i (aa d))[k']?=aa (aa S)/\isO S=ag)->(σ.set i (aa v))[i]?=aa (aa (.ref a))->(σ.set i (aa v))[k']?=aa (aa (.ref a))->False:=by
   intro k' Y S f c f1 f2 f3 f4;have hi:=by have:=(aD.mp f1.1).1;simpa using this
   rw[aG hi]at f1;rw[aG (by rw[<-r.len];exact hi)]at f3;rw[aB (bO c)]at f2 f4;have o:=by simpa using f3
   have n:=by simpa using f1.1
   exact p a o (n▸f1.2) ⟨k',S,f,a7,f2.2,f2.1,f4⟩
  rcases aM.mp U with l|l
  .grind
  .obtain⟨m,t⟩:=bq.mp l;have I:i≠j:=λz=>by simp[z]at t
   rcases aM.mp u with b|b
   .subst b;exact(key m (bO I) e2 e1 e4 e3).elim
   .obtain⟨s,k2⟩:=bq.mp b;have g:i≠k:=λz=>by simp[z]at k2
    rw[aB I]at e1 e3;rw[aB g]at e2 e4;exact r.ap j k ds es a m s e1 e2 e3 e4
theorem Rep.sN(r:Rep K F0 H0 FB O F H σ ρ)(s:A2 (plus F H (yw O [] σ ρ)) H F1 H1):eH F (minus F1 (yw O [] σ ρ)):=λb o h=>by
 by_cases I:yw O [] σ ρ b
 .rw[(r.own I).1]at h;cases h
 .rw[vg I];exact s.ff b o (by simp_all[t4])
theorem Kw(h:i∉O):O.filter (· != i)=O:=by grind[List.filter_eq_self]
theorem Rep.set'(r:Rep K F0 H0 FB O F H σ ρ)(q:i1 K F d v)(hi:i∉O):Rep K F0 H0 FB O F H (σ.set i (aa v)) (ρ.set i (aa d)):=by
 have:=r.set q i
 simp_all[Kw]
def Rep.base{I:Hp}(r:Rep K F0 H0 FB O F H σ ρ)(s:eH I FB):Rep K F0 H0 I O F H σ ρ:=⟨r.st,s.trans r.fb,r.len,r.fz,r.ow,r.ap⟩
theorem Rep.HY{n:A0}{u:HO}(r:Rep K F0 H0 FB O F H σ ρ)(hi:i∈O)(e1:ρ[i]?=aa (aa d))(s:isO d=ag)(e2:σ[i]?=aa (aa (.ref a)))(q:F a=af->H0 a=af->yv K F H0 (upd H a u) n (.ref a)):Rep K F0 H0 FB O F (upd H a u) σ (ρ.set i (aa n)):=by
 have Y:=r.own (O2:=[]) ⟨i,d,hi,ad,s,e1,e2⟩;refine⟨⟨r.st.ff,λb o h=>?_,λb o h=>?_,r.st.nw⟩,r.fb,by rw[aL,r.len],λj e h S=>?_,λj e h S=>?_,λj k es fs b S w f1 f2 f3 f4=>?_⟩
 .rw[dV (eP h Y.2.1)];exact r.st.hh b o h
 .rw[dV (eP h Y.1)];exact r.st.fh b o h
 .have I:i≠j:=λz=>S (z▸hi);rw[aB I]at h;exact r.fz j e h S
 .by_cases I:i=j
  .subst I;rw[aG ((aD.mp e1).1)]at h;cases h;exact⟨.ref a,e2,q Y.1 Y.2.1⟩
  .rw[aB I]at h;obtain⟨v,e3,z⟩:=r.ow j e h S;refine⟨v,e3,?_⟩
   cases c:isO e with
   |true=>
    obtain⟨b,o,ev,p,_,f,_⟩:=z.top c;subst ev;have g:b≠a:=λz=>by subst z;exact I (r.ap i j d e b hi S ⟨e1,s⟩ ⟨h,c⟩ e2 e3)
    exact z.re c (eH.refl _) f λo h=>by rw[dV g];exact h
   |false=>simp_all[yv.non]
 .have U:∀{j:Nat} {e:A0},((ρ.set i (aa n))[j]?=aa (aa e)/\isO e=ag)->∃t,ρ[j]?=aa (aa t)/\isO t=ag:=λ{j e} f=>by
   grind[aB]
  obtain⟨m,x⟩:=U f1;obtain⟨l,g2⟩:=U f2;exact r.ap j k m l b S w x g2 f3 f4
def Rep.write{S:a9}{I:bi}(r:Rep K F0 H0 FB O F H σ ρ)(hi:i∈O)(e1:ρ[i]?=aa (aa (.lst ds)))(e2:σ[i]?=aa (aa (.ref a)))(q:ei K F S I):Rep K F0 H0 FB O F (upd H a (.lst I)) σ (ρ.set i (aa (.lst S))):=
 r.HY hi e1 rfl e2 λf z=>⟨a,I,rfl,dy,f,z,q⟩
noncomputable def Pat.names:Pat->be
 |.nm i=>[i]|.tp is=>is
theorem Ci{R:St->Hp->Prop}:∀{is:be} {ds:a9} {vs:bi} {σ:St} {ρ:df},Rep K F0 H0 FB O F H σ ρ->(∀i∈is,i∉O)->ei K F ds vs->ds.length=is.length->(∀I,Rep K F0 H0 FB O F H I (yA is ds ρ)->R I H)->uK is vs σ H R
 |[],[],_,σ,ρ,r,_,q,_,h=>⟨q,h σ r⟩|[],_::_,_,_,_,_,_,_,e,_=>by simp at e|_::_,[],_,_,_,_,_,_,e,_=>by simp at e|i::is,d::ds,_,σ,ρ,r,n,⟨v,vs,e,q,t⟩,l,h=>⟨v,vs,e,Ci (r.set' q (n i ad)) (λj S=>n j (by simp[S])) t a7 h⟩
theorem gP_rep{R:St->Hp->Prop}{p:Pat}(r:Rep K F0 H0 FB O F H σ ρ)(n:∀i∈p.names,i∉O)(q:i1 K F d v)(e:rT p d ρ=.ok ρ')(h:∀I,Rep K F0 H0 FB O F H I ρ'->R I H):gP K p v σ H R:=by
 cases p with
 |nm i=>have:=ee e;subst this;exact h _ (r.set' q (n i (by simp[Pat.names])))|tp is=>
  cases d with
  |tup ds=>
   have U:(if ds.length=is.length then cG _ else eZ Err.stuck)=cG ρ':=e;by_cases S:ds.length=is.length
   .rw[aC S]at U;have:=ee U;subst this;obtain⟨a,xs,ev,t,z⟩:=q;exact⟨a,xs,ev,r.st.fh.tup t,by rw[z.length,S],Ci r n z S h⟩
   simp_all
  |_=>cases e
def tM(K:Fg)(W:qE)(ro:Bool)(F0 H0 FB:Hp)(OL O':be)(D:Ends)(r:M A4):Prop:=match r with
 |.ok (.nx ρ)=>∀σ F H,Rep K F0 H0 FB O' F H σ ρ->D.nx σ H|.ok (.rt d)=>∀v F H,A2 F0 H0 F H->Val K ro F H0 H d v->D.rt v H|.ok (.bk ρ)=>∀σ F H,Rep K F0 H0 FB OL F H σ ρ->D.bk σ H|.ok (.ct ρ)=>∀σ F H,Rep K F0 H0 FB OL F H σ ρ->D.ct σ H|.error e=>W.p e F0 H0
def tS(K:Fg)(W:qE)(ro:Bool)(F0 H0:Hp)(OL O O':be)(g:df->M A4):TS:=λD σ H=>∃FB F ρ,Rep K F0 H0 FB O F H σ ρ/\tM K W ro F0 H0 FB OL O' D (g ρ)
def ri:df->M A4:=λρ=>.ok (.nx ρ)
def kd(g h:df->M A4):df->M A4:=λρ=>(g ρ).bind λfl=>match fl with
 |.nx ρ'=>h ρ'|fl=>.ok fl
noncomputable def sIf(ft:df->M Bool)(g h:df->M A4):df->M A4:=λρ=>(ft ρ).bind λb=>if b=ag then g ρ else h ρ
def g7(O:be)(i:Nat)(f:df->M A0):df->M A4:=λρ=>(f (erase O ρ)).bind λd=>.ok (.nx (ρ.set i (aa d)))
def EN(O:be)(p:Pat)(f:df->M A0):df->M A4:=λρ=>(f (erase O ρ)).bind λd=>(rT p d ρ).bind λρ'=>.ok (.nx ρ')
noncomputable def x4(ρ:df)(i:Nat):M a9:=match ρ[i]? with
 |some (aa (.lst ds))=>.ok ds|_=>.error .stuck
def put(ρ:df)(i:Nat)(ds:a9):M A4:=.ok (.nx (ρ.set i (aa (.lst ds))))
def wZ(O:be)(i:Nat)(f:df->M A0):df->M A4:=λρ=>(x4 ρ i).bind λds=>(f (erase O ρ)).bind λd=>if ds.length<ay then put ρ i (ds++[d])else .error .stuck
noncomputable def asI:A0->M Int
 |.int i=>.ok i|_=>.error .stuck
def GW(i:Nat)(fi f:df->M A0):df->M A4:=λρ=>(f ρ).bind λd=>(x4 ρ i).bind λds=>(fi ρ).bind λk=>(asI k).bind λk=>if uT d=ag then(match ixN ds.length k with
 |some j=>put ρ i (ds.set j d)|none=>.error .stuck)else .error .stuck
def qI(f:df->M A0):df->M A4:=λρ=>(f ρ).bind λd=>.ok (.rt d)
def sk(p:Pat)(g:df->M A4):a9->df->M A4
 |[],ρ=>.ok (.nx ρ)|d::ds,ρ=>(rT p d ρ).bind λS=>(g S).bind λfl=>match fl with
  |.nx I=>sk p g ds I|.ct I=>sk p g ds I|.bk I=>.ok (.nx I)|.rt d=>.ok (.rt d)
def we(O:be)(fi:df->M a9)(p:Pat)(g:df->M A4):df->M A4:=λρ=>(fi (erase O ρ)).bind λds=>sk p g ds ρ
def vU(ft:df->M Bool)(g:df->M A4):Nat->df->M A4
 |0,_=>.error .stuck|n+1,ρ=>(ft ρ).bind λb=>if b=ag then(g ρ).bind λfl=>match fl with
  |.nx I=>vU ft g n I|.ct I=>vU ft g n I|.bk I=>.ok (.nx I)|.rt d=>.ok (.rt d)else .ok (.nx ρ)
section
variable{W:qE}{own:Bool}{D:Ends}{h:df->M A4}{f fi:df->M A0}
def tM.err{x:M A4}{e:Err}(p:tM K W ro F0 H0 FB OL O' D x)(h:x=.error e):W.p e F0 H0:=by rw[h]at p;exact p
def tM.vk{x:M A4}{e:Err}(p:tM K W ro F0 H0 FB OL O' D x)(s:A2 F0 H0 F H)(h:x=.error e):W.p e F H:=W.mono (p.err h) s
theorem tM.stuck{x:M A4}{P:Prop}(p:tM K W ro F0 H0 FB OL O' D x)(h:x=.error .stuck):P:=(W.ns (p.err h)).elim
noncomputable def aft(own:Bool)(i:Nat)(O:be):be:=if own=ag then i::O.filter (· != i)else O.filter (· != i)
theorem Rep.bindV(r:Rep K F0 H0 FB O F H σ ρ)(q:Val K own F H2 H d v)(I:eH H0 H2)(S:∀a,yw O [] σ ρ a->∃o,H2 a=aa o):Rep K F0 H0 FB (aft own i O) F H (σ.set i (aa v)) (ρ.set i (aa d)):=by
 cases own with
 |false=>exact r.set q i|true=>
  refine r.setOwn (yv.back I q) λa h U z=>?_;obtain⟨b,_,e,_,_,_,n⟩:=yv.top U q;obtain⟨j,es,h1,I,f,c,Y⟩:=z;obtain⟨o,g⟩:=S a ⟨j,es,h1,ad,f,c,Y⟩
  simp_all
def LI(t:tS K W ro F0 H0 OL O (aft own i O) (g7 O i f) D σ H):GA (tD K W own f) (r9 i) D σ H:=by
 obtain⟨FB,F,ρ,r,p⟩:=t;refine eu r.xD r.st.fh (λe I=>p.vk r.st (by unfold g7;rw[I];rfl)) λd S v F1 H1 s1 q=>?_;have z:g7 O i f ρ=.ok (.nx (ρ.set i (aa d))):=by unfold g7;rw[S];rfl
 rw[z]at p;exact p _ F1 H1 ((r.step s1).bindV q r.st.hh λa U=>let ⟨_,_,_,e,_⟩:=r.own U;⟨_,e⟩)
def wU(h:x4 ρ i=.ok ds):ρ[i]?=aa (aa (.lst ds)):=by
 unfold x4 at h;split at h
 .cases h;assumption
 .cases h
def Ai{e:Err}(h:x4 ρ i=.error e):e=.stuck:=by
 unfold x4 at h;split at h
 .cases h
 .cases h;rfl
def Rep.Mo(r:Rep K F0 H0 FB O F H σ ρ)(hi:i∈O)(e:ρ[i]?=aa (aa (.lst ds))):∃a xs,σ[i]?=aa (aa (.ref a))/\H a=aa (.lst xs)/\ei K F ds xs:=by obtain⟨v,e3,a,xs,ev,p,_,_,t⟩:=r.ow i _ e hi;subst ev;exact⟨a,xs,e3,p,t⟩
def tApp(K:Fg)(i:Nat)(te:TE):TS:=CG (tBM K "list" zR (wj i) (zF te Ii))
def rs_setI(hi:i∈O)(t:tS K W ro F0 H0 OL O O (GW i fi f) D σ H):GA (tD K W ae f) (gSub (wj i) (tD K W ae fi) rSetL) D σ H:=by
 obtain⟨FB,F,ρ,r,p⟩:=t;refine eu r.wm r.tG (λe b=>p.vk (r.freeze ad).st (by unfold GW;rw[b];rfl)) λd h v F1 H1 s1 q=>?_;have m:GW i fi f ρ=(x4 ρ i).bind λds=>(fi ρ).bind λk=>(asI k).bind λk=>if uT d=ag then(match ixN ds.length k with
  |some j=>put ρ i (ds.set j d)|none=>.error .stuck)else .error .stuck:=by unfold GW;rw[h];rfl
 rw[m]at p;cases S:x4 ρ i with
 |error e=>have:=Ai S;subst this;exact p.stuck (by rw[S];rfl)|ok ds=>
  rw[S]at p;have I:=r.u9 s1;obtain⟨a,xs,e2,l,z⟩:=I.Mo hi (wU S);refine⟨.ref a,e2,?_⟩
  refine eu I.wm I.tG (λe b=>p.vk (I.freeze ad).st (by rw[b];rfl)) λk g w n H2 s2 q2=>?_;rw[g]at p;cases k with
  |int k=>
   have p:tM K W ro F0 H0 FB OL O D (if uT d=ag then(match ixN ds.length k with
    |some j=>put ρ i _|none=>.error .stuck)else .error .stuck):=p
   by_cases Y:uT d=ag
   .rw[aC Y]at p;cases U:ixN ds.length k with
    |none=>rw[U]at p;exact p.stuck rfl|some j=>
     rw[U]at p;refine⟨a,xs,k,j,rfl,q2,s2.hh _ _ l,by rw[z.length];exact U,?_⟩
     have c:=i1.flat (r.C1 s1) Y q;exact p σ _ _ ((I.u9 s2).write hi (wU S) e2 (ei.set (c.mono (I.sN s2)) j (z.mono (I.sN s2))))
   .rw[aA Y]at p;exact p.stuck rfl
  |_=>exact p.stuck rfl
end
noncomputable def stk:M α:=.error .stuck
def vr:A0->A0->M A0
 |.int i,.int j=>.ok (.int (i+j))|.lst xs,.lst ys=>if xs.length+ys.length<=ay then .ok (.lst (xs++ys))else stk
 |.tup xs,.tup ys=>if xs.length+ys.length<=ay then .ok (.tup (xs++ys))else stk
 |_,_=>stk
def Lq:A0->A0->M A0
 |.int i,.int j=>.ok (.int (i-j))|_,_=>stk
noncomputable def rW(i:Int):Bool:=aF (-(2^64)<i)&&aF (i<2^64)
def Dt:A0->A0->M A0
 |.int i,.int j=>if (rW i||rW j)=ag then .ok (.int (i*j))else stk
 |_,_=>stk
def tW:A0->A0->M A0
 |.int i,.int j=>if (aF (0<j)&&aF (j<18446744073709551616))=ag then .ok (.int (i/j))else stk
 |_,_=>stk
def xq:A0->A0->M A0
 |.int i,.int j=>if 0<j then .ok (.int (i%j))else stk
 |_,_=>stk
def powD:A0->A0->M A0
 |.int i,.int j=>if (aF (0<=j)&&aF (j<=1000000)&&aF (i.natAbs<2^64))=ag then .ok (.int (i^j.toNat))else stk
 |_,_=>stk
def IT:A0->M A0
 |.int i=>.ok (.int (-i))|_=>stk
def ltD:A0->A0->M A0
 |.int i,.int j=>.ok (.bl (aF (i<j)))|_,_=>stk
def leD:A0->A0->M A0
 |.int i,.int j=>.ok (.bl (aF (i<=j)))|_,_=>stk
def gtD:A0->A0->M A0
 |.int i,.int j=>.ok (.bl (aF (j<i)))|_,_=>stk
noncomputable def b2z(b:Bool):Int:=if b then 1 else 0
mutual
noncomputable def eqD:A0->A0->Bool
 |.non,.non=>ag|.bl a,.bl b=>a==b|.bl a,.int b=>b2z a==b|.int a,.bl b=>a==b2z b|.int a,.int b=>a==b|.tup xs,.tup ys=>z3 xs ys|.lst xs,.lst ys=>z3 xs ys|_,_=>ae
noncomputable def z3:a9->a9->Bool
 |[],[]=>ag|d::ds,e::es=>eqD d e&&z3 ds es|_,_=>ae
end
mutual
noncomputable def A8:A0->Nat->Bool
 |.tup ds,n=>(match n with
  |0=>ae|n+1=>vX ds n)
 |.lst ds,n=>(match n with
  |0=>ae|n+1=>vX ds n)
 |.ins _ _,_=>ae|.dic _,_=>ae|.dil _,_=>ae|.non,_=>ag|.bl _,_=>ag|.int _,_=>ag
noncomputable def vX:a9->Nat->Bool
 |[],_=>ag|d::ds,n=>A8 d n&&vX ds n
end
def eqM(a b:A0):M A0:=if (A8 a 40&&A8 b 40)=ag then .ok (.bl (eqD a b))else stk
def neM(a b:A0):M A0:=if (A8 a 40&&A8 b 40)=ag then .ok (.bl (!eqD a b))else stk
def IQ(a b:A0):M A0:=(wx b).bind λds=>if (A8 a 40&&vX ds 40)=ag then .ok (.bl (!ds.any λd=>eqD d a))else stk
def Hj:A0->A0->M A0
 |.non,.non=>.ok (.bl ae)|_,.non=>.ok (.bl ag)|_,_=>stk
def wW(ds:a9)(i:Int):M A0:=match atI ds i with
 |some d=>.ok d|none=>stk
def ixD:A0->A0->M A0
 |.lst ds,.int i=>wW ds i|.tup ds,.int i=>wW ds i|_,_=>stk
def x5:a9->M A0
 |[.lst ds]=>.ok (.int ds.length)|[.tup ds]=>.ok (.int ds.length)|_=>stk
def tE:a9->M (List Bool)
 |[]=>.ok []|d::ds=>(asB d).bind λb=>(tE ds).bind λr=>.ok (b::r)
def o4:a9->M a8
 |[]=>.ok []|d::ds=>(asI d).bind λb=>(o4 ds).bind λr=>.ok (b::r)
def allD:a9->M A0
 |[.lst ds]=>(tE ds).bind λI=>.ok (.bl (I.all id))|_=>stk
def sumD:a9->M A0
 |[.lst ds]=>(o4 ds).bind λis=>.ok (.int is.sum)|_=>stk
def vC:a9->M A0
 |[.lst ds]=>.ok (.lst ds)|[.tup ds]=>.ok (.lst ds)|_=>stk
def u6:a9->M A0
 |[.lst ds]=>.ok (.tup ds)|[.tup ds]=>.ok (.tup ds)|_=>stk
noncomputable def u0(i j:Int):Int:=if j>i then j else i
noncomputable def IW(i j:Int):Int:=if j<i then j else i
def maxL:a8->M A0
 |[]=>stk|i::is=>.ok (.int (is.foldl u0 i))
def minL:a8->M A0
 |[]=>stk|i::is=>.ok (.int (is.foldl IW i))
def maxD:a9->M A0
 |[.int i,.int j]=>.ok (.int (u0 i j))|[.lst ds]=>(o4 ds).bind maxL|_=>stk
def minD:a9->M A0
 |[.int i,.int j]=>.ok (.int (IW i j))|[.lst ds]=>(o4 ds).bind minL|_=>stk
def xK:A0->M A0
 |.int _=>.ok (.bl ag)|.bl _=>.ok (.bl ag)|.ins _ _=>stk|.dic _=>stk|.dil _=>stk|_=>.ok (.bl ae)
def wz:A0->M A0
 |.bl _=>.ok (.bl ag)|.ins _ _=>stk|.dic _=>stk|.dil _=>stk|_=>.ok (.bl ae)
def wy:A0->M A0
 |.lst _=>.ok (.bl ag)|.ins _ _=>stk|.dic _=>stk|.dil _=>stk|_=>.ok (.bl ae)
def sS:A0->M A0
 |.tup _=>.ok (.bl ag)|.ins _ _=>stk|.dic _=>stk|.dil _=>stk|_=>.ok (.bl ae)
def fLR(fr:df->M a9):df->M A0:=λρ=>(fr ρ).bind nA
noncomputable def ue:Nat->a9->a9
 |_,[]=>[]|k,d::ds=>.tup [.int k,d]::ue (k+1) ds
noncomputable def itemsL:A0->M a9
 |.lst ds=>.ok ds|_=>.error .stuck
def N0(fa:df->M A0):df->M a9:=λρ=>(fa ρ).bind λd=>(itemsL d).bind λds=>.ok (ue 0 ds)
noncomputable def Ef:a9->a9->a9
 |d::ds,e::es=>.tup [d,e]::Ef ds es|_,_=>[]
def nf(nN n:Nat)(g:df->M A4)(ds:a9):M A0:=if ds.length=n then(g (ds.map aa++aK (nN-ds.length) af)).bind λfl=>match fl with
 |.nx _=>.ok .non|.rt d=>.ok d|_=>stk else stk
@[simp] theorem dm{α β:Type}(a:α)(f:α->M β):kM (cG a:M α) f=f a:=id rfl
@[simp]def bind_er{α β:Type}(e:Err)(f:α->M β):kM (eZ e:M α) f=.error e:=id rfl
@[simp] theorem sf:∀is:a8,o4 (is.map A0.int)=.ok is
 |[]=>rfl|i::is=>by simp[o4,asI,sf is]
@[simp] theorem KL:∀is:List Bool,tE (is.map A0.bl)=.ok is
 |[]=>rfl|i::is=>by simp[tE,asB,KL is]
@[simp] theorem Me(n:Nat):∀is:a8,vX (is.map A0.int) n=ag
 |[]=>by rfl|i::is=>by simp[vX,A8,Me n is]
@[simp] theorem FT:∀is I:a8,z3 (is.map A0.int) (I.map A0.int)=aF (is=I)
 |[],[]=>by rfl|[],_::_=>by rfl|_::_,[]=>by rfl|i::is,j::I=>by
  simp[z3,eqD,FT is I]
  lia
theorem xO(h:k<ds.length):wW ds (k:Int)=.ok ds[k]:=by simp_all[wW,atI,ixN]
theorem getI_int{k:Int}(S:0<=k)(h:k<is.length):wW (is.map A0.int) k=.ok (.int (is[k.toNat]'(by omega))):=by
 have I:k.toNat<(is.map A0.int).length:=by simp;lia
 have e:k=k.toNat:=ac
 have:=xO I;rw[<-e]at this;rw[this];simp
theorem tV{p:Pat}{g:df->M A4}(P:Nat->df->Prop):∀(ds:a9) (k:Nat) (ρ:df),P k ρ ->
  (∀(i:Nat) (d:A0) (ρ:df),ds[i]?=aa d->P (k+i) ρ->∃S,rT p d ρ=.ok S/\∃I,(g S=.ok (.nx I)\/g S=.ok (.ct I))/\P (k+i+1) I)->∃ρ',sk p g ds ρ=.ok (.nx ρ')/\P (k+ds.length) ρ'
 |[],k,ρ,h,_=>⟨ρ,rfl,h⟩|d::ds,k,ρ,h,st=>by
  obtain⟨S,e1,I,e2,U⟩:=st 0 d ρ rfl h;obtain⟨ρ',e3,c⟩:=tV P ds _ I U λi Y ρ b a=>by have:=st (i+1) Y ρ a7 ac;rw[show k+(i+1)+1=k+1+i+1 by lia]at this;exact this
  grind[sk,dm]
theorem rA{p:Pat}{fe:df->M A0}{ρ0:df}(f:A0->A0):∀(ds:a9),(∀d∈ds,∃ρ,rT p d ρ0=.ok ρ/\fe ρ=.ok (f d))->gj p x6 fe ρ0 ds=.ok (ds.map f)
 |[],_=>rfl|d::ds,h=>by obtain⟨ρ,e1,e2⟩:=h d ad;rw[gj,e1];simp only[dm,x6,e2,rA f ds λx I=>h x (by simp[I])];simp
@[simp]def small_def(i:Int):rW i=(aF (-(2^64)<i)&&aF (i<2^64)):=id rfl
@[simp]def small_def2(i:Int):ih i=(aF (-(2^62)<=i)&&aF (i<2^62)):=id rfl
@[simp]def eqDs_nilR(ds:a9):z3 ds []=ds.isEmpty:=by cases ds<;>rfl
@[simp]def eqDs_nilL(ds:a9):z3 [] ds=ds.isEmpty:=by cases ds<;>rfl
section
variable{fc:df->M A0}{fr:df->M (List A0)}{fu:df->M Bool}{h:df->M A4}
@[simp]def e_var0(d:A0)(r:df):de 0 (aa d::r)=.ok d:=id rfl
@[simp]def e_varS(i:Nat)(o:Option A0)(r:df):de (i+1) (o::r)=de i r:=by rfl
@[simp]def e_c(d:A0):fC d ρ=.ok d:=id rfl
@[simp]def e_1(k:A0->M A0):f1 k fa ρ=(fa ρ).bind k:=id rfl
@[simp]def e_2(k:A0->A0->M A0):f2 k fa fb ρ=(fa ρ).bind λa=>(fb ρ).bind λb=>k a b:=id rfl
@[simp]def e_nil:ej ρ=.ok []:=id rfl
@[simp]def e_cons:b6 fa fr ρ=(fa ρ).bind λa=>(fr ρ).bind λr=>.ok (a::r):=id rfl
@[simp]def e_L(k:a9->M A0):fL k fr ρ=(fr ρ).bind k:=id rfl
@[simp]def e_ite:fIte ft fa fb ρ=(ft ρ).bind λb=>if b=ag then fa ρ else fb ρ:=id rfl
@[simp]def e_and:fAnd ft fu ρ=(ft ρ).bind λb=>if b=ag then fu ρ else .ok ae:=id rfl
@[simp]def e_or:fOr ft fu ρ=(ft ρ).bind λb=>if b=ag then .ok ag else fu ρ:=id rfl
@[simp]def e_not:By ft ρ=(ft ρ).bind λb=>.ok (!b):=id rfl
@[simp]def e_B:fB fa ρ=(fa ρ).bind asB:=id rfl
@[simp]def e_andV:FO fa fb ρ=(fa ρ).bind λa=>(asB a).bind λb=>if b=ag then fb ρ else .ok (.bl ae):=id rfl
@[simp]def e_tru:yL fa ρ=(fa ρ).bind truD:=id rfl
@[simp]def e_chain(k k':A0->A0->M A0):uL k k' fa fb fc ρ=(fa ρ).bind λa=>(fb ρ).bind λb=>(k a b).bind λx=>(asB x).bind λz=>if z=ag then(fc ρ).bind λc=>k' b c else .ok (.bl ae):=id rfl
@[simp]def e_it:fIt fa ρ=(fa ρ).bind wx:=id rfl
@[simp]def e_rng(k:a9->M a9):wg k fr ρ=(fr ρ).bind k:=id rfl
@[simp]def e_comp(fi:df->M a9)(ix:List (Option Nat))(p:Pat):qO fi ix p ft fa ρ=(fi ρ).bind λds=>if ds.length<=ay then(gj p ft fa (sI ix ρ) ds).bind λr=>.ok (.lst r)else .error .stuck:=id rfl
@[simp]def e_asB(b:Bool):asB (.bl b)=.ok b:=id rfl
@[simp]def e_asI(b:Int):asI (.int b)=.ok b:=id rfl
@[simp]def e_itemsL(ds:a9):wx (.lst ds)=.ok ds:=id rfl
@[simp]def e_itemsT(ds:a9):wx (.tup ds)=.ok ds:=id rfl
@[simp]def e_notD(b:Bool):notD (.bl b)=.ok (.bl (!b)):=id rfl
@[simp]def e_truB(b:Bool):truD (.bl b)=.ok b:=id rfl
@[simp]def e_truL(ds:a9):truD (.lst ds)=.ok (!ds.isEmpty):=id rfl
@[simp]def e_addI(i j:Int):vr (.int i) (.int j)=.ok (.int (i+j)):=id rfl
@[simp]def e_subI(i j:Int):Lq (.int i) (.int j)=.ok (.int (i-j)):=id rfl
@[simp]def e_negI(i:Int):IT (.int i)=.ok (.int (-i)):=id rfl
@[simp]def e_ltI(i j:Int):ltD (.int i) (.int j)=.ok (.bl (aF (i<j))):=id rfl
@[simp]def e_leI(i j:Int):leD (.int i) (.int j)=.ok (.bl (aF (i<=j))):=id rfl
@[simp]def e_gtI(i j:Int):gtD (.int i) (.int j)=.ok (.bl (aF (j<i))):=id rfl
@[simp]def e_ixL(ds:a9)(i:Int):ixD (.lst ds) (.int i)=wW ds i:=id rfl
@[simp]def e_ixT(ds:a9)(i:Int):ixD (.tup ds) (.int i)=wW ds i:=id rfl
@[simp]def e_lenL(ds:a9):x5 [.lst ds]=.ok (.int ds.length):=id rfl
@[simp]def e_lenT(ds:a9):x5 [.tup ds]=.ok (.int ds.length):=id rfl
@[simp]def e_all(ds:a9):allD [.lst ds]=(tE ds).bind λI=>.ok (.bl (I.all id)):=id rfl
@[simp]def e_listL(ds:a9):vC [.lst ds]=.ok (.lst ds):=id rfl
@[simp]def e_listT(ds:a9):vC [.tup ds]=.ok (.lst ds):=id rfl
@[simp]def e_tupleL(ds:a9):u6 [.lst ds]=.ok (.tup ds):=id rfl
@[simp]def e_max2(i j:Int):maxD [.int i,.int j]=.ok (.int (u0 i j)):=id rfl
@[simp]def e_maxL(ds:a9):maxD [.lst ds]=(o4 ds).bind maxL:=id rfl
@[simp]def e_isiBI(i:Int):wz (.int i)=.ok (.bl ae):=id rfl
@[simp]def e_isiII(i:Int):xK (.int i)=.ok (.bl ag):=id rfl
@[simp]def e_isiLL(ds:a9):wy (.lst ds)=.ok (.bl ag):=id rfl
@[simp]def e_isiTT(ds:a9):sS (.tup ds)=.ok (.bl ag):=id rfl
@[simp]def e_notN(d:A0):Hj d .non=.ok (.bl (match d with|.non=>ae|_=>ag)):=by cases d<;>rfl
@[simp]def e_next:ri ρ=.ok (.nx ρ):=id rfl
@[simp] theorem e_seq:kd g h ρ=(g ρ).bind λfl=>match fl with
 |.nx ρ'=>h ρ'|fl=>.ok fl:=id rfl
@[simp]def e_if:sIf ft g h ρ=(ft ρ).bind λb=>if b=ag then g ρ else h ρ:=id rfl
@[simp]def e_setB(O:be)(i:Nat):g7 O i fa ρ=(fa (erase O ρ)).bind λd=>.ok (.nx (ρ.set i (aa d))):=id rfl
@[simp]def e_ret:qI fa ρ=(fa ρ).bind λd=>.ok (.rt d):=id rfl
@[simp]def e_for(O:be)(fi:df->M a9)(p:Pat):we O fi p g ρ=(fi (erase O ρ)).bind λds=>sk p g ds ρ:=id rfl
@[simp]def e_unpB(O:be)(p:Pat):EN O p fa ρ=(fa (erase O ρ)).bind λd=>(rT p d ρ).bind λρ'=>.ok (.nx ρ'):=id rfl
@[simp]def e_appB(O:be)(i:Nat):wZ O i fa ρ=(x4 ρ i).bind λds=>(fa (erase O ρ)).bind λd=>if ds.length<ay then put ρ i (ds++[d])else .error .stuck:=id rfl
@[simp] theorem e_setI(i:Nat):GW i fb fa ρ=(fa ρ).bind λd=>(x4 ρ i).bind λds=>(fb ρ).bind λk=>(asI k).bind λk=>if uT d=ag then(match ixN ds.length k with
 |some j=>put ρ i (ds.set j d)|none=>.error .stuck)else .error .stuck:=id rfl
@[simp]def e_put(i:Nat)(ds:a9):put ρ i ds=.ok (.nx (ρ.set i (aa (.lst ds)))):=id rfl
@[simp]def e_lst0(ds:a9)(r:df):x4 (aa (.lst ds)::r) 0=.ok ds:=id rfl
@[simp]def e_lstS(i:Nat)(o:Option A0)(r:df):x4 (o::r) (i+1)=x4 r i:=by rfl
@[simp]def e_er0:erase [] ρ=ρ:=id rfl
@[simp]def e_erS(i:Nat)(O:be):erase (i::O) ρ=erase O (ρ.set i af):=id rfl
@[simp]def Kz(i:Nat)(d:A0):rT (.nm i) d ρ=.ok (ρ.set i (aa d)):=id rfl
@[simp]def e_btp(is:be)(ds:a9):rT (.tp is) (.tup ds) ρ=if ds.length=is.length then .ok (yA is ds ρ)else .error .stuck:=id rfl
@[simp]def e_sa0(ds:a9):yA [] ds ρ=ρ:=by rfl
@[simp]def e_saS(i:Nat)(is:be)(d:A0)(ds:a9):yA (i::is) (d::ds) ρ=yA is ds (ρ.set i (aa d)):=id rfl
@[simp]def e_in0:sI [] ρ=[]:=id rfl
@[simp]def e_inN(ix:List (Option Nat)):sI (af::ix) ρ=af::sI ix ρ:=id rfl
@[simp]def e_inS(j:Nat)(ix:List (Option Nat)):sI (aa j::ix) ρ=(ρ[j]?).join::sI ix ρ:=id rfl
@[simp]def e_tup(ds:a9):rH ds=if ds.length<=ay then .ok (.tup ds)else .error .stuck:=id rfl
@[simp]def e_lst(ds:a9):nA ds=if ds.length<=ay then .ok (.lst ds)else .error .stuck:=id rfl
@[simp]def e_line:ay=16777216:=fK
@[simp] theorem e_run(a b:Nat)(ds:a9):nf a b g ds=if ds.length=b then(g (ds.map aa++aK (a-ds.length) af)).bind λfl=>match fl with
 |.nx _=>.ok .non|.rt d=>.ok d|_=>stk else stk:=id rfl
@[simp] theorem e_rng1{j:Int}(h:ih j=ag):ye [.int j]=.ok (eM 0 j.toNat):=by show(if ih j=ag then _ else _)=_;lia
@[simp] theorem e_rng2{i j:Int}(h:ih i=ag)(I:ih j=ag):GB [.int i,.int j]=.ok (eM i (j-i).toNat):=by show(if (ih i&&ih j)=ag then _ else _)=_;lia
@[simp]def Ky{i j:Int}(h:0<j):xq (.int i) (.int j)=.ok (.int (i%j)):=by simp[xq,h]
@[simp] theorem e_fdiv{i j:Int}(h:0<j)(I:j<18446744073709551616):tW (.int i) (.int j)=.ok (.int (i/j)):=by simp_all[tW]
@[simp] theorem e_mulR{i j:Int}(h:rW j=ag):Dt (.int i) (.int j)=.ok (.int (i*j)):=by show(if (rW i||rW j)=ag then _ else _)=_;lia
@[simp] theorem e_mulL{i j:Int}(h:rW i=ag):Dt (.int i) (.int j)=.ok (.int (i*j)):=by show(if (rW i||rW j)=ag then _ else _)=_;lia
end
section
variable{W:qE}{own:Bool}{a b c:bX}{es rest:List bX}{p:lj}{f fc:df->M A0}{fr:df->M (List A0)}{fu:df->M Bool}
def PE.imp{t t':TE}(h:PE X e t)(q:∀σ H Q,t' σ H Q->t σ H Q):PE X e t':=λA1 s σ H Q I z=>h A1 s σ H Q I (q σ H Q z)
def PT.imp{t t':TT}(h:PT X e t)(q:∀σ H Q,t' σ H Q->t σ H Q):PT X e t':=λA1 s σ H Q I z=>h A1 s σ H Q I (q σ H Q z)
def PW.imp{t t':TT}(h:PW X e t)(q:∀σ H Q,t' σ H Q->t σ H Q):PW X e t':=λS A1 s σ H Q I z=>h S A1 s σ H Q I (q σ H Q z)
def PA.imp{t t':TA}(h:PA X es t)(q:∀σ H Q,t' σ H Q->t σ H Q):PA X es t':=λps A1 s σ H Q I z=>h ps A1 s σ H Q I (q σ H Q z)
def PI.imp{t t':TI}(h:PI X tg e t)(q:∀σ H Q,t' σ H Q->t σ H Q):PI X tg e t':=λA1 s σ H Q I z=>h A1 s σ H Q I (q σ H Q z)
def PS.imp{st:bY}{t t':TS}(h:PS X st t)(q:∀D σ H,t' D σ H->t D σ H):PS X st t':=λA1 s σ H D I z=>h A1 s σ H D I (q D σ H z)
def PSs.imp{st:List bY}{t t':TS}(h:PSs X st t)(q:∀D σ H,t' D σ H->t D σ H):PSs X st t':=λA1 s σ H D I z=>h A1 s σ H D I (q D σ H z)
abbrev DE(K:Fg)(W:qE)(own:Bool)(X:Cx)(e:bX)(f:df->M A0):Prop:=PE X e (tD K W own f)
abbrev DT(K:Fg)(W:qE)(X:Cx)(e:bX)(f:df->M Bool):Prop:=PT X e (tDT K W f)
abbrev DW(K:Fg)(W:qE)(X:Cx)(e:bX)(f:df->M Bool):Prop:=PW X e (tDT K W f)
abbrev DA(K:Fg)(W:qE)(X:Cx)(es:List bX)(f:df->M a9):Prop:=PA X es (tDA K W f)
abbrev DI(K:Fg)(W:qE)(X:Cx)(tg e:bX)(f:df->M a9):Prop:=PI X tg e (iD K W f)
abbrev DG(K:Fg)(X:Cx)(tg:bX)(p:Pat):Prop:=PG X tg (gP K p)
abbrev DS(K:Fg)(W:qE)(ro:Bool)(X:Cx)(OL O O':be)(st:bY)(g:df->M A4):Prop:=∀F0 H0:Hp,PS X st (tS K W ro F0 H0 OL O O' g)
abbrev DSs(K:Fg)(W:qE)(ro:Bool)(X:Cx)(OL O O':be)(st:List bY)(g:df->M A4):Prop:=∀F0 H0:Hp,PSs X st (tS K W ro F0 H0 OL O O' g)
abbrev Op2(K:Fg)(W:qE)(own:Bool)(X:Cx)(o:aj->aj->jo aj)(g:A0->A0->M A0):Prop:=OpR X o (rD2 K W own g)
abbrev B9(K:Fg)(W:qE)(own:Bool)(X:Cx)(v:aj)(g:a9->M A0):Prop:=sH X v (rDL K W own g)
def dr(i:Nat)(Y: ~~~(X.N[i]?=aa x))(S:autoParam (Vis X.env.scope x) Jq5)(U:((x==("__debug__":br))=ae)⁻¹)(I:((x==("__classdict__":br))=ae)⁻¹):DE K W ae X (.Name x pos) (de i):=(pv i Y S U I).imp λ_ H _=>by
    intro h;obtain⟨F,ρ,r,s,p⟩:=h;unfold de at p
    match e:ρ[i]? with
    |some (aa d)=>rw[e]at p;obtain⟨v,e1,q⟩:=r.sl i d e;exact⟨v,e1,p v F H (A2.refl s) q⟩
    |some af=>rw[e]at p;exact(W.ns p).elim|none=>rw[e]at p;exact(W.ns p).elim
def cc{i:Int}{j}:DE K W ae X (.Constant (.int i) j pos) (fC (.int i)):=pe_int.imp λ_ _ _=>rd_c λ_=>rfl
def vn{k:Bool}{j}:DE K W ae X (.Constant (.bool k) j pos) (fC (.bl k)):=pe_bl.imp λ_ _ _=>rd_c λ_=>rfl
def Jw{j}:DE K W ae X (.Constant .none j pos) (fC .non):=pe_non.imp λ_ _ _=>rd_c λ_=>rfl
def HG{n:Int}(I:∃t,X.mg x=aa (.int n t))(S: ~~~(Gl X x))(U:((x==("__debug__":br))=ae)⁻¹):DE K W ae X (.Name x pos) (fC (.int n)):=(pe_gint S I U).imp λ_ _ _=>rd_c λ_=>rfl
def eh(h:DE K W ag X e f):DE K W ae X e f:=PE.imp h λ_ _ _ ⟨F,ρ,r,s,p⟩=>⟨F,ρ,r,s,p.frz⟩
def en{op:Operator}{g:A0->A0->M A0}(I:Op2 K W own X (dO op) g)(U:DE K W ae X a fa)(S:DE K W ae X b fb):DE K W own X (.BinOp a op b pos) (f2 g fa fb):=(pe_op I U S).imp λ_ _ _=>rd_2
def DR{op:UnaryOp}{g:A0->M A0}(I:UnR X (pO op) (rD1 K W own g))(S:DE K W ae X a fa):DE K W own X (.UnaryOp op a pos) (f1 g fa):=(pe_un I S).imp λ_ _ _=>rd_1
def de_cmp{g:A0->A0->M A0}(I:Op2 K W ae X (bZ op) g)(Y:DE K W ae X a fa)(U:DE K W ae X b fb)(S:autoParam (ic op b=ae) Jq10):DE K W ae X (.Compare a [op] [b] pos) (f2 g fa fb):=
 (pe_cmpR I Y U S).imp λ_ _ _=>rd_2
def n3{g:A0->A0->M A0}(I:Op2 K W ae X (bZ op) g)(Y:DE K W ae X a fa)(U:DE K W ae X b fb)(S:autoParam (ic op b=ae) Jq10):DT K W X (.Compare a [op] [b] pos) (fB (f2 g fa fb)):=
 (LU I Y U S).imp λσ H Q h=>by exact rd_2 (rd_B h)
def de_chain{g:A0->A0->M A0}(S:Op2 K W ae X (bZ op) g)(I:Op2 K W ae X (bZ op') g')(e:DE K W ae X a fa)(d:DE K W ae X b fb)(Y:DE K W ae X c fc)(U:autoParam (nL [op,op'] [b,c]=ae) Jq7):DE K W ae X (.Compare a [op,op'] [b,c] pos) (uL g g' fa fb fc):=(pe_chain S I e d Y U).imp λ_ _ _=>IB
def zo{g:A0->A0->M A0}(S:Op2 K W ae X (bZ op) g)(I:Op2 K W ae X (bZ op') g')(e:DE K W ae X a fa)(d:DE K W ae X b fb)(Y:DE K W ae X c fc)(U:autoParam (nL [op,op'] [b,c]=ae) Jq7):DT K W X (.Compare a [op,op'] [b,c] pos) (fB (uL g g' fa fb fc)):=(pt_chain S I e d Y U).imp λσ H Q h=>by exact IB (rd_B h)
theorem su(U:DE K W ae X a fa)(Y: ~~~(X.K=K))(S:autoParam (∀I,n8 a X.env I=(do let v <-I;jH a.pos;gq [v] (truthy v))) Jq4):DT K W X a (yL fa):=by
 subst Y;exact(pt_truth U S).imp λ_ _ H1=>by
   intro h;obtain⟨F,ρ,r,s,p⟩:=h;refine eu r s (λe S=>?_) λa U x F1 H1 s1 q1=>?_
   .have z:yL fa ρ=.error e:=by unfold yL;rw[S];rfl
    simp_all
   .have z:yL fa ρ=truD a:=by unfold yL;rw[U];rfl
    rw[z]at p;cases e:truD a with
    |ok b=>rw[e]at p;exact⟨b,tru_of s1.fh q1 e,p F1 H1 s1⟩|error x=>
     rw[e]at p;have:x=.stuck:=by
      cases a with
      |ins C fs=>cases e;rfl|dic ks=>cases e;rfl|dil ks=>cases e;rfl|_=>cases e
     subst this;exact(W.ns p).elim
theorem uf(U:DT K W X a ft):DT K W X (.UnaryOp .Not a pos) (By ft):=(pt_not U).imp λ_ _ _=>by
  intro h;obtain⟨F,ρ,r,s,p⟩:=h;refine u7 r s (λe I=>?_) λb S F1 H1 s1=>?_
  .have z:By ft ρ=.error e:=by unfold By;rw[I];rfl
   simp_all
  .have z:By ft ρ=.ok (!b):=by unfold By;rw[S];rfl
   rw[z]at p;exact p F1 H1 s1
def HB(S:DT K W X a ft):DW K W X (.BoolOp .And [a] pos) ft:=by
  intro U A1 s σ H Q I h;refine isTrue_and (A7 (S A1 s σ H Q I h) λc s1 e=>?_);cases c with
  |true=>exact isTrue_and_nil e|false=>exact e
def Ck(S:DT K W X a ft):DW K W X (.BoolOp .Or [a] pos) ft:=by
  intro U A1 s σ H Q I h;refine isTrue_or (A7 (S A1 s σ H Q I h) λc s1 e=>?_);cases c with
  |false=>exact isTrue_or_nil e|true=>exact e
theorem N5(U:DT K W X a ft)(I:DW K W X (.BoolOp .And (b::rest) pos) fu):DW K W X (.BoolOp .And (a::b::rest) pos) (fAnd ft fu):=(pw_and U I).imp λ_ _ _=>by
  intro h;obtain⟨F,ρ,r,s,p⟩:=h;refine u7 r s (λe S=>?_) λb I F1 H1 s1=>?_
  .have z:fAnd ft fu ρ=.error e:=by unfold fAnd;rw[S];rfl
   simp_all
  .have z:fAnd ft fu ρ=if b=ag then fu ρ else .ok ae:=by unfold fAnd;rw[I];rfl
   rw[z]at p;cases b with
   |true=>exact Ij r s1 p|false=>exact p F1 H1 s1
theorem DM(U:DT K W X a ft)(I:DW K W X (.BoolOp .Or (b::rest) pos) fu):DW K W X (.BoolOp .Or (a::b::rest) pos) (fOr ft fu):=(pw_or U I).imp λ_ _ _=>by
  intro h;obtain⟨F,ρ,r,s,p⟩:=h;refine u7 r s (λe S=>?_) λb I F1 H1 s1=>?_
  .have z:fOr ft fu ρ=.error e:=by unfold fOr;rw[S];rfl
   simp_all
  .have z:fOr ft fu ρ=if b=ag then .ok ag else fu ρ:=by unfold fOr;rw[I];rfl
   rw[z]at p;cases b with
   |false=>exact Ij r s1 p|true=>exact p F1 H1 s1
def de_one{op}(h:DE K W ae X a f):DE K W ae X (.BoolOp op [a] pos) f:=λA1 s σ H Q I hw=>BoolOp_one (h A1 s σ H Q I hw)
def Ni(I:DE K W ae X a fa)(U:DE K W ae X (.BoolOp .And (b::rest) pos) fb):DE K W ae X (.BoolOp .And (a::b::rest) pos) (FO fa fb):=(pe_and I U).imp λ_ _ _=>by
  intro h;obtain⟨F,ρ,r,s,p⟩:=h;refine eu r s (λe S=>p.err (by unfold FO;rw[S];rfl)) λa I x F1 H1 s1 q1=>?_;have z:FO fa fb ρ=(asB a).bind λb=>if b=ag then fb ρ else .ok (.bl ae):=by unfold FO;rw[I];rfl
  rw[z]at p;cases a with
  |bl b=>
   refine⟨b,q1,?_⟩
   cases b with
   |true=>exact⟨F1,ρ,r.mono s1.ff,s1.fh,eQ.step p s1⟩|false=>exact p _ F1 H1 s1 rfl
  |_=>exact(W.ns p).elim
def de_not(I:DE K W ae X a fa):DE K W ae X (.UnaryOp .Not a pos) (f1 notD fa):=(pe_not I).imp λ_ _ _=>by
  intro h;obtain⟨F,ρ,r,s,p⟩:=h;refine eu r s (λe S=>p.err (by unfold f1;rw[S];rfl)) λa I x F1 H1 s1 q1=>?_;have z:f1 notD fa ρ=notD a:=by unfold f1;rw[I];rfl
  rw[z]at p;cases a with
  |bl b=>exact⟨b,q1,p _ F1 H1 s1 rfl⟩|_=>exact(W.ns p).elim
def de_ite(U:DT K W X c ft)(Y:DE K W own X a fa)(I:DE K W own X b fb):DE K W own X (.IfExp c a b pos) (fIte ft fa fb):=(pe_ifExp U Y I).imp λ_ _ _=>by
  intro h;obtain⟨F,ρ,r,s,p⟩:=h;refine u7 r s (λe S=>p.err (by unfold fIte;rw[S];rfl)) λb I F1 H1 s1=>?_;have e:fIte ft fa fb ρ=if b=ag then fa ρ else fb ρ:=by unfold fIte;rw[I];rfl
  rw[e]at p;cases b with
  |true=>exact⟨F1,ρ,r.mono s1.ff,s1.fh,p.step s1⟩|false=>exact⟨F1,ρ,r.mono s1.ff,s1.fh,p.step s1⟩
def pT:DA K W X [] ej:=rL.imp λ_ _ _=>rd_nil
theorem m3(I:DE K W ae X e fa)(Y:DA K W X es fr)(U: ~~~(au (e::es) X.env=(ae,a_ e X.env)::au es X.env)):DA K W X (e::es) (b6 fa fr):=(nD I Y U).imp λ_ _ _=>by
  intro h;obtain⟨F,ρ,r,s,p⟩:=h;refine eu r s (λe S=>?_) λa I x F1 H1 s1 q1=>vv (r.mono s1.ff) s1.fh (λe S=>?_) λds b xs c H2 s2 q2=>?_
  .have z:b6 fa fr ρ=.error e:=by unfold b6;rw[S];rfl
   simp_all
  .have z:b6 fa fr ρ=.error e:=by unfold b6;rw[I];rw[S];rfl
   rw[z]at p;exact W.mono p s1
  .have z:b6 fa fr ρ=.ok (a::ds):=by unfold b6;rw[I];rw[b];rfl
   rw[z]at p;exact p _ c H2 (s1.trans s2) ⟨x,xs,rfl,i1.mono s2.ff q1,q2⟩
theorem rQ{U}(h:DA K W X es fr):DE K W own X (.Tuple es U pos) (fL rH fr):=(pe_tup h).imp λ_ _ _=>by
  intro h;obtain⟨F,ρ,r,s,p⟩:=rd_L h;refine⟨F,ρ,r,s,?_⟩
  cases e:fr ρ with
  |error x=>simp_all|ok ds=>
   rw[e]at p;intro vs F' H' t q;obtain⟨F1,es,s1,q1,z⟩:=p vs F' H' t q;unfold rH at z;by_cases I:es.length<=ay
   .rw[aC I]at z;refine⟨by rw[q1.length];exact I,λa S=>z _ _ _ (A2.lay s1 S) ?_⟩
    have:i1 K _ (.tup es) _:=⟨a,vs,rfl,SqT.of dy,q1.mono (eH.upd (s1.free S))⟩
    cases own with
    |true=>exact this|false=>exact this
   .rw[aA I]at z;exact(W.ns z).elim
theorem k8(h:DA K W X es fr):DE K W ag X (.List es pos) (fL nA fr):=(IH h).imp λ_ _ _=>by
  intro h;obtain⟨F,ρ,r,s,p⟩:=rd_L h;refine⟨F,ρ,r,s,?_⟩
  cases e:fr ρ with
  |error x=>simp_all|ok ds=>
   rw[e]at p;intro vs F' H' t q;obtain⟨F1,es,s1,q1,z⟩:=p vs F' H' t q;unfold nA at z;by_cases I:es.length<=ay
   .rw[aC I]at z;exact⟨by rw[q1.length];exact I,λa S=>z _ F1 _ (A2.grow s1 S) ⟨a,vs,rfl,dy,s1.free S,S,q1⟩⟩
   .rw[aA I]at z;exact(W.ns z).elim
def er{id:String}{g:a9->M A0}(d:B9 K W own X (.builtin id) g)(b:X.mg x=af)(Y:fT x=aa (.builtin id))(f:DA K W X (e::es) fr)(c: ~~~(Gl X x))(a:(x≠"__name__")⁻¹)(U:((x==("__debug__":br))=ae)⁻¹)(I: ~~~(au (e::es) X.env=(ae,a_ e X.env)::au es X.env))(S: ~~~((cu pos (au es X.env)).any (·.1)=ae)):DE K W own X (.Call (.Name x p) (e::es) [] pos) (fL g fr):=
 (xG d c b Y f a U I S).imp λ_ _ _=>rd_L
def n7{T:String}{g:a9->M A0}(d:B9 K W own X (.type T) g)(b:X.mg x=af)(Y:fT x=aa (.type T))(f:DA K W X (e::es) fr)(c: ~~~(Gl X x))(a:(x≠"__name__")⁻¹)(U:((x==("__debug__":br))=ae)⁻¹)(I: ~~~(au (e::es) X.env=(ae,a_ e X.env)::au es X.env))(S: ~~~((cu pos (au es X.env)).any (·.1)=ae)):DE K W own X (.Call (.Name x p) (e::es) [] pos) (fL g fr):=
 (zX d c b Y f a U I S).imp λ_ _ _=>rd_L
def eE{g:A0->A0->M A0}(S:IxR X (rD2 K W own g))(Y:DE K W ae X a fa)(U:DE K W ae X b fb)(I:autoParam (HV b) Jq11):DE K W own X (.Subscript a b pos) (f2 g fa fb):=(pe_ix S Y U I).imp λ_ _ _=>rd_2
def vm(U:X.N.Nodup)(hi: ~~~(X.N[i]?=aa x))(I:autoParam (Loc X.env.scope x) Jq6)(S:autoParam (X.fn x=ag\/X.env.scope.names.lookup x=aa .local) Jq3):DG K X (.Name x pos) (.nm i):=ub U hi I S
theorem px(i:DE K W ae X e fa)(m: ~~~(X.K=K)):DI K W X tg e (fIt fa):=by
 subst m;refine PI.imp (t:=iSeq X.K (tD X.K W ae fa)) ?_ λ_ _ _=>by
   intro h;obtain⟨F,ρ,r,s,p⟩:=h;refine eu r s (λe j=>?_) λa k x F1 H1 s1 q1=>?_
   .have z:fIt fa ρ=.error e:=by unfold fIt;rw[j];rfl
    simp_all
   .have z:fIt fa ρ=wx a:=by unfold fIt;rw[k];rfl
    rw[z]at p;cases a with
    |lst ds=>obtain⟨b,xs,e,t,z⟩:=q1;exact⟨b,e,.inl ⟨⟨xs,s1.fh.lst t⟩,p _ F1 H1 s1 (MF t z)⟩⟩
    |tup ds=>obtain⟨b,xs,e,t,z⟩:=q1;exact⟨b,e,.inr ⟨⟨xs,s1.fh.tup t⟩,p _ F1 H1 s1 (iter_tup t z)⟩⟩
    |_=>exact(W.ns p).elim
 intro A1 s σ H R I h;refine A7 (i A1 s σ H _ I h) λv s1 g=>?_;obtain⟨y,H1,S,d,q1⟩:=g;obtain⟨l,e1,q⟩:=q1;subst e1;cases d;rcases q with⟨⟨xs,U⟩,q⟩|⟨⟨xs,U⟩,q⟩
 .obtain⟨its,c,p,f⟩:=S.list U;refine lC p.isList ?_;refine⟨s1.z,[s1.z],_,_,H1,rfl,S.kept (t':=s1.toks) λb o e=>ah _ e,Ej l _,⟨_,aw _ rfl,rfl,rfl⟩,λb Y=>?_,q⟩
  have e:b=s1.z:=by simpa using Y
  subst e;exact S.MX (aq _) (S.hok.fresh (aq _))
 .obtain⟨its,c,p,f⟩:=S.tuple U;refine fS (show s1.heap.IsTuple l its.toArray from p) ?_;refine⟨s1.z,[s1.z],_,_,H1,rfl,S.kept (t':=s1.toks) λb o e=>ah _ e,BK l _,⟨_,aw _ rfl,rfl,rfl⟩,λb Y=>?_,q⟩
  have e:b=s1.z:=by simpa using Y
  subst e;exact S.MX (aq _) (S.hok.fresh (aq _))
def rJ(U:X.mg "range"=af)(f:DA K W X [a] fr)(Y: ~~~(Gl X "range"))(S: ~~~(au [a] X.env=[(ae,a_ a X.env)])):DI K W X tg (.Call (.Name "range" p) [a] [] pos) (wg ye fr):=(M1 Y U f S).imp λ_ H R=>by
  intro h;obtain⟨F,ρ,r,s,p⟩:=h;refine vv r s (λe b=>?_) λds c xs F1 H1 s1 q1=>?_
  .have z:wg ye fr ρ=.error e:=by unfold wg;rw[b];rfl
   rw[z]at p;exact p
  .have z:wg ye fr ρ=ye ds:=by unfold wg;rw[c];rfl
   rw[z]at p;cases ds with
   |nil=>exact(W.ns p).elim|cons d ds=>
    cases d with
    |int j=>
     cases ds with
     |cons _ _=>exact(W.ns p).elim|nil=>
      obtain⟨v,vs,e,q,t⟩:=q1;have p':match (if ih j=ag then cG (eM 0 j.toNat)else eZ Err.stuck)with
       |.ok ds=>∀J F1 H1,A2 F H F1 H1->yx K F1 J ds->R J H1|.error e=>W.p e F H:=p
      by_cases I:ih j=ag
      .rw[aC I]at p';unfold ih at I;simp at I;exact⟨j,by rw[e,show v=.int j from q,show vs=[]from t],I.1,I.2,p' _ F1 H1 s1 C7⟩
      .rw[aA I]at p';exact(W.ns p').elim
    |_=>exact(W.ns p).elim
theorem Nb(f:X.mg "range"=af)(m:DA K W X [a,b] fr)(g: ~~~(Gl X "range"))(d: ~~~(au [a,b] X.env=[(ae,a_ a X.env),(ae,a_ b X.env)]))(Y: ~~~(au [b] X.env=[(ae,a_ b X.env)])):
  DI K W X tg (.Call (.Name "range" p) [a,b] [] pos) (wg GB fr):=(M0 g f m d Y).imp λ_ H R=>by
    intro h;obtain⟨F,ρ,r,s,p⟩:=h;refine vv r s (λe k=>?_) λds l xs F1 H1 s1 q1=>?_
    .have z:wg GB fr ρ=.error e:=by unfold wg;rw[k];rfl
     simp_all
    .have z:wg GB fr ρ=GB ds:=by unfold wg;rw[l];rfl
     rw[z]at p;by_cases S:∃i j,ds=[.int i,.int j]
     .obtain⟨i,j,rfl⟩:=S;obtain⟨v,vs,e,q,c,U,e2,q2,t⟩:=q1;have p':match (if (ih i&&ih j)=ag then cG (eM i (j-i).toNat)else eZ Err.stuck)with
       |.ok ds=>∀J F1 H1,A2 F H F1 H1->yx K F1 J ds->R J H1|.error e=>W.p e F H:=p
      by_cases I:(ih i&&ih j)=ag
      .rw[aC I]at p';unfold ih at I;simp at I;exact⟨i,j,by rw[e,show v=.int i from q,e2,show c=.int j from q2,show U=[]from t],⟨I.1.1,I.1.2,I.2.1,I.2.2⟩,p' _ F1 H1 s1 C7⟩
      .rw[aA I]at p';exact(W.ns p').elim
     .have:GB ds=.error .stuck:=by
       unfold GB;split
       .exact bu ⟨_,_,rfl⟩ S
       .rfl
      rw[this]at p;exact(W.ns p).elim
variable{st:bY}{h:df->M A4}
def n4:DSs K W ro X OL O O [] ri:=λ_ _=>D5.imp λ_ σ H=>by intro t;obtain⟨FB,F,ρ,r,p⟩:=t;exact p σ F H r
def dt(h1:DS K W ro X OL O O' st g)(S:DSs K W ro X OL O' O2 sts h):DSs K W ro X OL O O2 (st::sts) (kd g h):=λF0 H0=>(lP (h1 F0 H0) (S F0 H0)).imp λ_ _ _=>by
  intro t;obtain⟨FB,F,ρ,r,p⟩:=t;refine⟨FB,F,ρ,r,?_⟩
  unfold kd at p;cases e:g ρ with
  |error x=>exact p.err (by rw[e];rfl)|ok fl=>
   rw[e]at p;cases fl with
   |nx ρ'=>exact λI F' H' r'=>⟨FB,F',ρ',r',p⟩|rt d=>exact p|bk ρ'=>exact p|ct ρ'=>exact p
def du(h1:DS K W ro X OL O O' st g):DSs K W ro X OL O O' [st] g:=λF0 H0=>rj (h1 F0 H0)
def qK(h1:DSs K W ro X OL O2 O' sts g)(I:(∀i∈O2,i∈O)⁻¹):DSs K W ro X OL O O' sts g:=λF0 H0=>PSs.imp (h1 F0 H0) λ_ _ _=>by intro t;obtain⟨FB,F,ρ,r,p⟩:=t;exact⟨FB,_,ρ,r.freeze I,p⟩
def rz{sa sb:List bY}(U:DT K W X c ft)(Y:DSs K W ro X OL O O' sa g)(I:DSs K W ro X OL O O' sb h):DS K W ro X OL O O' (.If c sa sb pos) (sIf ft g h):=λF0 H0=>(LW U (Y F0 H0) (I F0 H0)).imp λ_ _ _=>by
  intro t;obtain⟨FB,F,ρ,r,p⟩:=t;refine u7 r.wm r.tG (λe S=>p.vk (r.freeze ad).st (by unfold sIf;rw[S];rfl)) λb I F1 H1 s1=>?_;have z:sIf ft g h ρ=if b=ag then g ρ else h ρ:=by unfold sIf;rw[I];rfl
  rw[z]at p;cases b with
  |true=>exact⟨FB,_,ρ,r.u9 s1,p⟩|false=>exact⟨FB,_,ρ,r.u9 s1,p⟩
def HC(a:X.N.Nodup)(Y:DE K W own X e f)(hi: ~~~(X.N[i]?=aa x))(I:autoParam (Loc X.env.scope x) Jq6)(S: ~~~(dJ e (aa (.Name x pos')) pos.line X.env=cO ae))(U:autoParam (X.fn x=ag\/X.env.scope.names.lookup x=aa .local) Jq3):
  DS K W ro X OL O (aft own i O) (.Assign [.Name x pos'] e pos) (g7 O i f):=λF0 H0=>(zW a hi I Y S U).imp λ_ _ _=>LI
def et(I:DE K W ro X e f):DS K W ro X OL O O' (.Return (aa e) pos) (qI f):=λF0 H0=>(EY I).imp λ_ _ _=>by
  intro t;obtain⟨FB,F,ρ,r,p⟩:=t;have S:=r.freeze (O2:=[]) ad;refine eu r.wm r.tG (λe I=>p.vk S.st (by unfold qI;rw[I];rfl)) λd U v F1 H1 s1 q=>?_;have z:qI f ρ=.ok (.rt d):=by unfold qI;rw[U];rfl
  rw[z]at p;exact p v F1 H1 (S.st.trans s1) (q.back r.st.hh)
def ds_retV(U:(i∈O)⁻¹)(a: ~~~(X.N[i]?=aa x))(S:autoParam (Vis X.env.scope x) Jq5)(Y:((x==("__debug__":br))=ae)⁻¹)(I:((x==("__classdict__":br))=ae)⁻¹):DS K W ag X OL O O' (.Return (aa (.Name x p)) pos) (qI (de i)):=λF0 H0=>(EY (pv i a S Y I)).imp λ_ _ H=>by
    intro t;obtain⟨FB,F,ρ,r,p⟩:=t;unfold qI de at p
    match e:ρ[i]? with
    |some (aa d)=>rw[e]at p;obtain⟨v,e3,q⟩:=r.ow i d e U;exact⟨v,e3,p v F H r.st q⟩
    |some af=>rw[e]at p;exact p.stuck rfl|none=>rw[e]at p;exact p.stuck rfl
theorem nB{fs:df->M a9}{pt:Pat}(hi:DI K W X tg iter fs)(A:DG K X tg pt)(C:DSs K W ro X O O O body g)(n:(∀i∈pt.names,i∉O)⁻¹)(w:autoParam (nS (aI X.prog X.w) X.A X.env X.xe) Jq12)(B: ~~~(X.calm=ag))(v:autoParam (∀x,eO iter X.env x=cO x) Jq4):DS K W ro X OL O O (.For tg iter body [] pos) (we O fs pt g):=λF0 H0=>(yC w B hi A (C F0 H0) v).imp λD σ H=>by
    intro t;obtain⟨FB,F,ρ,r,p⟩:=t;refine⟨F,erase O ρ,r.xD,r.st.fh,?_⟩
    cases e:fs _ with
    |error x=>exact p.vk r.st (by unfold we;rw[e];rfl)|ok ds=>
     have z:we O fs pt g ρ=sk pt g ds ρ:=by unfold we;rw[e];rfl
     intro J F1 H1 s1 k;refine⟨λi m σ H=>∃F ρ,Rep K F0 H0 F1 O F H σ ρ/\i<=ds.length/\m=ds.length-i/\tM K W ro F0 H0 FB OL O D (sk pt g (ds.drop i) ρ),⟨ds.length,F1,ρ,?_,bz _,ac,a7⟩,?_⟩
     .have c:=r.step s1;exact⟨c.st,eH.refl _,c.len,c.fz,c.ow,c.ap⟩
     .rintro i m h H2 ⟨f,I,Y,hi,rfl,p2⟩;by_cases b:i<ds.length
      .rw[(cM b)]at p2;refine .inr ⟨k.go i f H2 Y.fb Y.st.fh b,λS H'=>(∃F ρ,Rep K F0 H0 F1 O F H' S ρ/\tM K W ro F0 H0 FB OL O D _),λS H' ⟨F,ρ,r,p⟩=>⟨ds.length-(i+1),ac,F,ρ,r,b,rfl,p⟩,λx H' y=>?_⟩;obtain⟨G,q,u⟩:=k.yl i f H2 x H' ds[i] Y.fb Y.st.fh ad y;have E:sk pt g (ds[i]::ds.drop (i+1)) I=(rT pt ds[i] I).bind λj=>(g j).bind λfl=>match fl with
        |.nx I=>sk pt g (ds.drop (i+1)) I|.ct I=>sk pt g (ds.drop (i+1)) I|.bk I=>.ok (.nx I)|.rt d=>.ok (.rt d):=by rw[sk]
       rw[E]at p2;cases eb:rT pt ds[i] I with
       |error x=>have:=xZ eb;subst this;exact p2.stuck (by rw[eb];rfl)|ok a=>
        rw[eb]at p2;have p2:tM K W ro F0 H0 FB OL O D ((g a).bind λfl=>match fl with
         |.nx I=>sk pt g _ I|.ct I=>sk pt g _ I|.bk I=>.ok _|.rt d=>.ok _):=p2
        refine gP_rep (Y.step q) n u eb λo s=>⟨F1,G,a,s,?_⟩
        cases l:g a with
        |error x=>exact p2.err (by rw[l];rfl)|ok fl=>
         rw[l]at p2;cases fl with
         |nx U=>exact λS F' H' r'=>⟨F',U,r',p2⟩|ct U=>exact λS F' H' r'=>⟨F',U,r',p2⟩|bk U=>exact λS F' H' r'=>p2 S F' H' (r'.base ((r.step s1).fb))|rt d=>exact p2
      .have:i=ds.length:=ac
       subst this;rw[jd]at p2;exact .inl ⟨k.st f H2 Y.fb Y.st.fh,p2 h f H2 (Y.base (r.step s1).fb)⟩
def ds_while(j:DT K W X c ft)(Y:DSs K W ro X O O O body g)(h:autoParam (nS (aI X.prog X.w) X.A X.env X.xe) Jq12):DS K W ro X OL O O (.While c body [] pos) (vU ft g m):=λF0 H0=>(ps_while h j (Y F0 H0)).imp λD σ H=>by
  intro t;refine⟨λm σ H=>tS K W ro F0 H0 OL O O (vU ft g m) D σ H,⟨m,t⟩,?_⟩
  rintro m σ H ⟨FB,F,ρ,r,p⟩;cases m with
  |zero=>exact p.stuck rfl|succ m=>
   have k:vU ft g (m+1) ρ=(ft ρ).bind λb=>if b=ag then(g ρ).bind λfl=>match fl with
    |.nx S=>vU ft g m S|.ct S=>vU ft g m S|.bk S=>.ok (.nx S)|.rt d=>.ok (.rt d)else .ok (.nx ρ):=by rw[vU]
   rw[k]at p;refine u7 r.wm r.tG (λe i=>p.vk (r.freeze ad).st (by rw[i];rfl)) λb Y F1 H1 s1=>?_;rw[Y]at p;have a:=r.u9 s1;cases b with
   |false=>exact p σ _ H1 a|true=>
    refine⟨λI H'=>tS K W ro F0 H0 OL O O _ D I H',λI H' n=>⟨m,jg _,n⟩,FB,_,ρ,a,?_⟩
    cases f:g ρ with
    |error x=>exact p.err (by rw[f];rfl)|ok fl=>
     rw[f]at p;cases fl with
     |nx U=>exact λI F' H' r'=>⟨FB,F',U,r',p⟩|ct U=>exact λI F' H' r'=>⟨FB,F',U,r',p⟩|bk U=>exact λI F' H' r'=>p I F' H' r'|rt d=>exact p
def vL(j:DE K W ae X e f)(m:(i∈O)⁻¹)(s: ~~~(X.N[i]?=aa x))(o:autoParam (Vis X.env.scope x) Jq5)(k:((x==("__debug__":br))=ae)⁻¹)(l:((x==("__classdict__":br))=ae)⁻¹)(u: ~~~(X.K=K))(b: ~~~(au [e] X.env=[(ae,a_ e X.env)]))(U: ~~~(cy (.Name x p) "append" X.env (a_ (.Name x p) X.env)=a_ (.Name x p) X.env))(c: ~~~(((cu q (au [e] X.env)).all (λx=> !x.1)&&(ik q (fN [] X.env)).all (λx=>x.1.isSome)&&aF ([e].length+([]:List ie).length+(if ([]:List ie).isEmpty then 0 else 1)<30))=ag))(I: ~~~((cu q (au [] X.env)).any (·.1)=ae))(S: ~~~((apos.endLine==q.line)=ag))(g: ~~~(dJ (.Call (.Attribute (.Name x p) "append" apos) [e] [] q) af pos.line X.env=cO ae)):
  DS K W ro X OL O O (.Expr (.Call (.Attribute (.Name x p) "append" apos) [e] [] q) pos) (wZ O i f):=λF0 H0=>by
 subst u;exact PS.imp (xm (pe_bm gp gB iy Ag (pv i s o k l) (nD j rL b) U c S b I) g) λ_ σ _=>by
   intro t;obtain⟨FB,F,ρ,r,p⟩:=t;cases Y:x4 ρ i with
   |error e=>have:=Ai Y;subst this;exact p.stuck (by unfold wZ;rw[Y];rfl)|ok ds=>
    obtain⟨a,xs,e2,n,z⟩:=r.Mo m (wU Y);refine⟨.ref a,e2,⟨rfl,_,_,rfl,SqL.of n⟩,?_⟩
    refine eu r.xD r.st.fh (λe j=>p.vk r.st (by unfold wZ;rw[Y];rw[j];rfl)) λd k v F1 H1 s1 q=>?_;have w:wZ O i f ρ=if ds.length<ay then put ρ i (ds++[d])else .error .stuck:=by unfold wZ;rw[Y];rw[k];rfl
    rw[w]at p;by_cases h:ds.length<ay
    .rw[aC h]at p;exact⟨a,xs,v,rfl,rfl,s1.hh _ _ n,by rw[z.length];exact h,p σ F1 _ ((r.step s1).write m (wU Y) e2 (ei.append (z.mono s1.ff) ⟨v,[],rfl,q,rfl⟩))⟩
    .rw[aA h]at p;exact p.stuck rfl
end
section
variable{W:qE}{own:Bool}
def OpR.imp{f:aj->aj->jo aj}{r r':R2}(h:OpR X f r)(q:∀x y H Q,r' x y H Q->r x y H Q):OpR X f r':=λA1 s σ H x y v u Q I U S z=>h A1 s σ H x y v u Q I U S (q x y H Q z)
def UnR.imp{f:aj->jo aj}{r r':V->Hp->VK->Prop}(h:UnR X f r)(q:∀x H Q,r' x H Q->r x H Q):UnR X f r':=λA1 s σ H x v Q I S z=>h A1 s σ H x v Q I S (q x H Q z)
def sH.imp{f:aj}{r r':bi->Hp->VK->Prop}(h:sH X f r)(q:∀x H Q,r' x H Q->r x H Q):sH X f r':=λA1 s σ H x v Q I S z=>h A1 s σ H x v Q I S (q x H Q z)
def IxR.imp{r r':R2}(h:IxR X r)(q:∀x y H Q,r' x y H Q->r x y H Q):IxR X r':=λS U A1 s σ H x y v u Q I a Y z e=>h S U A1 s σ H x y v u Q I a Y (q x y H Q z) e
def eQ.stuck{Q:VK}{P:Prop}(p:eQ K W own F H (stk) Q):P:=(W.ns p).elim
theorem eQ.int{F H:Hp}{Q:VK}{i:Int}(p:eQ K W own F H (.ok (.int i)) Q)(s:eH F H):Q (.int i) H:=p _ F H (A2.refl s) (by cases own<;>rfl)
theorem eQ.bl{F H:Hp}{Q:VK}{b:Bool}(p:eQ K W own F H (.ok (.bl b)) Q)(s:eH F H):Q (.bl b) H:=p _ F H (A2.refl s) (by cases own<;>rfl)
theorem eQ.tup{F H:Hp}{Q:VK}{ds:a9}{xs:bi}{a:av}(p:eQ K W own F H (.ok (.tup ds)) Q)(s:eH F H)(q:ei K F ds xs)(I:H a=af):Q (.ref a) (upd H a (.tup xs)):=
 p _ _ _ (A2.lay s I) (by
  have:i1 K _ (.tup ds) _:=⟨a,xs,rfl,SqT.of dy,q.mono (eH.upd (s.free I))⟩
  cases own<;>exact this)
def eQ.same{Q:VK}(p:eQ K W own F H (.ok (.tup ds)) Q)(s:eH F H)(q:i1 K F (.tup ds) v):Q v H:=p _ F H (A2.refl s) (by cases own<;>exact q)
theorem eQ.lst{F H:Hp}{Q:VK}{ds:a9}{xs:bi}{a:av}(p:eQ K W ag F H (.ok (.lst ds)) Q)(s:eH F H)(q:ei K F ds xs)(I:H a=af):Q (.ref a) (upd H a (.lst xs)):=
 p _ F _ (A2.grow s I) ⟨a,xs,rfl,dy,s.free I,I,q⟩
def uz{g:A0->A0->M A0}(U:∀a b,(∃i j,a=.int i/\b=.int j)\/g a b=stk){x:V}{Q:VK}(h:rD2 K W own g x y H Q):∃F i j,eH F H/\x=.int i/\y=.int j/\eQ K W own F H (g (.int i) (.int j)) Q:=by
 obtain⟨F,a,b,s,S,I,p⟩:=h;rcases U a b with⟨i,j,rfl,rfl⟩|e
 .exact⟨F,i,j,s,S,I,p⟩
 .rw[e]at p;exact p.stuck
def Dn:Op2 K W own X (dO .Sub) Lq:=op_sub.imp λx y H Q h=>by obtain⟨F,i,j,s,e1,e2,p⟩:=uz (λa b=>by cases a<;>cases b<;>first|exact .inr rfl|simp) h;exact⟨i,j,e1,e2,p.int s⟩
def xp:Op2 K W own X (dO .Mult) Dt:=op_mul.imp λx y H Q h=>by
 obtain⟨F,i,j,s,e1,e2,p⟩:=uz (λa b=>by cases a<;>cases b<;>first|exact .inr rfl|simp) h;have p':eQ K W own F H (if (rW i||rW j)=ag then .ok _ else stk) Q:=p;by_cases I:(rW i||rW j)=ag
 .rw[aC I]at p';refine⟨i,j,e1,e2,?_,p'.int s⟩
  unfold rW at I;simp at I;exact I
 .rw[aA I]at p';exact p'.stuck
theorem Mc:OpR X (dO .FloorDiv) (rI (λ_ j=>0<j/\j<18446744073709551616) λi j=>.int (i/j)):=opI λi j _ _ _ _ _ I q=>by
 obtain⟨U,S⟩:=I;exact floordiv_int ac (by rw[Int.fdiv_eq_ediv_of_nonneg i ac];exact q) (.inl (PyProof.noPylong_of_log2 (by
   have a:j.natAbs<2^64:=ac
   have b:=(Nat.log2_lt ac).mpr a
   lia)))
def rn:Op2 K W own X (dO .FloorDiv) tW:=Mc.imp λx y H Q h=>by
 obtain⟨F,i,j,s,e1,e2,p⟩:=uz (λa b=>by cases a<;>cases b<;>first|exact .inr rfl|simp) h;have p':eQ K W own F H (if (aF _&&aF _)=ag then .ok _ else stk) Q:=p;by_cases I:(aF (0<j)&&aF (j<18446744073709551616))=ag
 .rw[aC I]at p';simp at I;exact⟨i,j,e1,e2,I,p'.int s⟩
 .rw[aA I]at p';exact p'.stuck
def sG:Op2 K W own X (dO .Mod) xq:=op_mod.imp λx y H Q h=>by
 obtain⟨F,i,j,s,e1,e2,p⟩:=uz (λa b=>by cases a<;>cases b<;>first|exact .inr rfl|simp) h;have p':eQ K W own F H (if 0<j then .ok _ else stk) Q:=p;by_cases I:0<j
 .rw[aC I]at p';exact⟨i,j,e1,e2,I,p'.int s⟩
 .rw[aA I]at p';exact p'.stuck
def Kf:Op2 K W own X (dO .Pow) powD:=op_pow.imp λx y H Q h=>by
 obtain⟨F,i,j,s,e1,e2,p⟩:=uz (λa b=>by cases a<;>cases b<;>first|exact .inr rfl|simp) h;have p':eQ K W own F H (if (aF _&&aF _&&aF _)=ag then .ok _ else stk) Q:=p;by_cases I:(aF (0<=j)&&aF (j<=1000000)&&aF (i.natAbs<2^64))=ag
 .rw[aC I]at p';simp at I;exact⟨i,j,e1,e2,⟨I.1.1,I.1.2,I.2⟩,p'.int s⟩
 .rw[aA I]at p';exact p'.stuck
def Dp:UnR X (pO .USub) (rD1 K W own IT):=un_neg.imp λx H Q h=>by
 obtain⟨F,a,s,I,p⟩:=h;cases a with
 |int i=>exact⟨i,I,eQ.int p s⟩|_=>exact eQ.stuck p
def o_lt:Op2 K W own X (bZ .Lt) ltD:=op_lt.imp λx y H Q h=>by obtain⟨F,i,j,s,e1,e2,p⟩:=uz (λa b=>by cases a<;>cases b<;>first|exact .inr rfl|simp) h;exact⟨i,j,e1,e2,p.bl s⟩
def o_le:Op2 K W own X (bZ .LtE) leD:=op_le.imp λx y H Q h=>by obtain⟨F,i,j,s,e1,e2,p⟩:=uz (λa b=>by cases a<;>cases b<;>first|exact .inr rfl|simp) h;exact⟨i,j,e1,e2,p.bl s⟩
def o_gt:Op2 K W own X (bZ .Gt) gtD:=op_gt.imp λx y H Q h=>by obtain⟨F,i,j,s,e1,e2,p⟩:=uz (λa b=>by cases a<;>cases b<;>first|exact .inr rfl|simp) h;exact⟨i,j,e1,e2,p.bl s⟩
theorem op_catL:OpR X (dO .Add) (λx y H Q=>∃l b xs Y,x=.ref l/\y=.ref b/\SqL X.K H l xs/\SqL X.K H b Y/\xs.length+Y.length<=ay/\∀p,H p=af->Q (.ref p) (upd H p (.lst (xs++Y)))):=by
 intro A1 s σ H x y v u Q I t o h;obtain⟨l,b,xs,Y,rfl,rfl,B,C,J,q⟩:=h;cases t;cases o;obtain⟨its,r,p1,K⟩:=I.list B;obtain⟨S,g,p2,w⟩:=I.list C;have G:=r.length;have F:=g.length;obtain⟨⟨E,D,j,m⟩,i,A,n,z⟩:=id p1.isList;obtain⟨⟨k,e,f,a⟩,U,d,n2,c⟩:=id p2.isList;subst A z d c;refine lE ⟨_,i,rfl⟩ ⟨_,U,rfl⟩ noFill_list_add seq_list_add PySem.F.slot_list_add PySem.F.entry_list_add (PySem.F.args_list_add_2 _ _) (list_addW l b its.toArray S.toArray n n2 D e m a a7) ⟨i,U,?_⟩;have ea:its.toArray++S.toArray=(its++S).toArray:=by simp
 rw[ea];exact⟨.ref _,_,I.lnew (r.append g) a7,rfl,q _ I.fresh⟩
def op_cat3:OpR X (dO .Add) (λx y H Q=>∃a b xs ys,x=.ref a/\y=.ref b/\SqT X.K H a xs/\SqT X.K H b ys/\xs.length+ys.length<=ay/\(xs=[]->Q (.ref b) H)/\(ys=[]->Q (.ref a) H)/\∀p,H p=af->Q (.ref p) (upd H p (.tup (xs++ys)))):=by
 intro A1 s σ H x y v u Q I j i h;obtain⟨a,b,xs,ys,rfl,rfl,o,m,A,q1,q2,z⟩:=h;by_cases k:xs=[]
 .subst k;cases j;cases i;obtain⟨its,w,p1,_⟩:=I.tuple o;obtain⟨S,G,p2,_⟩:=I.tuple m;cases w;obtain⟨⟨F,E,q,t⟩,l,D,n,C⟩:=id p1;obtain⟨⟨r,f,g,Y⟩,U,d,n2,c⟩:=id p2;subst D C d c;exact lE ⟨_,l,rfl⟩ ⟨_,U,rfl⟩ md nq i5 iK (iz _ _)
   (tuple_addW0 a b #[] S.toArray n n2 E f t Y rfl) ⟨l,U,⟨.ref b,H,I,rfl,q1 rfl⟩⟩
 .exact op_catT A1 s σ H _ _ v u Q I j i ⟨a,b,xs,ys,rfl,rfl,o,m,k,A,λe=>q2 e,λ_ p B=>z p B⟩
def qY(k: ~~~(X.K=K)):Op2 K W ag X (dO .Add) vr:=by
 subst k;refine(op_add.or (op_catL.or op_cat3)).imp λx y H Q h=>?_;obtain⟨F,a,b,s,f,d,p⟩:=h;cases a with
 |int i=>
  cases b with
  |int j=>exact .inl ⟨i,j,f,d,p.int s⟩|_=>exact eQ.stuck p
 |lst ds=>
  cases b with
  |lst es=>
   obtain⟨a,xs,e1,c,S⟩:=f;obtain⟨b,ys,e2,Y,I⟩:=d;have p':eQ X.K W ag F H (if ds.length+es.length<=ay then .ok _ else stk) Q:=p;by_cases U:ds.length+es.length<=ay
   .rw[aC U]at p';exact .inr (.inl ⟨a,b,xs,ys,e1,e2,s.lst c,s.lst Y,by rw[S.length,I.length];exact U,λl g=>p'.lst s (S.append I) g⟩)
   .rw[aA U]at p';exact p'.stuck
  |_=>exact eQ.stuck p
 |tup ds=>
  cases b with
  |tup es=>
   obtain⟨a,xs,e1,c,S⟩:=f;obtain⟨b,ys,e2,Y,I⟩:=d;have p':eQ X.K W ag F H (if ds.length+es.length<=ay then .ok _ else stk) Q:=p;by_cases U:ds.length+es.length<=ay
   .rw[aC U]at p';refine .inr (.inr ⟨a,b,xs,ys,e1,e2,s.tup c,s.tup Y,by rw[S.length,I.length];exact U,λe=>?_,λe=>?_,λl g=>p'.tup s (S.append I) g⟩)
    .have z:=by have:=S.length;rw[e]at this;exact eS.mp this.symm
     subst z;exact p'.same s ⟨b,ys,rfl,Y,I⟩
    .have z:=by have:=I.length;rw[e]at this;exact eS.mp this.symm
     subst z;rw[b8]at p';exact p'.same s ⟨a,xs,rfl,c,S⟩
   .rw[aA U]at p';exact p'.stuck
  |_=>exact eQ.stuck p
 |_=>exact eQ.stuck p
def o_notN:Op2 K W own X (bZ .IsNot) Hj:=op_notN.imp λx y H Q h=>by
 obtain⟨F,a,b,s,I,S,p⟩:=h;have key:∀{k:Bool},Hj a b=.ok (.bl k)->b=.non->((!decide _)=k)->y=V.non/\Q (.bl (!decide (x=V.non))) H:=λ{k} e1 e2 e3=>by subst e2;rw[e1]at p;rw[e3];exact⟨S,p.bl s⟩
 cases b with
 |non=>
  cases a with
  |non=>exact key rfl rfl (by rw[show x=.non from I];rfl)|bl k=>exact key rfl rfl (by rw[show x=.bl k from I];rfl)|int k=>exact key rfl rfl (by rw[show x=.int k from I];rfl)|tup ds=>obtain⟨l,xs,e,_⟩:=I;exact key rfl rfl (by rw[e];rfl)
  |lst ds=>obtain⟨l,xs,e,_⟩:=I;exact key rfl rfl (by rw[e];rfl)
  |ins C fs=>obtain⟨l,dx,xs,e,_⟩:=I;exact key rfl rfl (by rw[e];rfl)
  |dic ks=>obtain⟨l,xs,e,_⟩:=I;exact key rfl rfl (by rw[e];rfl)
  |dil ks=>obtain⟨l,xs,e,_⟩:=I;exact key rfl rfl (by rw[e];rfl)
 |_=>cases a<;>exact eQ.stuck p
theorem MU{Q:VK}{i:Int}(p:eQ K W ae F H (wW ds i) Q)(s:eH F H)(r:ei K F ds xs):∃v,atI xs i=aa v/\Q v H:=by
 unfold wW at p;cases e:atI ds i with
 |none=>rw[e]at p;exact eQ.stuck p|some d=>
  rw[e]at p;unfold atI at e;cases I:ixN ds.length i with
  |none=>simp_all|some j=>
   rw[I]at e;obtain⟨v,e1,q⟩:=r.get (show ds[j]?=aa d from e);refine⟨v,?_,p v F H (A2.refl s) q⟩
   unfold atI;rw[r.length,I];exact e1
def q9(c: ~~~(X.K=K)):IxR X (rD2 K W ae ixD):=by
 subst c;refine ix_seq.imp λx y H Q h=>?_;obtain⟨F,a,b,s,Y,U,p⟩:=h;cases a with
 |lst ds=>
  cases b with
  |int i=>obtain⟨a,xs,e1,I,S⟩:=Y;obtain⟨v,e2,q⟩:=MU p s S;exact .inl ⟨a,xs,i,v,e1,U,s.lst I,e2,q⟩
  |_=>exact eQ.stuck p
 |tup ds=>
  cases b with
  |int i=>obtain⟨a,xs,e1,I,S⟩:=Y;obtain⟨v,e2,q⟩:=MU p s S;exact .inr ⟨a,xs,i,v,e1,U,s.tup I,e2,q⟩
  |_=>exact eQ.stuck p
 |_=>exact eQ.stuck p
def tI(I: ~~~(X.K=K)):B9 K W own X (.builtin "len") x5:=by
 subst I;refine wK.imp λxs H Q h=>?_;obtain⟨F,ds,s,q,p⟩:=h;cases ds with
 |nil=>exact eQ.stuck p|cons d ds=>
  cases ds with
  |cons _ _=>cases d<;>exact eQ.stuck p
  |nil=>
   obtain⟨v,vs,e,q,e2⟩:=q;cases d with
   |lst es=>
    obtain⟨a,ys,e1,t,r⟩:=q;refine⟨a,ys,by rw[e,e1,show vs=[]from e2],.inl (s.lst t),?_⟩
    rw[r.length];exact eQ.int p s
   |tup es=>
    obtain⟨a,ys,e1,t,r⟩:=q;refine⟨a,ys,by rw[e,e1,show vs=[]from e2],.inr (s.tup t),?_⟩
    rw[r.length];exact eQ.int p s
   |_=>exact eQ.stuck p
end
section
variable{W:qE}{own:Bool}
def zZ{g:a9->M A0}(I:∀ds,(∃d,ds=[d])\/g ds=stk){Q:VK}(h:rDL K W own g xs H Q):∃F d x,eH F H/\xs=[x]/\i1 K F d x/\eQ K W own F H (g [d]) Q:=by
 obtain⟨F,ds,s,q,p⟩:=h;rcases I ds with⟨d,rfl⟩|e
 .obtain⟨v,vs,e,q1,e2⟩:=q;exact⟨F,d,v,s,by rw[e,show vs=[]from e2],q1,p⟩
 .rw[e]at p;exact p.stuck
def Ld{g:a9->M A0}(S:∀ds,(∃d,ds=[d])\/(∃d e,ds=[d,e])\/g ds=stk){Q:VK}(h:rDL K W own g xs H Q):(∃F d x,eH F H/\xs=[x]/\i1 K F d x/\eQ K W own F H (g [d]) Q)\/∃F d e x y,eH F H/\xs=[x,y]/\i1 K F d x/\i1 K F e y/\eQ K W own F H (g [d,e]) Q:=by
 obtain⟨F,ds,s,q,p⟩:=h;rcases S ds with⟨d,rfl⟩|⟨d,e,rfl⟩|e
 .obtain⟨v,vs,e,q1,e2⟩:=q;exact .inl ⟨F,d,v,s,by rw[e,show vs=[]from e2],q1,p⟩
 .obtain⟨v,vs,e1,q1,w,I,e2,q2,e3⟩:=q;exact .inr ⟨F,d,e,v,w,s,by rw[e1,e2,show I=[]from e3],q1,q2,p⟩
 .rw[e]at p;exact p.stuck
theorem Cv{F:Hp}:∀{ds:a9} {xs:bi} {I:List Bool},ei K F ds xs->tE ds=.ok I->xs=I.map V.bl
 |[],_,_,q,e=>by cases e;exact q|d::ds,_,I,⟨v,vs,e1,q,r⟩,e=>by
  cases d with
  |bl b=>
   cases e2:tE ds with
   |error x=>simp_all[tE,]|ok cs=>simp[tE,e2]at e;cases e;rw[e1,show v=.bl b from q,Cv r e2];rfl
  |_=>cases e
theorem Cw:∀{ds:a9} {e:Err},tE ds=.error e->e=.stuck
 |[],_,h=>by cases h|d::ds,e,h=>by
  cases d with
  |bl b=>
   cases e2:tE ds with
   |error x=>simp[tE,e2]at h;cases h;exact Cw e2|ok cs=>simp_all[tE,]
  |_=>cases h;rfl
theorem ry{F:Hp}:∀{ds:a9} {xs:bi} {I:a8},ei K F ds xs->o4 ds=.ok I->xs=I.map V.int
 |[],_,_,q,e=>by cases e;exact q|d::ds,_,I,⟨v,vs,e1,q,r⟩,e=>by
  cases d with
  |int b=>
   cases e2:o4 ds with
   |error x=>simp_all[o4,]|ok cs=>simp[o4,e2]at e;cases e;rw[e1,show v=.int b from q,ry r e2];rfl
  |_=>cases e
theorem tm:∀{ds:a9} {e:Err},o4 ds=.error e->e=.stuck
 |[],_,h=>by cases h|d::ds,e,h=>by
  cases d with
  |int b=>
   cases e2:o4 ds with
   |error x=>simp[o4,e2]at h;cases h;exact tm e2|ok cs=>simp_all[o4,]
  |_=>cases h;rfl
def NA(S:X.calm=ag)(U: ~~~(X.K=K)):B9 K W own X (.builtin "all") allD:=by
 subst U;refine(call_all S).imp λxs H Q h=>?_;obtain⟨F,d,x,s,e,q,p⟩:=zZ (λds=>by match ds with|[d]=>simp|[]=>exact .inr rfl|a::b::c=>exact .inr (by cases a<;>rfl)) h;cases d with
 |lst ds=>
  obtain⟨a,ys,e1,t,r⟩:=q;have p':eQ X.K W own F H ((tE ds).bind λI=>.ok _) Q:=p;cases eb:tE ds with
  |error z=>rw[eb]at p';have:=Cw eb;subst this;exact eQ.stuck p'|ok I=>
   rw[eb]at p';refine⟨a,I,by rw[e,e1],?_,eQ.bl p' s⟩
   rw[<-Cv r eb];exact s.lst t
 |_=>exact eQ.stuck p
def Gm(S: ~~~(X.K=K)):B9 K W ag X (.type "list") vC:=by
 subst S;refine Gj.imp λxs H Q h=>?_;obtain⟨F,d,x,s,e,q,p⟩:=zZ (λds=>by match ds with|[d]=>simp|[]=>exact .inr rfl|a::b::c=>exact .inr (by cases a<;>rfl)) h;cases d with
 |lst ds=>obtain⟨a,ys,e1,t,r⟩:=q;exact⟨a,ys,by rw[e,e1],.inl (s.lst t),λl I=>eQ.lst p s r I⟩
 |tup ds=>obtain⟨a,ys,e1,t,r⟩:=q;exact⟨a,ys,by rw[e,e1],.inr (s.tup t),λl I=>eQ.lst p s r I⟩
 |_=>exact eQ.stuck p
def uU(S: ~~~(X.K=K)):B9 K W own X (.type "tuple") u6:=by
 subst S;refine E5.imp λxs H Q h=>?_;obtain⟨F,d,x,s,e,q,p⟩:=zZ (λds=>by match ds with|[d]=>simp|[]=>exact .inr rfl|a::b::c=>exact .inr (by cases a<;>rfl)) h;cases d with
 |lst ds=>obtain⟨a,ys,e1,t,r⟩:=q;exact⟨a,ys,by rw[e,e1],.inl ⟨s.lst t,λl I=>eQ.tup p s r I⟩⟩
 |tup ds=>obtain⟨a,ys,e1,t,r⟩:=q;subst e1;exact⟨a,ys,e,.inr ⟨s.tup t,eQ.same p s ⟨a,ys,rfl,t,r⟩⟩⟩
 |_=>exact eQ.stuck p
theorem fold_max:∀(is:a8) (i:Int),(is.foldl u0 i=i\/is.foldl u0 i∈is)/\i<=is.foldl u0 i/\∀a∈is,a<=is.foldl u0 i
 |[],i=>⟨.inl rfl,iV _,λ_ h=>nomatch h⟩
 |j::is,i=>by
  obtain⟨h1,S,I⟩:=fold_max is (u0 i j);have z:(u0 i j=i\/u0 i j=j)/\i<=u0 i j/\j<=u0 i j:=by unfold u0;split<;>(refine⟨?_,?_,?_⟩<;>first|lia)
  grind
theorem fold_min:∀(is:a8) (i:Int),(is.foldl IW i=i\/is.foldl IW i∈is)/\is.foldl IW i<=i/\∀a∈is,is.foldl IW i<=a
 |[],i=>⟨.inl rfl,iV _,λ_ h=>nomatch h⟩
 |j::is,i=>by
  obtain⟨h1,S,I⟩:=fold_min is (IW i j);have z:(IW i j=i\/IW i j=j)/\IW i j<=i/\IW i j<=j:=by unfold IW;split<;>(refine⟨?_,?_,?_⟩<;>first|lia)
  grind
theorem Hx{i m:Int}(h1:m∈i::is)(I:∀a∈i::is,a<=m):is.foldl u0 i=m:=by
 obtain⟨U,g2,S⟩:=fold_max is i
 grind
theorem Hw{i m:Int}(h1:m∈i::is)(I:∀a∈i::is,m<=a):is.foldl IW i=m:=by
 obtain⟨U,g2,S⟩:=fold_min is i
 grind
theorem Nx(l:X.calm=ag):sH X (.builtin "max") (λxs H Q=>∃a i is,xs=[.ref a]/\SqL X.K H a ((i::is).map V.int)/\Q (.int (is.foldl u0 i)) H):=by
 intro A1 s σ H xs us Q I r h;obtain⟨a,i,is,rfl,f,q⟩:=h;obtain⟨u,rfl,c⟩:=r.one;cases c;obtain⟨its,b,p,x⟩:=I.list f;have hi:=intsAre_of b;obtain⟨xs,e⟩:=hi.allInts.items;have S:i::is=xs.toList.map (·.1):=by rw[<-hi.numsOf,<-nt,<-e]
 have hsz:0<xs.size:=by
  have n:=dI gC S;simp at n
  lia
 have U:=p.isList;rw[e]at U;refine max_intList (I.ok.hd l) U hsz λv h' w d g=>?_;obtain⟨t,rfl⟩:=oH d;obtain⟨h1,o⟩:=argBest_gt (mS xs) (xs.size-1);refine⟨.int _,H,I.kept g,⟨t,rfl⟩,?_⟩
 have:=Hx (m:=mS xs (argBest (λi j=>aF (mS xs i>mS xs j)) (xs.size-1))) (by
   rw[S,oG];exact getD_mem (by rw[az,bQ];lia)) (λa Y=>by
   rw[S]at Y;obtain⟨j,k,rfl⟩:=mem_getD Y;rw[az,bQ]at k;rw[<-oG];exact o j ac)
 rw[<-this];exact q
theorem Nv(l:X.calm=ag):sH X (.builtin "min") (λxs H Q=>∃a i is,xs=[.ref a]/\SqL X.K H a ((i::is).map V.int)/\Q (.int (is.foldl IW i)) H):=by
 intro A1 s σ H xs us Q I r h;obtain⟨a,i,is,rfl,f,q⟩:=h;obtain⟨u,rfl,c⟩:=r.one;cases c;obtain⟨its,b,p,x⟩:=I.list f;have hi:=intsAre_of b;obtain⟨xs,e⟩:=hi.allInts.items;have S:i::is=xs.toList.map (·.1):=by rw[<-hi.numsOf,<-nt,<-e]
 have hsz:0<xs.size:=by
  have n:=dI gC S;simp at n
  lia
 have U:=p.isList;rw[e]at U;refine min_intList (I.ok.hd l) U hsz λv h' w d g=>?_;obtain⟨t,rfl⟩:=oH d;obtain⟨h1,o⟩:=argBest_lt (mS xs) (xs.size-1);refine⟨.int _,H,I.kept g,⟨t,rfl⟩,?_⟩
 have:=Hw (m:=mS xs (argBest (λi j=>aF (mS xs i<mS xs j)) (xs.size-1))) (by
   rw[S,oG];exact getD_mem (by rw[az,bQ];lia)) (λa Y=>by
   rw[S]at Y;obtain⟨j,k,rfl⟩:=mem_getD Y;rw[az,bQ]at k;rw[<-oG];exact o j ac)
 simp_all
def HN(I:X.calm=ag)(U: ~~~(X.K=K)):B9 K W own X (.builtin "max") maxD:=by
 subst U;refine((Ny I).or (Nx I)).imp λxs H Q h=>?_;rcases Ld (λds=>by match ds with|[d]=>exact .inl ⟨d,rfl⟩|[d,e]=>exact .inr (.inl ⟨d,e,rfl⟩)|[]=>exact .inr (.inr rfl)|a::b::c::d=>exact .inr (.inr (by cases a<;>cases b<;>rfl))) h with⟨F,d,x,s,e,q,p⟩|⟨F,d,S,x,y,s,e,q,q2,p⟩
 .cases d with
  |lst ds=>
   obtain⟨a,ys,e1,t,r⟩:=q;have p':eQ X.K W own F H ((o4 ds).bind maxL) Q:=p;cases eb:o4 ds with
   |error z=>rw[eb]at p';have:=tm eb;subst this;exact eQ.stuck p'|ok is=>
    rw[eb]at p';cases is with
    |nil=>exact eQ.stuck p'|cons i is=>refine .inr ⟨a,i,is,by rw[e,e1],?_,eQ.int p' s⟩;rw[<-ry r eb];exact s.lst t
  |_=>exact eQ.stuck p
 .cases d with
  |int i=>
   cases S with
   |int j=>exact .inl ⟨i,j,by rw[e,show x=.int i from q,show y=.int j from q2],eQ.int p s⟩|_=>exact eQ.stuck p
  |_=>cases S<;>exact eQ.stuck p
def c_min(I:X.calm=ag)(U: ~~~(X.K=K)):B9 K W own X (.builtin "min") minD:=by
 subst U;refine((Nw I).or (Nv I)).imp λxs H Q h=>?_;rcases Ld (λds=>by match ds with|[d]=>exact .inl ⟨d,rfl⟩|[d,e]=>exact .inr (.inl ⟨d,e,rfl⟩)|[]=>exact .inr (.inr rfl)|a::b::c::d=>exact .inr (.inr (by cases a<;>cases b<;>rfl))) h with⟨F,d,x,s,e,q,p⟩|⟨F,d,S,x,y,s,e,q,q2,p⟩
 .cases d with
  |lst ds=>
   obtain⟨a,ys,e1,t,r⟩:=q;have p':eQ X.K W own F H ((o4 ds).bind minL) Q:=p;cases eb:o4 ds with
   |error z=>rw[eb]at p';have:=tm eb;subst this;exact eQ.stuck p'|ok is=>
    rw[eb]at p';cases is with
    |nil=>exact eQ.stuck p'|cons i is=>refine .inr ⟨a,i,is,by rw[e,e1],?_,eQ.int p' s⟩;rw[<-ry r eb];exact s.lst t
  |_=>exact eQ.stuck p
 .cases d with
  |int i=>
   cases S with
   |int j=>exact .inl ⟨i,j,by rw[e,show x=.int i from q,show y=.int j from q2],eQ.int p s⟩|_=>exact eQ.stuck p
  |_=>cases S<;>exact eQ.stuck p
end
theorem SqL.inj{A1:Pn}{σ:St}{H:Hp}{s:ao}{a:av}{xs ys:bi}(I:A3 X A1 σ H s)(h:SqL X.K H a xs)(h':SqL X.K H a ys):xs=ys:=by
 obtain⟨g,b,p1,_⟩:=I.list h;obtain⟨f,Y,p2,_⟩:=I.list h';obtain⟨o,n,e,_,_,d⟩:=p1;obtain⟨o',c,S,_,_,U⟩:=p2;rw[e]at S;cases S;rw[d]at U;injection U with d1 _
 have:=by simpa using dI kq d1
 subst this;exact b.inj Y
theorem SqT.inj{A1:Pn}{σ:St}{H:Hp}{s:ao}{a:av}{xs ys:bi}(I:A3 X A1 σ H s)(h:SqT X.K H a xs)(h':SqT X.K H a ys):xs=ys:=by
 obtain⟨g,b,p1,_⟩:=I.tuple h;obtain⟨f,Y,p2,_⟩:=I.tuple h';obtain⟨o,e,_,n,d⟩:=p1;obtain⟨o',S,_,c,U⟩:=p2;rw[e]at S;cases S;rw[d]at U;injection U with d1 _
 have:=by simpa using dI kq d1
 subst this;exact b.inj Y
theorem ei.all_eq{F:Hp}(e:Nat->Bool):∀{ds es:a9},ds.length=es.length->(∀(j:Nat) a b,ds[j]?=aa a->es[j]?=aa b->e j=eqD a b)->(aX ds.length).all e=z3 ds es:=by
 intro ds
 induction ds generalizing e with
 |nil=>intro es h _;cases es with
  |nil=>rfl|cons _ _=>simp at h
 |cons d ds I=>
  intro es h q;cases es with
  |nil=>simp at h|cons b es=>simp_all[ji,z3]
theorem zk:∀{ds es:a9},ds.length≠es.length->z3 ds es=ae
 |[],[],h=>bu rfl h|[],_::_,_=>rfl|_::_,[],_=>rfl|d::ds,e::es,h=>by rw[z3,zk (λz=>h (by simp[z])),pD]
theorem Jn(e:Nat->Bool):∀{ds es:a9},(∀(j:Nat) a b,ds[j]?=aa a->es[j]?=aa b->e j=eqD a b)->((aX (min ds.length es.length)).all e&&ds.length==es.length)=z3 ds es:=by
 intro ds es q;by_cases I:ds.length=es.length
 .have e1:min ds.length es.length=ds.length:=ac
  rw[e1,ei.all_eq (F:=λ_=>af) e I q,I,beq_self_eq_true,Bool.and_true]
 simp_all[zk]
mutual
theorem zl:∀{d:A0} {n:Nat},A8 d n=ag->eqD d d=ag
 |.non,_,_=>rfl|.bl b,_,_=>by simp[eqD]|.int i,_,_=>by simp[eqD]|.tup ds,0,h=>by simp_all[A8]|.tup ds,n+1,h=>by simp only[A8]at h;simp only[eqD];exact Az h|.lst ds,0,h=>by simp_all[A8]|.lst ds,n+1,h=>by simp only[A8]at h;simp only[eqD];exact Az h|.ins _ _,_,h=>by simp_all[A8]|.dic _,_,h=>by simp_all[A8]|.dil _,_,h=>by simp_all[A8]
theorem Az:∀{ds:a9} {n:Nat},vX ds n=ag->z3 ds ds=ag
 |[],_,_=>rfl|d::ds,n,h=>by simp only[vX,aU]at h;simp only[z3,zl h.1,Az h.2,Bool.and_self]
end
theorem Dm:∀{ds:a9} {n i:Nat} {d:A0},vX ds n=ag->ds[i]?=aa d->A8 d n=ag
 |[],_,_,_,_,h=>by simp at h|_::_,_,0,_,h,e=>by simp_all[vX]|_::_,_,i+1,_,h,e=>by simp[vX,aU]at h;exact Dm h.2 (by simpa using e)
def x8(ds es:a9)(j:Nat):Bool:=match ds[j]?,es[j]? with
 |some a,aa b=>eqD a b|_,_=>ag
inductive Sh(s:ao):A0->aj->Prop
 |non:Sh s .non .none
 |bl (b:Bool):Sh s (.bl b) (.bool b)
 |int (i:Int) (t:Nat):Sh s (.int i) (.int i t)
 |tup {ds:List A0} {l:av} {is:Array aj} (p:s.heap.IsTuple l is):Sh s (.tup ds) (.ref l)
 |lst {ds:List A0} {l:av} {is:Array aj} (p:s.heap.IsList l is):Sh s (.lst ds) (.ref l)
noncomputable def sq:A0->A0->Bool
 |.tup _,.tup _=>ag|.lst _,.lst _=>ag|_,_=>ae
def Ew{a b:A0}(h:sq a b=ag):(∃ds es,a=.tup ds/\b=.tup es)\/∃ds es,a=.lst ds/\b=.lst es:=by
 unfold sq at h;split at h
 .exact .inl ⟨_,_,rfl,rfl⟩
 .exact .inr ⟨_,_,rfl,rfl⟩
 .cases h
def eqAt_U{s:ao}{a b:A0}{v:aj}(Y:Sh s a u)(U:Sh s b v)(I:A.units<b_):sq a b=ag\/gv A s u v (eqD a b):=match Y,U with
 |.non,.non=>.inr (.same _)|.non,.bl b=>.inr (.none_bool b)|.non,.int b S=>.inr (.none_int b S)|.non,.tup q=>.inr (.none_tuple q I)|.non,.lst q=>.inr (.none_list q I)|.bl a,.non=>.inr (.bool_none a)|.bl a,.bl b=>.inr (.bool_bool a b)|.bl a,.int b S=>.inr (.bool_int a b S)|.bl a,.tup q=>.inr (.bool_tuple a q I)|.bl a,.lst q=>.inr (.bool_list a q I)|.int a t,.non=>.inr (.int_none a t)|.int a t,.bl b=>.inr (.int_bool a t b)|.int a t,.int b S=>.inr (.int_int a t b S)|.int a t,.tup q=>.inr (.int_tuple a t q I)|.int a t,.lst q=>.inr (.int_list a t q I)|.tup p,.non=>.inr (.tuple_none p I)|.tup p,.bl b=>.inr (.tuple_bool b p I)|.tup p,.int b S=>.inr (.tuple_int b S p I)|.tup _,.tup _=>.inl rfl|.tup p,.lst q=>.inr (.tuple_list p q I)|.lst p,.non=>.inr (.list_none p I)|.lst p,.bl b=>.inr (.list_bool b p I)|.lst p,.int b S=>.inr (.list_int b S p I)|.lst p,.tup q=>.inr (.list_tuple p q I)|.lst _,.lst _=>.inl rfl
def rcAt_U{s:ao}{a b:A0}{v:aj}(Y:Sh s a u)(U:Sh s b v)(I:A.units<b_):sq a b=ag\/nE A s u v (eqD a b):=match Y,U with
 |.non,.non=>.inr (.none_none)|.non,.bl b=>.inr (.none_bool b)|.non,.int b S=>.inr (.none_int b S)|.non,.tup q=>.inr (.none_tuple q I)|.non,.lst q=>.inr (.none_list q I)|.bl a,.non=>.inr (.bool_none a)|.bl a,.bl b=>.inr (.bool_bool a b)|.bl a,.int b S=>.inr (.bool_int a b S)|.bl a,.tup q=>.inr (.bool_tuple a q I)|.bl a,.lst q=>.inr (.bool_list a q I)|.int a t,.non=>.inr (.int_none a t)|.int a t,.bl b=>.inr (.int_bool a t b)|.int a t,.int b S=>.inr (.int_int a t b S)|.int a t,.tup q=>.inr (.int_tuple a t q I)|.int a t,.lst q=>.inr (.int_list a t q I)|.tup p,.non=>.inr (.tuple_none p I)|.tup p,.bl b=>.inr (.tuple_bool b p I)|.tup p,.int b S=>.inr (.tuple_int b S p I)|.tup _,.tup _=>.inl rfl|.tup p,.lst q=>.inr (.tuple_list p q I)|.lst p,.non=>.inr (.list_none p I)|.lst p,.bl b=>.inr (.list_bool b p I)|.lst p,.int b S=>.inr (.list_int b S p I)|.lst p,.tup q=>.inr (.list_tuple p q I)|.lst _,.lst _=>.inl rfl
def rcNeAt_U{s:ao}{a b:A0}{v:aj}(Y:Sh s a u)(U:Sh s b v)(I:A.units<b_):sq a b=ag\/mD A s u v (!eqD a b):=match Y,U with
 |.non,.non=>.inr (.none_none)|.non,.bl b=>.inr (.none_bool b)|.non,.int b S=>.inr (.none_int b S)|.non,.tup q=>.inr (.none_tuple q I)|.non,.lst q=>.inr (.none_list q I)|.bl a,.non=>.inr (.bool_none a)|.bl a,.bl b=>.inr (.bool_bool a b)|.bl a,.int b S=>.inr (.bool_int a b S)|.bl a,.tup q=>.inr (.bool_tuple a q I)|.bl a,.lst q=>.inr (.bool_list a q I)|.int a t,.non=>.inr (.int_none a t)|.int a t,.bl b=>.inr (.int_bool a t b)|.int a t,.int b S=>.inr (.int_int a t b S)|.int a t,.tup q=>.inr (.int_tuple a t q I)|.int a t,.lst q=>.inr (.int_list a t q I)|.tup p,.non=>.inr (.tuple_none p I)|.tup p,.bl b=>.inr (.tuple_bool b p I)|.tup p,.int b S=>.inr (.tuple_int b S p I)|.tup _,.tup _=>.inl rfl|.tup p,.lst q=>.inr (.tuple_list p q I)|.lst p,.non=>.inr (.list_none p I)|.lst p,.bl b=>.inr (.list_bool b p I)|.lst p,.int b S=>.inr (.list_int b S p I)|.lst p,.tup q=>.inr (.list_tuple p q I)|.lst _,.lst _=>.inl rfl
section
variable{s:ao}
def EB(I:A3 X A1 σ H s)(S:eH F H){x:V}(o:A8 d n=ag)(q:i1 X.K F d x)(r:A5 x u):Sh s d u:=by
 cases d with
 |non=>cases(show x=.non from q);cases r;exact .non|bl b=>cases(show x=.bl b from q);cases r;exact .bl b|int i=>cases(show x=.int i from q);obtain⟨t,rfl⟩:=r;exact .int i t
 |tup ds=>obtain⟨l,xs,e,t,_⟩:=q;subst e;cases r;obtain⟨is,_,p,_⟩:=I.tuple (S.tup t);exact .tup (show s.heap.IsTuple l is.toArray from p)
 |lst ds=>obtain⟨l,xs,e,t,_⟩:=q;subst e;cases r;obtain⟨is,_,p,_⟩:=I.list (S.lst t);exact .lst p.isList
 |_=>simp[A8]at o
theorem AH{n:Nat}(U:∀(d e:A0) {v:V},i1 X.K F d v->i1 X.K F e v->A8 d n=ag->A8 e n=ag->d=e):∀(ds es:a9) {xs:bi},ei X.K F ds xs->ei X.K F es xs->vX ds n=ag->vX es n=ag->ds=es
 |[],[],_,_,_,_,_=>rfl|[],_::_,_,q,⟨_,_,e,_,_⟩,_,_=>by rw[show _=[]from q]at e;cases e|_::_,[],_,⟨_,_,e,_,_⟩,q,_,_=>by rw[show _=[]from q]at e;cases e|d::ds,e::es,_,⟨v,vs,e1,q1,a⟩,⟨w,b,e2,q2,Y⟩,S,I=>by rw[e1]at e2;cases e2;simp[vX,aU]at S I;rw[U d e q1 q2 S.1 I.1,AH U ds es a Y S.2 I.2]
theorem DO{e:A0}(U:sq d d=ae)(q:i1 X.K F d v)(r:i1 X.K F e v)(S:A8 d n=ag)(I:A8 e n=ag):d=e:=by
 cases d<;>first|(cases U;done)|(simp[A8]at S;done)|(subst q)
 all_goals cases e<;>first|(simp[A8]at I;done)|(first|(obtain⟨_,_,z,_⟩:=r;cases z)|(cases r<;>rfl))
theorem DQ(I:A3 X A1 σ H s)(U:eH F H):∀(n:Nat) (d e:A0) {v:V},i1 X.K F d v->i1 X.K F e v->A8 d n=ag->A8 e n=ag->d=e
 |n,.tup ds,e,v,⟨l,xs,e1,h1,c⟩,r,S,Y=>by
  subst e1;cases n with
  |zero=>simp_all[A8]|succ n=>
   cases e with
   |tup es=>obtain⟨f,ys,e2,a,b⟩:=r;cases e2;cases SqT.inj I (U.tup h1) (U.tup a);rw[AH (DQ I U n) _ _ c b (by simp_all[A8]) (by simp_all[A8])]
   |lst es=>obtain⟨f,ys,e2,a,b⟩:=r;cases e2;obtain⟨h,_,p1,_⟩:=I.list (U.lst a);obtain⟨g,_,p2,_⟩:=I.tuple (U.tup h1);exact bu rfl (mC p1.isList (show s.heap.IsTuple l g.toArray from p2))
   |_=>first|(simp[A8]at Y;done)|(cases r)
 |n,.lst ds,e,v,⟨l,xs,e1,h1,c⟩,r,S,Y=>by
  subst e1;cases n with
  |zero=>simp_all[A8]|succ n=>
   cases e with
   |lst es=>obtain⟨f,ys,e2,a,b⟩:=r;cases e2;cases SqL.inj I (U.lst h1) (U.lst a);rw[AH (DQ I U n) _ _ c b (by simp_all[A8]) (by simp_all[A8])]
   |tup es=>obtain⟨f,ys,e2,a,b⟩:=r;cases e2;obtain⟨h,_,p1,_⟩:=I.list (U.lst h1);obtain⟨g,_,p2,_⟩:=I.tuple (U.tup a);exact bu rfl (mC p1.isList (show s.heap.IsTuple l g.toArray from p2))
   |_=>first|(simp[A8]at Y;done)|(cases r)
 |_,.non,_,_,q,r,S,Y=>DO rfl q r S Y|_,.bl _,_,_,q,r,S,Y=>DO rfl q r S Y|_,.int _,_,_,q,r,S,Y=>DO rfl q r S Y|_,.ins _ _,_,_,_,_,S,_=>by simp_all[A8]|_,.dic _,_,_,_,_,S,_=>by simp_all[A8]|_,.dil _,_,_,_,_,S,_=>by simp_all[A8]
termination_by n=>n
theorem rcAt_S{a b:A0}{x:V}{v:aj}(I:A3 X A1 σ H s)(i:eH F H)(O:sq a b=ag)(B:i1 X.K F a x)(z:i1 X.K F b y)(w:A5 x u)(t:A5 y v)(p:A.units<b_)(E:∀(ds es:a9) (j:Nat) (Y U:A0) (x y:V) (u v:aj),(a=.tup ds/\b=.tup es\/a=.lst ds/\b=.lst es)->ds[j]?=aa Y->es[j]?=aa U->i1 X.K F Y x->i1 X.K F U y->A5 x u->A5 y v->gv A.in1 s u v (eqD Y U)):nE A s u v (eqD a b):=by
 rcases Ew O with⟨ds,es,rfl,rfl⟩|⟨ds,es,rfl,rfl⟩
 .obtain⟨D,xs,e1,h1,g⟩:=B;subst e1;cases w;obtain⟨is,d,p1,_⟩:=I.tuple (i.tup h1);obtain⟨C,ys,e2,S,f⟩:=z;subst e2;cases t;obtain⟨o,c,p2,_⟩:=I.tuple (i.tup S);have K:=d.length;have J:=c.length;have N:=g.length;have L:=f.length;have q:=SeqAt.RcAt.tuples (A:=A) (e:=x8 ds es) (show s.heap.IsTuple D is.toArray from p1) (show s.heap.IsTuple C o.toArray from p2) p (λj h1 S=>by
   obtain⟨l,f1,r⟩:=d.atA h1;obtain⟨k,f2,g2⟩:=c.atA S;obtain⟨Y,h,n⟩:=g.at f1;obtain⟨U,k2,m⟩:=f.at f2;rw[show x8 ds es j=eqD Y U by simp only[x8,h,k2]];exact E ds es j Y U l k _ _ (.inl ⟨rfl,rfl⟩) h k2 n m r g2)
  rw[show is.toArray.size=ds.length by simp_all,show o.toArray.size=es.length by simp_all,Jn _ (λj a b h1 S=>by simp_all[x8])]at q;exact q
 .obtain⟨D,xs,e1,h1,g⟩:=B;subst e1;cases w;obtain⟨is,d,p1,_⟩:=I.list (i.lst h1);obtain⟨C,ys,e2,S,f⟩:=z;subst e2;cases t;obtain⟨o,c,p2,_⟩:=I.list (i.lst S);have K:=d.length;have J:=c.length;have N:=g.length;have L:=f.length;by_cases G:ds.length=es.length
  .have q:=SeqAt.RcAt.lists (A:=A) (e:=x8 ds es) p1.isList p2.isList a7 p (λj h1 S=>by
   obtain⟨l,f1,r⟩:=d.atA h1;obtain⟨k,f2,g2⟩:=c.atA S;obtain⟨Y,h,n⟩:=g.at f1;obtain⟨U,k2,m⟩:=f.at f2;rw[show x8 ds es j=eqD Y U by simp only[x8,h,k2]];exact E ds es j Y U l k _ _ (.inr ⟨rfl,rfl⟩) h k2 n m r g2)
   rw[show is.toArray.size=ds.length by grind,ei.all_eq (F:=F) _ G (λj a b h1 S=>by simp_all[x8])]at q;exact q
  .rw[show eqD (.lst ds) (.lst es)=ae from zk G];exact SeqAt.RcAt.lists_lengths (A:=A) p1.isList p2.isList a7 p
theorem rcNeAt_S{a b:A0}{x:V}{v:aj}(I:A3 X A1 σ H s)(i:eH F H)(O:sq a b=ag)(B:i1 X.K F a x)(z:i1 X.K F b y)(w:A5 x u)(t:A5 y v)(p:A.units<b_)(E:∀(ds es:a9) (j:Nat) (Y U:A0) (x y:V) (u v:aj),(a=.tup ds/\b=.tup es\/a=.lst ds/\b=.lst es)->ds[j]?=aa Y->es[j]?=aa U->i1 X.K F Y x->i1 X.K F U y->A5 x u->A5 y v->gv A.in1 s u v (eqD Y U)):mD A s u v (!eqD a b):=by
 rcases Ew O with⟨ds,es,rfl,rfl⟩|⟨ds,es,rfl,rfl⟩
 .obtain⟨D,xs,e1,h1,g⟩:=B;subst e1;cases w;obtain⟨is,d,p1,_⟩:=I.tuple (i.tup h1);obtain⟨C,ys,e2,S,f⟩:=z;subst e2;cases t;obtain⟨o,c,p2,_⟩:=I.tuple (i.tup S);have K:=d.length;have J:=c.length;have N:=g.length;have L:=f.length;have q:=SeqAt.RcNeAt.tuples (A:=A) (e:=x8 ds es) (show s.heap.IsTuple D is.toArray from p1) (show s.heap.IsTuple C o.toArray from p2) p (λj h1 S=>by
   obtain⟨l,f1,r⟩:=d.atA h1;obtain⟨k,f2,g2⟩:=c.atA S;obtain⟨Y,h,n⟩:=g.at f1;obtain⟨U,k2,m⟩:=f.at f2;rw[show x8 ds es j=eqD Y U by simp only[x8,h,k2]];exact E ds es j Y U l k _ _ (.inl ⟨rfl,rfl⟩) h k2 n m r g2)
  rw[show is.toArray.size=ds.length by simp_all,show o.toArray.size=es.length by simp_all,Jn _ (λj a b h1 S=>by simp_all[x8])]at q;exact q
 .obtain⟨D,xs,e1,h1,g⟩:=B;subst e1;cases w;obtain⟨is,d,p1,_⟩:=I.list (i.lst h1);obtain⟨C,ys,e2,S,f⟩:=z;subst e2;cases t;obtain⟨o,c,p2,_⟩:=I.list (i.lst S);have K:=d.length;have J:=c.length;have N:=g.length;have L:=f.length;by_cases G:ds.length=es.length
  .have q:=SeqAt.RcNeAt.lists (A:=A) (e:=x8 ds es) p1.isList p2.isList (by simp;lia) p (λj h1 S=>by
   obtain⟨l,f1,r⟩:=d.atA h1;obtain⟨k,f2,g2⟩:=c.atA S;obtain⟨Y,h,n⟩:=g.at f1;obtain⟨U,k2,m⟩:=f.at f2;rw[show x8 ds es j=eqD Y U by simp only[x8,h,k2]];exact E ds es j Y U l k _ _ (.inr ⟨rfl,rfl⟩) h k2 n m r g2)
   rw[show is.toArray.size=ds.length by simp;lia,ei.all_eq (F:=F) _ G (λj a b h1 S=>by simp_all[x8])]at q;exact q
  .rw[show eqD (.lst ds) (.lst es)=ae from zk G];exact SeqAt.RcNeAt.lists_lengths (A:=A) p1.isList p2.isList (by simp;lia) p
theorem ok_sub{a b S I:A0}{es:a9}(Y:A8 a n=ag)(U:A8 b n=ag)(h:a=.tup ds/\b=.tup es\/a=.lst ds/\b=.lst es)(c:ds[j]?=aa S)(k2:es[j]?=aa I):∃m,n=m+1/\A8 S m=ag/\A8 I m=ag:=by
 cases n with
 |zero=>grind[A8]|succ m=>exact⟨m,rfl,by rcases h with⟨rfl,rfl⟩|⟨rfl,rfl⟩<;>exact⟨Dm Y c,Dm U k2⟩⟩
theorem eqAt_N(I:A3 X A1 σ H s)(f:eH F H):∀(n:Nat) (a b:A0) {x y:V} {u v:aj} {A:dD},A8 a n=ag->A8 b n=ag->i1 X.K F a x->i1 X.K F b y->A5 x u->A5 y v->A.units+n<b_->gv A s u v (eqD a b):=by
 intro n
 induction n with
 |zero=>intro a b x y u v A U g S d c Y o;refine(eqAt_U (EB I f U S c) (EB I f g d Y) ac).resolve_left λh=>?_;rcases Ew h with⟨ds,es,rfl,rfl⟩|⟨ds,es,rfl,rfl⟩<;>simp[A8]at U
 |succ n K=>
  intro a b x y u v A U g S d c Y o;rcases eqAt_U (A:=A) (EB I f U S c) (EB I f g d Y) ac with h|h
  .by_cases i:x=y
   .subst i;cases(show a=b from DQ I f _ a b S d U g);rw[zl U];rcases Ew h with⟨ds,es,rfl,_⟩|⟨ds,es,rfl,_⟩<;>(obtain⟨k,xs,e1,_⟩:=S;subst e1;cases c;cases Y;exact SeqAt.EqAt.same _)
   .have q:=rcAt_S (A:=A) I f h S d c Y ac λds es j O N t r B w p l k2 G E L g2=>by
     obtain⟨m,e,D,C⟩:=ok_sub U g p l k2
     grind
    rcases Ew h with⟨ds,es,rfl,rfl⟩|⟨ds,es,rfl,rfl⟩<;>(obtain⟨k,xs,e1,_⟩:=S;obtain⟨J,ys,e2,_⟩:=d;subst e1;subst e2;cases c;cases Y;exact SeqAt.EqAt.of_refs (λz=>i (by rw[z])) q)
  simp_all
def N1(I:A3 X A1 σ H s)(g:eH F H)(a b:A0){x:V}{v:aj}(e:A8 a n=ag)(d:A8 b n=ag)(c:i1 X.K F a x)(Y:i1 X.K F b y)(U:A5 x u)(S:A5 y v)(f:A.units+n<b_):gv A s u v (eqD a b):=eqAt_N I g n a b e d c Y U S f
theorem eqAt_I(I:A3 X A1 σ H s)(k:eH F H){a b:A0}(c:A8 a n=ag)(Y:A8 b n=ag)(o:A.units+n<b_)(ds es:a9)(j:Nat)(U S:A0)(x y:V)(u v:aj)(i:a=.tup ds/\b=.tup es\/a=.lst ds/\b=.lst es)(h:ds[j]?=aa U)(k2:es[j]?=aa S)(g:i1 X.K F U x)(f:i1 X.K F S y)(l:A5 x u)(g2:A5 y v):gv A.in1 s u v (eqD U S):=by obtain⟨m,rfl,e,d⟩:=ok_sub c Y i h k2;exact N1 I k U S e d g f l g2 ac
theorem rcAt_D(I:A3 X A1 σ H s)(S:eH F H)(a b:A0){x:V}{v:aj}(f:A8 a n=ag)(e:A8 b n=ag)(d:i1 X.K F a x)(c:i1 X.K F b y)(Y:A5 x u)(U:A5 y v)(g:A.units+n<b_):nE A s u v (eqD a b):=
 (rcAt_U (EB I S f d Y) (EB I S e c U) ac).elim (λh=>rcAt_S I S h d c Y U ac (eqAt_I I S f e g)) id
theorem rcNeAt_D(I:A3 X A1 σ H s)(S:eH F H)(a b:A0){x:V}{v:aj}(f:A8 a n=ag)(e:A8 b n=ag)(d:i1 X.K F a x)(c:i1 X.K F b y)(Y:A5 x u)(U:A5 y v)(g:A.units+n<b_):mD A s u v (!eqD a b):=
 (rcNeAt_U (EB I S f d Y) (EB I S e c U) ac).elim (λh=>rcNeAt_S I S h d c Y U ac (eqAt_I I S f e g)) id
end
section
variable{W:qE}{own:Bool}
def eQ.blS{Q:VK}{s:ao}{b:Bool}(p:eQ K W own F H (.ok (.bl b)) Q)(s1:eH F H)(I:A3 X A1 σ H s):EP X A1 σ Q (.bool b) s:=⟨.bl b,H,I,rfl,p.bl s1⟩
theorem o_eq(f:X.A.units+64<b_)(e: ~~~(X.K=K)):Op2 K W own X (bZ .Eq) eqM:=by
 subst e;intro A1 s σ H x y v u Q I Y U h;obtain⟨F,a,b,s1,d,c,p⟩:=h;unfold eqM at p;by_cases S:(A8 a 40&&A8 b 40)=ag
 .rw[aC S]at p;simp at S;exact rcAt_D I s1 a b S.1 S.2 d c Y U ac _ _ _ _ (p.blS s1 I)
 .rw[aA S]at p;exact p.stuck
theorem o_ne(f:X.A.units+64<b_)(e: ~~~(X.K=K)):Op2 K W own X (bZ .NotEq) neM:=by
 subst e;intro A1 s σ H x y v u Q I Y U h;obtain⟨F,a,b,s1,d,c,p⟩:=h;unfold neM at p;by_cases S:(A8 a 40&&A8 b 40)=ag
 .rw[aC S]at p;simp at S;exact rcNeAt_D I s1 a b S.1 S.2 d c Y U ac _ _ _ _ (p.blS s1 I)
 .rw[aA S]at p;exact p.stuck
end
section
variable{s:ao}
theorem A3.zv{t':Nat}{T:av}(I:A3 X A1 σ H s)(f:∀b∈ch,KS X A1 H b)(k:∀b o,b∉ch->s.heap.get? b=aa o->h'.get? b=aa o)(g:s.heap.objs.size<=T)(d:xs.length<=ay/\∃its:bm,A6 xs its/\p5 h' T its.toArray):A3 X A1 σ (upd H T (.tup xs)) {s with heap:=h',toks:=t'}:=by
 have S:=I.hok.fresh g;have h:∀b u,H b=aa u->b∉ch:=λb u e z=>by rw[(f b z).1]at e;lia
 have a:∀{b:av} {o:j5},s.heap.get? b=aa o->b≠T:=λ{b o} e=>bg (aH (aE e) g);refine I.step (λb Y=>?_) (λb o _ _ U e _=>k b o U e) (λb o _ _ U e _=>⟨o.slots,k b o U e⟩) (λb o _ e n=>by rw[dV (a e)];exact n)
  (λb o U e=>⟨o,k b o U e⟩) (λb ys e=>by rw[dV (eP e S)];exact e) (λb o u e=>by rw[dV (eP e S)];exact e) (λb ps e=>⟨#[],by rw[dV (eP e S),e];simp⟩) (λm j=>?_) (λb u e=>?_) I.bare
 .obtain⟨f0,f1,f2,f3,f4,f5⟩:=f b Y;exact⟨f3,f1,f4,f5⟩
 .obtain⟨o,es,ep,i,r⟩:=j;exact⟨o,es,ep,k _ o (λz=>(f _ z).2.1 rfl) i,r⟩
 .by_cases Y:b=T
  .subst Y;rw[dy]at e;cases e;exact d
  .rw[dV Y]at e;refine(I.hok b u e).stay (λc v U q=>k c v ?_ q) (λc q=>?_) λc ys q=>?_
   .grind
   .rw[dV (eP q S)];exact q
   grind[dV]
theorem A3.GJ{t':Nat}(I:A3 X A1 σ H s)(U:∀b∈ch,KS X A1 H b)(k:∀b o,b∉ch->s.heap.get? b=aa o->h'.get? b=aa o):A3 X A1 σ H {s with heap:=h',toks:=t'}:=by
 have Y:∀b u,H b=aa u->b∉ch:=λb u e z=>by rw[(U b z).1]at e;lia
 refine I.step (λb f=>?_) (λb o _ _ S e _=>k b o S e) (λb o _ _ S e _=>⟨o.slots,k b o S e⟩) (λb o _ e n=>n)
  (λb o S e=>⟨o,k b o S e⟩) (λb ys e=>e) (λb o u e=>e) (λb ps e=>⟨#[],a7⟩) (λm d=>?_) (λb u e=>?_) I.bare
 .obtain⟨f0,f1,f2,f3,f4,f5⟩:=U b f;exact⟨f3,f1,f4,f5⟩
 .obtain⟨o,es,ep,a,r⟩:=d;exact⟨o,es,ep,k _ o (λz=>(U _ z).2.1 rfl) a,r⟩
 .refine(I.hok b u e).stay (λc v S q=>k c v ?_ q) (λ_ q=>q) λ_ _ q=>q
  grind
end
def Ite(K:Fg)(a:av):It:=
 ⟨λi H=>∃xs x,SqL K H a xs/\xs[i]?=aa x,λi H x H'=>∃T y,H T=af/\x=.ref T/\H'=upd H T (.tup [.int i,y])/\∀xs,SqL K H a xs->xs[i]?=aa y,λi H=>∃xs,SqL K H a xs/\xs.length<=i⟩
theorem Ek(a e j:av)(m:e≠j):Turn P w K (.Tuple elts k pos) (Ite K a) [e,j] e (λi h=>(∃S,IsEnum h e j i S)/\h.IsListIter j a i) where
 mem:=by simp
 obj:=λi h st b Y=>by
  obtain⟨⟨S,f⟩,o,e1,c,d⟩:=st
  grind
 keep:=λi h h' st G=>by obtain⟨⟨S,f⟩,U⟩:=st;exact⟨⟨S,G e ad _ f⟩,U.at λo x=>G j ad o x⟩
 item:=by
  intro X D hw F J i A1 s σ H E I t st B;subst D hw F;obtain⟨⟨S,f⟩,U⟩:=st;obtain⟨xs,x,r,A⟩:=B;obtain⟨its,v,p,O⟩:=I.list r;obtain⟨u,hu,N⟩:=v.get A;refine wpAny_pyNext_enum_item f U p.isList (x:=u) a7 m λh1 R l Z hsz T=>?_;refine⟨_,rfl,mQ R λL C g=>?_⟩
  have n:=cW (aE f);have I1:A3 X A1 σ (upd H s.z (.tup [.int i,x])) {s with heap:=L,toks:=s.toks+1}:=I.zv t (λb o Y q=>by exact(g.2 b (λz=>Y (by simp[z]))).trans (T b o (λz=>Y (by simp[z])) (λz=>Y (by simp[z])) q)) (aq _) ⟨ad,[.int i s.toks,u],.cons ⟨_,rfl⟩ (.cons N .nil),⟨_,(g.2 _ n).trans Z,rfl,0,rfl⟩⟩
  refine⟨.ref s.z,_,I1,rfl,⟨s.z,x,I.hok.fresh (aq _),rfl,rfl,λys Q=>by rw[I.IY Q r];exact A⟩,⟨⟨u,by simpa using C⟩,l.at λo y=>(g.2 j m.symm).trans y⟩,λb Y=>?_⟩
  have W:=(t b Y).1;have:b≠s.z:=by
   rcases aM.mp Y with rfl|Y
   .exact n.symm
   .have:=by simpa using Y
    subst this;obtain⟨o,e1,_⟩:=U;exact bg (aE e1)
  simp_all[dV]
 done:=by intro X D hw F J i A1 s σ H E I t st B;subst D hw F;obtain⟨⟨S,f⟩,U⟩:=st;obtain⟨xs,r,A⟩:=B;obtain⟨its,v,p,O⟩:=I.list r;have hl:=v.length;exact wpAny_pyNext_enum_end (I.ok.hd J) f U p.isList (dT a7) λL eb=>⟨rfl,I.GJ t λb o Y q=>eb b o (λz=>Y (by simp[z])) q⟩
 self:=λ_ _ _ _ _ st h=>by obtain⟨⟨S,f⟩,_⟩:=st;exact gR f h
theorem AA:∀(ds:a9) (k i:Nat),(ue k ds)[i]?=(ds[i]?).map λd=>.tup [.int ((k+i:Nat):Int),d]
 |[],k,i=>by rfl|d::ds,k,0=>by rfl|d::ds,k,i+1=>by
  rw[ue,dM,AA ds _ i,dM]
  lia
theorem wJ:∀(ds:a9) (k:Nat),(ue k ds).length=ds.length
 |[],_=>rfl|d::ds,k=>by rw[ue,aW,wJ ds,aW]
theorem Fz(t:SqL K F a xs)(z:ei K F ds xs):yx K F (Ite K a) (ue 0 ds) where
 go:=λi F' H' s1 s2 hi=>⟨xs,xs[i]'(by rw[z.length];simp_all[wJ]),s2.lst (s1.lst t),ad⟩
 yl:=λi F' H' x H2 d s1 s2 S U=>by
  obtain⟨T,y,Y,ex,b,U⟩:=U;subst ex b;rw[AA]at S;cases I:ds[i]? with
  |none=>simp_all|some c=>
   rw[I]at S;simp at S;subst S;obtain⟨v,e1,q⟩:=z.get I;have e2:=U xs (s2.lst (s1.lst t));rw[e1]at e2;cases e2;refine⟨upd F' T _,A2.lay s2 Y,T,_,rfl,SqT.of dy,?_⟩
   exact⟨.int i,[y],rfl,rfl,y,[],rfl,(q.mono s1).mono (eH.upd (s2.free Y)),rfl⟩
 st:=λF' H' s1 s2=>⟨xs,s2.lst (s1.lst t),by rw[z.length,wJ];simp⟩
section
variable{W:qE}{own:Bool}{a b:bX}{es:List bX}{p:lj}{f:df->M A0}{fr:df->M (List A0)}
def iEnum(K:Fg)(tl:TE):TI:=λσ H R=>tl σ H λx H1=>∃a,x=.ref a/\(∃xs,SqL K H1 a xs)/\R (Ite K a) H1
def pi_enum(o:Gl X "enumerate")(j:X.mg "enumerate"=af)(m:PE X a tl)(d: ~~~(au [a] X.env=[(ae,a_ a X.env)])):
  PI X (.Tuple elts k q) (.Call (.Name "enumerate" p) [a] [] pos) (iEnum X.K tl):=by
 intro A1 s σ H R I h;refine oT (xf I o j boot_enumerate (bR (A7 ((nD m rL d) pos A1 s σ H (λvs H1=>match vs with
  |[x]=>∃a,x=.ref a/\(∃xs,SqL X.K H1 a xs)/\R (Ite X.K a) H1
  |_=>False) I h) λus s1 ⟨vs,H1,U,g,q1⟩=>?_) d rfl))
 rcases vs with _|⟨x,_|⟨_,_⟩⟩
 .exact bV q1
 rotate_left
 .exact bV q1
 .obtain⟨l,e1,⟨xs,i⟩,q⟩:=q1;subst e1;obtain⟨u,rfl,f⟩:=g.one;cases f;obtain⟨its,r,pl,t⟩:=U.list i;refine o_ pl.isList λv e Y hsz n=>?_;refine gR e ?_;refine⟨s1.z+1,[s1.z+1,s1.z],_,_,H1,rfl,(U.kept (t':=s1.toks) n),Ek l _ _ (lg _),⟨⟨_,e⟩,Y⟩,λb c=>?_,q⟩
  have S:s1.z<=b:=by
   rcases aM.mp c with rfl|c
   .simp
   .have:=by simpa using c
    exact gJ this.symm
  exact U.MX S (U.hok.fresh S)
theorem di_enum(S:X.mg "enumerate"=af)(U:DE K W ae X a fa)(Y: ~~~(Gl X "enumerate"))(I: ~~~(au [a] X.env=[(ae,a_ a X.env)]))(f: ~~~(X.K=K)):
  DI K W X (.Tuple elts k q) (.Call (.Name "enumerate" p) [a] [] pos) (N0 fa):=by
 subst f;exact(pi_enum Y S U I).imp λ_ _ _=>by
   intro h;obtain⟨F,ρ,r,s,p⟩:=h;refine eu r s (λe g=>?_) λd c v F1 H1 s1 q1=>?_
   .simp_all[N0]
   .have z:N0 fa ρ=(itemsL d).bind λds=>.ok (ue 0 ds):=by unfold N0;rw[c];rfl
    rw[z]at p;cases d with
    |lst ds=>obtain⟨b,xs,e,t,z⟩:=q1;exact⟨b,e,⟨xs,s1.fh.lst t⟩,p _ F1 H1 s1 (Fz t z)⟩
    |_=>exact(W.ns p).elim
def rl:PTs X [] (tDT K W x6):=λA1 s σ H Q I h=>pts_nil A1 s σ H Q I (by obtain⟨F,ρ,r,s1,q⟩:=h;exact q F H (A2.refl s1))
def rK:PGs X [] (uK []):=M3
def h9{is:be}(Y:X.N.Nodup)(a:PGs X es (uK is))(hi: ~~~(X.N[i]?=aa x))(I:autoParam (Loc X.env.scope x) Jq6)(U:autoParam (X.fn x=ag\/X.env.scope.names.lookup x=aa .local) Jq3)(S: ~~~((eG (.Name x p::es) X.env).map (·.2)=jl (.Name x p) X.env::(eG es X.env).map (·.2))):PGs X (.Name x p::es) (uK (i::is)):=ze (ub Y hi I U) a S
theorem x9{is:be}(i:X.calm=ag)(h:PGs X es (uK is))(f: ~~~((eG es X.env).length=is.length))(S: ~~~((eG es X.env).findIdx? (·.1)=af))(j: ~~~(X.K=K)):DG K X (.Tuple es k pos) (.tp is):=by subst j;intro A1 s σ H v u Q I r hw;obtain⟨a,xs,e1,d,g,hw⟩:=hw;subst e1;cases r;obtain⟨its,U,c,l⟩:=I.tuple d;refine assign_Tuple_tuple (I.ok.hd i) c (by simp[f,<-g,U.length]) S λh' Y=>?_;exact h A1 _ σ H xs _ Q (I.kept (t':=s.toks) λb o e=>Y b o (bg (aE e)) e) a7 hw
theorem yD{ix:List (Option Nat)}:∀{is:be},(∀i∈is,ix[i]?=aa af)->∀vs S H' (Q:St->Hp->Prop),uK is vs S H' Q->uK is vs S H' λI H2=>Q I H2/\∀(i:Nat) v,S[i]?=aa (aa v)->(∃j,ix[i]?=aa (aa j))->I[i]?=aa (aa v)
 |[],_,vs,S,H',Q,⟨e,q⟩=>⟨e,q,λ_ _ h _=>h⟩|i::is,d,vs,S,H',Q,⟨v,r,e,q⟩=>by
  refine⟨v,r,e,?_⟩
  have:=yD (λj g=>d j (by simp[g])) r _ H' Q q;have Y:∀{is:be} {vs:bi} {U:St} {H1:Hp} {Q a:St->Hp->Prop},(∀I H2,Q I H2->a I H2)->uK is vs U H1 Q->uK is vs U H1 a:=by
   intro is
   induction is with
   |nil=>rintro vs U H1 Q a m ⟨e,q⟩;exact⟨e,m _ _ q⟩
   |cons i is c=>rintro vs U H1 Q a m ⟨v,r,e,q⟩;exact⟨v,r,e,c m q⟩
  refine Y (λI H2 b=>?_) this;obtain⟨q1,q2⟩:=b;refine⟨q1,λj w h b=>?_⟩
  obtain⟨l,f⟩:=b;refine q2 j w ?_ ⟨l,f⟩
  grind
def An{is:be}(h:∀i∈is,ix[i]?=aa af):B4 ix (gP K (.tp is)):=λx I H' Q ⟨a,xs,e,t,l,q⟩=>⟨a,xs,e,t,l,yD h xs I H' Q q⟩
def sJ{L:av}{s:ao}(U:N'.Nodup)(hi: ~~~(N'[i]?=aa x))(I:autoParam (Loc (i2 X N' sc L cs s H fp).env.scope x) Jq6)(S:autoParam ((i2 X N' sc L cs s H fp).fn x=ag\/(i2 X N' sc L cs s H fp).env.scope.names.lookup x=aa .local) Jq3):DG K (i2 X N' sc L cs s H fp) (.Name x pos) (.nm i):=pg_c U hi I S
variable{pt:Pat}
def qV(N':List br)(ix:List (Option Nat))(hi:DI K W X tg iter fi)(a:∀L cs s H fp,DG K (i2 X N' sc L cs s H fp) tg pt)(U:B4 ix (gP K pt))(I:∀L cs s H fp,PTs (i2 X N' sc L cs s H fp) ifs (tDT K W ft))(b:∀L cs s H fp,DE K W ae (i2 X N' sc L cs s H fp) elt fe)(c: ~~~(X.calm=ag))(ok: ~~~(mu X.N X.env.scope N' sc ix=ag))(Y: ~~~(sc.kind=.function))(S:autoParam (∀x,eO iter X.env x=cO x) Jq4):
  DE K W ag X (.ListComp elt [⟨tg,iter,ifs,0⟩] sc pos) (qO fi ix pt ft fe):=(pe_comp N' ix c hi a U I b ok Y S).imp λ_ _ _=>LN
def tD_fr{Q:VK}(h:tD K W own f σ H Q):tD K W ag f σ H Q:=by
 cases own with
 |true=>exact h|false=>obtain⟨F,ρ,r,s,p⟩:=h;exact⟨F,ρ,r,s,p.frz⟩
def Jq(own:Bool)(N':List br)(ix:List (Option Nat))(g:X.N.Nodup)(hi:DI K W X tg iter fi)(d:∀L cs s H fp,DG K (i2 X N' sc L cs s H fp) tg pt)(a:B4 ix (gP K pt))(U:∀L cs s H fp,PTs (i2 X N' sc L cs s H fp) ifs (tDT K W ft))(e:∀L cs s H fp,DE K W ae (i2 X N' sc L cs s H fp) elt fe)(c: ~~~(X.N[i]?=aa x))(S: ~~~(X.env.scope.names.lookup x=aa .local))(f: ~~~(X.calm=ag))(I: ~~~(dJ (.ListComp elt [⟨tg,iter,ifs,0⟩] sc pos) (aa (.Name x py)) spos.line X.env=cO ag))(ok: ~~~(mu X.N X.env.scope N' sc ix=ag))(b: ~~~(sc.kind=.function))(Y:autoParam (∀x,eO iter X.env x=cO x) Jq4):
  DS K W ro X OL O (aft own i O) (.Assign [.Name x py] (.ListComp elt [⟨tg,iter,ifs,0⟩] sc pos) spos) (g7 O i (qO fi ix pt ft fe)):=λF0 H0=>
 (BV N' ix g c S f hi d a U e I ok b Y).imp λD σ H t=>LN (tD_fr (LI t))
def ds_setI{r:lj}(d:DE K W ae X e f)(c:DE K W ae X b fk)(a:(i∈O)⁻¹)(j: ~~~(X.N[i]?=aa x))(U:autoParam (Vis X.env.scope x) Jq5)(g:((x==("__debug__":br))=ae)⁻¹)(S:((x==("__classdict__":br))=ae)⁻¹)(h:autoParam (∀v,jl (.Subscript (.Name x p) b q) X.env v=(do
   let ov <-gq [v] (a_ (.Name x p) X.env)
   let I <-gq [v,ov] (a_ b X.env)
   jH q
   gq [v,ov,I] (pQ ov I v)
   release [v,ov,I] [])) Jq4)(Y: ~~~(kO [.Subscript (.Name x p) b q] e r.line X.env=cO ae))(hw: ~~~(kQ [.Subscript (.Name x p) b q] e X.env=cO af))(h1: ~~~((eG [.Subscript (.Name x p) b q] X.env).map (·.2)=[jl (.Subscript (.Name x p) b q) X.env])):
  DS K W ro X OL O O (.Assign [.Subscript (.Name x p) b q] e r) (GW i fk f):=λF0 H0=>(LX d (pg_sub (pv i j U g S) c set_list h) Y hw h1).imp λ_ _ _=>rs_setI a
def N6{pt:Pat}(S:DE K W ae X e f)(Y:DG K X tg pt)(n:(∀i∈pt.names,i∉O)⁻¹)(U: ~~~(kO [tg] e pos.line X.env=cO ae))(hw: ~~~(kQ [tg] e X.env=cO af))(h1: ~~~((eG [tg] X.env).map (·.2)=[jl tg X.env])):DS K W ro X OL O O (.Assign [tg] e pos) (EN O pt f):=λF0 H0=>(LX S Y U hw h1).imp λ_ _ _=>by
    intro t;obtain⟨FB,F,ρ,r,p⟩:=t;refine eu r.xD r.st.fh (λe S=>p.vk r.st (by unfold EN;rw[S];rfl)) λd a v F1 H1 s1 q=>?_;have z:EN O pt f ρ=(rT pt d ρ).bind λρ'=>.ok (.nx ρ'):=by unfold EN;rw[a];rfl
    rw[z]at p;cases e:rT pt d ρ with
    |error x=>have:=xZ e;subst this;exact p.stuck (by rw[e];rfl)|ok ρ'=>rw[e]at p;exact gP_rep (r.step s1) n q e λI r'=>p I F1 H1 r'
inductive SpD(K:Fg)(vs:List V)(H:Hp)(n:Nat)(P:Hp->List A0->Prop):Prop
 |mk (F:Hp) (ds:List A0) (s:eH F H) (q:ei K F ds vs) (l:ds.length=n) (p:P F ds)
def spF(K:Fg)(ro:Bool)(g:a9->M A0)(n:Nat):Sp:=λvs H Q _=>SpD K vs H n λF ds=>eQ K A9 ro F H (g ds) Q
theorem Iu(h:ds.length≠n):nf nN n g ds=stk:=by simp_all[]
theorem Nh(F:vT X.prog X.w X.K X.mg X.base CX0 k fad fd ps (spF K ro (nf nN n g) n))(b:vc k X.A)(c:X.mg x=aa (.ref fad))(d:ck X.K (.ref fad)=ag)(i:Binds X.K fd ps [])(j:DA K A9 X (e::es) fr)(f: ~~~(Gl X x))(Y:((x==("__debug__":br))=ae)⁻¹)(S: ~~~(au (e::es) X.env=(ae,a_ e X.env)::au es X.env))(U: ~~~((cu pos (au es X.env)).any (·.1)=ae)):
  DE K A9 ro X (.Call (.Name x p) (e::es) [] pos) (fL (nf nN n g) fr):=by
 refine PE.imp (D7 F b f c d i .nil D8 j Y S U) λσ H Q h=>?_;obtain⟨F,ρ,r,s,p⟩:=rd_L h;refine⟨F,ρ,r,s,?_⟩
 cases e1:fr ρ with
 |error z=>simp_all|ok ds=>
  rw[e1]at p;intro vs F' H' st q;obtain⟨F1,I,s1,q1,z⟩:=p vs F' H' st q;rw[b8];by_cases a:I.length=n
  .exact⟨F1,I,s1,q1,a,z⟩
  .rw[Iu a]at z;exact eQ.stuck z
end
section
variable{base:bF}
theorem Eu{vs:bi}(q:ei K F ds vs)(h:(ds.map aa++aK (N.length-ds.length) af)[i]?=aa (aa d)):AtI (λv=>(start N vs)[i]?=aa (aa v)) (i1 K F d):=by
 have hi:i<ds.length:=by
  by_cases hi:i<ds.length
  .exact hi
  .simp_all[d8,mH]
 rw[cL a7,aV]at h;cases e:ds[i]? with
 |none=>rw[e]at h;cases h|some I=>
  rw[e]at h;cases h;obtain⟨v,e1,q1⟩:=q.get e;refine⟨v,?_,q1⟩
  unfold start;rw[cL (by rw[az,q.length];exact hi),aV,e1];rfl
theorem fn_D{st:bY}{f:av}(F:Fun K x qual st f fd)(S:uq N ps (eF st))(ro:Bool)(g:df->M A4)(Y:∀(cdv:aj) (A:dD) (outer:List m7) (s:ao) (H:Hp) (E:XK),vc k (A.deeper (iE qual (eF st) s.heap.objs.size f cdv)) ->
   DSs K A9 ro (Nj CX0 P w K mg base N qual (eF st) f cdv A outer s H E).nox [] [] O' (qD st) g):vT P w K mg base CX0 (k+1) f fd ps (spF K ro (nf N.length ps.length g) ps.length):=by
 refine F.okX S (λvs H Q E ⟨F,ds,s,q,l,p⟩=>by rw[q.length,l]) λcdv A outer s H vs Q E I U=>?_;obtain⟨F1,ds,s1,q,l,p⟩:=U;refine⟨_,Y cdv A outer s H E I F1 H,F1,F1,ds.map aa++aK (N.length-ds.length) af,?_,?_⟩
 .refine⟨A2.refl s1,eH.refl _,?_,λi d e _=>Eu q e,(λi d e h=>nomatch h),(λi j ds es a h=>nomatch h)⟩
  unfold start;rw[bB,bB,az,az,fQ,fQ,q.length]
 .have e1:nf N.length ps.length g ds=(g (ds.map aa++aK (N.length-ds.length) af)).bind λfl=>match fl with
   |.nx _=>.ok .non|.rt d=>.ok d|_=>stk:=by exact aC l
  rw[e1]at p;cases e2:g _ with
  |error z=>rw[e2]at p;exact p|ok fl=>
   rw[e2]at p;cases fl with
   |nx ρ=>exact λσ F H r=>p .non F H r.st (by cases ro<;>rfl)
   |rt d=>exact λv F H st q=>p v F H st q|bk ρ=>exact eQ.stuck p|ct ρ=>exact eQ.stuck p
def spLaw(K:Fg):Sp:=λvs H Q _=>∃(a:av) (ns:a8),vs=[.ref a]/\SqL K H a (ns.map V.int)/\ns.length<=63/\∀H',Q (.bl ag) H'
theorem sU{F:Hp}:∀is:a8,ei K F (is.map A0.int) (is.map V.int)
 |[]=>rfl|i::is=>⟨.int i,is.map V.int,rfl,rfl,sU is⟩
theorem law_ok{f:av}{I:Nat->a9->M A0}(F:∀n,vT P w K mg base CX0 k f fd [x] (spF K ro (I n) 1))(h:∀ns:a8,ns.length<=63->∃n,I n [.lst (ns.map .int)]=.ok (.bl ag)):vT P w K mg base CX0 k f fd [x] (spLaw K):=by
 refine⟨λvs H Q E ⟨a,ns,e,_⟩=>by rw[e];rfl,λA outer s H S us vs Q E Y g i U ⟨a,ns,e,b,d,q⟩=>?_⟩
 obtain⟨n,c⟩:=h ns d;refine(F n).run A outer s H S us vs Q E Y g i U ⟨H,[.lst _],eH.refl _,⟨.ref a,[],e,⟨a,_,rfl,b,sU ns⟩,rfl⟩,rfl,?_⟩;rw[c];intro v F' H' st z;have:v=.bl ag:=by cases ro<;>exact z
 simp_all
end
structure Kit(K:Fg):Prop where
 LO:ba K (.type "int") (.type "int")=aa ag
 K8:ba K (.type "bool") (.type "int")=aa ag
 K5:ba K (.type "list") (.type "int")=aa ae
 GY:ba K (.type "tuple") (.type "int")=aa ae
 Bj:ba K (.type "NoneType") (.type "int")=aa ae
 K7:ba K (.type "int") (.type "bool")=aa ae
 Hc:ba K (.type "bool") (.type "bool")=aa ag
 H9:ba K (.type "list") (.type "bool")=aa ae
 EV:ba K (.type "tuple") (.type "bool")=aa ae
 zT:ba K (.type "NoneType") (.type "bool")=aa ae
 K6:ba K (.type "int") (.type "list")=aa ae
 Hb:ba K (.type "bool") (.type "list")=aa ae
 GZ:ba K (.type "list") (.type "list")=aa ag
 EU:ba K (.type "tuple") (.type "list")=aa ae
 zS:ba K (.type "NoneType") (.type "list")=aa ae
 Ha:ba K (.type "int") (.type "tuple")=aa ae
 EX:ba K (.type "bool") (.type "tuple")=aa ae
 EW:ba K (.type "list") (.type "tuple")=aa ae
 D3:ba K (.type "tuple") (.type "tuple")=aa ag
 yS:ba K (.type "NoneType") (.type "tuple")=aa ae
section
variable{W:qE}{own:Bool}{a b:bX}{p:lj}{fr:df->M (List A0)}
def isi_D{s:ao}{T:String}{x:V}{c f bl a b:Bool}(I:A3 X A1 σ H s)(Y:eH F H)(q:i1 X.K F d x)(r:A5 x u)(hi:ba X.K (.type "int") (.type T)=aa c)(w:ba X.K (.type "bool") (.type T)=aa f)(v:ba X.K (.type "list") (.type T)=aa bl)(n:ba X.K (.type "tuple") (.type T)=aa a)(p:ba X.K (.type "NoneType") (.type T)=aa b)(h:∀k S,(match d with|.int _=>k=c|.bl _=>k=f|.lst _=>k=bl|.tup _=>k=a|.non=>k=b|.ins _ _=>False|.dic _=>False|.dil _=>False)->Q (.bool k) {s with toks:=S})(g:∀C fs,d≠.ins C fs)(m:∀ks,d≠.dic ks)(j:∀ks,d≠.dil ks):
  aP (aI X.prog X.w) X.A (i0 (.builtin "isinstance") [u,.type T]) Q X.xe s:=by
 cases d with
 |non=>cases(show x=.non from q);cases r;exact gU PySem.W.kitx_none I.kIn gz p (λz=>nomatch z) λS=>h _ S rfl
 |bl y=>cases(show x=.bl y from q);cases r;exact gU PySem.W.kitx_bool I.kIn gz w (λz=>nomatch z) λS=>h _ S rfl
 |int i=>cases(show x=.int i from q);obtain⟨t,rfl⟩:=r;exact gU PySem.W.kitx_int I.kIn gz hi (λz=>nomatch z) λS=>h _ S rfl
 |lst ds=>obtain⟨l,xs,e,t,_⟩:=q;subst e;cases r;obtain⟨its,_,pl,_⟩:=I.list (Y.lst t);obtain⟨o,h1,U,_⟩:=pl.isList;exact gU PySem.W.kitx_list I.kIn ⟨o,h1,U⟩ v (λz=>nomatch z) λS=>h _ S rfl
 |tup ds=>obtain⟨l,xs,e,t,_⟩:=q;subst e;cases r;obtain⟨its,_,pl,_⟩:=I.tuple (Y.tup t);obtain⟨o,h1,U,_⟩:=pl;exact gU PySem.W.kitx_tuple I.kIn ⟨o,h1,U⟩ n (λz=>nomatch z) λS=>h _ S rfl
 |ins C fs=>exact bu rfl (g C fs)|dic ks=>exact bu rfl (m ks)|dil ks=>exact bu rfl (j ks)
theorem G3{T:String}{y:br}{g:A0->M A0}(k:sH X (.builtin "isinstance") (λxs H Q=>∃v,xs=[v,.ty T]/\rD1 K W own g v H Q))(f:X.mg "isinstance"=af)(Y:X.mg y=af)(S:fT y=aa (.type T))(l:DE K W ae X a fa)(i: ~~~(Gl X "isinstance"))(b: ~~~(Gl X y))(e:(y≠"__name__")⁻¹)(j:((y==("__debug__":br))=ae)⁻¹)(c: ~~~(au [a,.Name y p2] X.env=[(ae,a_ a X.env),(ae,a_ (.Name y p2) X.env)]))(I: ~~~(au [.Name y p2] X.env=[(ae,a_ (.Name y p2) X.env)]))(U: ~~~((cu pos (au [.Name y p2] X.env)).any (·.1)=ae)):
  DE K W own X (.Call (.Name "isinstance" p) [a,.Name y p2] [] pos) (f1 g fa):=
 (xG k i f boot_isinstance (nD l (nD (pe_bltn (v:=.ty T) b Y S rfl e j) rL I) a7) am am a7 U).imp λσ H Q h=>by
  obtain⟨F,ρ,r,s,q⟩:=rd_1 h;refine⟨F,ρ,r,s,?_⟩
  cases e1:fa ρ with
  |error z=>rw[e1]at q;exact q|ok d=>rw[e1]at q;exact λv F' H' st z=>⟨v,rfl,q v F' H' st z⟩
theorem Nz(S:Kit K)(c: ~~~(X.K=K)):sH X (.builtin "isinstance") (λxs H Q=>∃v,xs=[v,.ty "int"]/\rD1 K W own xK v H Q):=by
 subst c;intro A1 s σ H xs us Q I r h;obtain⟨v,rfl,F,d,s1,q,p⟩:=h;obtain⟨u,w,rfl,a,U⟩:=r.two;cases(show w=gO "int" from U);by_cases hi:(∃C fs,d=.ins C fs)\/(∃ks,d=.dic ks)\/∃ks,d=.dil ks
 .rcases hi with⟨C,fs,rfl⟩|⟨ks,rfl⟩|⟨ks,rfl⟩<;>exact eQ.stuck p
 .refine isi_D I s1 q a S.LO S.K8 S.K5 S.GY S.Bj (λk Y b=>⟨.bl k,H,I.tok Y,rfl,?_⟩) (λC fs e=>hi (.inl ⟨C,fs,e⟩)) (λks e=>hi (.inr (.inl ⟨ks,e⟩))) (λks e=>hi (.inr (.inr ⟨ks,e⟩)));cases d<;>first|(subst b;exact eQ.bl p s1)|simp_all
def Cn(S:Kit K)(d:X.mg "isinstance"=af)(b:X.mg "int"=af)(f:DE K W ae X a fa)(g: ~~~(X.K=K))(e: ~~~(Gl X "isinstance"))(c: ~~~(Gl X "int"))(U: ~~~(au [a,.Name "int" p2] X.env=[(ae,a_ a X.env),(ae,a_ (.Name "int" p2) X.env)]))(I: ~~~(au [.Name "int" p2] X.env=[(ae,a_ (.Name "int" p2) X.env)]))(Y: ~~~((cu pos (au [.Name "int" p2] X.env)).any (·.1)=ae)):
  DE K W own X (.Call (.Name "isinstance" p) [a,.Name "int" p2] [] pos) (f1 xK fa):=G3 (Nz S g) d b (by rfl) f e c am am U I Y
theorem KJ(S:Kit K)(c: ~~~(X.K=K)):sH X (.builtin "isinstance") (λxs H Q=>∃v,xs=[v,.ty "bool"]/\rD1 K W own wz v H Q):=by
 subst c;intro A1 s σ H xs us Q I r h;obtain⟨v,rfl,F,d,s1,q,p⟩:=h;obtain⟨u,w,rfl,a,U⟩:=r.two;cases(show w=gO "bool" from U);by_cases hi:(∃C fs,d=.ins C fs)\/(∃ks,d=.dic ks)\/∃ks,d=.dil ks
 .rcases hi with⟨C,fs,rfl⟩|⟨ks,rfl⟩|⟨ks,rfl⟩<;>exact eQ.stuck p
 .refine isi_D I s1 q a S.K7 S.Hc S.H9 S.EV S.zT (λk Y b=>⟨.bl k,H,I.tok Y,rfl,?_⟩) (λC fs e=>hi (.inl ⟨C,fs,e⟩)) (λks e=>hi (.inr (.inl ⟨ks,e⟩))) (λks e=>hi (.inr (.inr ⟨ks,e⟩)));cases d<;>first|(subst b;exact eQ.bl p s1)|simp_all
def AJ(S:Kit K)(d:X.mg "isinstance"=af)(b:X.mg "bool"=af)(f:DE K W ae X a fa)(g: ~~~(X.K=K))(e: ~~~(Gl X "isinstance"))(c: ~~~(Gl X "bool"))(U: ~~~(au [a,.Name "bool" p2] X.env=[(ae,a_ a X.env),(ae,a_ (.Name "bool" p2) X.env)]))(I: ~~~(au [.Name "bool" p2] X.env=[(ae,a_ (.Name "bool" p2) X.env)]))(Y: ~~~((cu pos (au [.Name "bool" p2] X.env)).any (·.1)=ae)):
  DE K W own X (.Call (.Name "isinstance" p) [a,.Name "bool" p2] [] pos) (f1 wz fa):=G3 (KJ S g) d b (by rfl) f e c am am U I Y
theorem KH(S:Kit K)(c: ~~~(X.K=K)):sH X (.builtin "isinstance") (λxs H Q=>∃v,xs=[v,.ty "list"]/\rD1 K W own wy v H Q):=by
 subst c;intro A1 s σ H xs us Q I r h;obtain⟨v,rfl,F,d,s1,q,p⟩:=h;obtain⟨u,w,rfl,a,U⟩:=r.two;cases(show w=gO "list" from U);by_cases hi:(∃C fs,d=.ins C fs)\/(∃ks,d=.dic ks)\/∃ks,d=.dil ks
 .rcases hi with⟨C,fs,rfl⟩|⟨ks,rfl⟩|⟨ks,rfl⟩<;>exact eQ.stuck p
 .refine isi_D I s1 q a S.K6 S.Hb S.GZ S.EU S.zS (λk Y b=>⟨.bl k,H,I.tok Y,rfl,?_⟩) (λC fs e=>hi (.inl ⟨C,fs,e⟩)) (λks e=>hi (.inr (.inl ⟨ks,e⟩))) (λks e=>hi (.inr (.inr ⟨ks,e⟩)));cases d<;>first|(subst b;exact eQ.bl p s1)|simp_all
def AI(S:Kit K)(d:X.mg "isinstance"=af)(b:X.mg "list"=af)(f:DE K W ae X a fa)(g: ~~~(X.K=K))(e: ~~~(Gl X "isinstance"))(c: ~~~(Gl X "list"))(U: ~~~(au [a,.Name "list" p2] X.env=[(ae,a_ a X.env),(ae,a_ (.Name "list" p2) X.env)]))(I: ~~~(au [.Name "list" p2] X.env=[(ae,a_ (.Name "list" p2) X.env)]))(Y: ~~~((cu pos (au [.Name "list" p2] X.env)).any (·.1)=ae)):
  DE K W own X (.Call (.Name "isinstance" p) [a,.Name "list" p2] [] pos) (f1 wy fa):=G3 (KH S g) d b (by rfl) f e c am am U I Y
theorem HP(S:Kit K)(c: ~~~(X.K=K)):sH X (.builtin "isinstance") (λxs H Q=>∃v,xs=[v,.ty "tuple"]/\rD1 K W own sS v H Q):=by
 subst c;intro A1 s σ H xs us Q I r h;obtain⟨v,rfl,F,d,s1,q,p⟩:=h;obtain⟨u,w,rfl,a,U⟩:=r.two;cases(show w=gO "tuple" from U);by_cases hi:(∃C fs,d=.ins C fs)\/(∃ks,d=.dic ks)\/∃ks,d=.dil ks
 .rcases hi with⟨C,fs,rfl⟩|⟨ks,rfl⟩|⟨ks,rfl⟩<;>exact eQ.stuck p
 .refine isi_D I s1 q a S.Ha S.EX S.EW S.D3 S.yS (λk Y b=>⟨.bl k,H,I.tok Y,rfl,?_⟩) (λC fs e=>hi (.inl ⟨C,fs,e⟩)) (λks e=>hi (.inr (.inl ⟨ks,e⟩))) (λks e=>hi (.inr (.inr ⟨ks,e⟩)));cases d<;>first|(subst b;exact eQ.bl p s1)|simp_all
def uP(S:Kit K)(d:X.mg "isinstance"=af)(b:X.mg "tuple"=af)(f:DE K W ae X a fa)(g: ~~~(X.K=K))(e: ~~~(Gl X "isinstance"))(c: ~~~(Gl X "tuple"))(U: ~~~(au [a,.Name "tuple" p2] X.env=[(ae,a_ a X.env),(ae,a_ (.Name "tuple" p2) X.env)]))(I: ~~~(au [.Name "tuple" p2] X.env=[(ae,a_ (.Name "tuple" p2) X.env)]))(Y: ~~~((cu pos (au [.Name "tuple" p2] X.env)).any (·.1)=ae)):
  DE K W own X (.Call (.Name "isinstance" p) [a,.Name "tuple" p2] [] pos) (f1 sS fa):=G3 (HP S g) d b (by rfl) f e c am am U I Y
def tRng(ta:TA)(lo hi:bi->Option Int):TE:=λσ H Q=>ta σ H λvs H1=>∃i j,lo vs=aa i/\hi vs=aa j/\(-(2^62)<=i/\i<2^62/\ -(2^62)<=j/\j<2^62)/\∀r,H1 r=af->Q (.ref r) (upd H1 r (.rng i j))
noncomputable def lo1:bi->Option Int
 |[.int _]=>aa 0|_=>af
noncomputable def hi1:bi->Option Int
 |[.int j]=>aa j|_=>af
noncomputable def lo2:bi->Option Int
 |[.int i,.int _]=>aa i|_=>af
noncomputable def hi2:bi->Option Int
 |[.int _,.int j]=>aa j|_=>af
def Iz{s:ao}{lo hi:Int}{t u v:Tok}{S:Nat}(I:A3 X A1 σ H s):A3 X A1 σ (upd H s.heap.objs.size (.rng lo hi)) {s with heap:=s.heap.push {cls:=.type "range",data:=.fields #[.int lo t,.int hi u,.int 1 v]},toks:=S}:=
 I.laid (λb o e=>ah _ e) (aq _) ⟨t,u,v,aw _ rfl⟩
def pe_rng1(d:Gl X "range")(c:X.mg "range"=af)(e:PA X [a] ta)(Y: ~~~(au [a] X.env=[(ae,a_ a X.env)])):PE X (.Call (.Name "range" p) [a] [] pos) (tRng ta lo1 hi1):=by
 intro A1 s σ H Q I h;refine oT (xf I d c mX (bR (A7 (e pos A1 s σ H _ I h) λus s1 b=>?_) Y rfl));obtain⟨vs,H1,U,S,q1⟩:=b;obtain⟨i,j,e1,e2,f,q⟩:=q1
 match vs,S,e1,e2 with
 |[.int k],S,e1,e2=>cases e1;cases e2;obtain⟨u,rfl,t,rfl⟩:=S.one;exact call_range_1 ⟨.ref _,_,Iz U,rfl,q _ U.fresh⟩
theorem pe_rng2(e:Gl X "range")(d:X.mg "range"=af)(f:PA X [a,b] ta)(g: ~~~(au [a,b] X.env=[(ae,a_ a X.env),(ae,a_ b X.env)]))(U: ~~~(au [b] X.env=[(ae,a_ b X.env)])):PE X (.Call (.Name "range" p) [a,b] [] pos) (tRng ta lo2 hi2):=by
 intro A1 s σ H Q I h;refine oT (xf I e d mX (bR (A7 (f pos A1 s σ H _ I h) λus s1 c=>?_) a7 (by rw[U];rfl)));obtain⟨vs,H1,Y,S,q1⟩:=c;obtain⟨i,j,e1,e2,l,q⟩:=q1
 match vs,S,e1,e2 with
 |[.int k,.int m],S,e1,e2=>cases e1;cases e2;obtain⟨u,w,rfl,⟨t,rfl⟩,t',rfl⟩:=S.two;exact call_range_2 ⟨.ref _,_,Iz Y,rfl,q _ Y.fresh⟩
theorem A6.of_get:∀{xs:bi} {us:bm},xs.length=us.length->(∀(i:Nat) v u,xs[i]?=aa v->us[i]?=aa u->A5 v u)->A6 xs us
 |[],[],_,_=>.nil|[],_::_,h,_=>by simp at h|_::_,[],h,_=>by simp at h|x::xs,u::us,h,q=>.cons (q 0 x u rfl rfl) (A6.of_get a7 λi v w h1 I=>q (i+1) v w a7 a7)
def Ca{lo:Int}:∀{n:Nat} {I:bm},I.length=n->(∀(i:Nat) v,I[i]?=aa v->∃t,v=.int (lo+i) t)->A6 ((aX n).map λk:Nat=>V.int (lo+k)) I:=by
 intro n I S h;refine A6.of_get (by simp[S]) λi v u e1 e2=>?_;obtain⟨t,rfl⟩:=h i u e2;have hi:=by have:=(aD.mp e1).1;simpa using this
 rw[aV,h_ hi]at e1;cases e1;exact⟨t,rfl⟩
theorem E6(d:X.calm=ag):sH X (.type "list") (λxs H Q=>∃r lo hi,xs=[.ref r]/\H r=aa (.rng lo hi)/\(-(2^62)<=lo/\lo<2^62/\ -(2^62)<=hi/\hi<2^62)/\(hi-lo).toNat<=ay/\∀l,H l=af->Q (.ref l) (upd H l (.lst ((aX (hi-lo).toNat).map λk:Nat=>V.int (lo+k))))):=by
 intro A1 s σ H xs us Q I a h;obtain⟨r,lo,hi,rfl,f,⟨p,o,m,j⟩,x,q⟩:=h;obtain⟨u,rfl,Y⟩:=a.one;cases Y;obtain⟨t,u,v,e⟩:=(show ∃t u v,s.heap.get? r=aa {cls:=.type "range",data:=.fields #[.int lo t,.int hi u,.int 1 v]}from I.hok r _ f)
 refine call_list_range (n:=(hi-lo).toNat) (I.ok.hd d) e (p8 p o m j) (by grind[nr]) a7 λh' w S g b e2 U=>?_;have c:A6 ((aX (hi-lo).toNat).map λk:Nat=>V.int (lo+k)) S.toList:=Ca (by exact U.1) λi v hi=>by
  obtain⟨t,e⟩:=U.2 i v (by simpa using hi)
  simp_all
 exact⟨.ref _,_,I.laid b (aq _) (show uo _ h' _ (.lst _)from⟨a7,S.toList,g,c,a7⟩),rfl,q _ I.fresh⟩
def AG(lo:Int)(n:Nat):ei K F (eM lo n) ((aX n).map λk:Nat=>V.int (lo+k)):=by
 refine ei.of_get (by simp[eM]) λi d v h1 I=>?_;have hi:=by have:=(aD.mp I).1;simpa using this
 unfold eM at h1;rw[aV,h_ hi]at h1 I;cases h1;cases I;rfl
theorem lrng_end{Q:VK}{i j:Int}(p:eQ K W ag F H1 (nA (eM i (j-i).toNat)) Q)(s:eH F H1)(U:H1 r=af):
  (j-i).toNat<=ay/\∀l,upd H1 r (.rng i j) l=af->Q (.ref l) (upd (upd H1 r (.rng i j)) l (.lst ((aX (j-i).toNat).map λk:Nat=>V.int (i+k)))):=by
 unfold nA at p;by_cases S:(eM i (j-i).toNat).length<=ay
 .rw[aC S]at p;refine⟨by simp_all[eM],λl I=>?_⟩
  have s2:A2 F H1 F (upd H1 r (.rng i j)):=A2.grow s U;have e:=s2.hh.free I;exact p _ F _ (s2.trans (A2.grow s2.fh I)) ⟨l,_,rfl,dy,s.free e,e,AG i _⟩
 .rw[aA S]at p;exact(W.ns p).elim
theorem de_lrng2(f:X.mg "list"=af)(t:X.mg "range"=af)(y:DA K W X [a,b] fr)(x: ~~~(X.calm=ag))(u: ~~~(Gl X "range"))(g: ~~~(Gl X "list"))(q: ~~~(au [a,b] X.env=[(ae,a_ a X.env),(ae,a_ b X.env)]))(c: ~~~(au [b] X.env=[(ae,a_ b X.env)]))(S: ~~~(au [.Call (.Name "range" q1) [a,b] [] q2] X.env=[(ae,a_ (.Call (.Name "range" q1) [a,b] [] q2) X.env)])):DE K W ag X (.Call (.Name "list" p) [.Call (.Name "range" q1) [a,b] [] q2] [] pos) (fLR (wg GB fr)):=by
 refine PE.imp (zX (E6 x) g f dH (nD (pe_rng2 u t y q c) rL S) am am S rfl) λσ H Q h=>?_;obtain⟨F,ρ,r,s,p⟩:=h;refine vv r s (λe z=>p.err (by simp_all[fLR])) λds w xs F1 H1 s1 q1=>?_;have e1:fLR (wg GB fr) ρ=(GB ds).bind nA:=by unfold fLR wg;rw[w];rfl
 rw[e1]at p;have p1:=p.step s1;by_cases U:∃i j,ds=[.int i,.int j]
 .obtain⟨i,j,rfl⟩:=U;obtain⟨v,vs,e2,q2,m,Y,e3,o,e4⟩:=q1;have p2:eQ K W ag F1 H1 ((if (ih i&&ih j)=ag then cG (eM i (j-i).toNat)else eZ Err.stuck).bind nA) Q:=p1;by_cases I:(ih i&&ih j)=ag
  .rw[aC I]at p2;unfold ih at I;simp at I;have e5:xs=[.int i,.int j]:=by rw[e2,show v=.int i from q2,e3,show m=.int j from o,show Y=[]from e4]
   subst e5;refine⟨i,j,rfl,rfl,⟨I.1.1,I.1.2,I.2.1,I.2.2⟩,λn d=>?_⟩
   obtain⟨l,k⟩:=lrng_end p2 s1.fh d;exact⟨n,i,j,rfl,dy,⟨I.1.1,I.1.2,I.2.1,I.2.2⟩,l,k⟩
  .rw[aA I]at p2;exact(W.ns p2).elim
 .have:GB ds=.error .stuck:=by
   unfold GB;split
   .exact bu ⟨_,_,rfl⟩ U
   .rfl
  rw[this]at p1;exact(W.ns p1).elim
end
section
variable{es:List bX}{p:lj}
def vl{L:av}{s:ao}{is:be}(Y:N'.Nodup)(a:PGs (i2 X N' sc L cs s H fp) es (uK is))(hi: ~~~(N'[i]?=aa x))(I:autoParam (Loc (i2 X N' sc L cs s H fp).env.scope x) Jq6)(U:autoParam ((i2 X N' sc L cs s H fp).fn x=ag\/(i2 X N' sc L cs s H fp).env.scope.names.lookup x=aa .local) Jq3)(S: ~~~((eG (.Name x p::es) (i2 X N' sc L cs s H fp).env).map (·.2)=jl (.Name x p) (i2 X N' sc L cs s H fp).env::(eG es (i2 X N' sc L cs s H fp).env).map (·.2))):PGs (i2 X N' sc L cs s H fp) (.Name x p::es) (uK (i::is)):=ze (pg_c Y hi I U) a S
end
open PySem.W in
section
open PySem.W
variable{key:Nat->Int}
noncomputable def ltK(key:Nat->Int)(i j:Nat):Bool:=aF (key i<key j)
end
section
open PySem.W
variable{key:Nat->Int}
def Asks(prog:bL)(w:c8)(A:dD)(key:Nat->Int)(vs:bm)(s':ao):Prop:=
 aP (aI prog w) A (keyKind' vs.toArray) (fun κ s2=>s2=s'/\∀i j (C:Bool->ao->Prop),i<vs.length->j<vs.length->C (ltK key i j) s'->oe prog w A κ vs i j C s') (λ_ _=>False) s'
end
noncomputable def insL{α:Type}(lt:α->α->Bool)(x:α):List α->List α
 |[]=>[x]|y::ys=>if lt y x=ag then y::insL lt x ys else x::y::ys
def uy{α:Type}(lt:α->α->Bool):List α->List α
 |[]=>[]|x::xs=>insL lt x (uy lt xs)
noncomputable def ltZ(a b:Int):Bool:=aF (a<b)
noncomputable def Eg:a8->a8->Bool
 |[],[]=>ae|[],_::_=>ag|_::_,[]=>ae|a::as,b::I=>if a=b then Eg as I else aF (a<b)
noncomputable def j0(t:a8):A0:=.tup (t.map .int)
def tupD:A0->M a8
 |.tup ds=>o4 ds|_=>stk
def vd:a9->M (List a8)
 |[]=>.ok []|d::ds=>(tupD d).bind λt=>(vd ds).bind λr=>.ok (t::r)
section
variable{lt:α->α->Bool}
structure Ord(lt:α->α->Bool):Prop where
 irr:∀a,lt a a=ae
 tr:∀a b c,lt a b=ag->lt b c=ag->lt a c=ag
 tot:∀a b,lt a b=ae->lt b a=ae->a=b
theorem ordZ:Ord ltZ:=⟨λa=>by simp[ltZ],λa b c h1 I=>by grind[ltZ],λa b h1 I=>by grind[ltZ]⟩
theorem Ma:Ord Eg:=by
 refine⟨λa=>?_,λa b c=>?_,λa b=>?_⟩
 .induction a with
  |nil=>rfl|cons x xs S=>simp[Eg,S]
 .induction a generalizing b c with
  |nil=>
   cases b with
   |nil=>simp|cons y ys=>
    intro _ I;cases c with
    |nil=>simp_all[Eg]|cons z U=>rfl
  |cons x xs S=>
   intro h1 I;cases b with
   |nil=>simp_all[Eg]|cons y ys=>
    cases c with
    |nil=>simp_all[Eg]|cons z U=>
     simp[Eg]at h1 I ⊢
     grind
 .induction a generalizing b with
  |nil=>
   cases b with
   |nil=>simp|cons y ys=>simp[Eg]
  |cons x xs S=>
   cases b with
   |nil=>simp[Eg]|cons y ys=>
    intro h1 I;simp[Eg]at h1 I
    grind
theorem Av(x:α):∀l:List α,(insL lt x l).Perm (x::l)
 |[]=>eJ _|y::ys=>by
  rw[insL];split
  .exact((Av x ys).cons y).trans (List.Perm.swap x y ys)
  rfl
theorem o3:∀l:List α,(uy lt l).Perm l
 |[]=>eJ _|x::xs=>(Av x _).trans ((o3 xs).cons x)
theorem Ord.le_trans(o:Ord lt){a b c:α}(h1:lt b a=ae)(S:lt c b=ae):lt c a=ae:=by
 cases h:lt c a with
 |false=>rfl|true=>
  cases I:lt b c with
  |true=>rw[o.tr b c a I h]at h1;lia|false=>
   have:=o.tot c b S I
   simp_all
theorem Ord.asym(o:Ord lt){a b:α}(h:lt a b=ag):lt b a=ae:=by
 cases I:lt b a with
 |false=>rfl|true=>have:=o.tr a b a h I;rw[o.irr]at this;simp_all
theorem Au(o:Ord lt)(x:α):∀l:List α,l.Pairwise (λa b=>lt b a=ae)->(insL lt x l).Pairwise (λa b=>lt b a=ae)
 |[],_=>by simp[insL]|y::ys,h=>by
  rw[insL];rw[cZ]at h;split
  .rename_i I;rw[cZ];refine⟨λb S=>?_,Au o x ys h.2⟩
   rcases aM.mp ((Av x ys).mem_iff.mp S)with e|e
   .rw[e];exact o.asym I
   simp_all
  .rename_i I;rw[cZ,cZ];refine⟨λb S=>?_,h⟩
   rcases aM.mp S with e|e
   .simp_all
   .exact o.le_trans (by simpa using I) (h.1 b e)
theorem qU(o:Ord lt):∀l:List α,(uy lt l).Pairwise (λa b=>lt b a=ae)
 |[]=>dU|x::xs=>Au o x _ (qU o xs)
theorem vx(o:Ord lt):∀{l m:List α},l.Perm m->l.Pairwise (λa b=>lt b a=ae)->m.Pairwise (λa b=>lt b a=ae)->l=m
 |[],m,h,_,_=>(List.Perm.nil_eq h)|a::l,m,h,h1,I=>by
  cases m with
  |nil=>simp_all|cons b m=>
   rw[cZ]at h1 I;have e:a=b:=by
    rcases aM.mp (h.mem_iff.mp bW)with e|e
    .exact e
    .rcases aM.mp (h.mem_iff.mpr bW)with e2|e2
     .simp_all
     .exact o.tot a b (I.1 a e) (h1.1 b e2)
   subst e;rw[vx o (List.Perm.cons_inv h) h1.2 I.2]
end
section
open PySem.W
variable{lt:α->α->Bool}
def getD_get{l:List α}{d:α}(h:i<l.length):l.getD i d=l[i]:=by simp[h]
noncomputable def rk(lt:α->α->Bool)(I:List α)(d:α)(i:Nat):Int:=((I.filter λz=>lt z (I.getD i d)).length:Int)
theorem filter_lt{p q:α->Bool}(h:∀z,p z=ag->q z=ag):∀l:List α,(l.filter p).length<=(l.filter q).length/\((∃z∈l,p z=ae/\q z=ag)->(l.filter p).length<(l.filter q).length)
 |[]=>⟨aq _,λ⟨_,h,_⟩=>nomatch h⟩
 |x::xs=>by
  obtain⟨S,I⟩:=filter_lt h xs
  grind[]
theorem rk_lt(o:Ord lt){I:List α}{d:α}(hi:i<I.length)(Y:j<I.length):ltK (rk lt I d) i j=lt (I.getD i d) (I.getD j d):=by
 unfold ltK rk;cases h:lt _ _ with
 |true=>
  refine dA ?_;have:=(filter_lt (q:=λz=>lt z _) (λz S=>o.tr _ _ _ S h) I).2 ⟨_,(by rw[getD_get hi];exact dh hi),o.irr _,h⟩
  lia
 |false=>
  refine cq ?_;have:=(filter_lt (p:=λz=>lt z (I.getD j d)) (q:=λz=>lt z _) (λz S=>by
   cases U:lt z _ with
   |true=>rfl|false=>
    have e:=o.le_trans h U
    lia) I).1
  lia
theorem vals_map(r:A6 xs us)(ps:be)(S:∀i∈ps,i<xs.length):A6 (ps.map λi=>xs.getD i .non) (ps.map λi=>us.getD i .none):=by
 refine A6.of_get ad λk v u h1 I=>?_;rw[aV]at h1 I;cases e:ps[k]? with
 |none=>simp_all|some i=>rw[e]at h1 I;simp only[gW,g9]at h1 I;have hi:=S i (bS e);obtain⟨U,e1,q⟩:=r.get (i:=i) (x:=xs[i]) ad;rw[getD_get hi]at h1;rw[cD,e1]at I;rw[<-h1,<-I];exact q
def rk_ints(is:a8)(i j:Nat)(hi:i<is.length)(I:j<is.length):ltK (rk ltZ is 0) i j=aF (is.getD i 0<is.getD j 0):=rk_lt ordZ hi I
theorem NI{s':ao}(hi:iN its is)(Y:2<=its.length):Asks prog w A (rk ltZ is 0) its s':=by
 have e:=hi.length;obtain⟨U,S,rest,rfl⟩:∃U S rest,its=U::S::rest:=by
  match its,Y with
  |U::S::rest,_=>lia
 unfold Asks;rw[keyKind_ints hi];refine ai ⟨rfl,λi j C h1 Y a=>?_⟩;unfold oe;obtain⟨c,e1⟩:=I hi i h1;obtain⟨b,e2⟩:=I hi j Y;rw[e1,e2];rw[rk_ints is i j ac ac]at a;exact kat_lt_int a
where
 I {vs:bm} {ns:a8} (h:iN vs ns) (i:Nat) (hi:i<vs.length):∃t,vs.getD i cA=.int (ns.getD i 0) t:=by
  induction h generalizing i with
  |nil=>simp_all|cons n t r d=>
   cases i with
   |zero=>exact⟨t,rfl⟩|succ i=>simp_all
def lexF(f:Bool):a8->a8->Bool
 |a::as,b::I=>if a=b then lexF f as I else aF (a<b)
 |_,_=>f
theorem J0:∀as I:a8,lexF (aF (as.length<I.length)) as I=Eg as I
 |[],[]=>rfl|[],_::_=>by rfl|_::_,[]=>by rfl|a::as,b::I=>by
  have:=J0 as I
  simp_all[lexF,Eg,]
theorem Aq{prog:bL}{w:c8}{A:dD}{s':ao}{f:Bool}{Q:Bool->ao->Prop}:∀{us vs:bm} {as I:a8} (i:Nat),iN us as->iN vs I->Q (lexF f as I) s'->KatLex prog w A ag f Q (us.zip vs) i s'
 |_,_,_,I,_,.nil,_,h=>kat_nil (by cases I<;>exact h)
 |_,_,_,_,_,.cons a t r,.nil,h=>kat_nil h|_,_,_,_,i,.cons a t r,.cons b u r',h=>by
  refine kat_cons (SeqAt.EqAt.int_int a t b u _ _ _ _ ?_);by_cases e:a=b
  .rw[show(a==b)=ag by simpa using e];rw[lexF,aC e]at h;exact kat_yes (Aq _ r r' h)
  .rw[show(a==b)=ae by simp_all];rw[lexF,aA e]at h;refine kat_no ?_;cases S:(ag&&i==0)with
   |true=>exact oneLt_int h|false=>exact kat_one _ _ (nW h)
theorem NH{s:ao}{ts:List a8}(I:A3 X A1 σ H s)(O:eH F H)(r:ei X.K F (ts.map j0) xs)(p:(ts.all λt=> !t.isEmpty)=ag)(q:A6 xs its)(h2:2<=its.length)(G:∀b o,s.heap.get? b=aa o->h1.get? b=aa o):Asks X.prog X.w A (rk Eg ts []) its {s with heap:=h1}:=by
 have l1:=q.length;have E:=r.length;rw[az]at E;have S:∀i,i<its.length->∃(l:av) (U:j5) (us:bm) (n:Nat),its.getD i cA=.ref l/\h1.get? l=aa U/\U.cls=.type "tuple"/\U.data=.seq us.toArray n/\iN us (ts.getD i []):=λi hi=>by obtain⟨v,e1,l,ys,e2,B,D⟩:=r.get (i:=i) (d:=j0 (ts[i]'(by omega))) (by simp[show i<ts.length by lia]);subst e2;obtain⟨u,e3,a⟩:=q.get e1;cases a;obtain⟨us,a,pl,_⟩:=I.tuple (O.tup B);obtain⟨U,R,Q,n,P⟩:=pl;have e4:ys=(ts[i]'(by omega)).map V.int:=ry D (sf _);rw[e4]at a;exact⟨l,U,us,n,a7,G _ _ R,Q,P,by rw[getD_get (show i<ts.length by lia)];exact intsAre_of a⟩
 have Y:∀(k:Nat),k<=its.length->∃fs,KatTups h1 (its.drop (its.length-k)) fs/\fs.length=k/\∀v∈fs,∃i t,v=i3 i t:=by
  intro k
  induction k with
  |zero=>intro _;exact⟨[],by rw[mZ,jd];exact ph,rfl,λ_ h=>nomatch h⟩
  |succ k J=>
   intro hk;obtain⟨fs,q1,q2,c⟩:=J ac;have hi:its.length-(k+1)<its.length:=ac
   obtain⟨l,U,us,n,e1,e2,e3,e4,e5⟩:=S _ hi;have K:(ts.getD (its.length-(k+1)) [])≠[]:=by rw[getD_get (show its.length-(k+1)<ts.length by lia)];have:=eT.mp p _ (dh (show its.length-(k+1)<ts.length by lia));simpa using this
   obtain⟨z,Z⟩:∃z,ts.getD (its.length-(k+1)) []=z:=⟨_,rfl⟩
   rw[Z]at e5 K;obtain⟨f,fr,ef,N⟩:∃f fr,us=f::fr/\∃i t,f=i3 i t:=by
    cases e5 with
    |nil=>simp_all|cons m t r=>exact⟨_,_,rfl,_,_,rfl⟩
   refine⟨f::fs,?_,by simp[q2],λv g=>?_⟩
   .rw[cM hi];rw[show its.length-(k+1)+1=its.length-k by lia];rw[getD_get hi]at e1;rw[e1];exact oK e2 e3 e4 (by rw[ef];rfl) q1
   .rcases aM.mp g with e|e
    .rw[e];exact N
    .exact c v e
 obtain⟨fs,q1,q2,c⟩:=Y its.length (aq _);rw[kH,f_]at q1;refine kat_kind (s:={s with heap:=h1}) (T:=.type "int") q1 ac (λv g=>?_) rfl ⟨rfl,λi j C hi L w=>?_⟩
 .obtain⟨i,t,e⟩:=c v g;rw[e];exact pf rfl
 .unfold oe;obtain⟨x1,o1,us,n1,e1,W,_,d1,y⟩:=S i hi;obtain⟨x2,o2,vs,n2,e2,g2,_,d2,x⟩:=S j L;rw[e1,e2];rw[rk_lt Ma (show i<ts.length by lia) (show j<ts.length by lia)]at w;refine kat_lt (s:={s with heap:=h1}) W d1 g2 d2 (Aq 0 y x ?_);rw[cx,cx,y.length,x.length,J0];exact w
theorem Ib{F:Hp}{t:a8}(h:tupD d=.ok t):d=j0 t:=by
 cases d with
 |tup ds=>
  have:∀{ds:a9} {t:a8},o4 ds=.ok t->ds=t.map .int:=by
   intro ds
   induction ds with
   |nil=>intro t h;cases h;rfl|cons d ds I=>
    intro t h;cases d with
    |int i=>
     cases e:o4 ds with
     |error x=>simp_all[o4,]|ok r=>grind[o4,asI,dm]
    |_=>cases h
  unfold j0;rw[this h]
 |_=>cases h
theorem MN:∀{ds:a9} {t:a8},o4 ds=.ok t->ds=t.map .int:=λ{ds t} h=>by
 have:=Ib (F:=λ_=>af) (d:=.tup ds) h
 simp_all[j0]
theorem zw:∀{ds:a9} {ts:List a8},vd ds=.ok ts->ds=ts.map j0
 |[],_,h=>by cases h;rfl|d::ds,ts,h=>by
  cases e:tupD d with
  |error x=>simp_all[vd]|ok t=>
   cases e2:vd ds with
   |error x=>simp_all[vd,]|ok r=>simp[vd,e,e2]at h;cases h;rw[Ib (F:=λ_=>af) e,zw e2];rfl
theorem zx:∀{ds:a9} {e:Err},vd ds=.error e->e=.stuck
 |[],_,h=>by cases h|d::ds,e,h=>by
  cases e1:tupD d with
  |error x=>
   simp[vd,e1]at h;cases h;cases d with
   |tup ds=>exact tm e1|_=>cases e1;rfl
  |ok t=>
   cases e2:vd ds with
   |error x=>simp[vd,e1,e2]at h;cases h;exact zx e2|ok r=>simp_all[vd]
end
noncomputable def cX(n d:Nat):Option Int->Nat
 |none=>d|some v=>if v<0 then(v+(n:Int)).toNat else min v.toNat n
def cutL(xs:List α)(lo hi:Option Int):List α:=(xs.drop (cX xs.length 0 lo)).take (cX xs.length xs.length hi-cX xs.length 0 lo)
def ve:A0->Option Int->Option Int->M A0
 |.lst ds,lo,hi=>.ok (.lst (cutL ds lo hi))|.tup ds,lo,hi=>if (aF (cX ds.length 0 lo=0)&&aF (cX ds.length ds.length hi=ds.length))=ag then stk else .ok (.tup (cutL ds lo hi))
 |_,_,_=>stk
noncomputable def Dc:df->M (Option Int):=λ_=>.ok af
def yT(f:df->M A0):df->M (Option Int):=λρ=>(f ρ).bind λd=>(asI d).bind λi=>.ok (aa i)
noncomputable def fSl(g:A0->Option Int->Option Int->M A0)(fa:df->M A0)(fl fu:df->M (Option Int)):df->M A0:=λρ=>(fa ρ).bind λa=>(fl ρ).bind λl=>(fu ρ).bind λu=>g a l u
def extD(ρ:df)(i:Nat)(ds:a9):A0->M A4
 |.lst es=>if ds.length+es.length<=ay then put ρ i (ds++es)else stk
 |_=>stk
def sExt(O:be)(i:Nat)(f:df->M A0):df->M A4:=λρ=>(x4 ρ i).bind λds=>(f (erase O ρ)).bind λd=>extD ρ i ds d
section
variable{W:qE}{own:Bool}{a b d:bX}{lo hi:Option bX}{es:List bX}{p r t u:lj}{f:df->M A0}{fl:df->M (Option Int)}
def tDO(K:Fg)(W:qE)(f:df->M (Option Int)):TO:=λσ H Q=>TDx K σ H λF ρ=>match f ρ with
 |.ok o=>∀F' H',A2 F H F' H'->Q o H'|.error e=>W.p e F H
def Ll{R:Option Int->Hp->Prop}(r:rV K F σ ρ)(s:eH F H)(S:∀e,fl ρ=.error e->W.p e F H)(I:∀o,fl ρ=.ok o->∀F1 H1,A2 F H F1 H1->R o H1):tDO K W fl σ H R:=by
 refine⟨F,ρ,r,s,?_⟩
 cases e:fl ρ with
 |ok d=>exact I d e|error x=>exact S x e
abbrev DP(K:Fg)(W:qE)(X:Cx)(e:Option bX)(f:df->M (Option Int)):Prop:=PO X e (tDO K W f)
def PO.imp{t t':TO}(h:PO X lo t)(q:∀σ H Q,t' σ H Q->t σ H Q):PO X lo t':=λA1 s σ H Q I z=>h A1 s σ H Q I (q σ H Q z)
def AE:DP K W X af Dc:=po_none.imp λσ H Q ⟨F,ρ,r,s,p⟩=>p F H (A2.refl s)
theorem AD(h:DE K W ae X e f):DP K W X (aa e) (yT f):=(po_some h).imp λσ H Q ⟨F,ρ,r,s,p⟩=>by
 refine eu r s (λe S=>?_) λd I v F1 H1 s1 q1=>?_
 .simp_all[yT]
 .have z:yT f ρ=(asI d).bind λi=>.ok (aa i):=by unfold yT;rw[I];rfl
  rw[z]at p;cases d with
  |int i=>exact⟨i,q1,p F1 H1 s1⟩|_=>exact(W.ns p).elim
def rDS(K:Fg)(W:qE)(own:Bool)(g:A0->Option Int->Option Int->M A0):V->Option Int->Option Int->Hp->VK->Prop:=λx lo hi H Q=>TX1 (i1 K) x H λF a=>eQ K W own F H (g a lo hi) Q
theorem Nc{g:A0->Option Int->Option Int->M A0}(c:SlR X (rDS K W own g))(Y:DE K W ae X a fa)(U:DP K W X lo fl)(S:DP K W X hi fu):DE K W own X (.Subscript a (.Slice lo hi af p2) pos) (fSl g fa fl fu):=(pe_slice c Y U S).imp λ_ _ _=>by
  intro h;obtain⟨F,ρ,r,s,p⟩:=h;refine eu r s (λe b=>p.err (by simp_all[fSl])) λa Y x F1 H1 s1 q1=>?_;refine Ll (r.mono s1.ff) s1.fh (λe b=>(p.step s1).err (by simp_all[fSl])) λl U i H2 s2=>?_;refine Ll ((r.mono s1.ff).mono s2.ff) s2.fh (λe b=>(p.step (s1.trans s2)).err (by simp_all[fSl])) λu S d f I=>?_;refine⟨d,a,I.fh,i1.mono (s2.trans I).ff q1,?_⟩
  have e:fSl g fa fl fu ρ=g a l u:=by unfold fSl;rw[Y];rw[U];rw[S];rfl
  rw[e]at p;exact p.step ((s1.trans s2).trans I)
def cX_sIx(n d:Nat)(o:Option Int):cX n d o=HT.sIx n d o:=by rfl
def ei.cut{l u:Option Int}(h:ei K F ds xs):ei K F (cutL ds l u) (cutV xs l u):=by unfold cutL cutV;rw[h.length];exact ei.take _ (ei.drop _ h)
theorem x_sl(j: ~~~(X.K=K)):SlR X (rDS K W ag ve):=by
 subst j;intro A1 s σ H x v c b lo hi d Q I f i pl g h;refine(SlR.or sl_list sl_tup) A1 s σ H x v c b lo hi d Q I f i pl g ?_;obtain⟨F,a,s1,Y,p⟩:=h;cases a with
 |lst ds=>obtain⟨l,xs,e,t,z⟩:=Y;exact .inl ⟨l,xs,e,s1.lst t,λr S=>eQ.lst p s1 z.cut S⟩
 |tup ds=>
  obtain⟨l,xs,e,t,z⟩:=Y;have p':eQ X.K W ag F H (if (aF _&&aF _)=ag then stk else .ok _) Q:=p;by_cases U:(aF (cX ds.length 0 lo=0)&&aF (cX ds.length ds.length hi=ds.length))=ag
  .rw[aC U]at p';exact p'.stuck
  .rw[aA U]at p';refine .inr ⟨l,xs,e,s1.tup t,λhw=>U ?_,λr S=>eQ.tup p' s1 z.cut S⟩;rw[cX_sIx,cX_sIx,<-z.length]
   simp_all
 |_=>exact eQ.stuck p
theorem ds_ext(o:DE K W ag X e f)(n:(i∈O)⁻¹)(A: ~~~(X.N[i]?=aa x))(w:autoParam (Vis X.env.scope x) Jq5)(k:((x==("__debug__":br))=ae)⁻¹)(l:((x==("__classdict__":br))=ae)⁻¹)(B: ~~~(X.K=K))(Y: ~~~(au [e] X.env=[(ae,a_ e X.env)]))(U: ~~~(cy (.Name x p) "extend" X.env (a_ (.Name x p) X.env)=a_ (.Name x p) X.env))(c: ~~~(((cu q (au [e] X.env)).all (λx=> !x.1)&&(ik q (fN [] X.env)).all (λx=>x.1.isSome)&&aF ([e].length+([]:List ie).length+(if ([]:List ie).isEmpty then 0 else 1)<30))=ag))(I: ~~~((cu q (au [] X.env)).any (·.1)=ae))(S: ~~~((apos.endLine==q.line)=ag))(h: ~~~(dJ (.Call (.Attribute (.Name x p) "extend" apos) [e] [] q) af pos.line X.env=cO ae)):
  DS K W ro X OL O O (.Expr (.Call (.Attribute (.Name x p) "extend" apos) [e] [] q) pos) (sExt O i f):=λF0 H0=>by
 subst B;exact PS.imp (xm (pe_bm gp mV PySem.F.type_list_extend Mn (pv i A w k l) (nD o rL Y) U c S Y I) h) λ_ σ _=>by
   intro t;obtain⟨FB,F,ρ,r,p⟩:=t;cases g:x4 ρ i with
   |error e=>have:=Ai g;exact p.stuck (by simp_all[sExt])|ok ds=>
    obtain⟨a,xs,e2,s,z⟩:=r.Mo n (wU g);refine⟨.ref a,e2,⟨rfl,_,_,rfl,SqL.of s⟩,?_⟩
    refine eu r.xD r.st.fh (λe o=>p.vk r.st (by simp_all[sExt])) λd k v F1 H1 s1 q=>?_;have C:sExt O i f ρ=extD ρ i ds d:=by unfold sExt;rw[g];rw[k];rfl
    rw[C]at p;cases d with
    |lst es=>
     obtain⟨b,u,e3,y,_,_,m⟩:=q;by_cases j:ds.length+es.length<=ay
     .have ep:extD ρ i ds (.lst es)=put ρ i _:=aC j;rw[ep]at p;exact⟨a,b,xs,u,rfl,by rw[e3],s1.hh _ _ s,y,by rw[z.length,m.length];exact j,p σ F1 _ ((r.step s1).write n (wU g) e2 (ei.append (z.mono s1.ff) m))⟩
     .exact p.stuck (aA j)
    |_=>exact p.stuck rfl
end
section
variable{fl:df->M (Option Int)}
@[simp]def e_pNone:Dc ρ=.ok af:=id rfl
@[simp]def e_pSome:yT fa ρ=(fa ρ).bind λd=>(asI d).bind λi=>.ok (aa i):=id rfl
@[simp]def e_slF(k:A0->Option Int->Option Int->M A0):fSl k fa fl fu ρ=(fa ρ).bind λa=>(fl ρ).bind λl=>(fu ρ).bind λu=>k a l u:=id rfl
@[simp] theorem e_pow{i j:Int}(S:0<=j)(h1:j<=1000000)(I:i.natAbs<2^64):powD (.int i) (.int j)=.ok (.int (i^j.toNat)):=by
 show(if (aF _&&aF _&&aF _)=ag then _ else _)=_
 simp_all
@[simp]def e_eqII(i j:Int):eqM (.int i) (.int j)=.ok (.bl (aF (i=j))):=by rfl
@[simp]def e_neII(i j:Int):neM (.int i) (.int j)=.ok (.bl (!decide (i=j))):=by rfl
@[simp] theorem cut_take{α:Type}(xs:List α){j:Int}(h:0<=j):cutL xs af (aa j)=xs.take j.toNat:=by
 unfold cutL cX
 simp_all[aA,]
@[simp] theorem cut_drop{α:Type}(xs:List α){j:Int}(h:0<=j):cutL xs (aa j) af=xs.drop j.toNat:=by simp_all[cutL,cX,aA,dz,]
end
def BH(Cs:List av)(x:br):A0->M A0
 |.ins C fs=>if Cs.contains C=ag then(match fs.lookup x with
  |some d=>.ok d|none=>stk)else stk
 |_=>stk
def isC(C:av)(m:br):A0->Bool
 |.ins D fs=>(D==C)&&(fs.lookup m).isNone|_=>ae
def yo(C:av)(m:br)(g:a9->M A0)(fo:df->M A0)(fr:df->M a9):df->M A0:=λρ=>(fo ρ).bind λo=>if isC C m o=ag then(fr ρ).bind λas=>g (o::as)else stk
def tu(C C2:av)(m:br)(g g2:a9->M A0)(fo:df->M A0)(fr:df->M a9):df->M A0:=λρ=>(fo ρ).bind λo=>if isC C m o=ag then(fr ρ).bind λas=>g (o::as)else if isC C2 m o=ag then(fr ρ).bind λas=>g2 (o::as)else stk
def newR(C:av)(g:a9->M A0):a9->M A0
 |[d]=>(g [d]).bind λr=>.ok (.ins C [("gaps",r)])|_=>stk
noncomputable def twoL:A0->A0->Bool
 |.lst xs,.lst ys=>aF (xs.length=ys.length)|_,_=>ae
def newP(C:av)(g:a9->M A0):a9->M A0
 |[d,e]=>(g [d]).bind λr=>(g [e]).bind λI=>if twoL r I=ag then .ok (.ins C [("gaps",r),("beside",I)])else stk
 |_=>stk
def sStk:df->M A4:=λ_=>stk
section
variable{W:qE}{own:Bool}{o a b c d:bX}{es:List bX}{y m:br}{p:lj}{f fo:df->M A0}{fr:df->M (List A0)}{C2:av}{Cs:List av}
def N7{st:bY}:DS K W ro X OL O O' st sStk:=λF0 H0 A1 s σ H D I h=>by obtain⟨FB,F,ρ,r,p⟩:=h;exact p.stuck rfl
theorem BJ.at{F:Hp}{x:br}:∀{gs:List (br×A0)} {fs:List (br×V)},BJ K F gs fs->(∀d,gs.lookup x=aa d->∃v,fs.lookup x=aa v/\i1 K F d v)/\(gs.lookup x=af->fs.lookup x=af)
 |[],fs,h=>by cases(show fs=[]from h);simp|(g,d)::gs,fs,h=>by
  obtain⟨v,r,rfl,h1,I⟩:=h;rw[c_,c_];cases e:x==g with
  |true=>exact⟨λS h'=>by cases h';exact⟨v,rfl,h1⟩,λh'=>by cases h'⟩|false=>exact(BJ.at (x:=x) I)
theorem G4(i:∀C∈Cs,Cls K C/\wc K C y)(S:DE K W ae X e fa)(c: ~~~(cy e y X.env (a_ e X.env)=a_ e X.env))(g: ~~~(X.K=K)):DE K W ae X (.Attribute e y pos) (f1 (BH Cs y) fa):=by
 subst g;refine(M7 S c).imp λσ H Q h=>?_;obtain⟨F,ρ,r,s,p⟩:=h;refine eu r s (λe S=>p.err (by simp_all[f1])) λa f x F1 H1 s1 q1=>?_;have k:f1 (BH Cs y) fa ρ=BH Cs y a:=by unfold f1;rw[f];rfl
 rw[k]at p;cases a with
 |ins C gs=>
  obtain⟨l,dx,fs,e1,ea,m⟩:=q1;have p':eQ X.K W ae F H (if Cs.contains C=ag then(match gs.lookup y with
   |some d=>.ok d|none=>stk)else stk) Q:=p
  by_cases U:Cs.contains C=ag
  .rw[aC U]at p';obtain⟨h1,j⟩:=i C a7;cases I:gs.lookup y with
   |none=>rw[I]at p';exact eQ.stuck p'|some d=>rw[I]at p';obtain⟨v,Y,b⟩:=m.at.1 d I;exact⟨l,C,dx,fs,v,e1,s1.fh _ _ ea,h1,j,Y,(p'.step s1) v F1 H1 (A2.refl s1.fh) b⟩
  .rw[aA U]at p';exact eQ.stuck p'
 |_=>exact eQ.stuck p
def PE.or{U S:TE}(h1:PE X e U)(Y:PE X e S):PE X e (λσ H Q=>U σ H Q\/S σ H Q):=λA1 s σ H Q I h=>h.elim (h1 A1 s σ H Q I) (Y A1 s σ H Q I)
def LM{Q:VK}(h:tD K A9 ro (yo C m (nf nN n g) fo fr) σ H Q):tMeth C m (spF K ro (nf nN n g) n) [] E0 (tD K A9 ae fo) (tDA K A9 fr) σ H Q:=by
 obtain⟨F,ρ,r,s,p⟩:=h;refine eu r s (λe U=>p.err (by unfold yo;rw[U];rfl)) λo d x F1 H1 s1 q1=>?_;have i:yo C m (nf nN n g) fo fr ρ=if isC C m o=ag then(fr ρ).bind λas=>nf nN n g (o::as)else stk:=by unfold yo;rw[d];rfl
 rw[i]at p;by_cases S:isC C m o=ag
 .rw[aC S]at p;cases o with
  |ins D gs=>
   obtain⟨l,dx,fs,e1,ea,j⟩:=id q1;have I:((D==C)&&(gs.lookup m).isNone)=ag:=S;rw[aU]at I;obtain⟨a,f⟩:=I;have a:=by simpa using a
   subst a;refine⟨l,dx,fs,e1,s1.fh _ _ ea,j.at.2 (by simpa using f),?_⟩
   have p:=p.step s1;refine vv (r.mono s1.ff) s1.fh (λe U=>p.err (by rw[U];rfl)) λas Y vs k H2 s2 c=>?_;rw[Y]at p;have p:eQ K A9 ro F1 H1 (nf nN n g _) Q:=p;have p:=p.step s2;rw[b8];by_cases b:(A0.ins D gs::as).length=n
   .exact⟨k,.ins D gs::as,s2.fh,⟨x,vs,rfl,i1.mono s2.ff q1,c⟩,b,p⟩
   .rw[Iu b]at p;exact eQ.stuck p
  |_=>cases S
 .rw[aA S]at p;exact eQ.stuck p
theorem IA{Q:VK}(h:tD K A9 ro (tu C C2 m (nf nN n g) (nf nN2 n2 g2) fo fr) σ H Q):
  tD K A9 ro (yo C m (nf nN n g) fo fr) σ H Q\/tD K A9 ro (yo C2 m (nf nN2 n2 g2) fo fr) σ H Q:=by
 obtain⟨F,ρ,r,s,p⟩:=h;cases I:fo ρ with
 |error e=>
  refine .inl ⟨F,ρ,r,s,?_⟩
  simp_all[tu,yo]
 |ok o=>
  have e1:tu C C2 m (nf nN n g) (nf nN2 n2 g2) fo fr ρ=if isC C m o=ag then(fr ρ).bind λas=>nf nN n g (o::as)else if isC C2 m o=ag then(fr ρ).bind λas=>nf nN2 n2 g2 (o::as)else stk:=by unfold tu;rw[I];rfl
  have e2:yo C m (nf nN n g) fo fr ρ=if isC C m o=ag then(fr ρ).bind λas=>nf nN n g (o::as)else stk:=by unfold yo;rw[I];rfl
  have e3:yo C2 m (nf nN2 n2 g2) fo fr ρ=if isC C2 m o=ag then(fr ρ).bind λas=>nf nN2 n2 g2 (o::as)else stk:=by unfold yo;rw[I];rfl
  rw[e1]at p;by_cases S:isC C m o=ag
  .rw[aC S]at p e2;exact .inl ⟨F,ρ,r,s,by rw[e2];exact p⟩
  .rw[aA S]at p;exact .inr ⟨F,ρ,r,s,by rw[e3];exact p⟩
def JI(X:Cx)(o:bX)(m:br)(apos:lj)(es:List bX)(pos:lj)(pl:jo Bool):Prop:=a_ (.Call (.Attribute o m apos) es [] pos) X.env=(do let ov <-a_ o X.env;jH apos.atName;let (f,I) <-gq [ov] (kr ov m pl);oI pos f I (cu pos (au es X.env)) (ik pos (fN [] X.env)))
section
variable{fad2:av}{fd2:dX}
def IG(c:Cls X.K C)(M:Meth X.K C m fad)(F:vT X.prog X.w X.K X.mg X.base CX0 k fad fd ps (spF X.K ro (nf nN n g) n))(Y:vc k X.A)(b:Binds X.K fd ps [])(a:DE X.K A9 ae X o fo)(d:DA X.K A9 X (e::es) fr)(I:au (e::es) X.env=(ae,a_ e X.env)::au es X.env)(S:(cu pos (au es X.env)).any (·.1)=ae)(U:JI X o m apos (e::es) pos pl):DE X.K A9 ro X (.Call (.Attribute o m apos) (e::es) [] pos) (yo C m (nf nN n g) fo fr):=
 (pe_meth a c M F Y b .nil D8 d I S U).imp λ_ _ _=>LM
def F9(c:Cls X.K C)(M:Meth X.K C m fad)(F:vT X.prog X.w X.K X.mg X.base CX0 k fad fd ps (spF X.K ro (nf nN n g) n))(S:vc k X.A)(Y:Binds X.K fd ps [])(U:DE X.K A9 ae X o fo)(I:JI X o m apos [] pos pl):DE X.K A9 ro X (.Call (.Attribute o m apos) [] [] pos) (yo C m (nf nN n g) fo ej):=
 (pe_meth0 U c M F S Y .nil D8 I).imp λσ H Q h=>by
  obtain⟨F,ρ,r,s,z⟩:=LM h;refine⟨F,ρ,r,s,?_⟩
  cases e1:fo ρ with
  |error e=>rw[e1]at z;exact z|ok od=>rw[e1]at z;intro v F' H' st q;obtain⟨l,dx,fs,h1,d,b,a⟩:=z v F' H' st q;exact⟨l,dx,fs,h1,d,b,rd_nil a⟩
def de_meth2(c:Cls K C)(M:Meth K C m fad)(F:vT X.prog X.w X.K X.mg X.base CX0 k fad fd ps (spF K ro (nf nN n g) n))(f:vc k X.A)(h:Binds X.K fd ps [])(j:Cls K C2)(l:Meth K C2 m fad2)(p:vT X.prog X.w X.K X.mg X.base CX0 k2 fad2 fd2 ps2 (spF K ro (nf nN2 n2 g2) n2))(U:vc k2 X.A)(Y:Binds X.K fd2 ps2 [])(b:DE K A9 ae X o fo)(d:DA K A9 X (e::es) fr)(i: ~~~(X.K=K))(I: ~~~(au (e::es) X.env=(ae,a_ e X.env)::au es X.env))(S: ~~~((cu pos (au es X.env)).any (·.1)=ae))(a: ~~~(JI X o m apos (e::es) pos pl)):
  DE K A9 ro X (.Call (.Attribute o m apos) (e::es) [] pos) (tu C C2 m (nf nN n g) (nf nN2 n2 g2) fo fr):=by
 subst i;exact(PE.or (IG c M F f h b d I S a) (IG j l p U Y b d I S a)).imp λ_ _ _=>IA
def xV(c:Cls K C)(M:Meth K C m fad)(F:vT X.prog X.w X.K X.mg X.base CX0 k fad fd ps (spF K ro (nf nN n g) n))(a:vc k X.A)(b:Binds X.K fd ps [])(e:Cls K C2)(f:Meth K C2 m fad2)(h:vT X.prog X.w X.K X.mg X.base CX0 k2 fad2 fd2 ps2 (spF K ro (nf nN2 n2 g2) n2))(I:vc k2 X.A)(S:Binds X.K fd2 ps2 [])(Y:DE K A9 ae X o fo)(d: ~~~(X.K=K))(U: ~~~(JI X o m apos [] pos pl)):
  DE K A9 ro X (.Call (.Attribute o m apos) [] [] pos) (tu C C2 m (nf nN n g) (nf nN2 n2 g2) fo ej):=by
 subst d;exact(PE.or (F9 c M F a b Y U) (F9 e f h I S Y U)).imp λ_ _ _=>IA
end
def spI1(K:Fg)(C:av)(g:a9->M A0):Sp:=λvs H Q _=>∃p dx v F d,vs=[.ref p,v]/\H p=aa (.ins C dx [])/\F p=af/\eH F H/\i1 K F d v/\(match g [d]with
 |.ok r=>∀w F' H',eH F F'->eH F' H'->F' p=af->(∀b o,F' b=aa o->F b=aa o\/H b=af)->(∀c o,H c=aa o->c≠p->H' c=aa o)->H' p=aa (.ins C dx [("gaps",w)])->i1 K F' r w->Q .non H'|.error e=>A9.p e F H)
def spI2(K:Fg)(C:av)(g:a9->M A0):Sp:=λvs H Q _=>∃p dx v U F d Y,vs=[.ref p,v,U]/\H p=aa (.ins C dx [])/\F p=af/\eH F H/\i1 K F d v/\i1 K F Y U/\(match (g [d]).bind λr=>(g [Y]).bind λI=>if twoL r I=ag then .ok (r,I)else stk with
 |.ok (r,I)=>∀w S F' H',eH F F'->eH F' H'->F' p=af->(∀b o,F' b=aa o->F b=aa o\/H b=af)->(∀c o,H c=aa o->c≠p->H' c=aa o)->H' p=aa (.ins C dx [("gaps",w),("beside",S)])->i1 K F' r w->i1 K F' I S->Q .non H'|.error e=>A9.p e F H)
theorem A2.born{x dx:av}{fs:List (br×V)}(s:eH F H)(d:H x=af)(S:H dx=af)(I:dx≠x)(h1:eH F F')(a:eH F' H')(Y:F' x=af)(h:∀b o,F' b=aa o->F b=aa o\/upd (upd H dx (.own x)) x (.ins C dx []) b=af)(g:∀c o,upd (upd H dx (.own x)) x (.ins C dx []) c=aa o->c≠x->H' c=aa o)(f:H' x=aa (.ins C dx fs)):A2 F H (upd F' x (.ins C dx fs)) H' where
 ff:=h1.trans (eH.upd Y)
 hh:=λc o e=>by grind[dV]
 fh:=λc o e=>by
  by_cases U:c=x
  .simp_all[dy]
  .rw[dV U]at e;exact a _ _ e
 nw:=λc o e=>by grind[dV]
theorem de_newR{g:a9->M A0}(l:Mk X.K C fI)(P:vT X.prog X.w X.K X.mg X.base CX0 k fI fdI ps (spI1 K C g))(u:vc (k+1) X.A)(A:X.mg x=aa (.ref C))(D:Binds X.K fdI ps [])(E:DA K A9 X [e] fr)(B: ~~~(Gl X x))(i:((x==("__debug__":br))=ae)⁻¹)(a: ~~~(au [e] X.env=(ae,a_ e X.env)::au [] X.env))(b: ~~~((cu pos (au [] X.env)).any (·.1)=ae)):
  DE K A9 ae X (.Call (.Name x p) [e] [] pos) (fL (newR C g) fr):=by
 refine PE.imp (M5 l P u B A D .nil D8 E i a b) λσ H Q h=>?_;obtain⟨F,ρ,r,s,p⟩:=rd_L h;refine⟨F,ρ,r,s,?_⟩
 cases e1:fr ρ with
 |error z=>simp_all|ok ds=>
  rw[e1]at p;intro vs F1 H1 st q;obtain⟨n,j,s1,q1,z⟩:=p vs F1 H1 st q;rcases j with _|⟨d,_|⟨_,_⟩⟩
  .exact eQ.stuck z
  rotate_left
  .exact eQ.stuck z
  .obtain⟨v,U,rfl,t,y⟩:=q1;cases(show U=[]from y);intro x dx Y S f;refine⟨x,dx,v,n,d,rfl,dy,s1.free Y,λc o e=>?_,t,?_⟩
   .rw[dV (λh=>by rw[h,s1.free Y]at e;lia),dV (λh=>by rw[h,s1.free S]at e;lia)];exact s1 _ _ e
   .have z:eQ K A9 ae n H1 ((g [d]).bind λr=>.ok _) Q:=z;cases I:g [d]with
    |error e=>rw[I]at z;exact bV z|ok r=>
     rw[I]at z;intro w F' H' h1 O m N L J G;refine⟨rfl,z _ _ H' (A2.born s1 Y S f h1 O m N L J) ?_⟩
     exact⟨x,dx,_,rfl,dy,w,[],rfl,i1.mono (eH.upd m) G,rfl⟩
theorem de_newP{g:a9->M A0}(B:Mk X.K C fI)(FI:vT X.prog X.w X.K X.mg X.base CX0 k fI fdI ps (spI2 K C g))(N:vc (k+1) X.A)(P:X.mg x=aa (.ref C))(T:Binds X.K fdI ps [])(W:DA K A9 X [e,a] fr)(R: ~~~(Gl X x))(t:((x==("__debug__":br))=ae)⁻¹)(l: ~~~(au [e,a] X.env=(ae,a_ e X.env)::au [a] X.env))(m: ~~~((cu pos (au [a] X.env)).any (·.1)=ae)):
  DE K A9 ae X (.Call (.Name x p) [e,a] [] pos) (fL (newP C g) fr):=by
 refine PE.imp (M5 B FI N R P T .nil D8 W t l m) λσ H Q h=>?_;obtain⟨F,ρ,r,s,p⟩:=rd_L h;refine⟨F,ρ,r,s,?_⟩
 cases e1:fr ρ with
 |error z=>simp_all|ok ds=>
  rw[e1]at p;intro vs F1 H1 st q;obtain⟨D,y,s1,q1,z⟩:=p vs F1 H1 st q;rcases y with _|⟨d,_|⟨A,_|⟨_,_⟩⟩⟩
  .exact eQ.stuck z
  .exact eQ.stuck z
  rotate_left
  .exact eQ.stuck z
  .obtain⟨v,G,rfl,L,J,Y,rfl,f,O⟩:=q1;cases(show Y=[]from O);intro x dx i U n;refine⟨x,dx,v,J,D,d,A,rfl,dy,s1.free i,λc o e=>?_,L,f,?_⟩
   .rw[dV (λh=>by rw[h,s1.free i]at e;lia),dV (λh=>by rw[h,s1.free U]at e;lia)];exact s1 _ _ e
   .have z:eQ K A9 ae D H1 ((g [d]).bind λr=>(g [A]).bind λb=>if twoL r b=ag then .ok _ else stk) Q:=z;cases S:g [d]with
    |error e=>rw[S]at z;exact bV z|ok r=>
     rw[S,dm]at z;cases I:g [A]with
     |error e=>rw[I]at z;exact bV z|ok b=>
      rw[I,dm]at z;by_cases j:twoL r b=ag
      .rw[aC j]at z;rw[dm,dm,aC j];intro w E F' H' h1 h2 u h4 h5 h6 h7 Z;refine⟨rfl,z _ _ H' (A2.born s1 i U n h1 h2 u h4 h5 h6) ?_⟩
       exact⟨x,dx,_,rfl,dy,w,_,rfl,i1.mono (eH.upd u) h7,E,[],rfl,i1.mono (eH.upd u) Z,rfl⟩
      .rw[aA j]at z;exact eQ.stuck z
end
section
variable{W:qE}{own:Bool}
theorem Nu(n:X.calm=ag):sH X (.builtin "sum") (λxs H Q=>∃(a:av) (is:a8),xs=[.ref a]/\SqL X.K H a (is.map V.int)/\Q (.int is.sum) H):=by
 intro A1 s σ H xs us Q I r h;obtain⟨a,is,rfl,k,q⟩:=h;obtain⟨u,rfl,i⟩:=r.one;cases i;obtain⟨its,g,p,v⟩:=I.list k;have hi:=intsAre_of g;obtain⟨xs,e⟩:=hi.allInts.items;have l:is=xs.toList.map (·.1):=by rw[<-hi.numsOf,<-nt,<-e]
 have d:=p.isList;rw[e]at d;refine pU (iter_intList d λc e2 st Y U=>?_);subst e2;refine⟨_,_,_,_,_,_,_,mS xs,rfl,(p9 (A:=X.A.in1) (I.ok.hd n) _ a U _).toS,st,Y,(λ_ _=>oH),λs' t' S=>?_⟩
 obtain⟨h',g',w,f,j⟩:=s';have e1:=S.gens;have e2:=S.drawn;have e3:=S.os;subst e1 e2 e3;have m:=old_kept λb o t e=>S.heap b o t e;refine⟨.int _,H,I.kept m,⟨t',rfl⟩,?_⟩
 simp_all[preSum_eq,dz,intItems]
def c_sum(Y:X.calm=ag)(b: ~~~(X.K=K)):B9 K W own X (.builtin "sum") sumD:=by
 subst b;refine(Nu Y).imp λxs H Q h=>?_;obtain⟨F,ds,s,q,p⟩:=h;rcases ds with _|⟨d,_|⟨_,_⟩⟩
 .exact eQ.stuck p
 .obtain⟨v,vs,rfl,I,U⟩:=q;cases(show vs=[]from U);cases d with
  |lst ds=>
   obtain⟨a,xs,e,t,z⟩:=I;have p':eQ X.K W own F H ((o4 ds).bind λis=>.ok _) Q:=p;cases hi:o4 ds with
   |error e=>rw[hi]at p';have:=tm hi;subst this;exact eQ.stuck p'|ok is=>rw[hi]at p';have S:=ry z hi;subst S;exact⟨a,is,by rw[e],s.lst t,eQ.int p' s⟩
  |_=>exact eQ.stuck p
 .cases d<;>exact eQ.stuck p
end
theorem HW:∀(ds es:a9) (i:Nat),(Ef ds es)[i]?=(ds[i]?).bind λd=>(es[i]?).map λe=>.tup [d,e]
 |[],es,i=>by rfl|d::ds,[],i=>by simp[Ef]|d::ds,e::es,0=>by rfl|d::ds,e::es,i+1=>by rw[Ef,dM,HW ds es i,dM,dM]
theorem Cz:∀(ds es:a9),(Ef ds es).length=min ds.length es.length
 |[],es=>by rfl|d::ds,[]=>by rfl|d::ds,e::es=>by rw[Ef,aW,Cz ds es,aW,aW];lia
section
variable{s:ao}
noncomputable abbrev newL:j5:={cls:=.type "list",data:=.seq ([]:bm).toArray}
def HM{Q:bm->ao->Prop}{a b:Int}{t u v:Tok}(B:A.handled=af)(x:IsRange s.heap r a b 1 t u v)(j:i6 a b 1=ag)(y:fZ a b 1=n)(U:n<=2^24)(C:∀g d (I:Array aj),(∀c o,s.heap.get? c=aa o->g.get? c=aa o)->ItemsOf (λi v=>∃t,v=.int (a+i*1) t) I n->Q I.toList {s with heap:=g,toks:=d}):aP (aI prog w) A (collect (.ref r)) Q E s:=by
 refine ab (wpAny_runValue (jS nU ?_));refine ab (bw (ai ⟨plainId_quiet k_ _,jS pk ?_⟩))
 (rw[mM k_ _])
 refine b9 (wpAny_extend_range (R:=λS z=>S=.ok (.ret (.ref s.z))/\∃(I:Array aj) (c:Nat),z.heap.get? s.z=aa {cls:=.type "list",dict:=af,data:=.seq I c,slots:=#[]}/\Q I.toList z) B (ah _ x) j y U s.z _ 0 (aw _ rfl) λg d I c l Y m=>?_) (λk z h=>?_) λe z h=>bu h.1 ad
 .exact⟨rfl,I,c,Y,C g d I (λz o e=>l z o (bg (aE e)) (ah _ e)) m⟩
 .cases k with
  |done f=>obtain⟨e,I,c,Y,q⟩:=h;cases e;exact ab (jE Y (ai q))
  |again D=>
   refine⟨h.1,gu h.2 λS z p=>?_⟩
   obtain⟨rfl,I,c,Y,q⟩:=p;exact ab (jE Y (ai q))
theorem CC{a b:Int}{t u v:Tok}(Y:i6 a b 1=ag)(x:fZ a b 1=n)(S:n<=2^24):
  MeetsIn prog w (Builtin.«tuple.__new__» ⟨[.type "tuple",.ref r],[]⟩)
   (λA R s=>A.handled=af/\IsRange s.heap r a b 1 t u v/\∀(g:bF) (j:Nat) (I:Array aj),(∀c o,s.heap.get? c=aa o->g.get? c=aa o)->ItemsOf (λi v=>∃t,v=.int (a+i*1) t) I n->R (.ok (.ret (.ref g.objs.size))) {s with heap:=g.push {cls:=.type "tuple",data:=.seq I},toks:=j}):=
 .of_wp λA R s h=>by
  obtain⟨C,g,d,j,B⟩:=s;obtain⟨z,m,h⟩:=h;have l:=sub_tuple_self;have f:=init_tuple_lookup;have y:=madeHere_tuple
  wp_walk using wpAny_loadPart' m,wpAny_typeOf hT,HM (A:=A.in1) (n:=n) z m Y x S
  intro g2 U I p k;show aP _ _ (qe I.toList.toArray >>=λv=>ret v) _ _ _;have q:I.toList.toArray.size<=ay:=by
   rw[fK];have:=k.1;simp
   lia
  refine ab (bw (ai ⟨_,rfl,?_⟩) q);have e:I.toList.toArray=I:=by simp
  rw[e];exact h g2 U I p k
end
section
variable{s:ao}
theorem z7{a b:Int}{t u v:Tok}(k:A.handled=af)(h:IsRange s.heap r a b 1 t u v)(d:i6 a b 1=ag)(j:fZ a b 1=n)(S:n<=2^24)(l:∀(g:bF) (U:Nat) (I:Array aj),(∀c o,s.heap.get? c=aa o->g.get? c=aa o)->ItemsOf (λi v=>∃t,v=.int (a+i*1) t) I n->Q (.ref g.objs.size) {s with heap:=g.push {cls:=.type "tuple",data:=.seq I},toks:=U}):
  aP (aI prog w) A (i0 (.type "tuple") [.ref r]) Q E s:=
 callType_newIn F.called_tuple am (F.typeCall_tuple_1 _) (F.newCall_tuple_1 _) (λY=>mG Y _) F.entry_tuple_new
  (CC d j S) ⟨k,h,λg U I e f=>⟨⟨_,aw _ rfl,rfl⟩,l g U I e f⟩⟩
end
section
variable{W:qE}{own:Bool}{a b:bX}{p:lj}{fr:df->M (List A0)}
theorem BD(m:X.calm=ag):sH X (.type "tuple") (λxs H Q=>∃r lo hi,xs=[.ref r]/\H r=aa (.rng lo hi)/\(-(2^62)<=lo/\lo<2^62/\ -(2^62)<=hi/\hi<2^62)/\(hi-lo).toNat<=ay/\∀l,H l=af->Q (.ref l) (upd H l (.tup ((aX (hi-lo).toNat).map λk:Nat=>V.int (lo+k))))):=by
 intro A1 s σ H xs us Q I d h;obtain⟨r,lo,hi,rfl,p,⟨z,y,x,w⟩,A,q⟩:=h;obtain⟨u,rfl,c⟩:=d.one;cases c;obtain⟨t,u,v,e⟩:=(show ∃t u v,s.heap.get? r=aa {cls:=.type "range",data:=.fields #[.int lo t,.int hi u,.int 1 v]}from I.hok r _ p)
 refine z7 (n:=(hi-lo).toNat) (I.ok.hd m) e (p8 z y x w) (by grind[nr]) a7 λg a S f U=>?_;have j:A6 ((aX (hi-lo).toNat).map λk:Nat=>V.int (lo+k)) S.toList:=Ca (by exact U.1) λi v hi=>by
  obtain⟨t,e⟩:=U.2 i v (by simpa using hi)
  simp_all
 have Y:A3 X A1 σ H {s with heap:=g,toks:=a}:=I.kept f;exact⟨.ref _,_,Y.laid (λb o e=>ah _ e) (aq _) (show uo _ _ _ (.tup _)from⟨a7,S.toList,j,⟨_,aw _ rfl,rfl,0,ad⟩⟩),rfl,q _ Y.fresh⟩
def fTR(fr:df->M a9):df->M A0:=λρ=>(fr ρ).bind rH
theorem trng_end{Q:VK}{i j:Int}(p:eQ K W own F H1 (rH (eM i (j-i).toNat)) Q)(s:eH F H1)(U:H1 r=af):
  (j-i).toNat<=ay/\∀l,upd H1 r (.rng i j) l=af->Q (.ref l) (upd (upd H1 r (.rng i j)) l (.tup ((aX (j-i).toNat).map λk:Nat=>V.int (i+k)))):=by
 unfold rH at p;by_cases S:(eM i (j-i).toNat).length<=ay
 .rw[aC S]at p;refine⟨by simp_all[eM],λl I=>?_⟩
  have s2:A2 F H1 F (upd H1 r (.rng i j)):=A2.grow s U;refine p _ _ _ (s2.trans (A2.lay (o:=.tup ((aX (j-i).toNat).map λk:Nat=>V.int (i+k))) s2.fh I)) ?_;cases own<;>exact⟨l,_,rfl,SqT.of dy,AG i _⟩
 .rw[aA S]at p;exact(W.ns p).elim
theorem de_trng1(Y:X.mg "tuple"=af)(k:X.mg "range"=af)(o:DA K W X [a] fr)(n: ~~~(X.calm=ag))(l: ~~~(Gl X "range"))(b: ~~~(Gl X "tuple"))(i: ~~~(au [a] X.env=[(ae,a_ a X.env)]))(S: ~~~(au [.Call (.Name "range" q1) [a] [] q2] X.env=[(ae,a_ (.Call (.Name "range" q1) [a] [] q2) X.env)])):DE K W own X (.Call (.Name "tuple" p) [.Call (.Name "range" q1) [a] [] q2] [] pos) (fTR (wg ye fr)):=by
 refine PE.imp (zX (BD n) b Y bE (nD (pe_rng1 l k o i) rL S) am am S rfl) λσ H Q h=>?_;obtain⟨F,ρ,r,s,p⟩:=h;refine vv r s (λe q=>p.err (by simp_all[fTR])) λds m xs F1 H1 s1 q1=>?_;have e1:fTR (wg ye fr) ρ=(ye ds).bind rH:=by unfold fTR wg;rw[m];rfl
 rw[e1]at p;have p1:=p.step s1;by_cases c:∃j,ds=[.int j]
 .obtain⟨j,rfl⟩:=c;obtain⟨v,vs,e2,q2,e3⟩:=q1;have p2:eQ K W own F1 H1 ((if ih j=ag then cG (eM 0 j.toNat)else eZ Err.stuck).bind rH) Q:=p1;by_cases I:ih j=ag
  .rw[aC I]at p2;unfold ih at I;simp at I;have e4:xs=[.int j]:=by rw[e2,show v=.int j from q2,show vs=[]from e3]
   subst e4;refine⟨0,j,rfl,rfl,⟨am,am,I.1,I.2⟩,λg U=>?_⟩
   obtain⟨f,d⟩:=trng_end (by rw[Int.sub_zero];exact p2) s1.fh U;exact⟨g,0,j,rfl,dy,⟨am,am,I.1,I.2⟩,f,d⟩
  .rw[aA I]at p2;exact(W.ns p2).elim
 .have:ye ds=.error .stuck:=by
   unfold ye;split
   .lia
   .rfl
  rw[this]at p1;exact(W.ns p1).elim
end
def fn_stk{base:bF}{f:av}:vT P w K mg base CX0 k f fd ps (spF K ro (nf nN ps.length λ_=>stk) ps.length) where
 len:=λvs H Q E ⟨F,ds,s,q,l,p⟩=>by rw[q.length,l]
 run:=λA outer s H I us vs Q E U Y a S ⟨F,ds,s1,q,l,p⟩=>by
  have e:nf nN ps.length (λ_=>stk) ds=stk:=by unfold nf;rw[aC l];rfl
  rw[e]at p;exact eQ.stuck p
theorem IM{n:Nat}:∀{ds:a9} {d:A0},vX ds n=ag->d∈ds->A8 d n=ag
 |[],d,_,h=>by simp at h|a::ds,d,h,I=>by
  unfold vX at h;simp at h;rcases aM.mp I with e|e
  .simp_all
  .exact IM h.2 e
section
variable{W:qE}{own:Bool}
open Classical in
theorem has_D{s:Shared}(I:A3 X A1 σ H s)(hF:eH F H){a:A0}{x:V}(od:vX ds 40=true)(oa:A8 a 40=true)(qs:ei X.K F ds xs)(rv:A6 xs its)(qa:i1 X.K F a x)(ra:A5 x u)(hu:A.units+40<cLine):
  ∃e:Value->Bool,(∀y,y∈its.toArray->SeqAt.EqAt A s y u (e y))/\its.toArray.any e=ds.any λd=>eqD d a:=by
 have each:∀(i:Nat) (y:Value),its[i]?=some y->∃d,ds[i]?=some d/\SeqAt.EqAt A s y u (eqD d a):=λi y hy=>by
  have hi:i<its.length:=(List.getElem?_eq_some_iff.mp hy).1;have h1:i<xs.length:=by rw[rv.length];exact hi
  have h2:i<ds.length:=by rw[<-qs.length];exact h1
  obtain⟨v,e1,q1⟩:=qs.get (List.getElem?_eq_getElem h2);obtain⟨w,e2,r2⟩:=rv.get e1;rw[hy]at e2;cases e2;exact⟨_,List.getElem?_eq_getElem h2,N1 I hF _ a (IM od (List.getElem_mem h2)) oa q1 qa r2 ra hu⟩
 refine⟨λy=>decide (∃(i:Nat) (d:A0),its[i]?=some y/\ds[i]?=some d/\eqD d a=true),λy hy=>?_,?_⟩
 .by_cases h:∃(i:Nat) (d:A0),its[i]?=some y/\ds[i]?=some d/\eqD d a=true
  .obtain⟨i,d,h1,h2,h3⟩:=h;obtain⟨d',h4,h5⟩:=each i y h1;rw[h2]at h4;cases h4;rw[h3]at h5;have:decide (∃(i:Nat) (d:A0),its[i]?=some y/\ds[i]?=some d/\eqD d a=true)=true:=decide_eq_true ⟨i,d,h1,h2,h3⟩
   simp_all
  .have hm:y∈its:=by simpa using hy
   obtain⟨i,hi⟩:=List.getElem?_of_mem hm
   grind[decide_eq_false]
 .rw[Bool.eq_iff_iff];simp only[List.any_toArray,List.any_eq_true,decide_eq_true_eq];constructor
  .rintro⟨y,hy,i,d,h1,h2,h3⟩;exact⟨d,List.mem_of_getElem? h2,h3⟩
  .rintro⟨d,hd,h3⟩;obtain⟨i,hi⟩:=List.getElem?_of_mem hd;have h2:i<ds.length:=(List.getElem?_eq_some_iff.mp hi).1;have h4:i<its.length:=by rw[<-rv.length,qs.length];exact h2
   exact⟨its[i],List.getElem_mem h4,i,d,List.getElem?_eq_getElem h4,hi,h3⟩
theorem Mh(n:X.A.units+64<b_)(m: ~~~(X.K=K)):Op2 K W own X (bZ .NotIn) IQ:=by
 subst m;intro A1 s σ H x y v u Q I i g h;obtain⟨F,a,b,s1,k,j,p⟩:=h;have U:=by show X.A.units+1+40<b_;lia
 cases b with
 |lst ds=>
  obtain⟨l,xs,e,t,z⟩:=j;subst e;cases g;have p':eQ X.K W own F H (if (A8 a 40&&vX ds 40)=ag then .ok (.bl (!ds.any λd=>eqD d a))else stk) Q:=p;by_cases S:(A8 a 40&&vX ds 40)=ag
  .rw[aC S]at p';simp at S;obtain⟨its,Y,pl,_⟩:=I.list (s1.lst t);obtain⟨e,c,f⟩:=has_D (A:=X.A.in1) I s1 S.2 S.1 z Y k i U;refine SeqAt.notIn_listAt e pl.isList c ?_;rw[f];exact p'.blS s1 I
  .rw[aA S]at p';exact p'.stuck
 |tup ds=>
  obtain⟨l,xs,e,t,z⟩:=j;subst e;cases g;have p':eQ X.K W own F H (if (A8 a 40&&vX ds 40)=ag then .ok (.bl (!ds.any λd=>eqD d a))else stk) Q:=p;by_cases S:(A8 a 40&&vX ds 40)=ag
  .rw[aC S]at p';simp at S;obtain⟨its,Y,pl,_⟩:=I.tuple (s1.tup t);obtain⟨e,c,f⟩:=has_D (A:=X.A.in1) I s1 S.2 S.1 z Y k i U;refine SeqAt.notIn_tupleAt e (show s.heap.IsTuple l its.toArray from pl) c ?_;rw[f];exact p'.blS s1 I
  .rw[aA S]at p';exact p'.stuck
 |_=>exact eQ.stuck p
end
abbrev ZRec(h:bF)(z p q:av)(m k:aj):Prop:=h.get? z=aa {cls:=.type "zip",dict:=af,data:=.fields #[m,k,.bool ae,.ref p,.ref q],slots:=#[]}
def Off(z q u v:av)(h h':bF):Prop:=∀c o,c≠z->c≠q->c≠u->c≠v->h.get? c=aa o->h'.get? c=aa o
section
variable{q u v:av}{a b:aj}{g:bF}
def Off.then(A:Off z q u v h h')(B:Off z q u v h' g):Off z q u v h g:=λc o a b d e x=>B c o a b d e (A c o a b d e x)
def Off.byZ(A:cC z h h'):Off z q u v h h':=λc o a _ _ _ x=>A c o a x
def Off.byQ(A:cC q h h'):Off z q u v h h':=λc o _ a _ _ x=>A c o a x
def Off.byU(A:cC u h h'):Off z q u v h h':=λc o _ _ a _ x=>A c o a x
def Off.byV(A:cC v h h'):Off z q u v h h':=λc o _ _ _ a x=>A c o a x
def Off.new{o:j5}:Off z q u v h (h.push o):=λ_ _ _ _ _ _ x=>ah _ x
end
section
variable{s:ao}{p q:av}{r k:aj}
def KZ{T:Unit->ao->Prop}(S:ZRec s.heap z p q r k)(Y:∃o,s.heap.get? c=aa o/\o.cls=.type "StopIteration")(a:∀h',cC z s.heap h'->(∃o,h'.get? c=aa o/\o.cls=.type "StopIteration")->T () {s with heap:=h'}):aP (aI P w) A (ju (.ref z) 0 .none) T E s:=by
 obtain⟨o,e,t⟩:=Y;have U:c≠z:=by intro I;rw[cP (e.symm.trans (I▸S))]at t;exact bu t ad
 exact eC S (show 0<5 by decide) λh' _ B=>a h' B.extBut ⟨o,B.extBut _ _ U e,t⟩
end
def repD:A0->A0->M A0
 |.lst ds,.int k=>if (aF (-(2^63)<=k)&&aF (k<2^63)&&aF (ds.length*k.toNat<=ay))=ag then .ok (.lst (aK k.toNat ds).flatten)else stk
 |_,_=>stk
@[simp] theorem e_rep{ds:a9}{k:Int}(S: -9223372036854775808<=k)(h1:k<9223372036854775808)(I:ds.length*k.toNat<=16777216):repD (.lst ds) (.int k)=.ok (.lst (aK k.toNat ds).flatten):=by show(if _ then _ else _)=_;rw[aC];simp;exact⟨⟨ac,ac⟩,by exact I⟩
theorem ei.rep{K:Fg}{F:Hp}{ds:a9}{xs:bi}(h:ei K F ds xs):∀m:Nat,ei K F (aK m ds).flatten (aK m xs).flatten
 |0=>rfl|m+1=>by exact h.append (ei.rep h m)
section
variable{W:qE}{a b:bX}
def de_rep(j:DE K W ag X a fa)(i:DE K W ae X b fb):DE K W ag X (.BinOp a .Mult b pos) (f2 repD fa fb):=by
 refine PE.imp (pe_op op_rep j i) λσ H Q h=>?_;obtain⟨F,ρ,r,s,p⟩:=h;refine eu r s (λe U=>p.err (by unfold f2;rw[U];rfl)) λx c v F1 H1 s1 q1=>?_;refine eu (r.mono s1.ff) s1.fh (λe U=>(p.step s1).err (by unfold f2;rw[c];rw[U];rfl)) λy g u o H2 s2 q2=>?_;have e:f2 repD fa fb ρ=repD x y:=by unfold f2;rw[c];rw[g];rfl
 rw[e]at p;cases x with
 |lst ds=>
  cases y with
  |int k=>
   obtain⟨l,xs,e1,d,n,m,Y⟩:=q1;have p':eQ K W ag F H (if (aF _&&aF _&&aF _)=ag then .ok _ else stk) Q:=p;by_cases I:(aF (-(2^63)<=k)&&aF (k<2^63)&&aF (ds.length*k.toNat<=ay))=ag
   .rw[aC I]at p';simp at I;have S:=Y.mono s2.ff;refine⟨l,k,xs,e1,q2,s2.hh l _ d,I.1.1,I.1.2,by rw[Y.length];exact I.2,λz f=>?_⟩
    exact(p'.step (s1.trans s2)).lst s2.fh (S.rep k.toNat) f
   .rw[aA I]at p';exact p'.stuck
  |_=>exact eQ.stuck p
 |_=>exact eQ.stuck p
end
theorem A2.stays{o:HO}(s:A2 F H F' H')(n:F a=af)(h:H a=aa o):F' a=af:=by
 cases e:F' a with
 |none=>rfl|some u=>
  rcases s.nw a u e with z|z
  .simp_all
  simp_all
structure Gy(K:Fg)(F G H:Hp)(ds:a9)(vs:bi):Prop where
 len:vs.length=ds.length
 get:∀(k:Nat) (d:A0),ds[k]?=aa d->∃a xs es,vs[k]?=aa (.ref a)/\d=.lst es/\H a=aa (.lst xs)/\F a=af/\G a=af/\ei K F es xs
 ap:∀(j k:Nat) (a:av),vs[j]?=aa (.ref a)->vs[k]?=aa (.ref a)->j=k
section
variable{vs:List V}
def Gy.nil:Gy K F G H [] []:=⟨rfl,λk d e=>by simp at e,λj k a e=>by simp⟩
def Gy.step(o:Gy K F G H ds vs)(s:A2 F H F' H'):Gy K F' G H' ds vs where
 len:=o.len
 get:=λk d e=>by obtain⟨a,xs,es,h1,b,I,Y,U,S⟩:=o.get k d e;exact⟨a,xs,es,h1,b,s.hh _ _ I,s.stays Y I,U,S.mono s.ff⟩
 ap:=o.ap
def Gy.back(o:Gy K F G H ds vs)(s:eH G' G):Gy K F G' H ds vs where
 len:=o.len
 get:=λk d e=>by obtain⟨a,xs,es,h1,b,Y,U,S,I⟩:=o.get k d e;exact⟨a,xs,es,h1,b,Y,U,s.free S,I⟩
 ap:=o.ap
theorem Gy.at(o:Gy K F G H ds vs)(h:vs[k]?=aa (.ref a)):∃xs es,ds[k]?=aa (.lst es)/\H a=aa (.lst xs)/\F a=af/\G a=af/\ei K F es xs:=by
 have I:k<ds.length:=by rw[<-o.len];exact(aD.mp h).1
 obtain⟨b,xs,es,h1,d,c,Y,U,S⟩:=o.get k ds[k] ad
 simp_all
theorem Gy.add(o:Gy K F G H ds vs){es:a9}(U:∀k:Nat,vs[k]?≠aa (.ref a))(g:H a=aa (.lst xs))(f:F a=af)(c:G a=af)(Y:ei K F es xs):Gy K F G H (ds++[.lst es]) (vs++[.ref a]) where
 len:=by simp[o.len]
 get:=λk d e=>by
  rcases kJ k ds.length with z|z|z
  .rw[cL z]at e;obtain⟨b,ys,fs,h,g2⟩:=o.get k d e;exact⟨b,ys,fs,by rw[cL (by rw[o.len];exact z)];exact h,g2⟩
  .subst z;simp at e;refine⟨a,xs,es,?_,e.symm,g,f,c,Y⟩
   rw[<-o.len];simp
  .have:=(aD.mp e).1;simp at this
   lia
 ap:=λj k b e1 e2=>by
  have key:∀m,(vs++[V.ref a])[m]?=aa _->(m<vs.length/\vs[m]?=aa (.ref b))\/(m=vs.length/\b=a):=λm e=>by
   rcases kJ m vs.length with z|z|z
   .rw[cL z]at e;exact .inl ⟨z,e⟩
   .subst z;simp at e;exact .inr ⟨rfl,e.symm⟩
   .have:=(aD.mp e).1;simp at this
    lia
  rcases key j e1 with⟨_,S⟩|⟨S,l⟩<;>rcases key k e2 with⟨_,I⟩|⟨I,i⟩
  .exact o.ap j k b S I
  .grind
  .grind
  lia
end
section
variable{W:qE}
theorem rd_turns{p:Pat}(r:rV K F σ ρ)(s:eH F H)(hL:∀ρ d,fe ρ=.ok d->∃es,d=.lst es)(B:∀e,qO fi ix p ft fe ρ=.error e->W.p e F H)(Z:∀O,qO fi ix p ft fe ρ=.ok (.lst O)->∀ys c H2,A2 F H c H2->Gy K c H H2 O ys->R ys H2):iD K W fi σ H λJ H1=>xX J ix (gP K p) (tDT K W ft) (tD K W ag fe) σ R H1:=by
 refine⟨F,ρ,r,s,?_⟩
 cases T:fi ρ with
 |error e=>exact B e (by unfold qO;rw[T];rfl)|ok ds=>
  intro J F1 H1 s1 E;have C:qO fi ix p ft fe ρ=if ds.length<=ay then(gj p ft fe (sI ix ρ) ds).bind λr=>.ok (.lst r)else .error .stuck:=by unfold qO;rw[T];rfl
  by_cases Q:ds.length<=ay
  .rw[aC Q]at C;rw[C]at B Z;refine⟨λi m ys H2=>m=ds.length-i/\i<=ds.length/\∃c I,A2 F1 H1 c H2/\Gy K c H1 H2 I ys/\I.length<=i /\
    (match gj p ft fe (sI ix ρ) (ds.drop i)with
     |.ok S=>gj p ft fe (sI ix ρ) ds=.ok (I++S)|.error e=>W.p e F H),⟨ds.length,ac,bz _,F1,[],A2.refl s1.fh,Gy.nil,bz _,?_⟩,?_⟩
   .rw[f_];cases e:gj p ft fe (sI ix ρ) ds with
    |ok S=>rfl|error x=>exact B x (by rw[e];rfl)
   .rintro i m ys H2 ⟨rfl,hi,c,I,s2,D,ly,o⟩;have u:ys.length<=ay:=by rw[D.len];lia
    by_cases h:i<ds.length
    .have ed:ds.drop i=ds[i]::ds.drop (i+1):=cM h;rw[ed]at o;refine .inr ⟨E.go i c H2 s2.ff s2.fh h,u,λq H'=>(i+1<=ds.length/\∃c I,A2 F1 H1 c H'/\Gy K c H1 H' I q/\I.length<=i+1 /\
      (match gj p ft fe (sI ix ρ) (ds.drop (i+1))with
       |.ok S=>gj p ft fe (sI ix ρ) ds=.ok (I++S)|.error e=>W.p e F H)),λq H' n=>⟨ds.length-(i+1),ac,rfl,n⟩,λx H' y=>?_⟩
     obtain⟨F3,g,q3⟩:=E.yl i c H2 x H' ds[i] s2.ff s2.fh ad y;have r3:rV K F3 (Lake.inS ix σ) (sI ix ρ):=(r.mono (s1.trans (s2.trans g)).ff).inS ix;have t:A2 F H F3 H':=s1.trans (s2.trans g);have ec:gj p ft fe (sI ix ρ) (ds[i]::ds.drop (i+1))=(rT p ds[i] (sI ix ρ)).bind λU=>(ft U).bind λb=>if b=ag then(fe U).bind λy=>(gj p ft fe (sI ix ρ) (ds.drop (i+1))).bind λr=>.ok (y::r)else gj p ft fe (sI ix ρ) (ds.drop (i+1)):=by rw[gj]
     rw[ec]at o;cases A:rT p ds[i] (sI ix ρ)with
     |error e=>rw[A]at o;have:=xZ A;subst this;exact(W.ns o).elim|ok U=>
      rw[A]at o;refine gP_run r3 g.fh q3 A λσ2 P=>?_;have f:match ((ft U).bind λb=>if b=ag then(fe U).bind λy=>(gj p ft fe (sI ix ρ) (ds.drop (i+1))).bind λr=>.ok (y::r)else gj p ft fe (sI ix ρ) (ds.drop (i+1)))with
       |.ok S=>gj p ft fe (sI ix ρ) ds=.ok (I++S)|.error e=>W.p e F H:=o
      refine u7 P g.fh (λe G=>by rw[G]at f;exact W.mono f t) λb L F5 H5 l=>?_;rw[L]at f;cases b with
      |false=>
       have Y:match gj p ft fe (sI ix ρ) (ds.drop (i+1))with
        |.ok S=>gj p ft fe (sI ix ρ) ds=.ok (I++S)|.error e=>W.p e F H:=f
       exact⟨h,F5,I,s2.trans (g.trans l),D.step (g.trans l),ac,Y⟩
      |true=>
       have Y:match ((fe U).bind λy=>(gj p ft fe (sI ix ρ) (ds.drop (i+1))).bind λr=>.ok (y::r))with
        |.ok S=>gj p ft fe (sI ix ρ) ds=.ok (I++S)|.error e=>W.p e F H:=f
       refine eu (P.mono l.ff) l.fh (λe G=>by rw[G]at Y;exact W.mono Y (t.trans l)) λd X v F6 H6 N q6=>?_;rw[X]at Y;obtain⟨es,rfl⟩:=hL _ _ X;obtain⟨a,xs,ev,g1,g2,g3,g4⟩:=q6;subst ev;have d5:=D.step (g.trans l);refine⟨h,F6,I++[.lst es],s2.trans (g.trans (l.trans N)),(d5.step N).add (λk hk=>?_) g1 g2 ((s2.trans (g.trans l)).hh.free g3) g4,by simp;lia,?_⟩
       .obtain⟨_,_,_,z,_⟩:=d5.at hk;rw[g3]at z;cases z
       .have j:match ((gj p ft fe (sI ix ρ) (ds.drop (i+1))).bind λr=>.ok (A0.lst es::r):M a9)with
         |.ok S=>gj p ft fe (sI ix ρ) ds=.ok (I++S)|.error e=>W.p e F H:=Y
        cases e7:gj p ft fe (sI ix ρ) (ds.drop (i+1))with
        |ok S=>rw[e7]at j;show _=cG ((I++[A0.lst es])++S);rw[bJ];exact j|error x=>rw[e7]at j;exact j
    .have:i=ds.length:=ac
     subst this;rw[jd]at o;have w:gj p ft fe (sI ix ρ) ds=.ok (I++[]):=o;rw[b8]at w;exact .inl ⟨E.st c H2 s2.ff s2.fh,u,Z I (by rw[w];rfl) ys c H2 (s1.trans s2) (D.back s1.hh)⟩
  .rw[aA Q]at C;exact(W.ns (B .stuck C)).elim
end
noncomputable def lstOf:A0->M a9
 |.lst ds=>.ok ds|_=>.error .stuck
def rowAt(I:a9)(a:Int):M (Nat×a9):=match ixN I.length a with
 |some j=>(match I[j]? with
  |some (.lst es)=>.ok (j,es)|_=>.error .stuck)
 |none=>.error .stuck
def BR(S:a9)(I:Nat×a9)(b:Int)(x:A0):M a9:=match ixN I.2.length b with
 |some k=>.ok (S.set I.1 (.lst (I.2.set k x)))|none=>.error .stuck
def D1(i:Nat)(S:a9)(x:A0)(U:Nat×a9)(fB:df->M A0)(ρ:df):M A4:=(fB (ρ.set i af)).bind λb=>(asI b).bind λb=>(BR S U b x).bind λI=>.ok (.nx (ρ.set i (aa (.lst I))))
def GX(i:Nat)(I:a9)(x:A0)(fA fB:df->M A0)(ρ:df):M A4:=(fA (ρ.set i af)).bind λa=>(asI a).bind λa=>(rowAt I a).bind λS=>D1 i I x S fB ρ
def K3(i:Nat)(I:a9)(fx fA fB:df->M A0)(ρ:df):M A4:=(fx (ρ.set i af)).bind λx=>GX i I x fA fB ρ
def CZ(i:Nat)(fc fx fA fB:df->M A0):df->M A4:=λρ=>(fc ρ).bind λd=>(lstOf d).bind λI=>K3 i I fx fA fB ρ
def Gf(g:df->M A4)(m:M A4):M A4:=m.bind λfl=>match fl with
 |.nx ρ'=>g ρ'|fl=>.ok fl
def tB{m:M A4}{e:Err}(h:m=.error e):Gf g m=.error e:=by rw[h];rfl
section
variable{W:qE}{D:Ends}
theorem rs_rows{p:Pat}{fB:df->M A0}(hL:∀ρ d,fe ρ=.ok d->∃es,d=.lst es)(hi:i<σ.length)(t:tS K W ro F0 H0 OL [] O' (kd (CZ i (qO fi ix p ft fe) fx fA fB) g) D σ H):
  y9 (Ih i (iD K W fi) ix (gP K p) (tDT K W ft) (tD K W ag fe)) (y9 (GA (tD K W ae fx) (gSub (tOp (rIx K) (wj i) (tD K W ae fA)) (tD K W ae fB) rSetL)) (tS K W ro F0 H0 OL [] O' g)) D σ H:=by
 obtain⟨FB,F,ρ,r,q⟩:=t;have rE:=r.repE;have q0:tM K W ro F0 H0 FB OL O' D (Gf g (CZ i (qO fi ix p ft fe) fx fA fB ρ)):=q;refine rd_turns rE r.st.fh hL (λe he=>q0.vk r.st (tB (by unfold CZ;rw[he];rfl))) λI hrs ys F2 H2 s2 ow a ha=>?_;have q1:tM K W ro F0 H0 FB OL O' D (Gf g (K3 i I fx fA fB ρ)):=by unfold CZ at q0;rw[hrs]at q0;exact q0
 have r2:rV K F2 (σ.set i (aa (.ref a))) (ρ.set i af):=⟨by rw[aL,aL,r.len],λj d e=>by
  by_cases R:i=j
  .subst R;rw[aG (by rw[r.len];exact hi)]at e;cases e
  .rw[aB R]at e;obtain⟨v,h1,h2⟩:=rE.sl j d e;exact⟨v,a7,h2.mono s2.ff⟩⟩
 have sg:A2 F2 H2 F2 (upd H2 a (.lst ys)):=A2.grow s2.fh ha;have l:=s2.trans sg;refine eu r2 sg.fh (λe he=>q1.vk (r.st.trans l) (tB (by simp_all[K3]))) λx hx v F3 H3 Y qx=>?_;have q2:tM K W ro F0 H0 FB OL O' D (Gf g (GX i I x fA fB ρ)):=by unfold K3 at q1;rw[hx]at q1;exact q1
 refine⟨.ref a,a7,?_⟩
 refine eu (r2.mono Y.ff) Y.fh (λe he=>q2.vk (r.st.trans (l.trans Y)) (tB (by simp_all[GX]))) λda X va F4 H4 s qa=>?_;cases da with
 |int ka=>
  have y:tM K W ro F0 H0 FB OL O' D (Gf g ((rowAt I ka).bind λje=>D1 i I x je fB ρ)):=by unfold GX at q2;rw[X]at q2;exact q2
  have h3a:H3 a=aa (.lst ys):=Y.hh _ _ dy;have h4a:=s.hh _ _ h3a;have O:=((ow.step sg).step Y).step s;have L:=l.trans (Y.trans s);cases hj:ixN I.length ka with
  |none=>exact y.stuck (tB (by simp_all[rowAt]))|some j=>
   have P:=(Hq hj).2.1;obtain⟨b,xs,es,g1,g2,g3,g4,g5,g6⟩:=O.get j I[j] ad;have erj:I[j]?=aa (.lst es):=by rw[<-g2];simp[P]
   have N:tM K W ro F0 H0 FB OL O' D (Gf g (D1 i I x (j,es) fB ρ)):=by
    unfold rowAt at y;rw[hj]at y;have y:tM K W ro F0 H0 FB OL O' D (Gf g (((match I[j]? with
     |some (.lst es)=>.ok (j,es)|_=>.error .stuck):M (Nat×a9)).bind λje=>D1 i I x je fB ρ)):=y
    rw[erj]at y;exact y
   refine .inl ⟨a,ys,ka,.ref b,rfl,qa,SqL.of h4a,?_,?_⟩
   .unfold atI;rw[ow.len,hj];exact g1
   refine eu (r2.mono (Y.trans s).ff) s.fh (λe he=>N.vk (r.st.trans L) (tB (by simp_all[D1]))) λdb T vb S G U qb=>?_;cases db with
   |int kb=>
    have q5:tM K W ro F0 H0 FB OL O' D (Gf g ((BR I (j,es) kb x).bind λrs'=>.ok (.nx (ρ.set i (aa (.lst rs')))))):=by unfold D1 at N;rw[T]at N;exact N
    cases hk:ixN es.length kb with
    |none=>exact q5.stuck (tB (by simp_all[BR]))|some k=>
     have q6:tM K W ro F0 H0 FB OL O' D (g (ρ.set i (aa (.lst (I.set j (.lst (es.set k x))))))):=by unfold BR at q5;rw[show((j,es):Nat×a9).2=es from rfl,hk]at q5;exact q5
     have h5a:=U.hh _ _ h4a;have h5b:=U.hh _ _ g3;have A:=O.step U;have st:A2 F H S G:=L.trans U;refine⟨b,xs,kb,k,rfl,qb,h5b,by rw[g6.length];exact hk,?_⟩
     have ma:H a=af:=s2.hh.free ha;have fa2:F2 a=af:=s2.fh.free ha;have f5a:S a=af:=(Y.trans (s.trans U)).stays fa2 (dy (H:=H2) (a:=a) (o:=.lst ys));have nab:a≠b:=λz=>by
      obtain⟨_,_,_,w,_⟩:=ow.at (k:=j) (a:=b) g1
      simp_all
     have inA:∀c,(c=a\/∃m:Nat,ys[m]?=aa (.ref c))->S c=af/\H c=af:=λc h=>by
      rcases h with z|⟨m,z⟩
      .simp_all
      .obtain⟨_,_,_,_,z1,z2,_⟩:=A.at z;exact⟨z1,z2⟩
     have Ab:b=a\/∃m:Nat,ys[m]?=aa (.ref b):=.inr ⟨j,g1⟩;have J:eH S (plus S (upd G b (.lst (xs.set k v))) λc=>c=a\/∃m:Nat,ys[m]?=aa (.ref c)):=λc o h=>by grind[t4]
     have fh:eH (plus S (upd G b (.lst (xs.set k v))) λc=>c=a\/∃m:Nat,ys[m]?=aa (.ref c)) (upd G b (.lst (xs.set k v))):=λc o h=>by
      by_cases Z:c=a\/∃m:Nat,ys[m]?=aa (.ref c)
      .simp_all[wo]
      .rw[t4 Z]at h;have:c≠b:=λz=>Z (by rw[z];exact Ab);rw[dV this];exact U.fh c o h
     have C:eH F3 (plus S (upd G b (.lst (xs.set k v))) λc=>c=a\/∃m:Nat,ys[m]?=aa (.ref c)):=(s.trans U).ff.trans J;have B:eH F4 (plus S (upd G b (.lst (xs.set k v))) λc=>c=a\/∃m:Nat,ys[m]?=aa (.ref c)):=U.ff.trans J;refine⟨FB,plus S (upd G b (.lst (xs.set k v))) (λc=>c=a\/∃m:Nat,ys[m]?=aa (.ref c)),ρ.set i (aa (.lst (I.set j (.lst (es.set k x))))),?_,q6⟩
     have f:=r.st.trans st;refine⟨⟨f.ff.trans J,λc o h=>?_,fh,λc o h=>?_⟩,r.fb.trans (st.ff.trans J),by rw[aL,aL,r.len],λm d e _=>?_,(λm d e h=>nomatch h),(λm n d1 d2 c h=>nomatch h)⟩
     .have:c≠b:=λz=>by
       rw[z]at h;have:=r.st.hh _ _ h
       lia
      rw[dV this];exact f.hh c o h
     .by_cases Z:c=a\/∃m:Nat,ys[m]?=aa (.ref c)
      .exact .inr (r.st.hh.free (inA c Z).2)
      .rw[t4 Z]at h;exact f.nw c o h
     .by_cases Q:i=m
      .subst Q;rw[aG (by rw[r.len];exact hi)]at e;cases e;refine⟨.ref a,a7,a,ys,rfl,SqL.of ?_,?_⟩
       .simp_all[wo,dV]
       .refine ei.of_get (by rw[aL];exact ow.len) λm d u e1 e2=>?_;by_cases E:j=m
        .subst E;rw[aG P]at e1;cases e1;rw[g1]at e2;cases e2;exact⟨b,xs.set k v,rfl,SqL.of (by rw[wo Ab,dy]),ei.set (i1.mono C qx) k (g6.mono B)⟩
        .rw[aB E]at e1;obtain⟨c,ws,fs,k1,k2,k3,k4,k5,k6⟩:=A.get m d e1;rw[k1]at e2;cases e2;subst k2;have ncb:c≠b:=λz=>E (A.ap j m b g1 a7);exact⟨c,ws,rfl,SqL.of (by rw[wo (.inr ⟨m,k1⟩),dV ncb];exact k3),k6.mono J⟩
      .rw[aB Q]at e;obtain⟨u,h1,h2⟩:=rE.sl m d e;exact⟨u,a7,h2.mono (st.ff.trans J)⟩
   |_=>exact N.stuck (tB (by unfold D1;rw[T];rfl))
 |_=>exact q2.stuck (tB (by unfold GX;rw[X];rfl))
end
theorem Fp{fr:df->M a9}:∀ρ d,fL vC fr ρ=.ok d->∃es,d=.lst es:=λρ d h=>by
 unfold fL at h;cases e:fr ρ with
 |error x=>simp_all|ok ds=>
  rw[e]at h;have h:vC ds=.ok d:=h;unfold vC at h
  all_goals first
   |(split at h<;>first|(cases h;done)|(cases h;exact⟨_,rfl⟩))
section
variable{W:qE}{ea eb:bX}{pt:Pat}{fB:df->M A0}{p1 p3 p4:lj}
def N8(N':List br)(ix:List (Option Nat))(w:X.N.Nodup)(hi:DI K W X tg iter fi)(p:∀L cs s H fp,DG K (i2 X N' sc L cs s H fp) tg pt)(n:B4 ix (gP K pt))(k:∀L cs s H fp,PTs (i2 X N' sc L cs s H fp) ifs (tDT K W ft))(q:∀L cs s H fp,DE K W ag (i2 X N' sc L cs s H fp) elt fe)(y:∀ρ d,fe ρ=.ok d->∃es,d=.lst es)(h:DE K W ae X ex fx)(C:DE K W ae X ea fA)(B:DE K W ae X eb fB)(m:DSs K W ro X OL [] O' sts g)(b: ~~~(X.N[i]?=aa x))(f: ~~~(X.env.scope.names.lookup x=aa .local))(t: ~~~(X.calm=ag))(A: ~~~(X.K=K))(U: ~~~(dJ (.ListComp elt [⟨tg,iter,ifs,0⟩] sc pos) (aa (.Name x py)) spos.line X.env=cO ag))(ok: ~~~(mu X.N X.env.scope N' sc ix=ag))(o: ~~~(sc.kind=.function))(l:autoParam (∀x,eO iter X.env x=cO x) Jq4)(j:autoParam (Vis X.env.scope x) Jq5)(r:((x==("__debug__":br))=ae)⁻¹)(e:((x==("__classdict__":br))=ae)⁻¹)(a:autoParam (HV ea) Jq11)(u:autoParam (∀v,jl (.Subscript (.Subscript (.Name x p1) ea p2) eb p3) X.env v=(do
   let ov <-gq [v] (a_ (.Subscript (.Name x p1) ea p2) X.env)
   let S <-gq [v,ov] (a_ eb X.env)
   jH p3
   gq [v,ov,S] (pQ ov S v)
   release [v,ov,S] [])) Jq4)(Y: ~~~(kO [.Subscript (.Subscript (.Name x p1) ea p2) eb p3] ex p4.line X.env=cO ae))(hw: ~~~(kQ [.Subscript (.Subscript (.Name x p1) ea p2) eb p3] ex X.env=cO af))(h1: ~~~((eG [.Subscript (.Subscript (.Name x p1) ea p2) eb p3] X.env).map (·.2)=[jl (.Subscript (.Subscript (.Name x p1) ea p2) eb p3) X.env])):
  DSs K W ro X OL [] O' (.Assign [.Name x py] (.ListComp elt [⟨tg,iter,ifs,0⟩] sc pos) spos::.Assign [.Subscript (.Subscript (.Name x p1) ea p2) eb p3] ex p4::sts) (kd (CZ i (qO fi ix pt ft fe) fx fA fB) g):=by
 subst A;intro F0 H0 A1 s σ H D I z;have c:i<σ.length:=by rw[I.len];exact(aD.mp b).1
 refine lP (BV N' ix w b f t hi p n k q U ok o l) (lP (LX h (pg_sub (pe_ix ix_seq (pv i b j r e) C a) B set_list u) Y hw h1) (m F0 H0)) A1 s σ H D I ?_;exact rs_rows y c z
end
section
variable{s:ao}
theorem wO{q:av}{xs:Array aj}{v:aj}(st:s.heap.IsTupleIter q a i)(S:s.heap.IsTuple a xs)(I:xs[i]?=aa v)(k:∀h',h'.IsTupleIter q a (i+1)->dG q s.heap h'->Q v {s with heap:=h'}):aP (aI prog w) A (jz (.ref q)) Q E s:=by obtain⟨U,e1,e2,e3⟩:=id st;obtain⟨Y,f1,_,b,f3⟩:=S;have ty:=st.typeIs;refine ab (bK ty d_ (bh d_ ty jU ?_ (jL _)));show aP _ _ (field _ 0 >>= _) _ _ s;refine ab (cJ e1 e3 rfl ?_);refine ab (cJ e1 e3 rfl ?_);refine ab (eD f1 f3 ?_);simp[cS,I];refine ab (gm e1 e3 ad (ai ⟨v,rfl,ai (k _ ?_ (c9 ..))⟩));exact⟨_,fO _ e1 (jw (fw e3 _)),(kD ..).trans e2,by simp_all[fw,iw]⟩
def Af{q:av}{xs:Array aj}(U:A.handled=af)(st:s.heap.IsTupleIter q a i)(S:s.heap.IsTuple a xs)(I:xs[i]?=af)(k:∀h' e,cC q s.heap h'->(∃o,h'.get? e=aa o/\o.cls=.type "StopIteration")->E (.ref e) {s with heap:=h'}):aP (aI prog w) A (jz (.ref q)) Q E s:=by
 obtain⟨Y,e1,e2,e3⟩:=id st;obtain⟨b,f1,_,c,f3⟩:=S;have ty:=st.typeIs;refine ab (bK ty d_ (bh d_ ty jU ?_ (jL _)));show aP _ _ (field _ 0 >>= _) _ _ s;refine ab (cJ e1 e3 rfl ?_);refine ab (cJ e1 e3 rfl ?_);refine ab (eD f1 f3 ?_);simp[cS,I];refine ab (eU (ab (gm e1 e3 ad (ab ?_))));refine ab (m:=firstArgMember _ _) (mn (by rfl) ?_);refine bw ?_ (by size_fits);refine ab (kN ?_);first|rw[U]
 exact ab (ai (mm (k _ _ (((c9 ..).extBut.push _).push _) ⟨_,aw _ rfl,rfl⟩)))
end
def FX(Y:A.handled=af)(q a:av)(I:a≠q)(xs:Array aj):Draws prog w A q [q,a] xs.size (λi v=>xs[i]?=aa v) (λi h=>h.IsTupleIter q a i/\h.IsTuple a xs) where
 live:=λ_ _ st=>let ⟨o,e,_⟩:=st.1;⟨o,e⟩
 frame:=λ_ _ _ st k=>⟨st.1.at λo e=>k q ad o e,let ⟨o,e,r⟩:=st.2;⟨o,k a ad o e,r⟩⟩
 item:=λi s Q E hi st k=>wO st.1 st.2 (v:=xs[i]) ad λh' U S=>k _ h' s.toks ad ⟨U,let ⟨o,e,r⟩:=st.2;⟨o,S.extBut a o I e,r⟩⟩ S
 done:=λs Q E st k=>Af Y st.1 st.2 ad k
def N2(a:av)(xs:Array aj)(n:Nat)(f:Option av)(Y:Array (Option aj)):Meets (Builtin.«enumerate.__new__» ⟨[.type "enumerate",.ref a],[]⟩) (λ_ R s=>s.heap.get? a=aa {cls:=.type "tuple",dict:=f,data:=.seq xs n,slots:=Y}/\R (.ok (.ret (.ref (s.heap.push {cls:=.type "tuple_iterator",data:=.fields #[.ref a,.int 0 0]}).objs.size))) {s with heap:=(s.heap.push {cls:=.type "tuple_iterator",data:=.fields #[.ref a,.int 0 0]}).push {cls:=.type "enumerate",data:=.fields #[.none,.bool ae,.ref s.heap.objs.size,iw 0,.none,.none]}}):=
 .of_wp λprog w A R s h=>by
  obtain⟨e,g,d,U,b⟩:=s;obtain⟨ea,h⟩:=h;have I:=sub_enumerate;have S:mL (mK ⟨e,g,d,U,b⟩) a xs:=⟨_,ea,rfl,n,rfl⟩
  wp_walk using iq ea
  refine wpAny_stack_any λz=>ai ?_;split
  .rename_i c _ _ _ _ _;cases(c==gO "enumerate")<;>(wp_walk using iq ea,fS S;exact⟨_,rfl,h⟩)
  .wp_walk using iq ea,fS S
   exact⟨_,rfl,h⟩
section
variable{s:ao}
def KG{xs:Array aj}(d:s.heap.IsTuple a xs)(k:∀h',IsEnum h' (s.heap.objs.size+1) s.heap.objs.size 0 .none->h'.IsTupleIter s.heap.objs.size a 0->h'.objs.size=s.heap.objs.size+2->(∀b o,s.heap.get? b=aa o->h'.get? b=aa o)->Q (.ref (s.heap.objs.size+1)) {s with heap:=h'}):aP (aI prog w) A (i0 (.type "enumerate") [.ref a]) Q E s:=by
 obtain⟨⟨c,e,f,Y⟩,e1,e2,n,e3⟩:=d;subst e2 e3;refine callType_new PySem.F.called_enumerate am (PySem.F.typeCall_enumerate_1 _) (PySem.F.newCall_enumerate_1 _) (λI=>mG I _) PySem.F.entry_enumerate_new (N2 a xs n e Y) ⟨e1,?_⟩;have S:(s.heap.push {cls:=.type "tuple_iterator",data:=.fields #[.ref a,.int 0 0]}).objs.size=s.z+1:=cB ..;rw[S];have U:=by have z:=aw (s.heap.push {cls:=.type "tuple_iterator",data:=.fields #[.ref a,.int 0 0]}) (o:={cls:=.type "enumerate",data:=.fields #[.none,.bool ae,.ref s.z,iw 0,.none,.none]}) rfl;rw[S]at z;exact z
 exact⟨⟨_,U,rfl⟩,k _ U ⟨_,ah _ (aw _ rfl),rfl,rfl⟩ ad λb o z=>ah _ (ah _ z)⟩
end
def IteT(K:Fg)(a:av):It:=
 ⟨λi H=>∃xs x,SqT K H a xs/\xs[i]?=aa x,λi H x H'=>∃T y,H T=af/\x=.ref T/\H'=upd H T (.tup [.int i,y])/\∀xs,SqT K H a xs->xs[i]?=aa y,λi H=>∃xs,SqT K H a xs/\xs.length=i⟩
theorem JR(a e Y:av)(t:e≠Y):Turn P w K (.Tuple elts k pos) (IteT K a) [e,Y] e (λi h=>(∃U,IsEnum h e Y i U)/\h.IsTupleIter Y a i) where
 mem:=by simp
 obj:=λi h st b f=>by
  obtain⟨⟨U,g⟩,o,e1,c,d⟩:=st
  grind
 keep:=λi h h' st kk=>by obtain⟨⟨U,g⟩,S⟩:=st;exact⟨⟨U,kk e ad _ g⟩,S.at λo x=>kk Y ad o x⟩
 item:=by
  intro X R hw T O i A1 s σ H E I C st L;subst R hw T;obtain⟨⟨U,g⟩,S⟩:=st;obtain⟨xs,x,B,F⟩:=L;obtain⟨its,D,p,hz⟩:=I.tuple B;obtain⟨u,hu,ru⟩:=D.get F;have m:s.heap.IsTuple a its.toArray:=p;have j:a≠Y:=λz=>by
   obtain⟨Z,c1,c2,_⟩:=m;obtain⟨o2,c3,c4,_⟩:=S
   lia
  have nea:e≠a:=λz=>by
   obtain⟨Z,c1,c2,_⟩:=m
   lia
  have J:i<its.toArray.size:=by have:=(aD.mp hu).1;simpa using this
  refine wpAny_pyNext_enum_itemD (FX (A:=X.A.in1) (show X.A.in1.handled=af from I.ok.hd O) Y a j its.toArray) g ⟨S,m⟩ J t a7 λv h1 W hv ho n hT hsz hk=>?_;have G:v=u:=by rw[show its.toArray[i]?=its[i]? by simp,hu]at hv;exact(cP hv).symm
  subst G;refine⟨_,rfl,mQ ho λh2 N l=>?_⟩
  have r:e<s.z:=aE g;have Q:s.z≠e:=cW r;have I1:A3 X A1 σ (upd H s.z (.tup [.int i,x])) {s with heap:=h2,toks:=W+1}:=I.zv (ch:=[e,Y]) C (λb o f q=>by have h3:=hk b o (λz=>f (by simp[z])) (λz=>f (by simp[z])) q;exact(l.2 b (λz=>f (by simp[z]))).trans h3) (aq _) ⟨ad,[.int i W,v],.cons ⟨_,rfl⟩ (.cons ru .nil),⟨_,(l.2 _ Q).trans hT,rfl,0,rfl⟩⟩
  refine⟨.ref s.z,_,I1,rfl,⟨s.z,x,I.hok.fresh (aq _),rfl,rfl,λys hy=>by rw[I.xx hy B];exact F⟩,⟨⟨v,by simpa using N⟩,n.1.at λo y=>(l.2 Y t.symm).trans y⟩,λb f=>?_⟩
  have hbn:=(C b f).1;have:b≠s.z:=by
   rcases aM.mp f with z0|f
   .lia
   .have:b=Y:=by simpa using f
    subst this;obtain⟨o,e1,_⟩:=S;exact bg (aE e1)
  simp_all[dV]
 done:=by
  intro X R hw T O i A1 s σ H E I C st L;subst R hw T;obtain⟨⟨U,g⟩,S⟩:=st;obtain⟨xs,B,F⟩:=L;obtain⟨its,D,p,hz⟩:=I.tuple B;have hl:=D.length;have m:s.heap.IsTuple a its.toArray:=p;have j:a≠Y:=λz=>by
   obtain⟨Z,c1,c2,_⟩:=m;obtain⟨o2,c3,c4,_⟩:=S
   lia
  have hn:i=its.toArray.size:=by simp;lia
  rw[hn]at S;exact wpAny_pyNext_enum_endD (FX (A:=X.A.in1) (show X.A.in1.handled=af from I.ok.hd O) Y a j its.toArray) g ⟨S,m⟩ λh2 eb=>⟨rfl,I.GJ (t':=s.toks) (ch:=[e,Y]) C λb o f q=>eb b o (λz=>f (by simp[z])) q⟩
 self:=λ_ _ _ _ _ st h=>by obtain⟨⟨U,g⟩,_⟩:=st;exact gR g h
theorem Kr(t:SqT K F a xs)(z:ei K F ds xs):yx K F (IteT K a) (ue 0 ds) where
 go:=λi F' H' s1 s2 hi=>⟨xs,xs[i]'(by rw[z.length];simp_all[wJ]),s2.tup (s1.tup t),ad⟩
 yl:=λi F' H' x H2 d s1 s2 S U=>by
  obtain⟨T,y,Y,ex,b,U⟩:=U;subst ex b;rw[AA]at S;cases I:ds[i]? with
  |none=>simp_all|some c=>
   rw[I]at S;simp at S;subst S;obtain⟨v,e1,q⟩:=z.get I;have e2:=U xs (s2.tup (s1.tup t));rw[e1]at e2;cases e2;refine⟨upd F' T _,A2.lay s2 Y,T,_,rfl,SqT.of dy,?_⟩
   exact⟨.int i,[y],rfl,rfl,y,[],rfl,(q.mono s1).mono (eH.upd (s2.free Y)),rfl⟩
 st:=λF' H' s1 s2=>⟨xs,s2.tup (s1.tup t),by rw[z.length,wJ]⟩
def yM(fa:df->M A0):df->M a9:=λρ=>(fa ρ).bind λd=>(wx d).bind λds=>.ok (ue 0 ds)
@[simp]def e_enum2{fa:df->M A0}{ρ:df}:yM fa ρ=(fa ρ).bind λd=>(wx d).bind λds=>.ok (ue 0 ds):=id rfl
section
variable{W:qE}{a:bX}{p:lj}
def iEnum2(K:Fg)(tl:TE):TI:=λσ H R=>tl σ H λx H1=>∃a,x=.ref a/\((∃xs,SqL K H1 a xs)/\R (Ite K a) H1\/(∃xs,SqT K H1 a xs)/\R (IteT K a) H1)
def pi_enum2(w:Gl X "enumerate")(t:X.mg "enumerate"=af)(v:PE X a tl)(i: ~~~(au [a] X.env=[(ae,a_ a X.env)])):
  PI X (.Tuple elts k q) (.Call (.Name "enumerate" p) [a] [] pos) (iEnum2 X.K tl):=by
 intro A1 s σ H R I h;refine oT (xf I w t boot_enumerate (bR (A7 ((nD v rL i) pos A1 s σ H (λvs H1=>match vs with
  |[x]=>∃a,x=.ref a/\((∃xs,SqL X.K H1 a xs)/\R (Ite X.K a) H1\/(∃xs,SqT X.K H1 a xs)/\R (IteT X.K a) H1)
  |_=>False) I h) λus s1 ⟨vs,H1,U,o,q1⟩=>?_) i rfl))
 rcases vs with _|⟨x,_|⟨_,_⟩⟩
 .exact bV q1
 rotate_left
 .exact bV q1
 .obtain⟨l,e1,q⟩:=q1;subst e1;obtain⟨u,rfl,n⟩:=o.one;cases n;have d:∀b∈[s1.z+1,s1.z],KS X A1 H1 b:=λb g=>by
   have c:s1.z<=b:=by
    rcases aM.mp g with j|g
    .subst j;simp
    .have:=by simpa using g
     exact gJ this.symm
   exact U.MX c (U.hok.fresh c)
  rcases q with⟨⟨xs,e⟩,q⟩|⟨⟨xs,e⟩,q⟩
  .obtain⟨its,m,pl,r⟩:=U.list e;refine o_ pl.isList λy Y S hsz f=>?_;refine gR Y ?_;exact⟨s1.z+1,[s1.z+1,s1.z],_,_,H1,rfl,(U.kept (t':=s1.toks) f),Ek l _ _ (lg _),⟨⟨_,Y⟩,S⟩,d,q⟩
  .obtain⟨its,m,pl,r⟩:=U.tuple e;refine KG (show s1.heap.IsTuple l its.toArray from pl) λy Y S hsz f=>?_;refine gR Y ?_;exact⟨s1.z+1,[s1.z+1,s1.z],_,_,H1,rfl,(U.kept (t':=s1.toks) f),JR l _ _ (lg _),⟨⟨_,Y⟩,S⟩,d,q⟩
theorem DN(S:X.mg "enumerate"=af)(U:DE K W ae X a fa)(Y: ~~~(Gl X "enumerate"))(I: ~~~(au [a] X.env=[(ae,a_ a X.env)]))(f: ~~~(X.K=K)):
  DI K W X (.Tuple elts k q) (.Call (.Name "enumerate" p) [a] [] pos) (yM fa):=by
 subst f;exact(pi_enum2 Y S U I).imp λ_ _ _=>by
   intro h;obtain⟨F,ρ,r,s,p⟩:=h;refine eu r s (λe g=>?_) λd c v F1 H1 s1 q1=>?_
   .simp_all[yM]
   .have z:yM fa ρ=(wx d).bind λds=>.ok (ue 0 ds):=by unfold yM;rw[c];rfl
    rw[z]at p;cases d with
    |lst ds=>obtain⟨b,xs,e,t,z⟩:=q1;exact⟨b,e,.inl ⟨⟨xs,s1.fh.lst t⟩,p _ F1 H1 s1 (Fz t z)⟩⟩
    |tup ds=>obtain⟨b,xs,e,t,z⟩:=q1;exact⟨b,e,.inr ⟨⟨xs,s1.fh.tup t⟩,p _ F1 H1 s1 (Kr t z)⟩⟩
    |_=>exact(W.ns p).elim
end
def wV{u l:av}(x:h.IsTupleIter u l i)(A:cC c h h')(n:u≠c):h'.IsTupleIter u l i:=x.at λo e=>A u o n e
def wh{l:av}{xs:Array aj}(x:h.IsTuple l xs)(A:cC c h h')(n:l≠c):h'.IsTuple l xs:=let ⟨o,e,r⟩:=x;⟨o,A l o n e,r⟩
structure Ys(z p q u v l m:av)(r k a b:aj)(i j:Nat)(xs ys:Array aj)(h:bF):Prop where
 me:ZRec h z p q r k
 its:k9 h p (.ref u) (.ref v)
 own:k9 h q a b
 one:h.IsTupleIter u l i
 two:h.IsTupleIter v m j
 xl:h.IsTuple l xs
 yl:h.IsTuple m ys
section
variable{p q u v l m:av}{r k a b:aj}{xs ys:Array aj}
def Ys.atZ{r':aj}(D:gT z p q u v l m)(Z:Ys z p q u v l m r k a b i j xs ys h)(A:cC z h h')(e:ZRec h' z p q r' k'):Ys z p q u v l m r' k' a b i j xs ys h':=
 ⟨e,A _ _ D.TIz Z.its,A _ _ D.TOz Z.own,wV Z.one A D.i1z,wV Z.two A D.i2z,wh Z.xl A D.l1z,wh Z.yl A D.l2z⟩
def Ys.atQ(D:gT z p q u v l m)(Z:Ys z p q u v l m r k a b i j xs ys h)(A:cC q h h')(e:k9 h' q a' b'):Ys z p q u v l m r k a' b' i j xs ys h':=
 ⟨A _ _ D.TOz.symm Z.me,A _ _ D.TITO Z.its,e,wV Z.one A D.TOi1.symm,wV Z.two A D.TOi2.symm,wh Z.xl A D.l1TO,wh Z.yl A D.l2TO⟩
def Ys.atU(D:gT z p q u v l m)(Z:Ys z p q u v l m r k a b i j xs ys h)(A:cC u h h')(e:h'.IsTupleIter u l n):Ys z p q u v l m r k a b n j xs ys h':=
 ⟨A _ _ D.i1z.symm Z.me,A _ _ D.TIi1 Z.its,A _ _ D.TOi1 Z.own,e,wV Z.two A D.i12.symm,wh Z.xl A D.l1i1,wh Z.yl A D.l2i1⟩
def Ys.atV(D:gT z p q u v l m)(Z:Ys z p q u v l m r k a b i j xs ys h)(A:cC v h h')(e:h'.IsTupleIter v m n):Ys z p q u v l m r k a b i n xs ys h':=
 ⟨A _ _ D.i2z.symm Z.me,A _ _ D.TIi2 Z.its,A _ _ D.TOi2 Z.own,wV Z.one A D.i12,e,wh Z.xl A D.l1i2,wh Z.yl A D.l2i2⟩
def Ys.new{o:j5}(Z:Ys z p q u v l m r k a b i j xs ys h):Ys z p q u v l m r k a b i j xs ys (h.push o):=
 ⟨ah _ Z.me,ah _ Z.its,ah _ Z.own,Z.one.at λ_ e=>ah _ e,Z.two.at λ_ e=>ah _ e,(let ⟨o',e,t⟩:=Z.xl;⟨o',ah _ e,t⟩),(let ⟨o',e,t⟩:=Z.yl;⟨o',ah _ e,t⟩)⟩
end
section
variable{s:ao}{p q u v l m:av}{r k a b x y:aj}{xs ys:Array aj}
def L4{T:Bool->ao->Prop}(Z:Ys z p q u v l m .none k a b i j xs ys s.heap)(I:T ag s):aP (aI P w) A (oA (.ref z)) T E s:=
 ab (cJ Z.me rfl rfl (ai I))
def L3{T:Unit->ao->Prop}(D:gT z p q u v l m)(Z:Ys z p q u v l m r k a b i j xs ys s.heap)(I:(#[a,b]:Array aj).setIfInBounds n x=#[a',b'])(S:∀h',cC q s.heap h'->h'.objs.size=s.heap.objs.size->Ys z p q u v l m r k a' b' i j xs ys h'->T () {s with heap:=h'}):aP (aI P w) A (updateSeq q (·.setIfInBounds n x)) T E s:=
 wpAny_updateSeq_pair Z.own λh' e B=>S h' B.extBut B.1 (Z.atQ D B.extBut (by rw[I]at e;exact e))
def HX{c:aj}{T:Unit->ao->Prop}(D:gT z p q u v l m)(Z:Ys z p q u v l m r k a b i j xs ys s.heap){r':aj}(I:n<5)(S:(#[r,k,.bool ae,.ref p,.ref q]:Array aj).setIfInBounds n c=#[r',k',.bool ae,.ref p,.ref q])(U:∀h',cC z s.heap h'->h'.objs.size=s.heap.objs.size->Ys z p q u v l m r' k' a b i j xs ys h'->T () {s with heap:=h'}):aP (aI P w) A (ju (.ref z) n c) T E s:=
 eC Z.me I λh' e B=>U h' B.extBut B.1 (Z.atZ D B.extBut (by rw[S]at e;exact e))
theorem ys_gives{T:aj->ao->Prop}(D:gT z p q u v l m)(Z:Ys z p q u v l m .none (.bool ae) a b i j xs ys s.heap)(L:xs[i]?=aa x)(K:ys[j]?=aa y)(N:∀h' a' b',Ys z p q u v l m (iw s.heap.objs.size) (.bool ae) a' b' (i+1) (j+1) xs ys h'->k9 h' s.heap.objs.size x y->Off z q u v s.heap h'->T (.ref s.heap.objs.size) {s with heap:=h'}):
  aP (aI P w) A (Builtin.«zip.__next__» ⟨[.ref z],[]⟩) (λf s'=>∃c,f=.done (.ret c)/\T c s') E s:=by
 have I:∀{n:Nat} {c:aj} {G:aj->ao->Prop} {s':ao} {r k a b:aj} {i j:Nat},Ys z p q u v l m r k a b i j xs ys s'.heap->(#[r,k,.bool ae,.ref p,.ref q])[n]?=aa c->G c s'->aP (aI P w) A _ G E s':=
  λZ e t=>cJ Z.me rfl e t
 refine ab (show aP _ _ (cO (aT z,[])) _ _ _ from ai ?_);refine ab (I Z rfl (ab (I Z rfl (ab (eD Z.its rfl ?_)))));refine ab (L4 Z ?_);refine ab (eU (ab (I Z rfl (ab (HX D Z am rfl λg1 X e1 g=>?_)))));refine ab ?_;refine ab (ab (jk (ab (wO g.one g.xl L λg2 f2 o=>ai ?_))));have F:=g.atU D o.extBut f2;refine ab (eD F.own rfl (ab (L3 D F rfl λg3 W e3 d=>ab (kc (ai ?_)))));refine ab (ab (jk (ab (wO d.two d.yl K λg4 f4 h=>ai ?_))));have C:=d.atV D h.extBut f4;refine ab (eD C.own rfl (ab (L3 D C rfl λg5 R e5 Y=>ab (kc (ai (ai ?_))))));refine ab (eD Y.own rfl (ab (mP ?_)));have U:=e5.trans (h.1.trans (e3.trans (o.1.trans e1)));have lt:=aE Y.me;refine ab (ab (HX D Y.new am rfl λg6 J e6 Q=>HX D Q am rfl λO H e7 B=>?_));refine ai (Exists.intro _ ⟨rfl,?_⟩);have S:=H _ _ (cW lt) (J _ _ (cW lt) (aw _ rfl));rw[U]at S B ⊢;exact N O _ _ B S ((Off.byZ X).then ((Off.byU o.extBut).then ((Off.byQ W).then ((Off.byV h.extBut).then ((Off.byQ R).then (Off.new.then ((Off.byZ J).then (Off.byZ H))))))))
theorem ys_ends{T:nT->ao->Prop}(k:A.handled=af)(D:gT z p q u v l m)(Z:Ys z p q u v l m .none (.bool ae) a b i j xs ys s.heap)(I:xs[i]?=af\/ys[j]?=af)(n:∀h' c,Off z q u v s.heap h'->(∃o,h'.get? c=aa o/\o.cls=.type "StopIteration")->E (.ref c) {s with heap:=h'}):
  aP (aI P w) A (Builtin.«zip.__next__» ⟨[.ref z],[]⟩) T E s:=by
 refine ab (show aP _ _ _ _ _ _ from ai ?_);refine ab (cJ Z.me rfl rfl (ab (cJ Z.me rfl rfl (ab (eD Z.its rfl ?_)))));refine ab (L4 Z ?_);refine ab (eU (ab (cJ Z.me rfl rfl (ab (HX D Z am rfl λH B e1 S=>?_)))));refine ab ?_;cases h:xs[i]? with
 |none=>refine ab (ab (jk (ab (Af k S.one S.xl h λg2 c U e=>?_))));exact KZ (U _ _ D.i1z.symm S.me) e λr g d=>n r c ((Off.byZ B).then ((Off.byU U).then (Off.byZ g))) d|some x=>refine ab (ab (jk (ab (wO S.one S.xl h λg2 f2 U=>ai ?_))));have t:=S.atU D U.extBut f2;refine ab (eD t.own rfl (ab (L3 D t rfl λr g e3 f=>ab (kc (ai ?_)))));refine ab (ab (jk (ab (Af k f.two f.yl (I.resolve_left a7) λG c y e=>?_))));exact KZ (y _ _ D.i2z.symm f.me) e λC F Y=>n C c ((Off.byZ B).then ((Off.byU U.extBut).then ((Off.byQ g).then ((Off.byV y).then (Off.byZ F))))) Y
def yn_gives{T:Option aj->ao->Prop}(D:gT z p q u v l m)(Z:Ys z p q u v l m .none (.bool ae) a b i j xs ys s.heap)(S:xs[i]?=aa x)(I:ys[j]?=aa y)(U:∀h' a' b',Ys z p q u v l m (iw s.heap.objs.size) (.bool ae) a' b' (i+1) (j+1) xs ys h'->k9 h' s.heap.objs.size x y->Off z q u v s.heap h'->T (aa (.ref s.heap.objs.size)) {s with heap:=h'}):
  aP (aI P w) A (jI (.ref z)) T E s:=by
 have ty:s.TypeIs (.ref z) "zip":=⟨_,Z.me,rfl⟩
 refine ab (eV (bK ty gD ?_));refine bh gD ty mj (b9 (ys_gives (P:=P) (w:=w) (A:=A.in1) (E:=λ_ _=>False) (T:=λc s'=>T (aa c) s') D Z S I U) (λf s' h=>?_) λ_ _ h=>h.elim) (lV _);obtain⟨c,e,h⟩:=h;exact⟨c,e,ai h⟩
def yn_ends{T:Option aj->ao->Prop}(Y:A.handled=af)(D:gT z p q u v l m)(Z:Ys z p q u v l m .none (.bool ae) a b i j xs ys s.heap)(I:xs[i]?=af\/ys[j]?=af)(d:∀h',Off z q u v s.heap h'->T af {s with heap:=h'}):aP (aI P w) A (jI (.ref z)) T E s:=by
 have ty:s.TypeIs (.ref z) "zip":=⟨_,Z.me,rfl⟩
 refine ab (eV (bK ty gD ?_));refine bh gD ty mj (ys_ends Y D Z I λh' c S U=>?_) (lV _);obtain⟨o,e,t⟩:=U;exact ab (d9 ⟨o,e,t⟩ kg (ai (d h' S)))
end
def ItzT(K:Fg)(a b:av):It:=
 ⟨λi H=>∃xs ys x y,SqT K H a xs/\SqT K H b ys/\xs[i]?=aa x/\ys[i]?=aa y,λi H v H'=>∃T x y,H T=af/\v=.ref T/\H'=upd H T (.tup [x,y])/\(∀xs,SqT K H a xs->xs[i]?=aa x)/\∀ys,SqT K H b ys->ys[i]?=aa y,λi H=>∃xs ys,SqT K H a xs/\SqT K H b ys/\(xs.length<=i\/ys.length<=i)⟩
theorem Le{p q u v l m:av}(D:gT z p q u v l m):
  Turn P w K (.Tuple elts k pos) (ItzT K l m) [z,p,q,u,v] z (λi h=>IsZip h z p q .none/\k9 h p (.ref u) (.ref v)/\(∃a b,k9 h q a b)/\h.IsTupleIter u l i/\h.IsTupleIter v m i) where
 mem:=bW
 obj:=λi h ⟨r,its,⟨_,_,own⟩,⟨o1,e1,_,d1⟩,⟨o2,e2,_,d2⟩⟩ c hc=>by grind
 keep:=λi h h' ⟨r,its,⟨a,b,own⟩,Y,U⟩ G=>⟨G z ad _ r,G p ad _ its,⟨a,b,G q ad _ own⟩,Y.at λo x=>G u ad o x,U.at λo x=>G v ad o x⟩
 item:=by
  rintro X rfl rfl rfl f i A1 s σ H E I N ⟨r,its,⟨a,b,own⟩,Y,U⟩ ⟨xs,ys,x,y,L,J,gx,W⟩;obtain⟨vs,R,T,_⟩:=I.tuple L;obtain⟨ws,Q,py,_⟩:=I.tuple J;obtain⟨c,hc,rc⟩:=R.get gx;obtain⟨d,hd,rd⟩:=Q.get W;refine yn_gives D ⟨r,its,own,Y,U,T,py⟩ (x:=c) (y:=d) a7 a7 λh' a' b' Z A n=>⟨_,rfl,wpAny_letOwnedTupleGo_zip Z.me λg C B=>?_⟩
  have F:∀e∈[z,p,q,u,v],e<s.z:=by
   simp only[aM,cI,or_false];rintro e (rfl|rfl|rfl|rfl|rfl)
   .exact aE r
   .exact aE its
   .exact aE own
   .exact Y.elim λ_ t=>aE t.1
   .exact U.elim λ_ t=>aE t.1
  have O:=Z.atZ D B.extBut C;have nz:=cW (F z ad);have I':A3 X A1 σ (upd H s.z (.tup [x,y])) {s with heap:=g,toks:=s.toks}:=I.zv N (λe o S t=>by simp at S;exact B.extBut e o S.1 (n e o S.1 S.2.2.1 S.2.2.2.1 S.2.2.2.2 t)) (aq _) ⟨ad,[c,d],.cons rc (.cons rd .nil),⟨_,B.extBut _ _ nz A,rfl,0,rfl⟩⟩
  refine⟨.ref s.z,_,I',rfl,⟨_,x,y,I.hok.fresh (aq _),rfl,rfl,λ_ t=>by rw[I.xx t L];exact gx,λ_ t=>by rw[I.xx t J];exact W⟩,⟨C,O.its,⟨_,_,O.own⟩,O.one,O.two⟩,λe S=>?_⟩
  rw[dV (bg (F e S))];exact(N e S).1
 done:=by
  rintro X rfl rfl rfl f i A1 s σ H E I N ⟨r,its,⟨a,b,own⟩,Y,U⟩ ⟨xs,ys,L,J,j⟩;obtain⟨vs,R,T,_⟩:=I.tuple L;obtain⟨ws,Q,py,_⟩:=I.tuple J;have nx:=R.length;have ny:=Q.length;refine yn_ends (I.ok.hd f) D ⟨r,its,own,Y,U,T,py⟩ (j.imp (λt=>dT a7) λt=>dT a7) λh' n=>⟨rfl,I.GJ N λe o S t=>?_⟩
  simp at S;exact n e o S.1 S.2.2.1 S.2.2.2.1 S.2.2.2.2 t
 self:=λ_ _ _ _ _ st h=>p6 st.1 h
noncomputable abbrev tit(l:av):j5:={cls:=.type "tuple_iterator",data:=.fields #[.ref l,.int 0 0]}
abbrev zA(h:bF)(l:av):bF:=h.push (tit l)
abbrev zB(h:bF)(l m:av):bF:=(zA h l).push (tit m)
abbrev zC(h:bF)(l m:av):bF:=(zB h l m).push {cls:=.type "tuple",data:=.seq #[.ref h.objs.size,.ref (zA h l).objs.size]}
abbrev zD(h:bF)(l m:av):bF:=(zC h l m).push {cls:=.type "tuple",data:=.seq #[.none,.none]}
abbrev zE(h:bF)(l m:av):bF:=(zD h l m).push {cls:=.type "zip",data:=.fields #[.none,.bool ae,.bool ae,.ref (zB h l m).objs.size,.ref (zC h l m).objs.size]}
def zip_newT(l m:av)(xs ys:Array aj):Meets (Builtin.«zip.__new__» ⟨[.type "zip",.ref l,.ref m],[]⟩) (λ_ R s=>s.heap.IsTuple l xs/\s.heap.IsTuple m ys/\R (.ok (.ret (.ref (zD s.heap l m).objs.size))) {s with heap:=zE s.heap l m}):=
 .of_wp λprog w A R s h=>by
  obtain⟨Y,g,d,I,S⟩:=s;obtain⟨b,a,h⟩:=h;have U:=sub_zip;have e:mL (mK ⟨Y,g,d,I,S⟩) l xs:=b;have c:mL (mK ⟨Y.push {cls:=.type "tuple_iterator",data:=.fields #[.ref l,.int 0 0]},g,d,I,S⟩) m ys:=Heap.IsTuple.push a _
  wp_walk using fS e,fS c
  exact⟨_,rfl,h⟩
section
variable{s:ao}
def Nr{l m:av}{xs ys:Array aj}(g:s.heap.IsTuple l xs)(f:s.heap.IsTuple m ys)(k:∀h',IsZip h' (s.heap.objs.size+4) (s.heap.objs.size+2) (s.heap.objs.size+3) .none->k9 h' (s.heap.objs.size+2) (.ref s.heap.objs.size) (.ref (s.heap.objs.size+1)) ->
   k9 h' (s.heap.objs.size+3) .none .none->h'.IsTupleIter s.heap.objs.size l 0->h'.IsTupleIter (s.heap.objs.size+1) m 0->(∀c o,s.heap.get? c=aa o->h'.get? c=aa o)->Q (.ref (s.heap.objs.size+4)) {s with heap:=h'}):
  aP (aI prog w) A (i0 (.type "zip") [.ref l,.ref m]) Q E s:=by
 refine callType_new PySem.F.called_zip am (PySem.F.typeCall_zip_2 _ _) (PySem.F.newCall_zip_2 _ _) (λI=>PySem.F.args_object_init_3 I _ _) PySem.F.entry_zip_new (zip_newT l m xs ys) ⟨g,f,?_⟩;have Y:(zA s.heap l).objs.size=s.z+1:=cB ..;have n2:(zB s.heap l m).objs.size=s.z+2:=by rw[cB,Y]
 have U:(zC s.heap l m).objs.size=s.z+3:=by rw[cB,n2]
 have e:(zD s.heap l m).objs.size=s.z+4:=by rw[cB,U]
 have S:(zE s.heap l m).get? (zD s.heap l m).objs.size=aa _:=aw _ rfl;have a:(zE s.heap l m).get? (zC s.heap l m).objs.size=aa _:=ah _ (aw _ rfl);have b:(zE s.heap l m).get? (zB s.heap l m).objs.size=aa _:=ah _ (ah _ (aw _ rfl));have d:(zE s.heap l m).get? (zA s.heap l).objs.size=aa _:=ah _ (ah _ (ah _ (aw _ rfl)));rw[n2,U,e]at S;rw[Y,n2]at b;rw[U]at a;rw[Y]at d;rw[e];exact⟨⟨_,S,rfl⟩,k _ S b a ⟨_,(ah _ (ah _ (ah _ (ah _ (aw _ rfl))))),rfl,rfl⟩ ⟨_,d,rfl,rfl⟩ λc o t=>ah _ (ah _ (ah _ (ah _ (ah _ t))))⟩
end
theorem ME{ys:bi}{es:a9}(t:SqT K F a xs)(z:ei K F ds xs)(c:SqT K F b ys)(Y:ei K F es ys):yx K F (ItzT K a b) (Ef ds es) where
 go:=λi F' H' s1 s2 hi=>by rw[Cz]at hi;exact⟨xs,ys,xs[i]'(by rw[z.length];lia),ys[i]'(by rw[Y.length];lia),s2.tup (s1.tup t),s2.tup (s1.tup c),cv _,cv _⟩
 yl:=λi F' H' x H2 d s1 s2 U h=>by
  obtain⟨T,g,f,e,ex,k,h1,j⟩:=h;subst ex k;rw[HW]at U;cases S:ds[i]? with
  |none=>simp_all|some n=>
   cases I:es[i]? with
   |none=>simp_all|some m=>
    rw[S,I]at U;simp at U;subst U;obtain⟨v,e1,q⟩:=z.get S;obtain⟨l,e2,q2⟩:=Y.get I;have e3:=h1 xs (s2.tup (s1.tup t));have e4:=j ys (s2.tup (s1.tup c));rw[e1]at e3;rw[e2]at e4;cases e3;cases e4;refine⟨upd F' T _,A2.lay s2 e,T,_,rfl,SqT.of dy,?_⟩
    exact⟨g,[f],rfl,(q.mono s1).mono (eH.upd (s2.free e)),f,[],rfl,(q2.mono s1).mono (eH.upd (s2.free e)),rfl⟩
 st:=λF' H' s1 s2=>⟨xs,ys,s2.tup (s1.tup t),s2.tup (s1.tup c),by rw[z.length,Y.length,Cz];lia⟩
noncomputable def xr:A0->M a9
 |.tup ds=>.ok ds|_=>.error .stuck
def Bx(fa fb:df->M A0):df->M a9:=λρ=>(fa ρ).bind λa=>(fb ρ).bind λb=>(xr a).bind λds=>(xr b).bind λes=>.ok (Ef ds es)
@[simp]def e_zipT{fa fb:df->M A0}{ρ:df}:Bx fa fb ρ=(fa ρ).bind λa=>(fb ρ).bind λb=>(xr a).bind λds=>(xr b).bind λes=>.ok (Ef ds es):=id rfl
@[simp]def e_itemsTD(ds:a9):xr (.tup ds)=.ok ds:=id rfl
section
variable{W:qE}{a b:bX}{p:lj}
def iZipT(K:Fg)(ta tb:TE):TI:=λσ H R=>ta σ H λx H1=>tb σ H1 λy H2=>∃c d,x=.ref c/\y=.ref d/\(∃xs,SqT K H2 c xs)/\(∃ys,SqT K H2 d ys)/\R (ItzT K c d) H2
theorem pi_zipT{ta tb:TE}(E:Gl X "zip")(D:X.mg "zip"=af)(G:PE X a ta)(F:PE X b tb)(B:au [a,b] X.env=[(ae,a_ a X.env),(ae,a_ b X.env)])(S:au [b] X.env=[(ae,a_ b X.env)]):
  PI X (.Tuple elts k q) (.Call (.Name "zip" p) [a,b] [] pos) (iZipT X.K ta tb):=by
 intro A1 s σ H R I h;have g:=(nD G (nD F rL S) a7) pos A1 s σ H (λvs H1=>match vs with|[x,y]=>∃c d,x=.ref c/\y=.ref d/\(∃xs,SqT X.K H1 c xs)/\(∃ys,SqT X.K H1 d ys)/\R (ItzT X.K c d) H1|_=>False) I h;refine oT (xf I E D boot_zip (bR (A7 g λus s1 C=>?_) (by rw[B,S]) (by rw[S];rfl)));obtain⟨vs,H1,i,v,q1⟩:=C;rcases vs with _|⟨x,_|⟨y,_|⟨_,_⟩⟩⟩
 .exact bV q1
 .exact bV q1
 rotate_left
 .exact bV q1
 .obtain⟨c,d,L,K,⟨xs,A⟩,⟨ys,z⟩,J⟩:=q1;subst L K;obtain⟨_,_,rfl,u,r⟩:=v.two;cases u;cases r;obtain⟨vs,P,w,_⟩:=i.tuple A;obtain⟨N,O,py,_⟩:=i.tuple z;have Y:=w;have U:=py;refine Nr Y U λh' n its own l j m=>p6 n ?_;have f:∀e∈[s1.z+4,s1.z+2,s1.z+3,s1.z,s1.z+1],s1.z<=e:=by
   simp only[aM,cI,or_false];rintro e (rfl|rfl|rfl|rfl|rfl)<;>lia
  exact⟨_,_,_,_,H1,rfl,i.kept m,Le (zipApart_new (Y.elim λ_ t=>aE t.1) (U.elim λ_ t=>aE t.1)),⟨n,its,⟨_,_,own⟩,l,j⟩,λe o=>i.MX (f e o) (i.hok.fresh (f e o)),J⟩
theorem HE(t:X.mg "zip"=af)(w:DE K W ae X a fa)(v:DE K W ae X b fb)(u: ~~~(Gl X "zip"))(o: ~~~(au [a,b] X.env=[(ae,a_ a X.env),(ae,a_ b X.env)]))(U: ~~~(au [b] X.env=[(ae,a_ b X.env)]))(x: ~~~(X.K=K)):
  DI K W X (.Tuple elts k q) (.Call (.Name "zip" p) [a,b] [] pos) (Bx fa fb):=by
 subst x;exact(pi_zipT u t w v o U).imp λ_ _ _=>by
   intro h;obtain⟨F,ρ,r,s,p⟩:=h;refine eu r s (λe i=>?_) λj S B F1 H1 s1 q1=>?_
   .simp_all[Bx]
   .refine eu (r.mono s1.ff) s1.fh (λe i=>?_) λf Y A y H2 s2 q2=>?_
    .have z:Bx fa fb ρ=.error e:=by unfold Bx;rw[S];rw[i];rfl
     rw[z]at p;exact W.mono p s1
    .have z:Bx fa fb ρ=(xr j).bind λds=>(xr f).bind λes=>.ok (Ef ds es):=by unfold Bx;rw[S];rw[Y];rfl
     rw[z]at p;cases j with
     |tup ds=>
      cases f with
      |tup es=>obtain⟨c,xs,e1,n,m⟩:=q1;obtain⟨d,ys,e2,g,l⟩:=q2;have I:=s2.ff.tup n;exact⟨c,d,e1,e2,⟨xs,s2.fh.tup I⟩,⟨ys,s2.fh.tup g⟩,p _ y H2 (s1.trans s2) (ME I (m.mono s2.ff) g l)⟩
      |_=>exact(W.ns p).elim
     |_=>cases f<;>exact(W.ns p).elim
end
section
variable{κ:Type}[fG κ]
def JG.ML{o:Option V}{u:Option aj}(r:JG o u):o.isSome=u.isSome:=by
 cases o with
 |none=>cases u with
  |none=>rfl|some _=>exact(show False from r).elim
 |some _=>cases u with
  |none=>exact(show False from r).elim|some _=>rfl
theorem JG.getD{o:Option V}{u:Option aj}{d:V}{I:aj}(r:JG o u)(S:A5 d I):A5 (o.getD d) (u.getD I):=by
 cases o with
 |none=>cases u with
  |none=>exact S|some _=>exact(show False from r).elim
 |some _=>cases u with
  |none=>exact(show False from r).elim|some _=>exact r
end
section
variable{s:ao}
def A3.big(I:A3 X A1 σ H s):bT<s.heap.objs.size:=by exact m6 am ((I.mod.glob.keeps I.bk).lt)
end
noncomputable def Lj:List (TE×TE)->St->Hp->(List (V×V)->Hp->Prop)->Prop
 |[],_,H,Q=>Q [] H|(I,tv)::r,σ,H,Q=>I σ H λx H1=>tv σ H1 λy H2=>Lj r σ H2 λps S=>Q ((x,y)::ps) S
abbrev VV:List (V×V)->List (aj×aj)->Prop:=cb λp q=>A5 p.1 q.1/\A5 p.2 q.2
def PPs(X:Cx)(pos:lj)(S:List (Option bX))(I:List bX)(U:List (TE×TE)):Prop:=
 ∀(A1:Pn) (s:ao) (σ:St) (H:Hp) (Q:List (V×V)->Hp->Prop),A3 X A1 σ H s->Lj U σ H Q ->
  aP (aI X.prog X.w) X.A (evalPairs (pairTrees S I X.env pos)) (λvs s'=>∃ps H',A3 X A1 σ H' s'/\VV ps vs/\Q ps H') X.xe s
def pps_nil:PPs X pos [] [] []:=λA1 s σ H Q I h=>pairTrees_nil_walk ⟨[],H,I,.nil,h⟩
def pps_cons{k v:bX}{ks:List (Option bX)}{vs:List bX}{Y:TE}{S:List (TE×TE)}(f:PE X k Y)(d:PE X v tv)(e:PPs X pos ks vs S):
  PPs X pos (aa k::ks) (v::vs) ((Y,tv)::S):=λA1 s σ H Q I h=>
 pairTrees_cons_walk (A7 (f A1 s σ H _ I h) λu s1 ⟨x,H1,j,b,q1⟩=>A7 (d A1 s1 σ H1 _ j q1) λn s2 ⟨y,H2,i,a,q2⟩=>A7 (e A1 s2 σ H2 _ i q2) λm o ⟨ps,l,g,U,c⟩=>⟨(x,y)::ps,l,g,.cons ⟨b,a⟩ U,c⟩)
structure M2(X:Cx)(o:bX)(m:br)(apos:lj)(e f:bX)(cpos:lj):Prop where
 base:cy o m X.env (a_ o X.env)=a_ o X.env
 few:((cu cpos (au [e,f] X.env)).all (λx=> !x.1)&&(ik cpos (fN [] X.env)).all (λx=>x.1.isSome)
  &&aF (([e,f]:List bX).length+([]:List ie).length+(if ([]:List ie).isEmpty then 0 else 1)<30))=ag
 line:(apos.endLine==cpos.line)=ag
 trees:cu cpos (au [e,f] X.env)=[(ae,a_ e X.env),(ae,a_ f X.env)]
section
open PySem.W
end
structure Yd(P:bL)(w:c8)(K:Fg)(mg:br->Option aj)(base:bF)(CX:CXT)(k:Nat)(x:br)(st:bY)(ps:List br)(sp:Sp)(f:av)(fd:dX):Prop where
 d:Def K mg x st ps f fd
 o:vT P w K mg base CX k f fd ps sp
section
open PySem.W
end
section
open PySem.SetTable
end
section
open PySem
end
section
open PySem.W
end
noncomputable abbrev Be(P:bL)(w:c8):oN P w a8:=tupleKind (n9 P w)
theorem En{P:bL}{w:c8}:∀{k:a8} {us:bm},A6 (k.map V.int) us->ItemsAre (n9 P w) k us
 |[],_,.nil=>.nil|i::k,_,.cons r t=>by
  obtain⟨t',rfl⟩:=(show ∃t,_=i3 i t from r)
  exact .cons (by simp[n9,Value.isInt]) (En t)
def B8.at{xs:b0}(z:B8 h a xs ep)(e:∀o,h.get? a=aa o->h'.get? a=aa o):B8 h' a xs ep:=
 let ⟨vs,r,U,S,I,o,es,h1,c,b,Y⟩:=z;⟨vs,r,U,S,I,o,es,e o h1,c,b,Y⟩
def HD{xs:b0}(z:B8 h a xs ep):uo H h a (ur a xs ep):=
 ⟨z,let ⟨_,_,_,_,_,o,_,e,_,_,_⟩:=z;⟨o,e⟩,λ_ _ z e=>z.at e⟩
def wd(K:Fg)(H:Hp)(xs:b0):Prop:=∀x∈xs,SqT K H x.2.1 (x.1.map V.int)
def wd.mono{xs:b0}(z:wd K H xs)(s:eH H H'):wd K H' xs:=λx I=>s.tup (z x I)
theorem qm.key{K:Fg}{F:Hp}:∀{ks:List (a8×A0)} {xs:b0},qm K F ks xs->wd K F xs
 |[],_,h,x,I=>by rw[show _=[]from h]at I;grind|(k,d)::ks,_,⟨b,v,r,e,t,q,z⟩,x,I=>by
  subst e;rcases aM.mp I with rfl|I
  .exact t
  .exact qm.key z x I
theorem qm.length{K:Fg}{F:Hp}:∀{ks:List (a8×A0)} {xs:b0},qm K F ks xs->xs.length=ks.length
 |[],_,h=>by rw[show _=[]from h];rfl|(k,d)::ks,_,⟨b,v,r,e,t,q,z⟩=>by rw[e,aW,aW,qm.length z]
noncomputable def tT(ks:List (a8×A0))(k:a8):Option A0:=(ks.find? λp=>aF (p.1=k)).map (·.2)
noncomputable def wA(xs:b0)(k:a8):Option V:=(xs.find? λp=>aF (p.1=k)).map (·.2.2)
def rY(ks:List (a8×A0))(k:a8)(d:A0):List (a8×A0):=if (tT ks k).isSome=ag then ks.map (λp=>if p.1=k then(p.1,d)else p)else ks++[(k,d)]
def IE(xs:b0)(k:a8)(b:av)(v:V):b0:=if (wA xs k).isSome=ag then xs.map (λx=>if x.1=k then(x.1,x.2.1,v)else x)else xs++[(k,b,v)]
theorem Ak(xs:b0)(k:a8)(b:av)(v:V):(IE xs k b v).length<=xs.length+1:=by
 unfold IE;split
 .rw[az];lia
 .rw[bB];exact aq _
theorem xB{k:a8}:∀{xs:b0} {vs:List (a8×av×aj)},cb vt xs vs->JG (wA xs k) ((jT vs k).map (·.2))
 |_,_,.nil=>gz|x::xs,q::vs,.cons h t=>by
  obtain⟨h1,U,I⟩:=h;by_cases e:x.1=k
  .simp[wA,jT,cV,e,(h1.symm.trans e),];exact I
  .have S:¬q.1=k:=λz=>e (h1.trans z);have:=xB (k:=k) t;simpa only[wA,jT,cV,e,S,decide_false] using this
theorem qm.at{K:Fg}{F:Hp}{k:a8}:∀{ks:List (a8×A0)} {xs:b0},qm K F ks xs->(tT ks k=af/\wA xs k=af)\/∃d v,tT ks k=aa d/\wA xs k=aa v/\i1 K F d v
 |[],_,h=>by rw[show _=[]from h];exact .inl ⟨rfl,rfl⟩|(k',d)::ks,_,⟨b,v,r,e,t,q,z⟩=>by
  subst e;by_cases e:k'=k
  .exact .inr ⟨d,v,by simp[tT,e],by simp[wA,e],q⟩
  .have:=qm.at (k:=k) z;simpa only[tT,wA,cV,e,decide_false] using this
theorem qm.isSome{K:Fg}{F:Hp}{k:a8}{ks:List (a8×A0)}{xs:b0}(z:qm K F ks xs):(wA xs k).isSome=(tT ks k).isSome:=by rcases z.at with⟨e1,e2⟩|⟨d,v,e1,e2,_⟩<;>rw[e1,e2]<;>rfl
theorem qm.repl{K:Fg}{F:Hp}{k:a8}{d:A0}{v:V}(q:i1 K F d v):∀{ks:List (a8×A0)} {xs:b0},qm K F ks xs->qm K F (ks.map λp=>if p.1=k then(p.1,d)else p) (xs.map λx=>if x.1=k then(x.1,x.2.1,v)else x)
 |[],_,h=>by rw[show _=[]from h];rfl|(k',U)::ks,_,⟨b,I,r,e,t,S,z⟩=>by
  subst e;rw[aO,aO];by_cases e:k'=k
  .rw[aC e,aC e];exact⟨b,v,_,rfl,t,q,qm.repl q z⟩
  .rw[aA e,aA e];exact⟨b,I,_,rfl,t,S,qm.repl q z⟩
theorem qm.snoc{K:Fg}{F:Hp}{k:a8}{b:av}{d:A0}{v:V}(t:SqT K F b (k.map V.int))(q:i1 K F d v):∀{ks:List (a8×A0)} {xs:b0},qm K F ks xs->qm K F (ks++[(k,d)]) (xs++[(k,b,v)])
 |[],_,h=>by rw[show _=[]from h];exact⟨b,v,[],rfl,t,q,rfl⟩|(k',U)::ks,_,⟨b',I,r,e,t',S,z⟩=>by subst e;exact⟨b',I,_,rfl,t',S,qm.snoc t q z⟩
def qm.put{k:a8}{xs:b0}(z:qm K F ks xs)(t:SqT K F b (k.map V.int))(q:i1 K F d v):qm K F (rY ks k d) (IE xs k b v):=by
 unfold rY IE;rw[z.isSome];by_cases h:(tT ks k).isSome=ag
 .rw[aC h,aC h];exact z.repl q
 .rw[aA h,aA h];exact z.snoc t q
theorem ER{k:a8}{v:V}{u:aj}(I:A5 v u):∀{xs:b0} {vs:List (a8×av×aj)},cb vt xs vs->cb vt (xs.map λx=>if x.1=k then(x.1,x.2.1,v)else x) (vs.map (pR k u))
 |_,_,.nil=>.nil|x::xs,q::vs,.cons h t=>by
  rw[aO];refine .cons ?_ (ER I t);obtain⟨h1,S,U⟩:=h;unfold pR;by_cases e:x.1=k
  .rw[aC e,aC (h1.symm.trans e)];exact⟨h1,S,I⟩
  .rw[aA e,aA (λz=>e (h1.trans z))];exact⟨h1,S,U⟩
def xC{k:a8}(I:A5 v u){xs:b0}{vs:List (a8×av×aj)}(r:cb vt xs vs):cb vt (IE xs k b v) (mJ vs k b u):=by
 have e:(wA xs k).isSome=(jT vs k).isSome:=by rw[(xB r).ML,j9]
 unfold IE mJ;rw[e];by_cases h:(jT vs k).isSome=ag
 .rw[aC h,aC h];exact ER I r
 .rw[aA h,aA h];exact Paired.snoc r ⟨rfl,rfl,I⟩
theorem Iv:∀{xs:b0} {vs:List (a8×av×aj)},cb vt xs vs->∀q∈vs,∃x∈xs,x.1=q.1/\x.2.1=q.2.1
 |_,_,.nil,_,h=>nomatch h
 |x::xs,q::vs,.cons h t,y,I=>by
  rcases aM.mp I with rfl|I
  .exact⟨x,ad,h.1,h.2.1⟩
  .obtain⟨S,h1,U⟩:=Iv t y I;exact⟨S,by simp[h1],U⟩
section
variable{s:ao}{xs:List JJ}{k:List Int}
def zy(I:A3 X A1 σ H s)(h:SqT X.K H b (k.map V.int)):(Be X.prog X.w).is s.heap k b:=by obtain⟨its,r,⟨o,h1,U,n,S⟩,_⟩:=I.tuple h;exact⟨o,its.toArray,n,h1,U,S,by simpa using En r⟩
def FZ(I:A3 X A1 σ H s)(e:H a=aa (ur a xs ep)):B8 s.heap a xs ep:=(show B8 s.heap a xs ep/\_ from I.hok a _ e).1
def Cm(I:A3 X A1 σ H s)(e:H a=aa (ur a xs ep))(z:wd X.K H xs):∃vs,cb vt xs vs/\(a==bT)=ae/\xs.length<=ay/\s.heap.DictOfH (Be X.prog X.w) a vs:=by
 obtain⟨vs,r,c,b,Y,o,es,h1,g,f,d⟩:=FZ I e;refine⟨vs,r,c,b,o,es,ep,h1,g,f,d,λq U=>?_,Y⟩
 obtain⟨x,S,e1,e2⟩:=Iv r q U;rw[<-e1,<-e2];exact zy I (z x S)
def Js(I:A3 X A1 σ H s)(e:H a=aa (ur a xs ep)):s.TypeIs (.ref a) "dict"/\(∀b,aT a=.ref b->∃S,s.heap.get? b=aa S/\S.dict=af):=by obtain⟨_,_,_,_,_,o,_,h1,U,_⟩:=FZ I e;exact⟨⟨o,h1,U.1⟩,λc q=>by cases q;exact⟨o,h1,U.2.1⟩⟩
def Ju{vs:List (a8×av×aj)}(d:h.DictOfH (Be P w) a vs)(r:cb vt xs vs)(S:(a==bT)=ae)(I:xs.length<=ay):∃ep,B8 h a xs ep:=by obtain⟨o,es,ep,h1,c,b,Y,_,U⟩:=d;exact⟨ep,vs,r,S,I,U,o,es,h1,c,b,Y⟩
end
def sPut(K:Fg)(td ty tv:TE):TS:=λD σ H=>tv σ H λv H1=>td σ H1 λx H2=>ty σ H2 λy I=>∃a b k xs ep,x=.ref a/\y=.ref b/\I a=aa (ur a xs ep)/\wd K I xs/\SqT K I b (k.map V.int)/\xs.length<ay/\∀ep',D.nx σ (upd I a (ur a (IE xs k b v) ep'))
def tGet2(K:Fg)(td ty tx:TE):TE:=λσ H Q=>td σ H λx H1=>∃a xs ep,x=.ref a/\H1 a=aa (ur a xs ep)/\ty σ H1 λy H2=>tx σ H2 λz I=>∃b k,y=.ref b/\I a=aa (ur a xs ep)/\wd K I xs/\SqT K I b (k.map V.int)/\Q ((wA xs k).getD z) I
def tNewK:TE:=λ_ H Q=>∀p,H p=af->Q (.ref p) (upd H p (ur p [] 0))
section
variable{o i f:bX}{ty:TE}
def G1(h:bF)(I:bT<h.objs.size):B8 (h.push {cls:=.type "dict",data:=.dict #[]}) h.objs.size [] 0:=
 ⟨[],.nil,mw.mpr (bO (bg I)),bz _,gF,_,#[],aw _ rfl,⟨rfl,rfl,rfl⟩,rfl,rfl⟩
def M4:PE X (.Dict [] [] pos) tNewK:=λA1 s σ H Q I h=>l_ ⟨.ref s.heap.objs.size,_,I.laid (λ_ _ q=>ah _ q) (aq _) (HD (G1 s.heap I.big)),rfl,h _ (I.hok.fresh (aq _))⟩
def A3.dic{s:ao}{xs ys:b0}{t':Nat}(I:A3 X A1 σ H s)(e:H a=aa (ur a xs ep))(S:dG a s.heap h')(z:B8 h' a ys ep'):A3 X A1 σ (upd H a (ur a ys ep')) {s with heap:=h',toks:=t'}:=
 I.write (by rw[e];exact gz) (.inl rfl) (λc q U w=>(S.2 c U).trans w) (let ⟨_,_,_,_,_,o,_,w,_,_,_⟩:=z;⟨o,w⟩) (HD z)
theorem EZ(q:X.A.units+1<b_)(A:PE X o td)(hi:PE X i ty)(p:PE X value tv)(w:dJ value (aa (.Subscript o i pos')) pos.line X.env=cO ae):PS X (.Assign [.Subscript o i pos'] value pos) (sPut X.K td ty tv):=by
 intro A1 s σ H D I h;refine jG (A7 (p A1 s σ H _ I h) λr s1 S=>?_) w;obtain⟨v,H1,J,g,q1⟩:=S;refine A7 (A A1 s1 σ H1 _ J q1) λu s2 S=>?_;obtain⟨x,H2,G,f,q2⟩:=S;refine A7 (hi A1 s2 σ H2 _ G q2) λl K S=>?_;obtain⟨y,N,c,e,a,b,k,xs,ep,ex,E,ea,B,t,L,j⟩:=S;subst ex E;cases(show u=aT a from f);cases(show l=aT b from e);obtain⟨vs,d,C,n,F⟩:=Cm c ea B;have m:vs.length<=ay:=by rw[<-dQ d];exact n
 refine kZ (iY q) (zy c t) F λh' Y U=>?_;obtain⟨ep',z⟩:=Ju Y (xC g d) C (by have:=Ak xs k b v;lia);exact⟨σ,_,c.dic ea U z,j ep'⟩
def M6(r:X.A.units+1<b_)(w:PE X o td)(C:PE X e ty)(B:PE X f tx)(m:M2 X o "get" apos e f cpos):PE X (.Call (.Attribute o "get" apos) [e,f] [] cpos) (tGet2 X.K td ty tx):=by
 intro A1 s σ H Q I h;refine wpAny_Call_method m.base m.few m.line eN mq PySem.F.type_dict_get (A7 (w A1 s σ H _ I h) λu s1 v=>?_);obtain⟨x,H1,c,l,a,xs,ep,ex,ea,q1⟩:=v;subst ex;cases(show u=aT a from l);obtain⟨g,d⟩:=Js c ea;refine⟨g,d,?_⟩
 rw[m.trees];refine dR rfl (mW (j6 (A7 (C A1 s1 σ H1 _ c q1) λq s2 ⟨y,H2,F,j,q2⟩=>j6 (A7 (B A1 s2 σ H2 _ F q2) λfv J ⟨z,G,U,i,b,k,E,S,A,t,p⟩=>nV ?_))))
 subst E;cases(show q=aT b from j);obtain⟨vs,n,D,K,Y⟩:=Cm U S A;exact lH mq Y.typeIs PySem.F.entry_dict_get (PySem.F.args_dict_get_3 _ _ _) (meetsH_dict_get_default _ a b D fv) ⟨iY r,k,vs,zy U t,Y,_,G,U.tok _,(xB n).getD i,p⟩
end
def u5:A0->M a8
 |.tup ds=>o4 ds|_=>stk
noncomputable def AF(ρ:df)(i:Nat):M (List (a8×A0)):=match ρ[i]? with
 |some (aa (.dic ks))=>.ok ks|_=>.error .stuck
def K1(i:Nat)(fk fv:df->M A0):df->M A4:=λρ=>(fv ρ).bind λd=>(AF ρ i).bind λks=>(fk ρ).bind λI=>(u5 I).bind λk=>if (uT d&&aF (ks.length<ay))=ag then .ok (.nx (ρ.set i (aa (.dic (rY ks k d)))))else .error .stuck
noncomputable def isDic:A0->Bool
 |.dic _=>ag|_=>ae
def getDD:A0->A0->A0->M A0
 |.dic ks,I,x=>(u5 I).bind λk=>.ok ((tT ks k).getD x)|_,_,_=>stk
def FN(fd fk fx:df->M A0):df->M A0:=λρ=>(fd ρ).bind λd=>if isDic d=ag then(fk ρ).bind λk=>(fx ρ).bind λx=>getDD d k x else stk
def rF{e:Err}(h:u5 d=.error e):e=.stuck:=by
 cases d with
 |tup ds=>exact tm h|_=>cases h;rfl
theorem tH{k:a8}(h:u5 d=.ok k)(q:i1 K F d v):∃b,v=.ref b/\SqT K F b (k.map V.int):=by
 cases d with
 |tup ds=>
  obtain⟨b,xs,e,t,z⟩:=q;have:=ry z h
  simp_all
 |_=>cases h
section
variable{W:qE}{D:Ends}{fd:df->M A0}{Q:VK}
def xU(h:AF ρ i=.ok ks):ρ[i]?=aa (aa (.dic ks)):=by
 unfold AF at h;split at h
 .cases h;assumption
 .cases h
def G2{e:Err}(h:AF ρ i=.error e):e=.stuck:=by
 unfold AF at h;split at h
 .cases h
 .cases h;rfl
def rs_putD(hi:i∈O)(t:tS K W ro F0 H0 OL O O (K1 i fk fv) D σ H):sPut K (wj i) (tD K W ae fk) (tD K W ae fv) D σ H:=by
 obtain⟨FB,F,ρ,r,p⟩:=t;refine eu r.wm r.tG (λe g=>p.vk (r.freeze ad).st (by unfold K1;rw[g];rfl)) λd n v F1 H1 s1 q=>?_;have u:K1 i fk fv ρ=(AF ρ i).bind λks=>(fk ρ).bind λc=>(u5 c).bind λk=>if (uT d&&aF (ks.length<ay))=ag then .ok (.nx (ρ.set i (aa (.dic (rY ks k d)))))else .error .stuck:=by unfold K1;rw[n];rfl
 rw[u]at p;cases U:AF ρ i with
 |error e=>have:=G2 U;subst this;exact p.stuck (by rw[U];rfl)|ok ks=>
  rw[U]at p;have S:=r.u9 s1;obtain⟨x,e2,a,xs,ev,⟨ep,o⟩,_,_,z⟩:=S.ow i _ (xU U) hi;subst ev;refine⟨.ref a,e2,?_⟩
  refine eu S.wm S.tG (λe g=>p.vk (S.freeze ad).st (by rw[g];rfl)) λc m w y H2 s2 q2=>?_;rw[m]at p;have p:tM K W ro F0 H0 FB OL O D ((u5 c).bind λk=>if (uT d&&aF _)=ag then .ok _ else .error .stuck):=p;cases I:u5 c with
  |error e=>have:=rF I;subst this;exact p.stuck (by rw[I];rfl)|ok k=>
   rw[I]at p;have p:tM K W ro F0 H0 FB OL O D (if (uT d&&aF _)=ag then .ok _ else .error .stuck):=p;by_cases Y:(uT d&&aF (ks.length<ay))=ag
   .rw[aC Y]at p;simp at Y;obtain⟨b,rfl,t⟩:=tH I q2;have f:=S.u9 s2;have l:=i1.flat (r.C1 s1) Y.1 q;have h:=z.mono (S.sN s2);have j:=S.C1 s2 b _ t;exact⟨a,b,k,xs,ep,rfl,rfl,s2.hh _ _ o,h.key.mono f.st.fh,f.st.fh.tup j,by rw[z.length];exact Y.2,λep'=>p σ _ _ (f.HY hi (xU U) rfl e2 λf0 s=>⟨a,_,rfl,⟨ep',dy⟩,f0,s,h.put j (l.mono (S.sN s2))⟩)⟩
   .rw[aA Y]at p;exact p.stuck rfl
theorem rd_getD(h:tD K W ae (FN fd fk fx) σ H Q):tGet2 K (tD K W ae fd) (tD K W ae fk) (tD K W ae fx) σ H Q:=by
 obtain⟨F,ρ,r,s,p⟩:=h;refine eu r s (λe Y=>p.err (by simp_all[FN])) λd n x F1 H1 s1 q1=>?_;have u:FN fd fk fx ρ=if isDic d=ag then(fk ρ).bind λk=>(fx ρ).bind λx=>getDD d k x else stk:=by unfold FN;rw[n];rfl
 rw[u]at p;cases d with
 |dic ks=>
  obtain⟨a,xs,e,⟨ep,i⟩,z⟩:=q1;refine⟨a,xs,ep,e,s1.fh _ _ i,?_⟩
  refine eu (r.mono s1.ff) s1.fh (λe Y=>(p.step s1).err (by rw[Y];rfl)) λg m y B H2 s2 q2=>?_;rw[m]at p;have I:=s1.trans s2;refine eu (r.mono I.ff) I.fh (λe Y=>(p.step I).err (by rw[Y];rfl)) λc o w j A U l=>?_;rw[o]at p;have p:eQ K W ae F H ((u5 g).bind λk=>.ok _) Q:=p;cases S:u5 g with
  |error e=>rw[S]at p;have:=rF S;subst this;exact eQ.stuck p|ok k=>
   rw[S]at p;obtain⟨b,rfl,t⟩:=tH S q2;have f:=(z.mono s2.ff).mono U.ff;refine⟨b,k,rfl,U.hh _ _ (s2.hh _ _ (s1.fh _ _ i)),f.key.mono U.fh,U.fh.tup (U.ff.tup t),p _ j A (I.trans U) ?_⟩
   show i1 K j _ _;rcases f.at with⟨e1,e2⟩|⟨d,v,e1,e2,q⟩
   .rw[e1,e2];exact l
   simp_all
 |_=>exact eQ.stuck p
end
section
variable{W:qE}{o:bX}{fd:df->M A0}{p:lj}
def Nd:DE K W ag X (.Dict [] [] pos) (fC (.dic [])):=M4.imp λσ H Q h=>by obtain⟨F,ρ,r,s,q⟩:=h;exact λa I=>q _ F _ (A2.grow s I) ⟨a,[],rfl,⟨0,dy⟩,s.free I,I,rfl⟩
theorem Nf(d:X.A.units+64<b_)(S:DE K W ae X o fd)(a:DE K W ae X ek fk)(Y:DE K W ae X ex fx)(c: ~~~(X.K=K))(b: ~~~(cy o "get" X.env (a_ o X.env)=a_ o X.env))(hw: ~~~(((cu cpos (au [ek,ex] X.env)).all (λx=> !x.1)&&(ik cpos (fN [] X.env)).all (λx=>x.1.isSome)&&aF (([ek,ex]:List bX).length+([]:List ie).length+(if ([]:List ie).isEmpty then 0 else 1)<30))=ag))(U: ~~~((apos.endLine==cpos.line)=ag))(I: ~~~(cu cpos (au [ek,ex] X.env)=[(ae,a_ ek X.env),(ae,a_ ex X.env)])):DE K W ae X (.Call (.Attribute o "get" apos) [ek,ex] [] cpos) (FN fd fk fx):=by subst c;exact(M6 ac S a Y ⟨b,hw,U,I⟩).imp λ_ _ _=>rd_getD
theorem ds_putD(f:X.A.units+64<b_)(a:DE K W ae X ek fk)(b:DE K W ae X ev fv)(Y:(i∈O)⁻¹)(d: ~~~(X.N[i]?=aa x))(S:autoParam (Vis X.env.scope x) Jq5)(c:((x==("__debug__":br))=ae)⁻¹)(I:((x==("__classdict__":br))=ae)⁻¹)(e: ~~~(X.K=K))(U: ~~~(dJ ev (aa (.Subscript (.Name x p) ek pos')) pos.line X.env=cO ae)):DS K W ro X OL O O (.Assign [.Subscript (.Name x p) ek pos'] ev pos) (K1 i fk fv):=λF0 H0=>by subst e;exact PS.imp (EZ ac (pv i d S c I) a b U) λ_ _ _=>rs_putD Y
end
def Lk(K:Fg)(ty tv:TE):TE:=λσ H Q=>∀p,H p=af->Lj [(ty,tv)] σ (upd H p (ur p [] 0)) λps H2=>∃b k v,ps=[(.ref b,v)]/\H2 p=aa (ur p [] 0)/\SqT K H2 b (k.map V.int)/\∀ep,Q (.ref p) (upd H2 p (ur p [(k,b,v)] ep))
section
variable{f:bX}{ty:TE}
def II(m:X.A.units<b_)(o:PE X e ty)(l:PE X f tv):PE X (.Dict [aa e] [f] pos) (Lk X.K ty tv):=by
 intro A1 s σ H Q I q;have w:=I.laid (t':=s.toks) (λ_ _ q=>ah _ q) (aq _) (HD (G1 s.heap I.big));refine wpAny_Dict_any rfl rfl ad ad (A7 (pps_cons o l pps_nil A1 _ σ _ _ w (q _ (I.hok.fresh (aq s.z)))) λA s2 n=>?_);obtain⟨ps,H2,a,S,b,k,v,ep,e2,t,q2⟩:=n;subst ep;cases S with
 |@cons x y xs ys r g=>cases g;obtain⟨c,B⟩:=y;obtain⟨h,d⟩:=r;cases(show c=aT b from h);obtain⟨vs,i,p,C,u⟩:=Cm a e2 (λx j=>nomatch j);cases i;unfold storeAll;rw[o6];refine ab (ab (wpAny_dictSet_heap m (zy a t) u λh' Y U=>ai ?_));show aP _ _ (o7 [] PUnit.unit _) _ _ _;obtain⟨ep',z⟩:=Ju Y (xC d .nil) p (aQ (Ak _ _ _ _) (show 1<=ay by decide));exact ai ⟨.ref s.z,_,a.dic e2 U z,rfl,q2 ep'⟩
end
def mkD1(I d:A0):M A0:=(u5 I).bind λk=>.ok (.dic [(k,d)])
theorem de_disp1{W:qE}{f:bX}(q:X.A.units+64<b_)(S:DE K W ae X e fa)(m:DE K W ae X f fb)(n: ~~~(X.K=K)):DE K W ag X (.Dict [aa e] [f] pos) (f2 mkD1 fa fb):=by
 subst n;exact(II ac S m).imp λ_ H _=>by
   intro h;obtain⟨F,ρ,r,s,p⟩:=h;intro a S;have U:A2 F H F (upd H a (ur a [] 0)):=A2.grow s S;refine eu r U.fh (λe Y=>(p.step U).err (by unfold f2;rw[Y];rfl)) λi j x F1 H1 s1 q1=>?_;refine eu (r.mono s1.ff) s1.fh (λe Y=>(p.step (U.trans s1)).err (by unfold f2;rw[j];rw[Y];rfl)) λd l v g H2 s2 q2=>?_;have e:f2 mkD1 fa fb ρ=(u5 i).bind λk=>.ok (.dic [(k,d)]):=by unfold f2;rw[j];rw[l];rfl
   rw[e]at p;cases I:u5 i with
   |error e=>rw[I]at p;have:=rF I;subst this;exact eQ.stuck p|ok k=>
    rw[I]at p;obtain⟨b,rfl,t⟩:=tH I q1;have f2:g a=af:=by
     cases e2:g a with
     |none=>rfl|some o=>
      rcases s2.nw a o e2 with z|z
      .rcases s1.nw a o z with z|z
       .rw[s.free S]at z;cases z
       .rw[dy]at z;cases z
      .rw[s1.hh _ _ dy]at z;cases z
    refine⟨b,k,v,rfl,(s2.hh _ _ (s1.hh _ _ dy)),s2.fh.tup (s2.ff.tup t),λep=>p _ g _ ⟨s1.ff.trans s2.ff,λc o z=>?_,λc o z=>?_,λc o z=>?_⟩ ⟨a,_,rfl,⟨ep,dy⟩,f2,S,b,v,[],rfl,s2.ff.tup t,q2,rfl⟩⟩
    .rw[dV (eP z S)];exact s2.hh _ _ (s1.hh _ _ (by rw[dV (eP z S)];exact z))
    .rw[dV (eP z f2)];exact s2.fh _ _ z
    .exact(U.trans (s1.trans s2)).nw c o z
def B3(h:bF)(d:av)(es:Array cF)(ep:Nat):Prop:=∃o,h.get? d=aa o/\o.ExactDict/\o.data=.dict es ep
def B3.ty{s:ao}{d:av}(z:B3 s.heap d es ep):s.TypeIs (.ref d) "dict":=let ⟨o,h,c,_⟩:=z;⟨o,h,c.1⟩
def B3.at{d:av}(z:B3 h d es ep)(e:∀o,h.get? d=aa o->h'.get? d=aa o):B3 h' d es ep:=let ⟨o,h,c⟩:=z;⟨o,e o h,c⟩
section
variable{s:ao}{d v q:av}
def Kh(d:av)(es:Array cF)(ep:Nat)(I:(d==bT)=ae):MeetsIn prog w (Builtin.«dict.values» ⟨[.ref d],[]⟩) (λ_ R s=>B3 s.heap d es ep/\R (.ok (.ret (.ref s.heap.objs.size))) {s with heap:=s.heap.push {cls:=.type "dict_values",data:=.fields #[.ref d]}}):=
 .of_wp λA R s ⟨z,h⟩=>by
  have sh:cH d=cO ():=by unfold cH;rw[I];rfl
  refine ab ?_;refine ab (gY z.ty ?_);refine ai ?_;rw[sh];exact ab (ai (ab (bw (ai ⟨_,rfl,h⟩))))
def C3(d:av)(es:Array cF)(ep:Nat)(I:(d==bT)=ae):MeetsIn prog w (Builtin.«dict.items» ⟨[.ref d],[]⟩) (λ_ R s=>B3 s.heap d es ep/\R (.ok (.ret (.ref s.heap.objs.size))) {s with heap:=s.heap.push {cls:=.type "dict_items",data:=.fields #[.ref d]}}):=
 .of_wp λA R s ⟨z,h⟩=>by
  have sh:cH d=cO ():=by unfold cH;rw[I];rfl
  refine ab ?_;refine ab (gY z.ty ?_);refine ai ?_;rw[sh];exact ab (ai (ab (bw (ai ⟨_,rfl,h⟩))))
theorem Kp(I:s.heap.IsValuesView v d)(z:B3 s.heap d es ep)(k:Q (.ref s.heap.objs.size) {s with heap:=s.heap.push {cls:=.type "dict_valueiterator",data:=.fields #[.ref d,.int 0 0,.int es.size 0,.int ep 0]}}):aP (aI prog w) A (n6 (.ref v)) Q E s:=by obtain⟨ov,a,b,Y⟩:=id I;obtain⟨od,U,c,S⟩:=z;refine lA I.typeIs ku (bh ku I.typeIs PySem.F.entry_dict_values_iter ?_ (PySem.F.args_dict_values_iter_1 _));refine ab (ai (ab ?_));refine ab (cJ a Y rfl (ai (ab ?_)));refine ab (bP U S (ab (di U S ?_)));simp only[show jh "dict_valueiterator"=ae by decide,iu,ng];exact bw (ai ⟨_,rfl,"dict_valueiterator",_,⟨_,aw _ rfl,rfl⟩,cK.lookup,by simp_all[iw]⟩)
theorem C9(I:s.heap.IsItemsView v d)(z:B3 s.heap d es ep)(k:Q (.ref s.heap.objs.size) {s with heap:=s.heap.push {cls:=.type "dict_itemiterator",data:=.fields #[.none,.bool ae,.ref d,.int 0 0,.int es.size 0,.int ep 0,.none,.none]}}):aP (aI prog w) A (n6 (.ref v)) Q E s:=by obtain⟨ov,a,b,Y⟩:=id I;obtain⟨od,U,c,S⟩:=z;refine lA I.typeIs kE (bh kE I.typeIs PySem.F.entry_dict_items_iter ?_ (PySem.F.args_dict_items_iter_1 _));refine ab (ai (ab ?_));refine ab (cJ a Y rfl (ai (ab ?_)));refine ab (bP U S (ab (di U S ?_)));simp only[show jh "dict_itemiterator"=ag by decide];refine bw (ai ⟨_,rfl,"dict_itemiterator",_,⟨_,aw _ rfl,rfl⟩,cQ.lookup,by simp_all[iw,iA]⟩) ?_;simp[sizeOk,iA,]
theorem Kg{e:cF}{Q:Option aj->ao->Prop}(I:s.heap.IsValIter q d i es.size ep)(z:B3 s.heap d es ep)(c:es[i]?=aa e)(k:∀h',h'.IsValIter q d (i+1) es.size ep->dG q s.heap h'->Q (aa e.val) {s with heap:=h'}):aP (aI prog w) A (jI (.ref q)) Q E s:=by
 obtain⟨f,q1,q2,S⟩:=id I;obtain⟨od,b,g,a⟩:=z;refine ab (eV (bK I.typeIs cK (bh cK I.typeIs jq ?_ (jn _))));refine ab (ai (ab (ab (ab (fH I.typeIs (ai ?_))))));refine ab (gS q1 S ?_);show aP _ _ (if (aT d==cA)=ag then _ else _) _ _ s;refine ab (ai (ab (bP b a ?_)));rw[aA ad];refine ab (ai (ab (di b a ?_)));rw[aA ad];refine ai ?_;simp[cS,c];refine ab (ab (fH I.typeIs (ai (ab (jV I.typeIs ?_)))));show aP _ _ (ju _ 1 _ >>= _) _ _ s;refine ab (gm q1 S ad ?_);have Y:(s.heap.update q (pV (·.setIfInBounds 1 (iw (i+1))))).IsValIter q d (i+1) es.size ep:=⟨_,fO _ q1 (jw (fw S _)),(kD ..).trans q2,by simp_all[fw,iw]⟩
 have U:lR {s with heap:=s.heap.update q _} _ "dict_valueiterator":=Y.typeIs;refine ab (c6 (ab (jV U (ab (jV U ?_)))));exact ai (ai ⟨_,rfl,ai (k _ Y (c9 ..))⟩)
def N4{Q:Option aj->ao->Prop}(a:A.handled=af)(I:s.heap.IsValIter q d i es.size ep)(z:B3 s.heap d es ep)(b:es.size<=i)(k:∀h',cC q s.heap h'->Q af {s with heap:=h'}):aP (aI prog w) A (jI (.ref q)) Q E s:=by
 obtain⟨c,q1,q2,S⟩:=id I;obtain⟨od,Y,e,U⟩:=z;refine ab (eV (bK I.typeIs cK (bh cK I.typeIs jq ?_ (jn _))));refine ab (ai (ab (ab (ab (fH I.typeIs (ai ?_))))));refine ab (gS q1 S ?_);show aP _ _ (if (aT d==cA)=ag then _ else _) _ _ s;refine ab (ai (ab (bP Y U ?_)));rw[aA ad];refine ab (ai (ab (di Y U ?_)));rw[aA ad];refine ai ?_;simp[cS,dT b];refine ab (ab (fH I.typeIs (ai ?_)));show aP _ _ (ju _ 0 .none >>= _) _ _ s;refine ab (gm q1 S ad ?_);refine ab ?_;refine ab (bw (ab (mn (by rfl) (bw ?_ (by size_fits)))) (by size_fits));refine ab (kN ?_);first|rw[a]
 refine ab (ai (mm ?_));refine ab (d9 ⟨_,aw _ rfl,rfl⟩ kg ?_);exact ai (k _ (((c9 ..).extBut.push _).push _))
theorem C0{e:cF}{ok:aj}{Q:Option aj->ao->Prop}(c:jK s.heap q d i es.size ep ok ov)(z:B3 s.heap d es ep)(O:es[i]?=aa e)(k:∀h',IsItemIterOut h' q d (i+1) es.size ep e.key e.val s.heap.objs.size->h'.get? s.heap.objs.size=aa {cls:=.type "tuple",data:=.seq #[e.key,e.val]}->h'.objs.size=s.heap.objs.size+1->(∀b o,b≠q->s.heap.get? b=aa o->h'.get? b=aa o)->Q (aa (.ref s.heap.objs.size)) {s with heap:=h'}):aP (aI prog w) A (jI (.ref q)) Q E s:=by
 obtain⟨S,g,C,y,B⟩:=s;obtain⟨od,F,W,D⟩:=z;have ty:lR ⟨S,g,C,y,B⟩ (.ref q) "dict_itemiterator":=⟨_,c,rfl⟩
 refine ab (eV (bK (name:=Str.ofString "__next__") ty cQ (bh cQ ty jx ?_ (jr _))));refine ab (ai (ab (ab (ab (fg ty (ai ?_))))));refine ab (gS c rfl ?_);show aP _ _ (if (aT d==cA)=ag then _ else _) _ _ _;refine ab (ai (ab (bP F D ?_)));rw[aA ad];refine ab (ai (ab (di F D ?_)));rw[aA ad];refine ai ?_;simp only[show ¬((i:Int)<0)from by lia,ng,cS,O];refine ab (ab (fg ty (ai (ab (jF ty ?_)))));show aP _ _ (ju (.ref q) 3 (iw ((i:Int)+1)) >>= _) _ _ _;refine ab (eC c ad λt J H=>?_);have U:lR ⟨t,g,C,y,B⟩ (.ref q) "dict_itemiterator":=⟨_,J,rfl⟩
 refine ab (c6 (ab (jF U (ab (jF U ?_)))));refine ab (mP ?_);have N:q<S.objs.size:=aE c;have n:t.objs.size=S.objs.size:=H.1;obtain⟨g2,Y⟩:∃g2,g2=t.push {cls:=.type "tuple",data:=.seq #[e.key,e.val]}:=⟨_,rfl⟩
 have m:jK g2 q d (i+1) es.size ep ok ov:=by rw[Y];exact ah _ J
 have L:g2.get? S.objs.size=aa {cls:=.type "tuple",data:=.seq #[e.key,e.val]}:=by rw[Y,<-n];exact aw _ rfl
 have K:g2.objs.size=S.objs.size+1:=by rw[Y,cB,n]
 have k2:∀b o,b≠q->S.get? b=aa o->g2.get? b=aa o:=λb o I e=>by rw[Y];exact ah _ (H.extBut b o I e)
 rw[n];rw[<-Y];refine ab ?_;refine ab (cJ m rfl (x:=.none) rfl (ai ?_));refine ab (cJ m rfl (x:=ok) rfl (ab (cJ m rfl (x:=ov) rfl (ab (eC m ad λP T G=>?_)))));refine ab (eC T ad λr v l=>?_);have l:dG q P r:=l;have v:jK r q d (i+1) es.size ep e.key e.val:=v;refine ab (eC v ad λp u j=>?_);have j:dG q r p:=j;have u:IsItemIterOut p q d (i+1) es.size ep e.key e.val S.objs.size:=u;refine ab (eC u ad λf R h=>?_);have h:dG q p f:=h;have a:∀b o,b≠q->g2.get? b=aa o->f.get? b=aa o:=λb o I e=>h.extBut b o I (j.extBut b o I (l.extBut b o I (G.extBut b o I e)));exact ab (kc (ai (ai ⟨_,rfl,ai (k f R (a _ _ (cW N) L) (by show f.objs.size=_;rw[h.1,j.1,l.1,G.1,K]) λb o I e=>a b o I (k2 b o I e))⟩)))
def FV{ok:aj}{Q:Option aj->ao->Prop}(Y:A.handled=af)(I:jK s.heap q d i es.size ep ok ov)(z:B3 s.heap d es ep)(a:es.size<=i)(k:∀h',cC q s.heap h'->Q af {s with heap:=h'}):aP (aI prog w) A (jI (.ref q)) Q E s:=by
 obtain⟨od,U,b,S⟩:=z;have ty:s.TypeIs (.ref q) "dict_itemiterator":=⟨_,I,rfl⟩
 refine ab (eV (bK ty cQ (bh cQ ty jx ?_ (jr _))));refine ab (ai (ab (ab (ab (fg ty (ai ?_))))));refine ab (gS I rfl ?_);show aP _ _ (if (aT d==cA)=ag then _ else _) _ _ s;refine ab (ai (ab (bP U S ?_)));rw[aA ad];refine ab (ai (ab (di U S ?_)));rw[aA ad];refine ai ?_;simp[cS,dT a];refine ab (ab (fg ty (ai ?_)));show aP _ _ (ju _ 2 .none >>= _) _ _ s;refine ab (gm I rfl ad ?_);refine ab ?_;refine ab (bw (ab (mn (by rfl) (bw ?_ (by size_fits)))) (by size_fits));refine ab (kN ?_);first|rw[Y]
 refine ab (ai (mm ?_));refine ab (d9 ⟨_,aw _ rfl,rfl⟩ kg ?_);exact ai (k _ (((c9 ..).extBut.push _).push _))
end
def VwO(T:String)(p d:av):HO:=.ext λh=>∃o,h.get? p=aa o/\o.cls=.type T/\o.data=.fields #[.ref d]
def Lb{T:String}{p d:av}(z:∃o,h.get? p=aa o/\o.cls=.type T/\o.data=.fields #[.ref d]):uo H h p (VwO T p d):=⟨z,let ⟨o,e,_⟩:=z;⟨o,e⟩,λ_ _ ⟨o,e,r⟩ k=>⟨o,k o e,r⟩⟩
def tView(T:String)(td:TE):TE:=λσ H Q=>td σ H λx H1=>∃a xs ep,x=.ref a/\H1 a=aa (ur a xs ep)/\∀p,H1 p=af->Q (.ref p) (upd H1 p (VwO T p a))
def rSumV:bi->Hp->VK->Prop:=λvs H Q=>∃(p a:av) (xs:b0) (ep:Nat) (is:a8),vs=[.ref p]/\H p=aa (VwO "dict_values" p a)/\H a=aa (ur a xs ep)/\xs.map (·.2.2)=is.map V.int/\Q (.int is.sum) H
theorem D0:∀{xs:b0} {vs:List (a8×av×aj)} {i:Nat} {e:cF},cb vt xs vs->(vs.map rowE)[i]?=aa e->∃x,xs[i]?=aa x/\e.key=.ref x.2.1/\A5 x.2.2 e.val
 |_,_,_,_,.nil,h=>by simp at h|x::_,q::_,0,e,.cons r _,h=>by simp at h;subst h;exact⟨x,rfl,by rw[r.2.1];rfl,r.2.2⟩|_::_,_::_,i+1,e,.cons _ t,h=>by
  obtain⟨x,h1,I⟩:=D0 (i:=i) (e:=e) t a0
  simp_all
theorem pre_sum:∀is:a8,preSum (λi=>(is[i]?).getD 0) is.length=is.sum:=by
 have key:∀(is:a8) (n:Nat),n<=is.length->preSum (λi=>(is[i]?).getD 0) n=(is.take n).sum:=by
  intro is n
  induction n with
  |zero=>intro _;rfl|succ n I=>intro h;rw[preSum,I (kK h),pA,List.sum_append];simp[cv h]
 simp_all
theorem JO(U:A.handled=af)(q d:av)(I:d≠q)(es:Array cF)(ep:Nat):Walks prog w A q [q,d] [q] es.size (λi v=>∃e,es[i]?=aa e/\v=e.val) (λi h=>h.IsValIter q d i es.size ep/\B3 h d es ep) where
 sub:=λb Y=>by simp_all
 frame:=λ_ _ _ st k=>⟨let ⟨o,e,r⟩:=st.1;⟨o,k q ad o e,r⟩,st.2.at λo e=>k d ad o e⟩
 item:=λi s Q E hi st k=>Kg st.1 st.2 (e:=es[i]) ad λh' z b=>k _ h' s.toks ⟨_,ad,rfl⟩ ⟨z,st.2.at λo e=>(b.2 d I).trans e⟩ λc o S e=>b.extBut c o (λz=>S (by simp[z])) e
 done:=λs Q E st k=>N4 U st.1 st.2 (aq _) λh' b=>k h' s.toks λc o S e=>b c o (λz=>S (by simp[z])) e
 self:=λ_ _ _ _ st k=>wpAny_pyIter_valiter st.1 k
section
variable{s:ao}{xs:List JJ}{o:bX}
def xE(I:A3 X A1 σ H s)(e:H a=aa (ur a xs ep)):∃(vs:List (a8×av×aj)) (es:Array cF),cb vt xs vs/\(a==bT)=ae/\xs.length<=ay/\B3 s.heap a es ep/\es.toList=vs.map rowE/\es.size=xs.length:=by obtain⟨vs,r,Y,U,d,u,es,h1,c,b,S⟩:=FZ I e;exact⟨vs,es,r,Y,U,⟨u,h1,c,b⟩,S,by rw[<-bQ,S,az,dQ r]⟩
def pe_vals(d:PE X o td)(g: ~~~(cy o "values" X.env (a_ o X.env)=a_ o X.env))(e: ~~~((apos.endLine==cpos.line)=ag)):PE X (.Call (.Attribute o "values" apos) [] [] cpos) (tView "dict_values" td):=by
 intro A1 s σ H Q I h;refine gM g e (A7 (d A1 s σ H _ I h) λv s1 c=>?_);obtain⟨x,H1,S,b,a,xs,ep,ex,ea,q1⟩:=c;subst ex;cases(show v=aT a from b);obtain⟨U,Y⟩:=Js S ea;obtain⟨vs,es,_,f,_,z,_⟩:=xE S ea;exact⟨"dict","dict.values",eN,lM,PySem.F.type_dict_values,U,Y,dR rfl (gZ (lH lM U PySem.F.entry_dict_values (PySem.F.args_dict_values_1 _) (Kh a es ep f)
  ⟨z,.ref s1.z,_,S.laid (λ_ _ q=>ah _ q) (aq _) (Lb ⟨_,aw _ rfl,rfl,rfl⟩),rfl,q1 _ (S.hok.fresh (aq _))⟩))⟩
def pe_itms(d:PE X o td)(g: ~~~(cy o "items" X.env (a_ o X.env)=a_ o X.env))(e: ~~~((apos.endLine==cpos.line)=ag)):PE X (.Call (.Attribute o "items" apos) [] [] cpos) (tView "dict_items" td):=by
 intro A1 s σ H Q I h;refine gM g e (A7 (d A1 s σ H _ I h) λv s1 c=>?_);obtain⟨x,H1,S,b,a,xs,ep,ex,ea,q1⟩:=c;subst ex;cases(show v=aT a from b);obtain⟨U,Y⟩:=Js S ea;obtain⟨vs,es,_,f,_,z,_⟩:=xE S ea;exact⟨"dict","dict.items",eN,gn,lS,U,Y,dR rfl (gZ (lH gn U lN (ll _) (C3 a es ep f)
  ⟨z,.ref s1.z,_,S.laid (λ_ _ q=>ah _ q) (aq _) (Lb ⟨_,aw _ rfl,rfl,rfl⟩),rfl,q1 _ (S.hok.fresh (aq _))⟩))⟩
theorem Nt(y:X.calm=ag):sH X (.builtin "sum") rSumV:=by
 intro A1 s σ H vs us Q I r h;obtain⟨p,a,xs,ep,is,rfl,m,C,hi,q⟩:=h;obtain⟨u,rfl,d⟩:=r.one;cases(show u=aT p from d);obtain⟨vs,es,g,J,G,z,w,hsz⟩:=xE I C;have l:=let ⟨o,e,_⟩:=z;aE e;have n:is.length=es.size:=by rw[hsz,<-az (f:=λx:JJ=>x.2.2),hi,az]
 refine pU (Kp ((show(∃o,s.heap.get? p=aa o/\o.cls=.type "dict_values"/\o.data=.fields #[.ref a])/\_ from I.hok p _ m).1) z ⟨_,_,_,_,_,_,_,λi=>(is[i]?).getD 0,rfl,(JO (A:=X.A.in1) (I.ok.hd y) s.z a (bg l) es ep).toS,⟨⟨_,aw _ rfl,rfl,rfl⟩,z.at λo e=>ah _ e⟩,λb B=>?_,λi v D=>?_,λs' t' S=>?_⟩)
 .rw[cB]
  grind
 .obtain⟨e,h1,rfl⟩:=D;obtain⟨x,F,_,Y⟩:=D0 g (by rw[<-w];simpa using h1);have U:(xs.map (·.2.2))[i]?=aa x.2.2:=by rw[aV,F];rfl
  rw[hi,aV]at U;cases E:is[i]? with
  |none=>simp_all|some j=>
   rw[E]at U;have e4:=by simpa using U
   rw[<-e4]at Y;obtain⟨t,e⟩:=(show ∃t,e.val=i3 j t from Y)
   simp_all
 .obtain⟨h',g',K,c,k⟩:=s';have e1:=S.gens;have e2:=S.drawn;have e3:=S.os;subst e1 e2 e3;refine⟨.int _,H,I.kept λb o e=>S.heap b o (λB=>?_) (ah _ e),⟨t',rfl⟩,?_⟩
  .exact bu (aE e) a7
  .rw[<-n,pre_sum];exact q
end
def ItK(a:av)(xs:b0)(ep:Nat):It:=
 ⟨λi H=>H a=aa (ur a xs ep)/\i<xs.length,λi H v H'=>∃T x,H T=af/\v=.ref T/\xs[i]?=aa x/\H'=upd H T (.tup [.ref x.2.1,x.2.2]),λi H=>H a=aa (ur a xs ep)/\xs.length<=i⟩
theorem Lg(a q:av)(xs:b0)(ep:Nat):Turn P w K (.Tuple elts k pos) (ItK a xs ep) [q] q (λi h=>∃ok ov,jK h q a i xs.length ep ok ov) where
 mem:=by simp
 obj:=λi h st b d=>by grind
 keep:=λi h h' st p=>let ⟨ok,ov,e⟩:=st;⟨ok,ov,p q ad _ e⟩
 item:=by
  intro X C hw D n i A1 s σ H E I c st g;obtain⟨ok,ov,S⟩:=st;obtain⟨j,hi⟩:=g;obtain⟨vs,es,l,A,r,z,m,hsz⟩:=xE I j;rw[<-hsz]at S;have f0:=(c q ad).1;have f:i<es.size:=ac
  obtain⟨x,t,y,u⟩:=D0 (i:=i) (e:=es[i]) l (by rw[<-m];simp[f]);refine C0 S z (e:=es[i]) ad λh' out B v keep=>⟨_,rfl,mI out λF Y U=>?_⟩
  have G:A3 X A1 σ (upd H s.z (.tup [.ref x.2.1,x.2.2])) {s with heap:=F,toks:=s.toks}:=I.zv c (λb o d e=>(U.2 b a7).trans (keep b o a7 e)) (aq _) ⟨ad,[es[i].key,es[i].val],.cons y (.cons u .nil),⟨_,(U.2 _ (cW (aE S))).trans B,rfl,0,rfl⟩⟩;refine⟨.ref s.z,_,G,rfl,⟨_,x,I.hok.fresh (aq _),rfl,t,rfl⟩,⟨_,_,by rw[hsz]at Y;exact Y⟩,λb d=>?_⟩
  grind[dV]
 done:=by intro X C hw D n i A1 s σ H E I c st g;obtain⟨ok,ov,S⟩:=st;obtain⟨j,hi⟩:=g;obtain⟨vs,es,l,A,r,z,m,hsz⟩:=xE I j;rw[<-hsz]at S;obtain⟨f0,f1,f2,f3,f4,f5⟩:=c q ad;exact FV (I.ok.hd n) S z ac λh' eb=>⟨rfl,I.turned (λb o d e=>eb b o d e) f0 f1 f3 f4 f5⟩
 self:=λ_ _ _ _ _ ⟨ok,ov,e⟩ h=>nu e h
noncomputable def Ar:A0->M a9
 |.dic ks=>.ok (ks.map λp=>.tup [.tup (p.1.map .int),p.2])|_=>.error .stuck
def vK(fd:df->M A0):df->M a9:=λρ=>(fd ρ).bind Ar
def Lo:A0->M A0
 |.dic ks=>(o4 (ks.map (·.2))).bind λis=>.ok (.int is.sum)|_=>stk
theorem qm.vals{K:Fg}{F:Hp}:∀{ks:List (a8×A0)} {xs:b0},qm K F ks xs->ei K F (ks.map (·.2)) (xs.map (·.2.2))
 |[],_,h=>by rw[show _=[]from h];rfl|(k,d)::ks,_,⟨b,v,r,e,t,q,z⟩=>by subst e;exact⟨v,_,rfl,q,qm.vals z⟩
theorem qm.get{K:Fg}{F:Hp}:∀{ks:List (a8×A0)} {xs:b0} {i:Nat} {y:JJ},qm K F ks xs->xs[i]?=aa y->∃k d,ks[i]?=aa (k,d)/\SqT K F y.2.1 (k.map V.int)/\i1 K F d y.2.2
 |[],_,_,_,h,e=>by rw[show _=[]from h]at e;simp at e|(k,d)::ks,_,0,y,⟨b,v,r,e,t,q,z⟩,h=>by subst e;simp at h;subst h;exact⟨k,d,rfl,t,q⟩|(k,d)::ks,_,i+1,y,⟨b,v,r,e,t,q,z⟩,h=>by subst e;simp at h ⊢;exact qm.get z h
theorem MH{xs:b0}(U:F a=aa (ur a xs ep))(z:qm K F ks xs):yx K F (ItK a xs ep) (ks.map λp=>.tup [.tup (p.1.map .int),p.2]) where
 go:=λi F' H' s1 s2 hi=>⟨s2 _ _ (s1 _ _ U),by rw[z.length];simp_all⟩
 yl:=λi F' H' x H2 d s1 s2 S Y=>by
  obtain⟨T,y,c,ev,b,h⟩:=Y;subst ev h;obtain⟨k,j,h1,g,f⟩:=z.get b;rw[aV,h1]at S;have e:=by simpa using S.symm
  subst e;have I:A2 F' H' (upd F' T (.tup [.ref y.2.1,y.2.2])) _:=A2.lay s2 c;exact⟨_,I,T,_,rfl,SqT.of dy,.ref y.2.1,[y.2.2],rfl,⟨y.2.1,_,rfl,I.ff.tup (s1.tup g),sU k⟩,y.2.2,[],rfl,(f.mono s1).mono I.ff,rfl⟩
 st:=λF' H' s1 s2=>⟨s2 _ _ (s1 _ _ U),by simp[z.length]⟩
def iItms(td:TE):TI:=λσ H R=>tView "dict_items" td σ H λx H2=>∃p a xs ep,x=.ref p/\H2 p=aa (VwO "dict_items" p a)/\H2 a=aa (ur a xs ep)/\R (ItK a xs ep) H2
section
variable{W:qE}{fd:df->M A0}
theorem ri_itms{R:It->Hp->Prop}(h:iD K W (vK fd) σ H R):iItms (tD K W ae fd) σ H R:=by
 obtain⟨F,ρ,r,s,p⟩:=h;refine eu r s (λe b=>?_) λd Y x F1 H1 s1 q1=>?_
 .simp_all[vK]
 .have z:vK fd ρ=Ar d:=by unfold vK;rw[Y];rfl
  rw[z]at p;cases d with
  |dic ks=>obtain⟨a,xs,e,⟨ep,I⟩,U⟩:=q1;exact⟨a,xs,ep,e,s1.fh _ _ I,λv S=>⟨v,a,xs,ep,rfl,dy,by rw[dV (eP (s1.fh _ _ I) S)];exact s1.fh _ _ I,p _ F1 _ (s1.trans (A2.grow s1.fh S)) (MH I U)⟩⟩
  |_=>exact(W.ns p).elim
theorem rd_sumV{Q:VK}(h:tD K W ae (f1 Lo fd) σ H Q):tCB rSumV (zF (tView "dict_values" (tD K W ae fd)) Ii) σ H Q:=by
 obtain⟨F,ρ,r,s,p⟩:=h;refine eu r s (λe b=>p.err (by simp_all[f1])) λd Y x F1 H1 s1 q1=>?_;have z:f1 Lo fd ρ=Lo d:=by unfold f1;rw[Y];rfl
 rw[z]at p;cases d with
 |dic ks=>
  obtain⟨a,xs,e,⟨ep,I⟩,U⟩:=q1;have p:eQ K W ae F H ((o4 _).bind λis=>.ok _) Q:=p;cases hi:o4 _ with
  |error e=>rw[hi]at p;have:=tm hi;subst this;exact eQ.stuck p|ok is=>rw[hi]at p;exact⟨a,xs,ep,e,s1.fh _ _ I,λv S=>⟨v,a,xs,ep,is,rfl,dy,by rw[dV (eP (s1.fh _ _ I) S)];exact s1.fh _ _ I,ry U.vals hi,p _ F1 _ (s1.trans (A2.grow s1.fh S)) rfl⟩⟩
 |_=>exact eQ.stuck p
end
section
variable{W:qE}{o:bX}{fd:df->M A0}{p:lj}
def di_items(f:DE K W ae X o fd)(Y: ~~~(cy o "items" X.env (a_ o X.env)=a_ o X.env))(d: ~~~((apos.endLine==cpos.line)=ag)):DI K W X (.Tuple elts k q) (.Call (.Attribute o "items" apos) [] [] cpos) (vK fd):=by
 refine PI.imp ?_ λ_ _ _=>ri_itms;intro A1 s σ H R I h;refine A7 (pe_itms f Y d A1 s σ H _ I h) λv s1 U=>?_;obtain⟨y,H1,S,c,p,a,xs,ep,ex,U,g,q1⟩:=U;subst ex;cases(show v=aT p from c);obtain⟨vs,es,i,m,j,z,l,hsz⟩:=xE S g;refine C9 ((show(∃o,s1.heap.get? p=aa o/\o.cls=.type "dict_items"/\o.data=.fields #[.ref a])/\_ from S.hok p _ U).1) z ⟨s1.z,[s1.z],_,_,H1,rfl,S.kept λb o e=>ah _ e,Lg a _ xs ep,⟨_,_,by rw[<-hsz];exact aw _ rfl⟩,λb Y=>?_,q1⟩;have e:=by simpa using Y
 subst e;exact S.MX (aq _) (S.hok.fresh (aq _))
def de_sumV(c:X.calm=ag)(Y:X.mg "sum"=af)(a:DE K W ae X o fd)(d: ~~~(cy o "values" X.env (a_ o X.env)=a_ o X.env))(U: ~~~((apos.endLine==cpos.line)=ag))(b: ~~~(Gl X "sum"))(I: ~~~(au [.Call (.Attribute o "values" apos) [] [] cpos] X.env=(ae,a_ (.Call (.Attribute o "values" apos) [] [] cpos) X.env)::au [] X.env))(S: ~~~((cu pos (au [] X.env)).any (·.1)=ae)):
  DE K W ae X (.Call (.Name "sum" p) [.Call (.Attribute o "values" apos) [] [] cpos] [] pos) (f1 Lo fd):=
 (xG (Nt c) b Y boot_sum (nD (pe_vals a d U) rL I) am am I S).imp λ_ _ _=>rd_sumV
end
section
variable{fd:df->M A0}
@[simp]def e_getD:FN fd fk fx ρ=(fd ρ).bind λd=>if isDic d=ag then(fk ρ).bind λk=>(fx ρ).bind λx=>getDD d k x else stk:=id rfl
@[simp]def e_getDD(ks:List (a8×A0))(I x:A0):getDD (.dic ks) I x=(u5 I).bind λk=>.ok ((tT ks k).getD x):=id rfl
@[simp]def e_itemsK:vK fd ρ=(fd ρ).bind Ar:=id rfl
@[simp]def FW(ks:List (a8×A0)):Ar (.dic ks)=.ok (ks.map λp=>.tup [.tup (p.1.map .int),p.2]):=id rfl
end
section
open PySem
variable{κ:Type}[fG κ]
end
section
open PySem
variable{κ:Type}[fG κ]
end
section
variable{s:ao}{d q:av}
theorem C8(U:(d==bT)=ae)(z:B3 s.heap d es ep)(k:Q (.ref s.heap.objs.size) {s with heap:=s.heap.push {cls:=.type "dict_keyiterator",data:=.fields #[.ref d,.int 0 0,.int es.size 0,.int ep 0]}}):aP (aI prog w) A (n6 (.ref d)) Q E s:=by
 have ty:=z.ty;have sh:cH d=cO ():=by unfold cH;rw[U];rfl
 obtain⟨od,S,Y,I⟩:=z;refine lA ty mi (bh mi ty PySem.F.entry_dict_iter ?_ (PySem.F.args_dict_iter_1 _));refine ab ?_;refine ab (gY ty ?_);refine ai ?_;show aP _ _ (cH d >>= _) _ _ s;rw[sh];refine ab (ai (ab (bP S I (ab (di S I ?_)))));exact ab (bw (ai ⟨_,rfl,"dict_keyiterator",_,⟨_,aw _ rfl,rfl⟩,cT.lookup,by simp_all[iw]⟩))
theorem BZ{e:cF}{Q:Option aj->ao->Prop}(I:s.heap.IsKeyIter q d i es.size ep)(z:B3 s.heap d es ep)(b:es[i]?=aa e)(k:∀h',h'.IsKeyIter q d (i+1) es.size ep->dG q s.heap h'->Q (aa e.key) {s with heap:=h'}):aP (aI prog w) A (jI (.ref q)) Q E s:=by
 obtain⟨c,q1,q2,S⟩:=id I;obtain⟨od,a,f,Y⟩:=z;refine ab (eV (bK I.typeIs cT (bh cT I.typeIs jB ?_ (jy _))));refine ab (ai (ab (ab (ab (fJ I.typeIs (ai ?_))))));refine ab (gS q1 S ?_);show aP _ _ (if (aT d==cA)=ag then _ else _) _ _ s;refine ab (ai (ab (bP a Y ?_)));rw[aA ad];refine ab (ai (ab (di a Y ?_)));rw[aA ad];refine ai ?_;simp[cS,b];refine ab (ab (fJ I.typeIs (ai (ab (ot I.typeIs ?_)))));show aP _ _ (ju _ 1 _ >>= _) _ _ s;refine ab (gm q1 S ad ?_);have U:(s.heap.update q (pV (·.setIfInBounds 1 (iw (i+1))))).IsKeyIter q d (i+1) es.size ep:=⟨_,fO _ q1 (jw (fw S _)),(kD ..).trans q2,by simp_all[fw,iw]⟩
 refine ab (c6 (ab (ot U.typeIs ?_)));exact ai (ai ⟨_,rfl,ai (k _ U (c9 ..))⟩)
def FU{Q:Option aj->ao->Prop}(a:A.handled=af)(I:s.heap.IsKeyIter q d i es.size ep)(z:B3 s.heap d es ep)(b:es.size<=i)(k:∀h',cC q s.heap h'->Q af {s with heap:=h'}):aP (aI prog w) A (jI (.ref q)) Q E s:=by
 obtain⟨c,q1,q2,S⟩:=id I;obtain⟨od,Y,e,U⟩:=z;refine ab (eV (bK I.typeIs cT (bh cT I.typeIs jB ?_ (jy _))));refine ab (ai (ab (ab (ab (fJ I.typeIs (ai ?_))))));refine ab (gS q1 S ?_);show aP _ _ (if (aT d==cA)=ag then _ else _) _ _ s;refine ab (ai (ab (bP Y U ?_)));rw[aA ad];refine ab (ai (ab (di Y U ?_)));rw[aA ad];refine ai ?_;simp[cS,dT b];refine ab (ab (fJ I.typeIs (ai ?_)));show aP _ _ (ju _ 0 .none >>= _) _ _ s;refine ab (gm q1 S ad ?_);refine ab ?_;refine ab (bw (ab (mn (by rfl) (bw ?_ (by size_fits)))) (by size_fits));refine ab (kN ?_);first|rw[a]
 refine ab (ai (mm ?_));refine ab (d9 ⟨_,aw _ rfl,rfl⟩ kg ?_);exact ai (k _ (((c9 ..).extBut.push _).push _))
end
def ItKK(a:av)(xs:b0)(ep:Nat):It:=
 ⟨λi H=>H a=aa (ur a xs ep)/\i<xs.length,λi H v H'=>∃x,v=.ref x.2.1/\xs[i]?=aa x/\H'=H,λi H=>H a=aa (ur a xs ep)/\xs.length<=i⟩
theorem Lf(a q:av)(xs:b0)(ep:Nat):Turn P w K tg (ItKK a xs ep) [q] q (λi h=>h.IsKeyIter q a i xs.length ep) where
 mem:=by simp
 obj:=λi h st b S=>by
  obtain⟨o,e,c,d⟩:=st
  simp_all
 keep:=λi h h' st n=>let ⟨o,e,r⟩:=st;⟨o,n q ad _ e,r⟩
 item:=by
  intro X y hw A m i A1 s σ H E I U st g;obtain⟨j,hi⟩:=g;obtain⟨vs,es,k,v,p,z,l,hsz⟩:=xE I j;rw[<-hsz]at st;obtain⟨f0,f1,f2,f3,f4,f5⟩:=U q ad;have f:i<es.size:=ac
  obtain⟨x,t,u,B⟩:=D0 (i:=i) (e:=es[i]) k (by rw[<-l];simp[f]);refine BZ st z (e:=es[i]) ad λh' Y sb=>?_;obtain⟨o,e,c,d⟩:=id Y;exact⟨_,rfl,go_of e c d am ⟨.ref x.2.1,H,(I.turned (t':=s.toks) (λb o S e=>(sb.2 b S).trans e) f0 f1 f3 f4 f5),u,⟨x,rfl,t,rfl⟩,a7,λb S=>(U b S).1⟩⟩
 done:=by intro X y hw A m i A1 s σ H E I U st g;obtain⟨j,hi⟩:=g;obtain⟨vs,es,k,v,p,z,l,hsz⟩:=xE I j;rw[<-hsz]at st;obtain⟨f0,f1,f2,f3,f4,f5⟩:=U q ad;exact FU (I.ok.hd m) st z ac λh' eb=>⟨rfl,I.turned (λb o S e=>eb b o S e) f0 f1 f3 f4 f5⟩
 self:=λ_ _ _ _ _ st h=>oE st h
noncomputable def C6:A0->M a9
 |.dic ks=>.ok (ks.map λp=>.tup (p.1.map .int))|_=>.error .stuck
def xj(fd:df->M A0):df->M a9:=λρ=>(fd ρ).bind C6
@[simp]def e_keysK{fd:df->M A0}{ρ:df}:xj fd ρ=(fd ρ).bind C6:=id rfl
@[simp]def zm(ks:List (a8×A0)):C6 (.dic ks)=.ok (ks.map λp=>.tup (p.1.map .int)):=id rfl
theorem MG{xs:b0}(S:F a=aa (ur a xs ep))(z:qm K F ks xs):yx K F (ItKK a xs ep) (ks.map λp=>.tup (p.1.map .int)) where
 go:=λi F' H' s1 s2 hi=>⟨s2 _ _ (s1 _ _ S),by rw[z.length];simp_all⟩
 yl:=λi F' H' x H2 d s1 s2 I U=>by
  obtain⟨y,ev,Y,c⟩:=U;subst ev c;obtain⟨k,g,h1,b,f⟩:=z.get Y;rw[aV,h1]at I;have e:=by simpa using I.symm
  subst e;exact⟨F',A2.refl s2,y.2.1,_,rfl,s1.tup b,sU k⟩
 st:=λF' H' s1 s2=>⟨s2 _ _ (s1 _ _ S),by simp[z.length]⟩
def iKeys(td:TE):TI:=λσ H R=>td σ H λx H2=>∃a xs ep,x=.ref a/\H2 a=aa (ur a xs ep)/\R (ItKK a xs ep) H2
theorem ri_keys{W:qE}{fd:df->M A0}{R:It->Hp->Prop}(h:iD K W (xj fd) σ H R):iKeys (tD K W ae fd) σ H R:=by
 obtain⟨F,ρ,r,s,p⟩:=h;refine eu r s (λe Y=>?_) λd U x F1 H1 s1 q1=>?_
 .simp_all[xj]
 .have z:xj fd ρ=C6 d:=by unfold xj;rw[U];rfl
  rw[z]at p;cases d with
  |dic ks=>obtain⟨a,xs,e,⟨ep,I⟩,S⟩:=q1;exact⟨a,xs,ep,e,s1.fh _ _ I,p _ F1 _ s1 (MG I S)⟩
  |_=>exact(W.ns p).elim
theorem Jv{W:qE}{o:bX}{fd:df->M A0}(c:DE K W ae X o fd):DI K W X tg o (xj fd):=by
 refine PI.imp ?_ λ_ _ _=>ri_keys;intro A1 s σ H R I h;refine A7 (c A1 s σ H _ I h) λv s1 Y=>?_;obtain⟨y,H1,S,U,a,xs,ep,ex,g,q1⟩:=Y;subst ex;cases(show v=aT a from U);obtain⟨vs,es,i,d,j,z,k,hsz⟩:=xE S g;refine C8 d z ⟨s1.z,[s1.z],_,_,H1,rfl,S.kept λb o e=>ah _ e,Lf a _ xs ep,⟨_,aw _ rfl,rfl,a7⟩,λb f=>?_,q1⟩;have e:=by simpa using f
 subst e;exact S.MX (aq _) (S.hok.fresh (aq _))
section
open PySem.W hiding kindOf
noncomputable def wB:Bool->bU->Array bU->Nat->Nat->Nat->eK bo jo (Option Nat):=sortPriv% PySem.Builtin.gallop
noncomputable def zf:Array bU->Array bU->eK bo jo (Array bU):=sortPriv% PySem.Builtin.mergeLo
noncomputable def zg:Array bU->Array bU->eK bo jo (Array bU):=sortPriv% PySem.Builtin.mergeHi
structure Bd{β:Type}(m:eK bo jo β) where
 {α:Type}
 {x:eK bo jo α}
 {k:α->eK bo jo β}
 e:m=x >>= k
structure Ic{β:Type}(m:eK bo jo β) where
 {c:Prop}
 {d:oo c}
 {t:eK bo jo β}
 {f:eK bo jo β}
 e:m=@ite _ c d t f
structure Lp{β:Type}(m:eK bo jo β) where
 {α:Type}
 {a:Nat}
 {b:Nat}
 {c:α}
 {F:Nat->α->eK bo jo (i7 α)}
 {k:α->eK bo jo β}
 e:m=o7 [a:b] c F >>= k
variable{s:ao}{f:Nat->bU}{key:Nat->Int}
section
variable{M:oM}{m:eK bo jo β}{Q:β->bo->Prop}
def t8(B:Bd m)(h:g8 M A E s B.x (λa I=>g8 M A E s (B.k a) Q I) st):g8 M A E s m Q st:=by rw[B.e];exact dq h
theorem uv(B:Ic m)(h1:B.c->g8 M A E s B.t Q st)(I:¬B.c->g8 M A E s B.f Q st):g8 M A E s m Q st:=by
 rw[B.e]
 lia
def wp_l(B:Lp m)(I:Nat->B.α->bo->Prop){R:B.α->bo->Prop}(hi:I B.a B.c st)(Y:∀i c st,B.a<=i->i<B.b->I i c st->g8 M A E s (B.F i c) (λr S=>match r with|.done U=>R U S|.yield U=>I (i+1) U S) st)(b:∀c st,I (pL B.a B.b) c st->R c st)(a:∀c st,R c st->g8 M A E s (B.k c) Q st):g8 M A E s m Q st:=by rw[B.e];exact dq (oO (wpS_forRange I (λi c st h1 e d=>oO (Y i c st h1 e d) λr S h=>by cases r<;>exact h) b hi) a)
theorem GH(B:Lp m)(I:Nat->B.α->Prop){R:B.α->Prop}(hi:I B.a B.c)(b:∀i c,B.a<=i->i<B.b->I i c->∀W:i7 B.α->bo->Prop,(∀U,R U->W (.done U) st)->(∀U,I (i+1) U->W (.yield U) st)->g8 M A E s (B.F i c) W st)(a:∀c,I (pL B.a B.b) c->R c)(Y:∀c,R c->g8 M A E s (B.k c) Q st):g8 M A E s m Q st:=
 wp_l B (λi c S=>S=st/\I i c) (R:=λc S=>S=st/\R c) ⟨rfl,hi⟩ (λi c S h1 d ⟨e,h⟩=>by simp_all) (λc _ ⟨e,h⟩=>⟨e,a c h⟩) λc _ ⟨e,h⟩=>e▸Y c h
end
def Ee(prog:bL)(w:c8)(A:dD)(E:aj->ao->Prop)(s:ao)(κ:oS)(f:Nat->bU)(key:Nat->Int)(n:Nat):Prop:=
 ∀i j (Q:Option Bool->bo->Prop) st,i<n->j<n->iC st=κ->Q (aa (ltK key i j)) st->g8 (aI prog w) A E s (lt' (f i) (f j)) Q st
def InN(n:Nat)(p:be):Prop:=∀x∈p,x<n
def hY{l:be}{x:Nat}{Q:bU->bo->Prop}(I:l[i]?=aa x)(h:Q (f x) st):g8 (aI prog w) A E s (oR (l.map f).toArray i) Q st:=by
 rw[elem'_eq];have e:(l.map f).toArray[i]?=aa (f x):=by simp[I]
 rw[e];exact aJ h
def at_of(h:i<p.length):p[i]?=aa (p.getD i 0):=by simp[h]
def InN.at(I:InN n p)(h:i<p.length):p.getD i 0<n:=I _ (bS (at_of h))
section
variable(l:Bool)(q:bU)(r:Array bU)(b m h:Nat)
noncomputable def G0:Bd (wB l q r b m h):=⟨rfl⟩
noncomputable def GaT:Lp ((G0 l q r b m h).k (aa ag)):=⟨rfl⟩
noncomputable def GaF:Lp ((G0 l q r b m h).k (aa ae)):=⟨rfl⟩
noncomputable def GtI(x c):Ic ((GaT l q r b m h).F x c):=⟨rfl⟩
noncomputable def GtB(x c):Bd (GtI l q r b m h x c).f:=⟨rfl⟩
noncomputable def GfI(x c):Ic ((GaF l q r b m h).F x c):=⟨rfl⟩
noncomputable def GfB(x c):Bd (GfI l q r b m h x c).f:=⟨rfl⟩
noncomputable def GtL(a o:Nat):Lp ((GaT l q r b m h).k (af,a,o)):=⟨rfl⟩
noncomputable def GcI(a o x c):Ic ((GtL l q r b m h a o).F x c):=⟨rfl⟩
noncomputable def GcB(a o x c):Bd (GcI l q r b m h a o x c).f:=⟨rfl⟩
end
section
variable{m h x a o:Nat}
def MoB(bd:Nat->Bool)(m:Nat):Prop:=∀i j,i<=j->j<m->bd j=ag->bd i=ag
theorem MoB.fl(M:MoB bd m)(I:i<=j)(S:j<m)(e:bd i=ae):bd j=ae:=by
 have:=M i j I S
 grind
structure Bn(bd:Nat->Bool)(m x a o:Nat):Prop where
 l1:a<=o
 l2:o<=m
 l3:o-a+x<=m
 y1:∀i,i<a->bd i=ag
 y2:∀i,o<=i->i<m->bd i=ae
theorem Fl(e:¬a>=o):a<=a+(o-a)/2/\a+(o-a)/2<o:=ac
theorem Bn.up{c:Nat}(M:MoB bd m)(h:Bn bd m x a o)(h1:a<=c)(I:c<o)(S:bd c=ag):Bn bd m (x+1) (c+1) o:=
 ⟨I,h.l2,by have:=h.l3;lia,λi hi=>M i _ (kL hi) (aH I h.l2) S,h.y2⟩
theorem Bn.dn{c:Nat}(M:MoB bd m)(h:Bn bd m x a o)(h1:a<=c)(I:c<o)(S:bd c=ae):Bn bd m (x+1) a c:=
 ⟨h1,aQ (b7 I) h.l2,by have:=h.l3;lia,h.y1,λi h1 I=>M.fl h1 I S⟩
theorem Bn.ends(h:Bn bd m (pL 0 m) a o):o<=a:=by
 have:=h.l3
 lia
structure GUp(bd:Nat->Bool)(m h a o:Nat)(P:Prop):Prop where
 g1:bd (h+a)=ag
 g2:a<o
 g3:a<m-h
 g4:P
theorem GUp.bn(M:MoB bd m)(U:GUp bd m h a o (o<m-h->bd (h+o)=ae)):Bn bd m 0 (h+a+1) (h+min o (m-h)):=by
 obtain⟨t,e1,e2,e3⟩:=U;have:h+a<m:=ac
 refine⟨ac,ac,ac,λi hi=>M i _ (kL hi) this t,λi h1 I=>?_⟩
 have:o<m-h:=ac
 exact M.fl ac I (e3 this)
structure GDn(bd:Nat->Bool)(m h a o:Nat)(P:Prop):Prop where
 g1:bd (h-a)=ae
 g2:a<o
 g3:a<h+1
 g4:P
theorem GDn.bn(M:MoB bd m)(S:h<m)(U:GDn bd m h a o (o<h+1->bd (h-o)=ag)):Bn bd m 0 (h+1-min o (h+1)) (h-a):=by
 obtain⟨t,e1,e2,e3⟩:=U;refine⟨ac,ac,ac,λi hi=>?_,λi h1 I=>M.fl h1 I t⟩
 have:o<h+1:=ac
 exact M i _ ac ac (e3 this)
theorem Ia(h:x+1<=o):o<2*o+1/\x+1+1<=2*o+1:=ac
theorem in_ok(e:¬o>=m-h):h+o<m/\o<m-h:=ac
end
def L5(L:Ee prog w A E s κ f key n){I:Bool}{q:Nat}{base m:Nat}{Q:Option Nat->bo->Prop}(z:q<n)(C:InN n p)(F:base+m<=p.length)(l:hint<m)(D:iC st=κ)(v:∀i,bd i=if I=ag then ltK key (p.getD (base+i) 0) q else !ltK key q (p.getD (base+i) 0))(M:MoB bd m)(h:∀k,k<=m->(∀i,i<k->bd i=ag)->(∀i,k<=i->i<m->bd i=ae)->Q (aa k) st):
  g8 (aI prog w) A E s (wB I (f q) (p.map f).toArray base m hint) Q st:=by
 have S:∀(i:Nat) (R:Option Bool->bo->Prop),i<m->R (aa (bd i)) st->g8 (aI prog w) A E s (G0 I (f q) (p.map f).toArray base m i).x R st:=λi R hi j=>by
  have u:=aH (ij hi _) F;refine dq (hY (at_of u) ?_);rw[v]at j;cases I with
  |true=>exact L _ _ _ _ (C.at u) z D j|false=>exact dq (L _ _ _ _ z (C.at u) D (aJ j))
 have r:∀a o lo hi,Bn bd m 0 lo hi ->
   g8 _ A E s (o7 [0:m] (af,lo,hi) (GtL I (f q) (p.map f).toArray base m hint a o).F >>= (GtL I (f q) (p.map f).toArray base m hint a o).k) Q st:=λa o lo hi B=>
  GH ⟨rfl⟩ (λx c=>c.1=af/\Bn bd m x c.2.1 c.2.2) (R:=λc=>c.1=af/\Q (aa c.2.2) st) ⟨rfl,B⟩ (λx c _ y ⟨b,B⟩ W d g=>
    uv (GcI I (f q) (p.map f).toArray base m hint a o x c) (λe=>aJ (d _ ⟨rfl,h _ B.l2 (λi hi=>B.y1 i (aH hi e)) B.y2⟩)) λe=>t8 (GcB ..) (S _ _ (aH (Fl e).2 B.l2) (by
     cases Y:bd _ with
     |true=>exact aJ (g _ ⟨rfl,B.up M (Fl e).1 (Fl e).2 Y⟩)|false=>exact aJ (g _ ⟨rfl,B.dn M (Fl e).1 (Fl e).2 Y⟩)))) (λc ⟨b,B⟩=>⟨b,h _ B.l2 (λi hi=>B.y1 i (aH hi (Bn.ends B))) B.y2⟩) λ⟨_,lo,hi⟩ ⟨e,G⟩=>by
    cases e;exact aJ G
 refine t8 _ (S _ _ l ?_);cases j:bd hint with
 |true=>
  refine GH (GaT ..) (λx c=>c.1=af/\GUp bd m hint c.2.1 c.2.2 (x+1<=c.2.2)) (R:=λc=>c.1=af/\GUp bd m hint c.2.1 c.2.2 (c.2.2<m-hint->bd (hint+c.2.2)=ae)) ⟨rfl,j,nH,iU l,aq _⟩ (λx c _ y ⟨b,U⟩ W d g=>?_) (λc ⟨b,U⟩=>⟨b,U.g1,U.g2,U.g3,λe=>?_⟩) λ⟨_,t,o⟩ ⟨e,U⟩=>?_
  .refine uv (GtI ..) (λe=>aJ (d _ ⟨rfl,U.g1,U.g2,U.g3,λh=>bu e (oU h)⟩)) λe=>t8 (GtB ..) (S _ _ (in_ok e).1 ?_);cases Y:bd (hint+c.2.2)with
   |true=>exact aJ (g _ ⟨rfl,Y,(Ia U.g4).1,(in_ok e).2,(Ia U.g4).2⟩)|false=>exact aJ (d _ ⟨rfl,U.g1,U.g2,U.g3,λ_=>Y⟩)
  .exact bu e (lh (aQ (iG m hint) (aQ (oY 0 m) (kK U.g4))))
  .cases e;exact r t o _ _ (U.bn M)
 |false=>
  refine GH (GaF ..) (λx c=>c.1=af/\GDn bd m hint c.2.1 c.2.2 (x+1<=c.2.2)) (R:=λc=>c.1=af/\GDn bd m hint c.2.1 c.2.2 (c.2.2<hint+1->bd (hint-c.2.2)=ag)) ⟨rfl,j,nH,Nat.succ_pos _,aq _⟩ (λx c _ y ⟨b,U⟩ W d g=>?_) (λc ⟨b,U⟩=>⟨b,U.g1,U.g2,U.g3,λe=>?_⟩) λ⟨_,t,o⟩ ⟨e,U⟩=>?_
  .refine uv (GfI ..) (λe=>aJ (d _ ⟨rfl,U.g1,U.g2,U.g3,λh=>bu e (oU h)⟩)) λe=>t8 (GfB ..) (S _ _ (iH (iG ..) l) ?_);cases Y:bd (hint-c.2.2)with
   |false=>exact aJ (g _ ⟨rfl,Y,(Ia U.g4).1,oW e,(Ia U.g4).2⟩)|true=>exact aJ (d _ ⟨rfl,U.g1,U.g2,U.g3,λ_=>Y⟩)
  .exact bu (aH e l) (lh (aQ (oY 0 m) (kK U.g4)))
  .cases e;exact r t o _ _ (U.bn M l)
structure Bt{β:Type}(m:eK bo jo β) where
 {x:eK bo jo bU}
 {y:eK bo jo bU}
 {k:bU->bU->Option Bool->eK bo jo β}
 e:m=x >>=λu=>y >>=λv=>lt' u v >>=λr=>k u v r
noncomputable def qx0:bU:=(.none,.none)
noncomputable def qg0:bo:=ig oneType' #[] #[] 0 af
section
variable(a b:Array bU)
noncomputable def qL0:Bd (zf a b):=⟨rfl⟩
noncomputable def qL1:Bd ((qL0 a b).k ()):=⟨rfl⟩
noncomputable def qL2(x):Ic ((qL1 a b).k x):=⟨rfl⟩
noncomputable def qL3(x):Ic (qL2 a b x).f:=⟨rfl⟩
noncomputable def qL4(x):Bd (qL3 a b x).f:=⟨rfl⟩
noncomputable def qL5(x g):Lp ((qL4 a b x).k g):=⟨rfl⟩
section
variable(o:Array bU)(p q r:Nat)
noncomputable def qL6:Lp ((qL5 a b qx0 qg0).F 0 (af,o,p,q,r)):=⟨rfl⟩
end
variable(o:Array bU)(p q r s t:Nat)
noncomputable def qL7:Bt ((qL6 a b #[] 0 0 r).F 0 (af,o,p,q,s,t)):=⟨rfl⟩
noncomputable def qL8:Bd ((qL7 a b o p q r s t).k qx0 qx0 (aa ag)):=⟨rfl⟩
noncomputable def qL9:Bd ((qL7 a b o p q r s t).k qx0 qx0 (aa ae)):=⟨rfl⟩
noncomputable def qL8a(y):Ic ((qL8 a b o p q r s t).k y):=⟨rfl⟩
noncomputable def qL8b(y):Ic (qL8a a b o p q r s t y).f:=⟨rfl⟩
noncomputable def qL9a(y):Ic ((qL9 a b o p q r s t).k y):=⟨rfl⟩
noncomputable def qL9b(y):Ic (qL9a a b o p q r s t y).f:=⟨rfl⟩
noncomputable def qLa:Bd ((qL6 a b #[] 0 0 r).k (af,o,p,q,s,t)):=⟨rfl⟩
noncomputable def qLb:Lp ((qLa a b o p q r s t).k ()):=⟨rfl⟩
noncomputable def qLc:Ic ((qLb a b #[] 0 0 0 0 0).F 0 (af,o,p,q,r,s,t)):=⟨rfl⟩
noncomputable def qLd:Bd (qLc a b o p q r s t).f:=⟨rfl⟩
noncomputable def qLe:Bd ((qLd a b o p q r s t).k ()):=⟨rfl⟩
noncomputable def qLf(y):Bd ((qLe a b o p q r s t).k y):=⟨rfl⟩
noncomputable def qLg(k):Ic ((qLf a b o p q r s t qx0).k (aa k)):=⟨rfl⟩
noncomputable def qLg1(k):Ic (qLg a b o p q r s t k).t:=⟨rfl⟩
noncomputable def qLg2(k):Ic (qLg1 a b o p q r s t k).f:=⟨rfl⟩
noncomputable def qLh(k):Bd (qLg a b o p q r s t k).f:=⟨rfl⟩
noncomputable def qLi(k y):Ic ((qLh a b o p q r s t k).k y):=⟨rfl⟩
noncomputable def qLj(k y):Bd (qLi a b o p q r s t k y).f:=⟨rfl⟩
noncomputable def qLk(k y z):Bd ((qLj a b o p q r s t k y).k z):=⟨rfl⟩
noncomputable def qLl(k y l):Ic ((qLk a b o p q r s t k y qx0).k (aa l)):=⟨rfl⟩
noncomputable def qLm(k y l):Ic (qLl a b o p q r s t k y l).t:=⟨rfl⟩
def qLz(k l:Nat):eK bo jo (i7 (Option (Array bU)×Array bU×Nat×Nat×Nat×Nat×Nat)):=
 oR a p >>=λz=>if (p+1+1==a.size)=ag then cO (.done (aa (o.push z++b.extract q b.size++a.extract (p+1) a.size),o.push z,p+1,q,r,k,l))
  else if (aF (k<7)&&aF (l<7))=ag then cO (.done (af,o.push z,p+1,q,r,k,l))else cO (.yield (af,o.push z,p+1,q,r,k,l))
end
def Srt(key:Nat->Int)(l:be):Prop:=l.Pairwise λx y=>key x<=key y
def Srt.sub{l r:be}(h:Srt key l)(I:r.Sublist l):Srt key r:=qk I h
theorem Srt.hd{l:be}(h:Srt key (l.drop i))(hi:i<l.length):∀y∈l.drop i,key (l.getD i 0)<=key y:=λy I=>by
 rw[cM hi]at h I;simp[cD,hi,getElem?_pos];rcases aM.mp I with e|e
 .simp_all
 .exact(cZ.mp h).1 y e
structure MI(key:Nat->Int)(all out xs ys:be):Prop where
 perm:(out++(xs++ys)).Perm all
 so:Srt key out
 sx:Srt key xs
 sy:Srt key ys
 ox:∀x∈out,∀y∈xs,key x<=key y
 oy:∀x∈out,∀y∈ys,key x<=key y
theorem MI.left{U u xs:be}(h:MI key U out (u++xs) ys)(c:∀a∈u,∀y∈ys,key a<=key y):MI key U (out++u) xs ys:=by
 obtain⟨h1,g,Y,f,b,d⟩:=h;unfold Srt at *;rw[bG]at Y;refine⟨a7,?_,Y.2.1,f,λx S y I=>?_,λx S y I=>?_⟩
 .exact bG.mpr ⟨g,Y.1,λx S y I=>b x S y (cf _ I)⟩
 .rcases aZ.mp S with e|e
  .exact b x e y (bf _ I)
  .exact Y.2.2 x e y I
 .rcases aZ.mp S with e|e
  .exact d x e y I
  .exact c x e y I
def MI.right{U u xs:be}(h:MI key U out xs (u++ys))(c:∀a∈u,∀y∈xs,key a<=key y):MI key U (out++u) xs ys:=by
 obtain⟨h1,g,f,Y,d,b⟩:=h;unfold Srt at *;rw[bG]at Y;refine⟨?_,?_,f,Y.2.1,λx S y I=>?_,λx S y I=>?_⟩
 .refine List.Perm.trans ?_ h1;rw[bJ];refine List.Perm.append_left _ ?_;rw[<-bJ,<-bJ];exact List.Perm.append_right _ List.perm_append_comm
 .exact bG.mpr ⟨g,Y.1,λx S y I=>b x S y (cf _ I)⟩
 .rcases aZ.mp S with e|e
  .exact d x e y I
  .exact c x e y I
 .rcases aZ.mp S with e|e
  .exact b x e y (bf _ I)
  .exact Y.2.2 x e y I
theorem MI.done{I xs:be}(h:MI key I out xs ys)(Y:∀a∈xs,∀y∈ys,key a<=key y):(out++xs++ys).Perm I/\Srt key (out++xs++ys):=by have h1:=MI.left (by rw[b8];exact h) Y;have S:=MI.right (by rw[b8];exact h1) (λ_ _ _ U=>bu U cI);exact⟨by have:=S.perm;simp_all,S.so⟩
theorem MI.done2{I xs:be}(h:MI key I out xs ys)(Y:∀a∈ys,∀y∈xs,key a<=key y):(out++ys++xs).Perm I/\Srt key (out++ys++xs):=by have h1:=MI.right (by rw[b8];exact h) Y;have S:=MI.left (by rw[b8];exact h1) (λ_ _ _ U=>bu U cI);exact⟨by have:=S.perm;simp_all,S.so⟩
def n0(st I:bo):Prop:=∃g,I=ig (iC st) (kT st) (bj st) g (kj st)
def n0.refl(st:bo):n0 st st:=⟨gallopOf st,rfl⟩
def n0.trans{a b c:bo}(h:n0 a b)(k:n0 b c):n0 a c:=by obtain⟨g,rfl⟩:=h;obtain⟨g',rfl⟩:=k;exact⟨g',rfl⟩
def n0.kind{a b:bo}(h:n0 a b):iC b=iC a:=by obtain⟨g,rfl⟩:=h;rfl
noncomputable def CM:Nat->eK bo jo Unit:=sortPriv% PySem.Builtin.setMinGallop
def L9{g:Nat}{Q:Unit->bo->Prop}(h:∀I,n0 st I->Q () I):g8 (aI prog w) A E s (CM g) Q st:=gI (h _ ⟨_,rfl⟩)
def zr(o:be)(x:Nat):(o.map f).toArray.push (f x)=((o++[x]).map f).toArray:=by simp
def E8(p:be)(i:Nat):(p.map f).toArray.extract i (p.map f).toArray.size=((p.drop i).map f).toArray:=by simp[dz]
def E9(p:be)(i j:Nat):(p.map f).toArray.extract i j=(((p.drop i).take (j-i)).map f).toArray:=by simp
def wL(o p:be):(o.map f).toArray++(p.map f).toArray=((o++p).map f).toArray:=by simp
def GD(f:Nat->bU)(key:Nat->Int)(I:be)(r:Array bU):Prop:=∃o:be,r=(o.map f).toArray/\o.Perm I/\Srt key o
def JL(f:Nat->bU)(key:Nat->Int)(pa pb:be)(r:Array bU)(ia ib:Nat):Prop:=∃o:be,r=(o.map f).toArray/\MI key (pa++pb) o (pa.drop ia) (pb.drop ib)
section
variable{r:Array bU}
def JL.ak(h:JL f key pa pb r ia ib)(I:∀x∈(pa.drop ia).take k,∀y∈pb.drop ib,key x<=key y):JL f key pa pb (r++(pa.map f).toArray.extract ia (ia+k)) (ia+k) ib:=by
 obtain⟨o,rfl,m⟩:=h;refine⟨o++(pa.drop ia).take k,ad,MI.left ?_ I⟩
 rw[<-ir,cw];exact m
def JL.bk(h:JL f key pa pb r ia ib)(I:∀x∈(pb.drop ib).take k,∀y∈pa.drop ia,key x<=key y):JL f key pa pb (r++(pb.map f).toArray.extract ib (ib+k)) ia (ib+k):=by
 obtain⟨o,rfl,m⟩:=h;refine⟨o++(pb.drop ib).take k,ad,MI.right ?_ I⟩
 rw[<-ir,cw];exact m
theorem drop_at{l:be}(hi:i<l.length):l.drop i=l.getD i 0::l.drop (i+1):=by simp_all
theorem JL.a1(h:JL f key pa pb r ia ib)(hi:ia<pa.length)(S:∀y∈pb.drop ib,key (pa.getD ia 0)<=key y):JL f key pa pb (r.push (f (pa.getD ia 0))) (ia+1) ib:=by
 obtain⟨o,rfl,m⟩:=h;refine⟨o++[pa.getD ia 0],zr ..,MI.left a7 λx I=>?_⟩
 rw[cj.mp I];exact S
theorem JL.b1(h:JL f key pa pb r ia ib)(hi:ib<pb.length)(S:∀y∈pa.drop ia,key (pb.getD ib 0)<=key y):JL f key pa pb (r.push (f (pb.getD ib 0))) ia (ib+1):=by
 obtain⟨o,rfl,m⟩:=h;refine⟨o++[pb.getD ib 0],zr ..,MI.right a7 λx I=>?_⟩
 rw[cj.mp I];exact S
theorem JL.fin(h:JL f key pa pb r ia ib)(e:ia=pa.length\/ib=pb.length):GD f key (pa++pb) (r++(pa.map f).toArray.extract ia (pa.map f).toArray.size++(pb.map f).toArray.extract ib (pb.map f).toArray.size):=by
 obtain⟨o,rfl,m⟩:=h;rw[E8,E8,wL,wL];refine⟨_,rfl,MI.done m λx S y I=>?_⟩
 grind
theorem JL.last(h:JL f key pa pb r ia ib)(U:∀y∈pb,key y<=key (pa.getD (pa.length-1) 0))(e:ia+1=pa.length):GD f key (pa++pb) (r++(pb.map f).toArray.extract ib (pb.map f).toArray.size++(pa.map f).toArray.extract ia (pa.map f).toArray.size):=by
 obtain⟨o,rfl,m⟩:=h;rw[E8,E8,wL,wL];refine⟨_,rfl,MI.done2 m λx S y I=>?_⟩
 grind[drop_at,cj.mp]
theorem JL.sx(h:JL f key pa pb r ia ib):Srt key (pa.drop ia):=let ⟨_,_,m⟩:=h;m.sx
theorem JL.sy(h:JL f key pa pb r ia ib):Srt key (pb.drop ib):=let ⟨_,_,m⟩:=h;m.sy
structure CL(f:Nat->bU)(key:Nat->Int)(pa pb:be)(t:Nat)(r:Array bU)(ia ib:Nat):Prop where
 j:JL f key pa pb r ia ib
 a:ia+1<pa.length
 b:ib<pb.length
 t:t<=ia+ib
end
theorem HZ(L:Ee prog w A E s κ f key n){I:Bool}{q:Nat}{p:be}{base m:Nat}{Q:Option Nat->bo->Prop}(r:q<n)(t:InN n p)(B:base+m<=p.length)(y:hint<m)(v:iC st=κ)(g:Srt key ((p.drop base).take m))(h:∀k,k<=m->(∀x∈((p.drop base).take m).take k,(if I=ag then ltK key x q else !ltK key q x)=ag)->(∀x∈((p.drop base).take m).drop k,(if I=ag then ltK key x q else !ltK key q x)=ae)->Q (aa k) st):
  g8 (aI prog w) A E s (wB I (f q) (p.map f).toArray base m hint) Q st:=by
 have U:∀i,i<m->((p.drop base).take m)[i]?=aa (p.getD (base+i) 0):=λi hi=>by
  have:base+i<p.length:=ac
  simp[hi,this]
 have o:((p.drop base).take m).length<=m:=List.length_take_le ..;generalize (p.drop base).take m=z at g h U o;refine L5 L r t B y v (λ_=>rfl) (λi j S l e=>?_) λk b h1 C=>h k b (λx Y=>?_) (λx Y=>?_)
 .obtain⟨d,F⟩:=aD.mp (U i (iH S l));obtain⟨c,D⟩:=aD.mp (U j l);have u:key z[i]<=key z[j]:=by
   rcases Nat.lt_or_eq_of_le S with a|rfl
   .exact eB.mp g i j d c a
   .simp
  unfold ltK at e ⊢
  lia
 .obtain⟨i,hi,rfl⟩:=gk Y;rw[dc]at hi;rw[oi,(aD.mp (U i ac)).2];exact h1 i ac
 .obtain⟨i,hi,rfl⟩:=gk Y;rw[gd]at hi;rw[List.getElem_drop,(aD.mp (U _ ac)).2];exact C _ (d7 _ _) ac
theorem L7(L:Ee prog w A E s κ f key n){I:Bool}{q:Nat}{p:be}{base:Nat}{Q:Option Nat->bo->Prop}(S:q<n)(U:InN n p)(d:base<p.length)(a:iC st=κ)(c:Srt key (p.drop base))(h:∀k,base+k<=p.length->(∀x∈(p.drop base).take k,(if I=ag then ltK key x q else !ltK key q x)=ag)->(∀x∈p.drop (base+k),(if I=ag then ltK key x q else !ltK key q x)=ae)->Q (aa k) st):
  g8 (aI prog w) A E s (wB I (f q) (p.map f).toArray base ((p.map f).toArray.size-base) 0) Q st:=by
 have z:(p.map f).toArray.size=p.length:=by simp
 rw[z];have e:(p.drop base).take (p.length-base)=p.drop base:=dz ad;refine HZ L S U ac ac a a7 λk Y h1 b=>h k ac ?_ ?_
 .rwa [e]at h1
 .rwa [e,ir]at b
def wp_t{M:oM}{m:eK bo jo β}{Q:β->bo->Prop}(B:Bt m)(h:g8 M A E s B.x (λu st=>g8 M A E s B.y (λv st=>g8 M A E s (lt' u v) (λr st=>g8 M A E s (B.k u v r) Q st) st) st) st):g8 M A E s m Q st:=by rw[B.e];exact dq (oO h λ_ _ h=>dq (oO h λ_ _ h=>dq h))
theorem CI{p:be}(e:(i==(p.map f).toArray.size)=ag):i=p.length:=by simp_all
theorem yN{p:be}(e:¬(i==(p.map f).toArray.size)=ag):i≠p.length:=by simp_all
section
variable{r:Array bU}{t:Nat}
def CL.wb(h:CL f key pa pb t r ia ib)(hw:ltK key (pb.getD ib 0) (pa.getD ia 0)=ag):JL f key pa pb (r.push (f (pb.getD ib 0))) ia (ib+1):=
 h.j.b1 h.b λy I=>cY (dW (j8 hw)) (h.j.sx.hd (cR h.a) y I)
def CL.wa(h:CL f key pa pb t r ia ib)(hw:ltK key (pb.getD ib 0) (pa.getD ia 0)=ae):JL f key pa pb (r.push (f (pa.getD ia 0))) (ia+1) ib:=
 h.j.a1 (cR h.a) λy I=>cY (ko.mp (of_decide_eq_false hw)) (h.j.sy.hd h.b y I)
def CL.nb(h:CL f key pa pb t r ia ib)(j:JL f key pa pb r' ia (ib+1))(e:ib+1≠pb.length):CL f key pa pb (t+1) r' ia (ib+1):=⟨j,h.a,bC h.b e,dZ h.t⟩
theorem CL.na(h:CL f key pa pb t r ia ib)(j:JL f key pa pb r' (ia+1) ib)(e:ia+1+1≠pa.length):CL f key pa pb (t+1) r' (ia+1) ib:=⟨j,bC h.a e,h.b,by have:=h.t;lia⟩
def CL.le(h:CL f key pa pb t r ia ib)(e:t'<=t):CL f key pa pb t' r ia ib:=⟨h.j,h.a,h.b,aQ e h.t⟩
theorem CL.no{u:Nat}(h:CL f key pa pb (u+pL 0 ((pa.map f).toArray.size+(pb.map f).toArray.size)) r ia ib):False:=by
 obtain⟨_,h1,S,I⟩:=h;simp at I
 lia
def gal_a(h:JL f key pa pb r ia ib)(Y:ib<pb.length)(I:∀x∈(pa.drop ia).take k,(if ae=ag then ltK key x (pb.getD ib 0)else !ltK key (pb.getD ib 0) x)=ag):JL f key pa pb (r++(pa.map f).toArray.extract ia (ia+k)) (ia+k) ib:=
 h.ak λx U y S=>cY (by simpa[ltK] using I x U) (h.sy.hd Y y S)
def gal_b(h:JL f key pa pb r ia ib)(Y:ia<pa.length)(I:∀x∈(pb.drop ib).take k,(if ag=ag then ltK key x (pa.getD ia 0)else !ltK key (pa.getD ia 0) x)=ag):JL f key pa pb (r++(pb.map f).toArray.extract ib (ib+k)) ia (ib+k):=
 h.bk λx U y S=>cY (dW (by simpa[ltK] using I x U)) (h.sx.hd Y y S)
end
theorem lo_turn(L:Ee prog w A E s κ f key n){o:Array bU}{p q g u v t:Nat}{W:i7 (Option (Array bU)×Array bU×Nat×Nat×Nat×Nat×Nat)->bo->Prop}(na:InN n pa)(nb:InN n pb)(N:iC st=κ)(K:∀y∈pb,key y<=key (pa.getD (pa.length-1) 0))(J:CL f key pa pb t o p q)(h:∀r c S,n0 st S->GD f key (pa++pb) r->W (.done (aa r,c)) S)(R:∀o p q c S,n0 st S->CL f key pa pb t o p q->W (.done (af,o,p,q,c)) S)(Q:∀o p q c S,n0 st S->CL f key pa pb (t+1) o p q->W (.yield (af,o,p,q,c)) S):
  g8 (aI prog w) A E s ((qLb (pa.map f).toArray (pb.map f).toArray #[] 0 0 0 0 0).F 0 (af,o,p,q,g,u,v)) W st:=by
 have O:∀g,g8 (aI prog w) A E s (qLc (pa.map f).toArray (pb.map f).toArray o p q g u v).f W st:=λg=>by
  refine t8 (qLd _ _ o p q g u v) (L9 λm I=>t8 (qLe _ _ o p q g u v) (hY (at_of J.b) (t8 (qLf _ _ o p q g u v _) (L7 L (nb.at J.b) na (cR J.a) (I.kind.trans N) J.j.sx λk D b z=>?_))));have a:∀o p,JL f key pa pb o p q->(∀x∈pa.drop p,key (pb.getD q 0)<=key x)->p+1<pa.length->t<=p+q->g8 (aI prog w) A E s (qLg (pa.map f).toArray (pb.map f).toArray o p q g u v k).f W m:=λo p j tt G H=>by
   have d:=cR G;have Y:=j.b1 J.b tt;refine t8 (qLh _ _ o p q g u v k) (hY (at_of J.b) (uv (qLi _ _ o p q g u v k _) (λe=>aJ (h _ _ _ I (Y.fin (.inr (CI e))))) λe=>t8 (qLj _ _ o p q g u v k _) (hY (at_of d) (t8 (qLk _ _ o p q g u v k _ _) (L7 L (na.at d) nb (bC J.b (yN e)) (I.kind.trans N) Y.sy λl C b z=>?_)))));have U:∀o q,JL f key pa pb o p q->(∀x∈pb.drop q,key (pa.getD p 0)<=key x)->q<pb.length->t<=p+q->g8 (aI prog w) A E s (qLz (pa.map f).toArray (pb.map f).toArray o p q g k l) W m:=λo q j tt T H=>
    have Y:=j.a1 d tt
    dq (hY (at_of d) (uv ⟨rfl⟩ (λe=>aJ (h _ _ _ I (Y.last K (CI e)))) λe=>
     have P:CL f key pa pb (t+1) _ (p+1) q:=⟨Y,bC G (yN e),T,by simp_all[oh]⟩
     uv ⟨rfl⟩ (λ_=>aJ (R _ _ _ _ _ I (P.le (jP t)))) λ_=>aJ (Q _ _ _ _ _ I P)))
   have i:∀x∈pb.drop (q+1+l),key (pa.getD p 0)<=key x:=λx B=>by simpa[ltK] using z x B
   have h1:t<=p+(q+1):=Nat.le_succ_of_le H;refine uv (qLl _ _ o p q g u v k _ l) (λ_=>uv (qLm _ _ o p q g u v k _ l) (λe=>aJ (h _ _ _ I ((gal_b Y d b).fin (.inr (CI e))))) λe=>U _ _ (gal_b Y d b) i (bC C (yN e)) (aQ h1 (dS (d7 (q+1) l) p))) λF=>U _ _ Y ?_ (bC J.b (yN e)) h1
   rwa [gK F]at i
  have i:∀x∈pa.drop (p+k),key (pb.getD q 0)<=key x:=λx B=>dW (by simpa[ltK] using z x B);refine uv (qLg _ _ o p q g u v k) (λ_=>uv (qLg1 _ _ o p q g u v k) (λe=>aJ (h _ _ _ I ((gal_a J.j J.b b).last K (CI e)))) λe=>uv (qLg2 _ _ o p q g u v k) (λe=>aJ (h _ _ _ I ((gal_a J.j J.b b).fin (.inl (CI e))))) λX=>a _ _ (gal_a J.j J.b b) i (bC (bC D (yN X)) (yN e)) (by rw[oh];exact Nat.le_add_right_of_le J.t)) λF=>a _ _ J.j ?_ J.a J.t
  rwa [gK F]at i
 exact uv (qLc _ _ o p q g u v) (λ_=>O (g-1)) λ_=>O g
def JK(L:Ee prog w A E s κ f key n){Q:Array bU->bo->Prop}(na:InN n pa)(nb:InN n pb)(m:iC st=κ)(sa:Srt key pa)(sb:Srt key pb)(B:0<pa.length)(b:0<pb.length)(C:∀y∈pa,key (pb.getD 0 0)<=key y)(k:∀y∈pb,key y<=key (pa.getD (pa.length-1) 0))(h:∀r I,n0 st I->GD f key (pa++pb) r->Q r I):g8 (aI prog w) A E s (zf (pa.map f).toArray (pb.map f).toArray) Q st:=by
 have d:JL f key pa pb #[f _] 0 1:=JL.b1 (r:=#[]) ⟨[],rfl,eJ _,dU,sa,sb,λ_ h=>bu h cI,λ_ h=>bu h cI⟩ b C;refine t8 (qL0 ..) (ki (eU ⟨rfl,t8 (qL1 ..) (hY (at_of b) ?_)⟩));refine uv _ (λe=>aJ (h _ _ (n0.refl _) (d.fin (.inr (CI e))))) λe1=>uv _ (λe=>aJ (h _ _ (n0.refl _) (d.last k (CI e)))) λe2=>t8 (qL4 ..) (jM ?_);refine wp_l (qL5 ..) (λx c I=>n0 st I/\c.1=af/\CL f key pa pb (1+x) c.2.1 c.2.2.1 c.2.2.2.1) (R:=λc I=>n0 st I/\∃r,c.1=aa r/\GD f key (pa++pb) r)
  ⟨n0.refl _,rfl,d,bC B (yN e2),bC b (yN e1),aq _⟩ ?step (λc I ⟨_,_,J⟩=>(CL.no J).elim) λ⟨_,c⟩ I ⟨U,r,e,Y⟩=>by cases e;exact aJ (h _ _ U Y)
 rintro i ⟨_,o,p,q,g⟩ st1 _ _ ⟨U,e,J⟩;refine GH (qL6 (pa.map f).toArray (pb.map f).toArray o p q g) (λy c=>c.1=af/\CL f key pa pb (1+i+y) c.2.1 c.2.2.1 c.2.2.2.1) (R:=λc=>(∃r,c.1=aa r/\GD f key (pa++pb) r)\/c.1=af/\CL f key pa pb (1+(i+1)) c.2.1 c.2.2.1 c.2.2.2.1)
  ⟨rfl,J⟩ ?s1 (λc ⟨e,J⟩=>(CL.no J).elim) ?p1
 case s1=>
  rintro y ⟨_,o,p,q,u,v⟩ _ _ ⟨e,J⟩ W a l;have j:=cR J.a;refine wp_t (qL7 _ _ o p q g u v) (hY (at_of J.b) (hY (at_of j) (L _ _ _ _ (nb.at J.b) (na.at j) (U.kind.trans m) ?_)));have t:=J.le (d7 _ _);cases hw:ltK key _ _ with
  |true=>exact t8 (qL8 _ _ o p q g u v) (hY (at_of J.b) (uv _ (λe=>aJ (a _ (.inl ⟨_,rfl,(J.wb hw).fin (.inr (CI e))⟩))) λe=>uv (qL8b ..) (λ_=>aJ (a _ (.inr ⟨rfl,t.nb (J.wb hw) (yN e)⟩))) λ_=>aJ (l _ ⟨rfl,J.nb (J.wb hw) (yN e)⟩)))|false=>exact t8 (qL9 _ _ o p q g u v) (hY (at_of j) (uv _ (λe=>aJ (a _ (.inl ⟨_,rfl,(J.wa hw).last k (CI e)⟩))) λe=>uv (qL9b ..) (λ_=>aJ (a _ (.inr ⟨rfl,t.na (J.wa hw) (yN e)⟩))) λ_=>aJ (l _ ⟨rfl,J.na (J.wa hw) (yN e)⟩)))
 rintro⟨_,o,p,q,u,v⟩ (⟨r,e,Y⟩|⟨e,J⟩)<;>cases e
 .exact aJ ⟨U,r,rfl,Y⟩
 refine t8 (qLa _ _ o p q g u v) (ki (eU ⟨rfl,?_⟩));refine wp_l (qLb ..) (λy c I=>n0 st I/\c.1=af/\CL f key pa pb (1+(i+1)+y) c.2.1 c.2.2.1 c.2.2.2.1) (R:=λc I=>n0 st I/\((∃r,c.1=aa r/\GD f key (pa++pb) r)\/c.1=af/\CL f key pa pb (1+(i+1)) c.2.1 c.2.2.1 c.2.2.2.1))
  ⟨U,rfl,J⟩ ?s2 (λc I ⟨_,_,J⟩=>(CL.no J).elim) ?p2
 case p2=>
  rintro⟨_,o,p,q,g,u,v⟩ I ⟨U,⟨r,e,Y⟩|⟨e,J⟩⟩<;>cases e
  .exact aJ ⟨U,r,rfl,Y⟩
  .exact dq (gI (aJ ⟨U.trans ⟨_,rfl⟩,rfl,J⟩))
 rintro y ⟨_,o,p,q,g,u,v⟩ z _ _ ⟨S,e,J⟩;exact lo_turn L na nb (S.kind.trans m) k J (λ_ _ _ h Y=>⟨S.trans h,.inl ⟨_,rfl,Y⟩⟩) (λ_ _ _ _ _ h c=>⟨S.trans h,.inr ⟨rfl,c.le (d7 _ _)⟩⟩) λ_ _ _ _ _ h c=>⟨S.trans h,rfl,c⟩
section
variable(a b:Array bU)
noncomputable def qH0:Bd (zg a b):=⟨rfl⟩
noncomputable def qH1:Bd ((qH0 a b).k ()):=⟨rfl⟩
noncomputable def qH2(x):Ic ((qH1 a b).k x):=⟨rfl⟩
noncomputable def qH3(x):Ic (qH2 a b x).f:=⟨rfl⟩
noncomputable def qH4(x):Bd (qH3 a b x).f:=⟨rfl⟩
noncomputable def qH5(x g):Lp ((qH4 a b x).k g):=⟨rfl⟩
section
variable(p q:Nat)(o:Array bU)(r:Nat)
noncomputable def qH6:Lp ((qH5 a b qx0 qg0).F 0 (af,p,q,o,r)):=⟨rfl⟩
end
variable(p q:Nat)(o:Array bU)(r s t:Nat)
noncomputable def qH7:Bt ((qH6 a b 0 0 #[] r).F 0 (af,p,q,o,s,t)):=⟨rfl⟩
noncomputable def qH8:Bd ((qH7 a b p q o r s t).k qx0 qx0 (aa ag)):=⟨rfl⟩
noncomputable def qH9:Bd ((qH7 a b p q o r s t).k qx0 qx0 (aa ae)):=⟨rfl⟩
noncomputable def qH8a(y):Ic ((qH8 a b p q o r s t).k y):=⟨rfl⟩
noncomputable def qH8b(y):Ic (qH8a a b p q o r s t y).f:=⟨rfl⟩
noncomputable def qH9a(y):Ic ((qH9 a b p q o r s t).k y):=⟨rfl⟩
noncomputable def qH9b(y):Ic (qH9a a b p q o r s t y).f:=⟨rfl⟩
noncomputable def qHa:Bd ((qH6 a b 0 0 #[] r).k (af,p,q,o,s,t)):=⟨rfl⟩
noncomputable def qHb:Lp ((qHa a b p q o r s t).k ()):=⟨rfl⟩
noncomputable def qHc:Ic ((qHb a b 0 0 #[] 0 0 0).F 0 (af,p,q,o,r,s,t)):=⟨rfl⟩
noncomputable def qHd:Bd (qHc a b p q o r s t).f:=⟨rfl⟩
noncomputable def qHe:Bd ((qHd a b p q o r s t).k ()):=⟨rfl⟩
noncomputable def qHf(y):Bd ((qHe a b p q o r s t).k y):=⟨rfl⟩
noncomputable def qHg(k):Ic ((qHf a b p q o r s t qx0).k (aa k)):=⟨rfl⟩
noncomputable def qHg1(k):Ic (qHg a b p q o r s t k).t:=⟨rfl⟩
def qHz(k l:Nat):eK bo jo (i7 (Option (Array bU)×Nat×Nat×Array bU×Nat×Nat×Nat)):=
 oR a (p-1) >>=λz=>if (p-1==0)=ag then cO (.done (aa (a.extract 0 (p-1)++b.extract 0 q++(o.push z).reverse),p-1,q,o.push z,r,k,l))
  else if (aF (k<7)&&aF (l<7))=ag then cO (.done (af,p-1,q,o.push z,r,k,l))else cO (.yield (af,p-1,q,o.push z,r,k,l))
def qHy(k:Nat):eK bo jo (i7 (Option (Array bU)×Nat×Nat×Array bU×Nat×Nat×Nat)):=
 oR b (q-1) >>=λz=>if (q-1==1)=ag then cO (.done (aa (b.extract 0 (q-1)++a.extract 0 p++(o.push z).reverse),p,q-1,o.push z,r,k,t))
  else oR a (p-1) >>=λy=>wB ag y b 0 (q-1) (q-1-1) >>=λx=>match x with
   |some l=>if q-1-l>0 then
     (if (l==1)=ag then cO (.done (aa (b.extract 0 l++a.extract 0 p++(o.push z++(b.extract l (q-1)).reverse).reverse),p,l,o.push z++(b.extract l (q-1)).reverse,r,k,q-1-l))
     else if (l==0)=ag then cO (.done (aa (a.extract 0 p++b.extract 0 l++(o.push z++(b.extract l (q-1)).reverse).reverse),p,l,o.push z++(b.extract l (q-1)).reverse,r,k,q-1-l))
     else qHz a b p l (o.push z++(b.extract l (q-1)).reverse) r k (q-1-l))
    else qHz a b p (q-1) (o.push z) r k (q-1-l)
   |_=>cO (.done (aa (a.extract 0 p++b.extract 0 (q-1)++(o.push z).reverse),p,q-1,o.push z,r,k,t))
noncomputable def qHh(k):Bd (qHy a b p q o r t k):=⟨rfl⟩
noncomputable def qHi(k z):Ic ((qHh a b p q o r t k).k z):=⟨rfl⟩
noncomputable def qHj(k z):Bd (qHi a b p q o r t k z).f:=⟨rfl⟩
noncomputable def qHk(k z y):Bd ((qHj a b p q o r t k z).k y):=⟨rfl⟩
noncomputable def qHl(k z l):Ic ((qHk a b p q o r t k z qx0).k (aa l)):=⟨rfl⟩
noncomputable def qHm(k z l):Ic (qHl a b p q o r t k z l).t:=⟨rfl⟩
noncomputable def qHn(k z l):Ic (qHm a b p q o r t k z l).f:=⟨rfl⟩
end
theorem L6(L:Ee prog w A E s κ f key n){I:Bool}{q:Nat}{p:be}{m:Nat}{Q:Option Nat->bo->Prop}(Y:q<n)(a:InN n p)(e:m<=p.length)(c:hint<m)(b:iC st=κ)(U:Srt key p)(h:∀k,k<=m->(∀x∈p.take k,(if I=ag then ltK key x q else !ltK key q x)=ag)->(∀x∈(p.take m).drop k,(if I=ag then ltK key x q else !ltK key q x)=ae)->Q (aa k) st):
  g8 (aI prog w) A E s (wB I (f q) (p.map f).toArray 0 m hint) Q st:=by
 refine HZ L Y a a7 c b (U.sub ((iQ _ _).trans (kB _ _))) λk S h1 d=>h k S ?_ ?_
 .grind
 .rwa [f_]at d
noncomputable def neg(key:Nat->Int)(x:Nat):Int:= -key x
def GL{l:be}:Srt (neg key) l↔Srt key l.reverse:=by unfold Srt;rw[List.pairwise_reverse];exact⟨λh=>h.imp λ{a b} h=>Int.le_of_neg_le_neg h,λh=>h.imp λ{a b} h=>gL h⟩
theorem Srt.lst{l:be}(h:Srt key l)(U:0<i)(hi:i<=l.length):∀y∈l.take i,key y<=key (l.getD (i-1) 0):=λy I=>by
 obtain⟨j,S,rfl⟩:=gk I;have h1:i-1<l.length:=ac
 simp[oi,cD,h1,getElem?_pos];rcases qi j _ with c|c
 .exact eB.mp h _ _ _ _ c
 grind
def JH(f:Nat->bU)(key:Nat->Int)(pa pb:be)(r:Array bU)(na nb:Nat):Prop:=∃o:be,r=(o.map f).toArray/\MI (neg key) (pa++pb) o (pa.take na).reverse (pb.take nb).reverse
section
variable{r:Array bU}{na nb t:Nat}
def HR(q:be):(q.map f).toArray.reverse=(q.reverse.map f).toArray:=by simp
theorem Ig(p:be)(h:k<=na):(p.take na).reverse=((p.take na).drop k).reverse++(p.take k).reverse:=by
 have e:=cw k (p.take na)
 simp_all[List.take_take]
def GK{p:be}(S:0<na)(h:na<=p.length):(p.take na).reverse=[p.getD (na-1) 0]++(p.take (na-1)).reverse:=by
 obtain⟨j,rfl⟩:∃j,na=j+1:=⟨na-1,(Nat.succ_pred_eq_of_pos S).symm⟩
 have I:j<p.length:=h;simp[I]
def JH.ak(h:JH f key pa pb r na nb)(Y:k<=na)(U:∀x∈(pa.take na).drop k,∀y∈pb.take nb,key y<=key x):JH f key pa pb (r++((pa.map f).toArray.extract k na).reverse) k nb:=by obtain⟨o,rfl,m⟩:=h;rw[Ig pa Y]at m;exact⟨o++((pa.take na).drop k).reverse,by rw[E9,HR,wL,pC],MI.left m λx S y I=>gL (U x (eR.mp S) y (eR.mp I))⟩
def JH.bk(h:JH f key pa pb r na nb)(Y:k<=nb)(U:∀x∈(pb.take nb).drop k,∀y∈pa.take na,key y<=key x):JH f key pa pb (r++((pb.map f).toArray.extract k nb).reverse) na k:=by obtain⟨o,rfl,m⟩:=h;rw[Ig pb Y]at m;exact⟨o++((pb.take nb).drop k).reverse,by rw[E9,HR,wL,pC],MI.right m λx S y I=>gL (U x (eR.mp S) y (eR.mp I))⟩
def JH.a1(h:JH f key pa pb r na nb)(Y:0<na)(hi:na<=pa.length)(U:∀y∈pb.take nb,key y<=key (pa.getD (na-1) 0)):JH f key pa pb (r.push (f (pa.getD (na-1) 0))) (na-1) nb:=by
 obtain⟨o,rfl,m⟩:=h;rw[GK Y hi]at m;refine⟨_,zr ..,MI.left m λx S y I=>?_⟩
 rw[cj.mp S];exact gL (U y (eR.mp I))
def JH.b1(h:JH f key pa pb r na nb)(Y:0<nb)(hi:nb<=pb.length)(U:∀y∈pa.take na,key y<=key (pb.getD (nb-1) 0)):JH f key pa pb (r.push (f (pb.getD (nb-1) 0))) na (nb-1):=by
 obtain⟨o,rfl,m⟩:=h;rw[GK Y hi]at m;refine⟨_,zr ..,MI.right m λx S y I=>?_⟩
 rw[cj.mp S];exact gL (U y (eR.mp I))
def IU{q u v I:be}(h:(q++u.reverse++v.reverse).Perm I/\Srt (neg key) (q++u.reverse++v.reverse)):GD f key I ((v.map f).toArray++(u.map f).toArray++(q.map f).toArray.reverse):=by
 have e:(q++u.reverse++v.reverse).reverse=v++u++q.reverse:=by simp
 rw[HR,wL,wL];exact⟨_,rfl,by rw[<-e];exact(ky _).trans h.1,by rw[<-e];exact GL.mp h.2⟩
def Ea(p:be)(i:Nat):(p.map f).toArray.extract 0 i=((p.take i).map f).toArray:=by simp
def JH.fin(h:JH f key pa pb r na nb)(e:na=0\/nb=0):GD f key (pa++pb) ((pa.map f).toArray.extract 0 na++(pb.map f).toArray.extract 0 nb++r.reverse):=by
 obtain⟨o,rfl,m⟩:=h;rw[Ea,Ea];refine IU (MI.done2 m λx S y I=>?_);rcases e with rfl|rfl
 .simp at I
 .simp at S
def JH.first(h:JH f key pa pb r na nb)(U:∀y∈pa,key (pb.getD 0 0)<=key y)(l:0<pb.length)(e:nb=1):GD f key (pa++pb) ((pb.map f).toArray.extract 0 nb++(pa.map f).toArray.extract 0 na++r.reverse):=by obtain⟨o,rfl,m⟩:=h;rw[Ea,Ea];refine IU (MI.done m λx S y I=>?_);subst e;rw[GK nH l]at I;rw[show y=pb.getD 0 0 by simpa using I];exact gL (U x (jD (eR.mp S)))
structure CH(f:Nat->bU)(key:Nat->Int)(pa pb:be)(t:Nat)(r:Array bU)(na nb:Nat):Prop where
 j:JH f key pa pb r na nb
 a:0<na
 b:1<nb
 za:na<=pa.length
 zb:nb<=pb.length
 t:t+na+nb<=pa.length+pb.length
theorem CH.no{u:Nat}(h:CH f key pa pb (u+pL 0 ((pa.map f).toArray.size+(pb.map f).toArray.size)) r na nb):False:=by
 obtain⟨_,h1,_,_,_,I⟩:=h;simp at I
 lia
def CH.le(h:CH f key pa pb t r na nb)(e:t'<=t):CH f key pa pb t' r na nb:=⟨h.j,h.a,h.b,h.za,h.zb,aQ (jQ (jQ e _) _) h.t⟩
def zG{l:Nat}(I:0<i)(h:i<=l):i-1<l:=aH (kI I) h
theorem xa{c:Nat}(e:¬(i==c)=ag):i≠c:=by simp_all
theorem CH.na1(h:CH f key pa pb t r na nb)(j:JH f key pa pb r' (na-1) nb)(e:¬(na-1==0)=ag):CH f key pa pb (t+1) r' (na-1) nb:=
 ⟨j,fy (xa e),h.b,aQ (iG ..) h.za,h.zb,by have:=h.t;lia⟩
theorem CH.nb1(h:CH f key pa pb t r na nb)(j:JH f key pa pb r' na (nb-1))(e:¬(nb-1==1)=ag):CH f key pa pb (t+1) r' na (nb-1):=
 ⟨j,h.a,bC (Nat.le_pred_of_lt h.b) (bO (xa e)),h.za,aQ (iG ..) h.zb,by have:=h.t;have:=h.b;lia⟩
end
def hi_turn(L:Ee prog w A E s κ f key n){o:Array bU}{p q g u v t:Nat}{W:i7 (Option (Array bU)×Nat×Nat×Array bU×Nat×Nat×Nat)->bo->Prop}(na:InN n pa)(nb:InN n pb)(X:iC st=κ)(sa:Srt key pa)(sb:Srt key pb)(hf:∀y∈pa,key (pb.getD 0 0)<=key y)(J:CH f key pa pb t o p q)(z:∀r c S,n0 st S->GD f key (pa++pb) r->W (.done (aa r,c)) S)(w2:∀p q o c S,n0 st S->CH f key pa pb t o p q->W (.done (af,p,q,o,c)) S)(w3:∀p q o c S,n0 st S->CH f key pa pb (t+1) o p q->W (.yield (af,p,q,o,c)) S):
  g8 (aI prog w) A E s ((qHb (pa.map f).toArray (pb.map f).toArray 0 0 #[] 0 0 0).F 0 (af,p,q,o,g,u,v)) W st:=by
 have m:=zG (cR J.b) J.zb;have T:=aH (cR J.b) J.zb;have Z:∀g,g8 (aI prog w) A E s (qHc (pa.map f).toArray (pb.map f).toArray p q o g u v).f W st:=λg=>by
  refine t8 (qHd _ _ p q o g u v) (L9 λC I=>t8 (qHe _ _ p q o g u v) (hY (at_of m) (t8 (qHf _ _ p q o g u v _) (L6 L (nb.at m) na J.za (kI J.a) (I.kind.trans X) sa λk Y H G=>?_))));have b:∀p o k,JH f key pa pb o p q->(∀x∈pa.take p,key x<=key (pb.getD (q-1) 0))->0<p->p<=pa.length->t+p+q<=pa.length+pb.length->g8 (aI prog w) A E s (qHy (pa.map f).toArray (pb.map f).toArray p q o g v k) W C:=λp o k j tt F D N=>by
   have O:=zG F D;have d:=j.b1 (cR J.b) J.zb tt;have Q:0<q-1:=iU J.b;refine t8 (qHh _ _ p q o g v k) (hY (at_of m) (uv (qHi _ _ p q o g v k _) (λe=>aJ (z _ _ _ I (d.first hf T (dw e)))) λe=>t8 (qHj _ _ p q o g v k _) (hY (at_of O) (t8 (qHk _ _ p q o g v k _ _) (L6 L (na.at O) nb (b7 m) (kI Q) (I.kind.trans X) sb λl U H G=>?_)))));have a:∀q o c,JH f key pa pb o p q->(∀x∈pb.take q,key x<=key (pa.getD (p-1) 0))->1<q->q<=pb.length->t+p+q<=pa.length+pb.length->g8 (aI prog w) A E s (qHz (pa.map f).toArray (pb.map f).toArray p q o g k c) W C:=λq o c j tt q1 zq N=>
    have d:=j.a1 F D tt;have c0:CH f key pa pb t o p q:=⟨j,F,q1,D,zq,N⟩
    dq (hY (at_of O) (uv ⟨rfl⟩ (λe=>aJ (z _ _ _ I (d.fin (.inl (dw e))))) λe=>uv ⟨rfl⟩ (λ_=>aJ (w2 _ _ _ _ _ I ((c0.na1 d e).le (jP t)))) λ_=>aJ (w3 _ _ _ _ _ I (c0.na1 d e))))
   have B:∀x∈pb.take l,key x<=key (pa.getD (p-1) 0):=λx h=>dW (by simpa[ltK] using H x h);have i:=d.bk U λx h y K=>cY (sa.lst F D y K) (by simpa[ltK] using G x h);have lq:=aQ U (b7 m);have R:t+p+(q-1)<=pa.length+pb.length:=aQ (dS (iG ..) _) N;refine uv (qHl _ _ p q o g v k _ l) (λ_=>uv (qHm _ _ p q o g v k _ l) (λe=>aJ (z _ _ _ I (i.first hf T (dw e)))) λe=>uv (qHn _ _ p q o g v k _ l) (λe=>aJ (z _ _ _ I (i.fin (.inr (dw e))))) λe'=>a _ _ _ i B (bC (fy (xa e')) (bO (xa e))) lq (aQ (dS U _) R)) λP=>a _ _ _ d ?_ (bC Q (bO (xa e))) (b7 m) R
   rwa [show l=q-1 from hZ U (jA (gK P))]at B
  have B:∀x∈pa.take k,key x<=key (pb.getD (q-1) 0):=λx h=>by simpa[ltK] using H x h
  have i:=J.j.ak Y λx h y K=>cY (sb.lst (cR J.b) J.zb y K) (dW (by simpa[ltK] using G x h));refine uv (qHg _ _ p q o g u v k) (λ_=>uv (qHg1 _ _ p q o g u v k) (λe=>aJ (z _ _ _ I (i.fin (.inl (dw e))))) λe=>b _ _ _ i B (fy (xa e)) (aQ Y J.za) (aQ (jQ (dS Y _) _) J.t)) λP=>b _ _ _ J.j ?_ J.a J.za J.t
  rwa [show k=p from hZ Y (jA (gK P))]at B
 exact uv (qHc _ _ p q o g u v) (λ_=>Z (g-1)) λ_=>Z g
theorem JM(L:Ee prog w A E s κ f key n){Q:Array bU->bo->Prop}(na:InN n pa)(nb:InN n pb)(H:iC st=κ)(sa:Srt key pa)(sb:Srt key pb)(l:0<pa.length)(G:0<pb.length)(C:∀y∈pa,key (pb.getD 0 0)<=key y)(O:∀y∈pb,key y<=key (pa.getD (pa.length-1) 0))(h:∀r I,n0 st I->GD f key (pa++pb) r->Q r I):g8 (aI prog w) A E s (zg (pa.map f).toArray (pb.map f).toArray) Q st:=by
 have d:(pa.map f).toArray.size=pa.length:=by simp
 have k:(pb.map f).toArray.size=pb.length:=by simp
 have m:JH f key pa pb #[f (pa.getD ((pa.map f).toArray.size-1) 0)] ((pa.map f).toArray.size-1) (pb.map f).toArray.size:=by rw[d,k];refine JH.a1 (r:=#[]) ⟨[],rfl,?_⟩ l (aq _) λy b=>O y (jD b);rw[kU,kU];exact⟨by rw[List.nil_append];exact List.Perm.append (ky _) (ky _),dU,GL.mpr a7,GL.mpr a7,λ_ h=>bu h cI,λ_ h=>bu h cI⟩
 have P:¬((pa.map f).toArray.size-1==0)=ag->¬((pb.map f).toArray.size==1)=ag->CH f key pa pb 1 #[f (pa.getD ((pa.map f).toArray.size-1) 0)] ((pa.map f).toArray.size-1) (pb.map f).toArray.size:=λe1 e2=>⟨m,fy (xa e1),bC (kL a7) (bO (xa e2)),by simp[d],gJ k,by rw[d,k,Nat.add_sub_cancel' l];exact aq _⟩
 refine t8 (qH0 ..) (ki (eU ⟨rfl,t8 (qH1 ..) (hY (x:=pa.getD ((pa.map f).toArray.size-1) 0) (by rw[d];exact at_of (zG l (aq _))) ?_)⟩));refine uv (qH2 ..) (λe=>aJ (h _ _ (n0.refl _) (m.fin (.inl (dw e))))) λe1=>uv (qH3 ..) (λe=>aJ (h _ _ (n0.refl _) (m.first C G (dw e)))) λe2=>t8 (qH4 ..) (jM ?_);refine wp_l (qH5 ..) (λx c I=>n0 st I/\c.1=af/\CH f key pa pb (1+x) c.2.2.2.1 c.2.1 c.2.2.1) (R:=λc I=>n0 st I/\∃r,c.1=aa r/\GD f key (pa++pb) r)
  ⟨n0.refl _,rfl,P e1 e2⟩ ?step (λc I ⟨_,_,J⟩=>(CH.no J).elim) λ⟨_,c⟩ I ⟨U,r,e,a⟩=>by cases e;exact aJ (h _ _ U a)
 rintro i ⟨_,p,q,o,g⟩ st1 _ _ ⟨U,e,J⟩;have B:iC st1=κ:=U.kind.trans H;refine GH (qH6 (pa.map f).toArray (pb.map f).toArray p q o g) (λy c=>c.1=af/\CH f key pa pb (1+i+y) c.2.2.2.1 c.2.1 c.2.2.1) (R:=λc=>(∃r,c.1=aa r/\GD f key (pa++pb) r)\/c.1=af/\CH f key pa pb (1+(i+1)) c.2.2.2.1 c.2.1 c.2.2.1)
  ⟨rfl,J⟩ ?s1 (λc ⟨e,J⟩=>(CH.no J).elim) ?p1
 case s1=>
  rintro y ⟨_,p,q,o,u,v⟩ _ _ ⟨e,J⟩ W j F;have z:=zG J.a J.za;have D:=cR J.b;have t:=zG D J.zb;refine wp_t (qH7 _ _ p q o g u v) (hY (at_of t) (hY (at_of z) (L _ _ _ _ (nb.at t) (na.at z) B ?_)));have K:=J.le (t':=1+i) (d7 _ _);cases hw:ltK key (pb.getD (q-1) 0) (pa.getD (p-1) 0)with
  |true=>have Y:=J.j.a1 J.a J.za λy b=>cY (sb.lst D J.zb y b) (dW (j8 hw));exact t8 (qH8 _ _ p q o g u v) (hY (at_of z) (uv (qH8a ..) (λe=>aJ (j _ (.inl ⟨_,rfl,Y.fin (.inl (dw e))⟩))) λe=>uv (qH8b ..) (λ_=>aJ (j _ (.inr ⟨rfl,K.na1 Y e⟩))) λ_=>aJ (F _ ⟨rfl,J.na1 Y e⟩)))|false=>have Y:=J.j.b1 D J.zb λy b=>cY (sa.lst J.a J.za y b) (ko.mp (of_decide_eq_false hw));exact t8 (qH9 _ _ p q o g u v) (hY (at_of t) (uv (qH9a ..) (λe=>aJ (j _ (.inl ⟨_,rfl,Y.first C G (dw e)⟩))) λe=>uv (qH9b ..) (λ_=>aJ (j _ (.inr ⟨rfl,K.nb1 Y e⟩))) λ_=>aJ (F _ ⟨rfl,J.nb1 Y e⟩)))
 rintro⟨_,p,q,o,u,v⟩ (⟨r,e,a⟩|⟨e,J⟩)<;>cases e
 .exact aJ ⟨U,r,rfl,a⟩
 refine t8 (qHa _ _ p q o g u v) (ki (eU ⟨rfl,?_⟩));refine wp_l (qHb ..) (λy c I=>n0 st I/\c.1=af/\CH f key pa pb (1+(i+1)+y) c.2.2.2.1 c.2.1 c.2.2.1) (R:=λc I=>n0 st I/\((∃r,c.1=aa r/\GD f key (pa++pb) r)\/c.1=af/\CH f key pa pb (1+(i+1)) c.2.2.2.1 c.2.1 c.2.2.1))
  ⟨U,rfl,J⟩ ?s2 (λc I ⟨_,_,J⟩=>(CH.no J).elim) ?p2
 case p2=>
  rintro⟨_,p,q,o,g,u,v⟩ I ⟨U,⟨r,e,a⟩|⟨e,J⟩⟩<;>cases e
  .exact aJ ⟨U,r,rfl,a⟩
  .exact dq (gI (aJ ⟨U.trans ⟨_,rfl⟩,rfl,J⟩))
 rintro y ⟨_,p,q,o,g,u,v⟩ N _ _ ⟨S,e,J⟩;cases e;exact hi_turn L na nb (S.kind.trans H) sa sb C J (λ_ _ _ h a=>⟨S.trans h,.inl ⟨_,rfl,a⟩⟩) (λ_ _ _ _ _ h c=>⟨S.trans h,.inr ⟨rfl,c.le (d7 _ _)⟩⟩) λ_ _ _ _ _ h c=>⟨S.trans h,rfl,c⟩
end
section
open PySem.W hiding kindOf
variable{s:ao}{f:Nat->bU}{key:Nat->Int}
structure SS(κ:oS)(f:Nat->bU)(n:Nat)(st:bo)(p:be):Prop where
 kind:iC st=κ
 ok:kj st=af
 arr:kT st=(p.map f).toArray
 perm:p.Perm (aX n)
def SS.inN(h:SS κ f n st p):InN n p:=λx I=>bA.mp (h.perm.mem_iff.mp I)
def SS.len(h:SS κ f n st p):p.length=n:=by rw[h.perm.length_eq,eI]
theorem FE{β:Type}:∀(o v u t:List β),v.length=o.length->(o.zipIdx u.length).foldl (λa (p:β×Nat)=>a.setIfInBounds p.2 p.1) (u++(v++t)).toArray=(u++(o++t)).toArray
 |[],[],u,t,_=>rfl|x::o,y::v,u,t,h=>by
  have e:((u++(y::v++t)).toArray.setIfInBounds u.length x)=((u++[x])++(v++t)).toArray:=by rw[lX];simp
  show lZ _ _ _=_;have:=FE o v (u++[x]) t a7
  simp_all
theorem Kv(o v u t:List β)(h:v.length=o.length):o.zipIdx.foldl (λa (p:β×Nat)=>a.setIfInBounds (u.length+p.2) p.1) (u++(v++t)).toArray=(u++(o++t)).toArray:=by
 rw[<-FE o v u t h]
 grind[List.zipIdx_eq_map_add,List.foldl_map]
section
variable(ar:Array bU)(st:bo)(sa na sb nb:Nat)
noncomputable def qM(i:Nat):Bd (oQ i):=⟨rfl⟩
def qMz(I:Nat)(r:Array bU):eK bo jo Bool:=
 (modify λs=>setArr s (r.toList.zipIdx.foldl (λa (p:bU×Nat)=>a.setIfInBounds (I+p.2) p.1) (kT s))) >>=λ_=>get >>=λs=>cO (kj s).isNone
def qMy:eK bo jo Bool:=
 set st >>=λ_=>oR ar sb >>=λy=>wB ae y ar sa na 0 >>=λr=>match r with
  |some k=>if (na-k==0)=ag then cO ag else oR ar (sa+k+(na-k)-1) >>=λz=>wB ag z ar sb nb (nb-1) >>=λr=>match r with
   |some l=>if (l==0)=ag then cO ag else if na-k<=l then zf (ar.extract (sa+k) sb) (ar.extract sb (sb+l)) >>=λr=>qMz (sa+k) r else zg (ar.extract (sa+k) sb) (ar.extract sb (sb+l)) >>=λr=>qMz (sa+k) r
   |_=>cO ae
  |_=>cO ae
noncomputable def qM0:Bd (qMy ar st sa na sb nb):=⟨rfl⟩
noncomputable def qM1:Bd ((qM0 ar st sa na sb nb).k ()):=⟨rfl⟩
noncomputable def qM2(y):Bd ((qM1 ar st sa na sb nb).k y):=⟨rfl⟩
noncomputable def qM3(k):Ic ((qM2 ar st sa na sb nb qx0).k (aa k)):=⟨rfl⟩
noncomputable def qM4(k):Bd (qM3 ar st sa na sb nb k).f:=⟨rfl⟩
noncomputable def qM5(k z):Bd ((qM4 ar st sa na sb nb k).k z):=⟨rfl⟩
noncomputable def qM6(k l):Ic ((qM5 ar st sa na sb nb k qx0).k (aa l)):=⟨rfl⟩
noncomputable def qM7(k l):Ic (qM6 ar st sa na sb nb k l).f:=⟨rfl⟩
noncomputable def qM8(k l):Bd (qM7 ar st sa na sb nb k l).t:=⟨rfl⟩
noncomputable def qM9(k l):Bd (qM7 ar st sa na sb nb k l).f:=⟨rfl⟩
def qM_is{i U I Y fl S a}(h1:I[i]?=aa (sa,na,S))(b:I[i+1]?=aa (sb,nb,a)):(qM i).k (ig U ar I Y fl)=qMy ar (ig U ar ((I.setIfInBounds i (sa,na+nb,S)).eraseIdxIfInBounds (i+1)) Y fl) sa na sb nb:=by show(match (I[i]?,I[i+1]?)with|(aa (_,_,_),aa (_,_,_))=>_|_=>_)=_;rw[h1,b];rfl
end
section
variable{u a b:List Nat}{l:Nat}
def seg_a:((u++(a++(b++t))).drop u.length).take a.length=a:=by simp
def seg_b:((u++(a++(b++t))).drop (u.length+a.length)).take b.length=b:=by simp
theorem at_b(I:0<b.length):(u++(a++(b++t)))[u.length+a.length]?=aa (b.getD 0 0):=by simp_all[d8,cL]
theorem at_a(I:0<a.length)(S:k<=a.length):(u++(a++(b++t)))[u.length+k+(a.length-k)-1]?=aa (a.getD (a.length-1) 0):=a0
def ex_a(I:k<=a.length):((u++(a++(b++t))).map f).toArray.extract (u.length+k) (u.length+a.length)=((a.drop k).map f).toArray:=by rw[E9,<-ir,l8,List.drop_append_of_le_length I,Nat.add_sub_add_left,List.take_left' (gd ..)]
def ex_b(I:l<=b.length):((u++(a++(b++t))).map f).toArray.extract (u.length+a.length) (u.length+a.length+l)=((b.take l).map f).toArray:=by rw[E9,<-ir,l8,l8,mN,List.take_append_of_le_length I]
theorem put_ok{o:be}(I:k<=a.length)(Y:o.length=(a.drop k++b.take l).length):(o.map f).toArray.toList.zipIdx.foldl (λx (p:bU×Nat)=>x.setIfInBounds (u.length+k+p.2) p.1) ((u++(a++(b++t))).map f).toArray=((u++((a.take k++(o++b.drop l))++t)).map f).toArray:=by
 have U:u++(a++(b++t))=(u++a.take k)++((a.drop k++b.take l)++(b.drop l++t)):=by rw[bJ,bJ,<-bJ (b.take l),cw,<-bJ (a.take k),cw]
 have S:u.length+k=((u++a.take k).map f).length:=by simp[pz I]
 rw[S,U,g_ (l₁:=u++a.take k),g_ (l₁:=a.drop k++b.take l)];refine(Kv _ _ _ _ a0).trans ?_;simp
theorem all_ok{o:be}(sa:Srt key a)(sb:Srt key b)(h:0<a.length)(g:0<b.length)(d:∀x∈a.take k,key x<=key (b.getD 0 0))(i:∀x∈a.drop k,key (b.getD 0 0)<key x)(c:∀x∈b.take l,key x<key (a.getD (a.length-1) 0))(Y:∀x∈b.drop l,key (a.getD (a.length-1) 0)<=key x)(U:o.Perm (a.drop k++b.take l))(f:Srt key o):(a.take k++(o++b.drop l)).Perm (a++b)/\Srt key (a.take k++(o++b.drop l)):=by
 have j:=Srt.hd sb g;refine⟨((eJ _).append (U.append_right _)).trans (by rw[bJ,cw,<-bJ,cw]),bG.mpr ⟨sa.sub (iQ _ _),bG.mpr ⟨f,sb.sub (kB _ _),λx I y S=>?_⟩,λx I y S=>cY (d x I) ?_⟩⟩
 .refine cY ?_ (Y y S);rcases(λx I=>aZ.mp (U.mem_iff.mp I)) x I with e|e
  .exact(λy S=>sa.lst h (aq _) y a7) x (m_ e)
  .exact dW (c x e)
 grind
theorem first_ok(S:0<l)(I:0<b.length):(b.take l).getD 0 0=b.getD 0 0:=by simp_all
theorem last_ok(I:k<a.length):(a.drop k).getD ((a.drop k).length-1) 0=a.getD (a.length-1) 0:=by
 rw[gd,cD,List.getElem?_drop]
 congr 2
 lia
end
theorem wp_qMy(L:Ee prog w A E s κ f key n){I:bo}{u a b:be}{Q:Bool->bo->Prop}(S:SS κ f n I (u++(a++(b++t))))(sa:Srt key a)(sb:Srt key b)(B:0<a.length)(c:0<b.length)(h:∀U m,m.Perm (a++b)->Srt key m->SS κ f n U (u++(m++t))->bj U=bj I->Q ag U):g8 (aI prog w) A E s (qMy ((u++(a++(b++t))).map f).toArray I u.length a.length (u.length+a.length) b.length) Q st1:=by
 have g:=S.inN;have bN:b.getD 0 0<n:=g _ (bS (at_b c));have aN:a.getD (a.length-1) 0<n:=g _ (bS (at_a B (aq _)));have D:Srt key (a++b)->Q ag I:=λq=>h I (a++b) (eJ _) q a7 rfl;refine t8 (qM0 ((u++(a++(b++t))).map f).toArray I u.length a.length (u.length+a.length) b.length) (gI (t8 (qM1 ((u++(a++(b++t))).map f).toArray I u.length a.length (u.length+a.length) b.length) (hY (at_b c) (t8 (qM2 ((u++(a++(b++t))).map f).toArray I u.length a.length (u.length+a.length) b.length _) (HZ L bN g ad B S.kind a7 λk G v p=>?_)))));rw[seg_a]at v p;have v:∀x∈a.take k,key x<=key (b.getD 0 0):=λx Y=>by simpa[ltK] using v x Y
 have p:∀x∈a.drop k,key (b.getD 0 0)<key x:=λx Y=>by simpa[ltK] using p x Y
 refine uv (qM3 ((u++(a++(b++t))).map f).toArray I u.length a.length (u.length+a.length) b.length k) (λe=>aJ (D (bG.mpr ⟨sa,sb,λx Y y d=>cY (v x (by rw[dz (jA (dw e))];exact Y)) (Srt.hd (i:=0) sb c y d)⟩))) λe1=>?_;have C:k<a.length:=Nat.lt_of_sub_pos (fy (xa e1));refine t8 (qM4 ((u++(a++(b++t))).map f).toArray I u.length a.length (u.length+a.length) b.length k) (hY (at_a B G) (t8 (qM5 ((u++(a++(b++t))).map f).toArray I u.length a.length (u.length+a.length) b.length k _) (HZ L aN g a0 (Nat.sub_one_lt_of_lt c) S.kind a7 λl W j F=>?_)));rw[seg_b]at j F;have j:∀x∈b.take l,key x<key (a.getD (a.length-1) 0):=λx Y=>by simpa[ltK] using j x Y
 have F:∀x∈b.drop l,key (a.getD (a.length-1) 0)<=key x:=λx Y=>by simp_all[ltK]
 refine uv (qM6 ((u++(a++(b++t))).map f).toArray I u.length a.length (u.length+a.length) b.length k l) (λe=>aJ (D (bG.mpr ⟨sa,sb,λx Y y d=>cY (sa.lst B (aq _) x a7) (F y (by rw[show l=0 from dw e];exact d))⟩))) λe2=>?_;have T:=fy (xa e2);have X:∀r U,n0 I U->GD f key (a.drop k++b.take l) r->g8 (aI prog w) A E s (qMz (u.length+k) r) Q U:=λr U ⟨g',e⟩ ⟨o,eo,O,Z⟩=>by cases e;cases eo;have z:=all_ok sa sb B c v p j F O Z;have ef:kj I=af:=S.ok;refine dq (gI (dq (jM (aJ ?_))));rw[ef];exact h _ _ z.1 z.2 ⟨S.kind,rfl,by rw[S.arr];exact put_ok G O.length_eq,((z.1.append_right t).append_left u).trans (by rw[bJ];exact S.perm)⟩ rfl
 have R:InN n (a.drop k):=λx Y=>g x (bf _ (cf _ (m_ Y)));have P:InN n (b.take l):=λx Y=>g x (bf _ (bf _ (cf _ (jD Y))));have J:0<(a.drop k).length:=by rw[gd];exact iU C
 have H:0<(b.take l).length:=by rw[dc];exact Nat.lt_min.mpr ⟨T,c⟩
 have f1:∀y∈a.drop k,key ((b.take l).getD 0 0)<=key y:=λy d=>by rw[first_ok T c];exact dW (p y d)
 have f2:∀y∈b.take l,key y<=key ((a.drop k).getD ((a.drop k).length-1) 0):=λy d=>by rw[last_ok C];exact dW (j y d)
 have N:Srt key (a.drop k):=sa.sub (kB _ _);have K:Srt key (b.take l):=sb.sub (iQ _ _);refine uv (qM7 ((u++(a++(b++t))).map f).toArray I u.length a.length (u.length+a.length) b.length k l) (λ_=>t8 (qM8 ((u++(a++(b++t))).map f).toArray I u.length a.length (u.length+a.length) b.length k l) ?_) λ_=>t8 (qM9 ((u++(a++(b++t))).map f).toArray I u.length a.length (u.length+a.length) b.length k l) ?_
 .show g8 _ _ _ _ (zf _ _) _ _;rw[ex_a G,ex_b W];exact JK L R P S.kind N K J H f1 f2 X
 .show g8 _ _ _ _ (zg _ _) _ _;rw[ex_a G,ex_b W];exact JM L R P S.kind N K J H f1 f2 X
def JN(L:Ee prog w A E s κ f key n){st:bo}{u a b:be}{U:Array (Nat×Nat×Nat)}{wa wb:Nat}{Q:Bool->bo->Prop}(S:SS κ f n st (u++(a++(b++t))))(d:bj st=U)(h1:U[i]?=aa (u.length,a.length,wa))(e:U[i+1]?=aa (u.length+a.length,b.length,wb))(sa:Srt key a)(sb:Srt key b)(c:0<a.length)(Y:0<b.length)(h:∀I m,m.Perm (a++b)->Srt key m->SS κ f n I (u++(m++t))->bj I=(U.setIfInBounds i (u.length,a.length+b.length,wa)).eraseIdxIfInBounds (i+1)->Q ag I):
  g8 (aI prog w) A E s (oQ i) Q st:=by
 subst d;refine t8 (qM i) (jM ?_);rw[show(qM i).k st=_ from qM_is (kT st) _ _ _ _ h1 e,S.arr];exact wp_qMy L ⟨S.kind,S.ok,rfl,S.perm⟩ sa sb c Y h
end
section
open PySem.W hiding kindOf
variable{s:ao}{f:Nat->bU}{key:Nat->Int}
noncomputable def kG(key:Nat->Int)(p:be)(i:Nat):Int:=key (p.getD i 0)
def Sg(key:Nat->Int)(p:be)(lo hi:Nat):Prop:=∀i j,lo<=i->i<=j->j<hi->kG key p i<=kG key p j
def Dg(key:Nat->Int)(p:be)(lo hi:Nat):Prop:=∀i j,lo<=i->i<=j->j<hi->kG key p j<=kG key p i
def Fx(lo:Nat)(p p':be):Prop:=∀i,i<lo->p'.getD i 0=p.getD i 0
def Fx.refl(p:be):Fx lo p p:=λ_ _=>rfl
theorem Fx.trans{lo:Nat}{p q r:be}(h:Fx lo p q)(k:Fx lo q r):Fx lo p r:=λi hi=>(k i hi).trans (h i hi)
noncomputable def rv(p:be)(i j:Nat):be:=(kas_rev p.toArray i j).toList
noncomputable def bb(p:be)(I d:Nat):be:=(bubble p.toArray I d).toList
theorem Iq(I:j<=p.length)(k:Nat):(rv p i j).getD k 0=if i<=k/\k<j then p.getD (i+j-1-k) 0 else p.getD k 0:=by unfold rv kas_rev;rw[cD,gN,(getElem?_mirror_all (xs:=p.toArray) (i:=i) (j:=j) a7 k)];split<;>simp
theorem bb_get{I d:Nat}(U:I<p.length)(S:d<=I)(k:Nat):(bb p I d).getD k 0=if k=I-d then p.getD I 0 else if I-d<k/\k<=I then p.getD (k-1) 0 else p.getD k 0:=by
 have e:=getElem?_bubble (xs:=p.toArray) a7 d S k;unfold bb;rw[cD,gN,e];split
 .simp
 .split<;>simp
def rv_perm:(rv p i j).Perm p:=lQ.mp (mirror_perm p.toArray i j _)
def bb_perm:(bb p i j).Perm p:=lQ.mp (bubble_perm p.toArray i j)
theorem rv_fx(I:j<=p.length)(hi:lo<=i):Fx lo p (rv p i j):=λk S=>by rw[Iq I,aA ac]
def zd{Q:Unit->bo->Prop}(S:SS κ f n st p)(h:∀I,SS κ f n I (rv p i j)->bj I=bj st->Q () I):g8 (aI prog w) A E s (reverseSlice' i j) Q st:=by
 refine gI (h _ ⟨S.kind,S.ok,?_,rv_perm.trans S.perm⟩ rfl);show mirror (kT st) i j _=_;rw[S.arr];have e1:mirror _ i j _=(mirror p.toArray i j ((j-i)/2)).map f:=kas_swaps_map f (λk=>i+k) (λk=>j-1-k) _ p.toArray;have e2:(p.map f).toArray=p.toArray.map f:=by simp
 rw[e2,e1];unfold rv kas_rev;apply i8.mp;simp
def wpS_movS{l:Nat}{Q:Unit->bo->Prop}(S:SS κ f n st p)(h:∀I,SS κ f n I (bb p k (k-l))->bj I=bj st->Q () I):g8 (aI prog w) A E s (moveDown' k l) Q st:=by
 refine gI (h _ ⟨S.kind,S.ok,?_,bb_perm.trans S.perm⟩ rfl);show bubble (kT st) k _=_;rw[S.arr];have e1:bubble _ k _=(bubble p.toArray k (k-l)).map f:=kas_swaps_map f (λi=>k-i) (λi=>k-i-1) _ p.toArray;have e2:(p.map f).toArray=p.toArray.map f:=by simp
 rw[e2,e1];unfold bb;apply i8.mp;simp
theorem zu(L:Ee prog w A E s κ f key n){Q:Option Bool->bo->Prop}(S:SS κ f n st p)(hi:i<n)(a:j<n)(h:Q (aa (aF (kG key p i<kG key p j))) st):g8 (aI prog w) A E s (ltAt' i j) Q st:=by
 have Y:=S.len;have U:p[i]?=aa (p.getD i 0):=by simp[show i<p.length by lia]
 have I:p[j]?=aa (p.getD j 0):=by simp[show j<p.length by lia]
 rw[ltAt'_eq];refine dq (jM ?_);rw[S.arr];refine dq (hY U (dq (hY I ?_)));exact L _ _ _ _ (S.inN _ (bS U)) (S.inN _ (bS I)) S.kind h
theorem Sg.step(h:Sg key p lo (lo+m))(h1:1<=m)(Y:¬kG key p (lo+m)<kG key p (lo+m-1)):Sg key p lo (lo+(m+1)):=λi j hi S a=>by
 by_cases I:j<lo+m
 .exact h i j hi S I
 .have b:j=lo+m:=ac
  by_cases U:i=lo+m
  .simp_all
  .have:=h i (lo+m-1) hi ac ac
   lia
theorem Dg.step(h:Dg key p lo (lo+m))(h1:1<=m)(Y:kG key p (lo+m)<=kG key p (lo+m-1)):Dg key p lo (lo+(m+1)):=λi j hi S a=>by
 by_cases I:j<lo+m
 .exact h i j hi S I
 .have b:j=lo+m:=ac
  by_cases U:i=lo+m
  .simp_all
  .have:=h i (lo+m-1) hi ac ac
   lia
def Al(key:Nat->Int)(p:be)(m q:Nat):Prop:=∀i,m-(q+1)<=i->i<m->kG key p i=kG key p (m-1)
theorem K2{q:Nat}(S:m<=p.length)(I:Al key p m q)(k:Nat):kG key (rv p (m-(q+1)) m) k=kG key p k:=by
 show key _=key _;rw[Iq S];split
 .exact(I _ ac ac).trans (I k ac ac).symm
 .rfl
section
variable(lo nrem m:Nat)
noncomputable def qC0:Lp (countRun' lo nrem):=⟨rfl⟩
noncomputable def qCa(x):Bd ((qC0 lo nrem).F x (af,m)):=⟨rfl⟩
noncomputable def qC1:Ic ((qC0 lo nrem).k (af,m)):=⟨rfl⟩
noncomputable def qC2:Ic (qC1 lo nrem m).f:=⟨rfl⟩
noncomputable def qC3:Bd (qC2 lo nrem m).t:=⟨rfl⟩
noncomputable def qC5:Bd ((qC3 lo nrem m).k (aa ae)):=⟨rfl⟩
noncomputable def qC6:Bd (qC2 lo nrem m).f:=⟨rfl⟩
noncomputable def qC7:Lp ((qC6 lo nrem m).k ()):=⟨rfl⟩
variable(q:Nat)
noncomputable def qC8:Bd ((qC7 lo nrem 0).F 0 (af,m,q)):=⟨rfl⟩
noncomputable def qC9:Ic ((qC8 lo nrem m q).k (aa ag)):=⟨rfl⟩
noncomputable def qCb:Bd (qC9 lo nrem m q).t:=⟨rfl⟩
noncomputable def qCc:Bd ((qC8 lo nrem m q).k (aa ae)):=⟨rfl⟩
noncomputable def qCd:Ic ((qC7 lo nrem 0).k (af,m,q)):=⟨rfl⟩
noncomputable def qCe:Bd (qCd lo nrem m q).t:=⟨rfl⟩
noncomputable def qCf:Bd (qCd lo nrem m q).f:=⟨rfl⟩
noncomputable def qCg:Lp ((qCf lo nrem m q).k ()):=⟨rfl⟩
end
section
variable{lo x q m:Nat}
structure DIr(key:Nat->Int)(lo:Nat)(p p':be)(x q:Nat):Prop where
 fx:Fx lo p p'
 dg:Dg key p' lo (lo+x)
 qx:q+1<=x
 al:Al key p' (lo+x) q
theorem al0:Al key p (lo+(x+1)) 0:=λi h1 I=>by grind
def Dg.rva(d:Dg key p lo (lo+x))(a:Al key p (lo+x) q)(I:lo+x<=p.length):Dg key (rv p (lo+x-(q+1)) (lo+x)) lo (lo+x):=λi j h1 U S=>by rw[K2 I a,K2 I a];exact d i j h1 U S
theorem DIr.turn(h:DIr key lo p p' x q)(I:lo+x<=p'.length):DIr key lo p (rv p' (lo+x-(q+1)) (lo+x)) x 0:=
 ⟨h.fx.trans (rv_fx I (by have:=h.qx;lia)),h.dg.rva h.al I,aQ (dZ (bz _)) h.qx,λi h1 S=>by grind⟩
def DIr.lt(h:DIr key lo p p' x q)(c:kG key p' (lo+x)<kG key p' (lo+x-1)):DIr key lo p p' (x+1) 0:=
 ⟨h.fx,h.dg.step (aQ (dZ (bz _)) h.qx) (dW c),dZ (bz _),al0⟩
theorem DIr.eq(h:DIr key lo p p' x q)(c:kG key p' (lo+x)=kG key p' (lo+x-1)):DIr key lo p p' (x+1) (q+1):=
 ⟨h.fx,h.dg.step (aQ (dZ (bz _)) h.qx) (Int.le_of_eq c),dZ h.qx,λi h1 I=>by
  rw[show lo+(x+1)-1=lo+x by lia];by_cases hi:i=lo+x
  .rw[hi]
  .rw[c];exact h.al i ac ac⟩
theorem Dg.rise(d:Dg key p lo (lo+x))(I:lo+x<=p.length):Sg key (rv p lo (lo+x)) lo (lo+x):=λi j Y U S=>by show key _<=key _;rw[Iq I,Iq I,aC ac,aC ac];exact d _ _ ac ac ac
theorem Sg.flat(h:Sg key p lo (lo+m))(h1:1<=m)(c:¬kG key p lo<kG key p (lo+m-1)):Al key p (lo+m) (m-1):=λi S I=>by
 have:=h lo i (aq _) ac I;have:=h i (lo+m-1) ac ac ac
 lia
theorem one_Sg:Sg key p lo (lo+1):=λi j U S I=>by grind
theorem Al.dg(a:Al key p (lo+m) (m-1))(h1:1<=m):Dg key p lo (lo+m):=λi j U S I=>by rw[a i ac ac,a j ac I];simp
theorem BI{m nrem n:Nat}(h:m<nrem)(I:lo+nrem<=n):lo+m<n/\lo+m-1<n:=ac
end
theorem wp_asc{t:eK bo jo β}(L:Ee prog w A E s κ f key n){lo nrem a:Nat}{Q:β->bo->Prop}(S:SS κ f n st p)(b:lo+nrem<=n)(i:1<=a)(Y:a<=nrem)(I:Sg key p lo (lo+a)){k:Option (Option Nat)×Nat->eK bo jo β}(e:t=o7 [a:nrem] (af,a) (qC0 lo nrem).F >>= k)(h:∀m,a<=m->m<=nrem->Sg key p lo (lo+m)->(m=nrem\/kG key p (lo+m)<kG key p (lo+m-1))->g8 (aI prog w) A E s (k (af,m)) Q st):g8 (aI prog w) A E s t Q st:=
 GH ⟨e⟩ (λx c=>c=(af,x)/\Sg key p lo (lo+x)) (R:=λc=>∃m,c=(af,m)/\a<=m/\m<=nrem/\Sg key p lo _/\(m=nrem\/kG key p _<kG key p _)) ⟨rfl,I⟩ (λx c h1 U ⟨e,I⟩ W g d=>by
   subst e;refine t8 (qCa lo nrem x x) (zu L S (BI U b).1 (BI U b).2 ?_);by_cases c:kG key p (lo+x)<kG key p (lo+x-1)
   .rw[dA c];exact aJ (g _ ⟨x,rfl,h1,b7 U,I,.inr c⟩)
   .rw[cq c];exact aJ (d _ ⟨rfl,I.step (aQ i h1) c⟩)) (λc ⟨e,I⟩=>⟨nrem,a7,Y,aq _,a7,.inl rfl⟩) λc ⟨m,e,h1,U,l,j⟩=>e▸h m h1 U l j
theorem GI(L:Ee prog w A E s κ f key n){lo nrem:Nat}{Q:Option Nat->bo->Prop}(S:SS κ f n st p)(d:lo+nrem<=n)(h1:1<=nrem)(h:∀m I p',SS κ f n I p'->bj I=bj st->1<=m->m<=nrem->Sg key p' lo (lo+m)->Fx lo p p'->Q (aa m) I):g8 (aI prog w) A E s (countRun' lo nrem) Q st:=by
 have g:∀m q p3 U,SS κ f n U p3->bj U=bj st->Fx lo p p3->Dg key p3 lo (lo+m)->1<=m->m<=nrem->g8 (aI prog w) A E s (qCd lo nrem m q).f Q U:=λm q p3 U F e3 f3 d3 b l=>
  have Y:lo+m<=p3.length:=by rw[F.len];exact aQ (dS l _) d
  t8 (qCf ..) (zd F λX W e4=>wp_asc L W d b l (d3.rise Y) (qCg lo nrem m q).e λm5 g1 g2 Z _=>aJ (h m5 _ _ W (e4.trans e3) (aQ b g1) g2 Z (f3.trans (rv_fx Y (aq _)))))
 have j:∀m p1 st1,SS κ f n st1 p1->bj st1=bj st->Fx lo p p1->Dg key p1 lo (lo+(m+1))->m+1<=nrem->g8 (aI prog w) A E s (qC2 lo nrem m).f Q st1:=λm p1 st1 O e1 f1 d1 l=>by
  refine t8 (qC6 ..) (ki (eU ⟨rfl,?_⟩));refine wp_l (qC7 ..) (λx c I=>∃q p',c=(af,x,q)/\SS κ f n I p'/\bj I=bj st/\DIr key lo p p' x q) (R:=λc I=>∃m q p',c=(af,m,q)/\SS κ f n I p'/\bj I=bj st/\DIr key lo p p' m q/\m<=nrem)
   ⟨0,p1,rfl,O,e1,f1,d1,dZ (bz _),al0⟩ ?step (λc I ⟨q,p',e,k,r,D⟩=>?_) ?post
  case step=>
   rintro x _ I _ o ⟨q,p',rfl,k,r,D⟩;have Y:lo+x<=p'.length:=by rw[k.len];exact b7 (BI o d).1
   refine t8 (qC8 lo nrem x q) (zu L k (BI o d).1 (BI o d).2 ?_);by_cases c:kG key p' (lo+x)<kG key p' (lo+x-1)
   .rw[dA c];exact uv (qC9 lo nrem x q) (λ_=>t8 (qCb lo nrem x q) (zd k λt y e2=>aJ ⟨0,_,rfl,y,e2.trans r,(D.turn Y).lt (by rw[K2 Y D.al,K2 Y D.al];exact c)⟩)) λ_=>aJ ⟨0,p',rfl,k,r,D.lt c⟩
   .rw[cq c];refine t8 (qCc lo nrem x q) (zu L k (BI o d).2 (BI o d).1 ?_);by_cases N:kG key p' (lo+x-1)<kG key p' (lo+x)
    .rw[dA N];exact aJ ⟨x,q,p',rfl,k,r,D,b7 o⟩
    .rw[cq N];exact aJ ⟨q+1,p',rfl,k,r,D.eq (Int.le_antisymm (ko.mp N) (ko.mp c))⟩
  case post=>
   rintro _ t ⟨m,q,p2,rfl,y,e2,D,l⟩;have Y:lo+m<=p2.length:=by rw[y.len];exact aQ (dS l _) d
   have b:=aQ (dZ (bz q)) D.qx;exact uv (qCd lo nrem m q) (λ_=>t8 (qCe lo nrem m q) (zd y λU F e3=>g m q _ U F (e3.trans e2) (D.turn Y).fx (D.turn Y).dg b l)) λ_=>g m q p2 t y e2 D.fx D.dg b l
  .have B:pL (m+1) nrem=nrem:=oV l;exact⟨nrem,q,p',by rw[e];exact dI (λz=>(af,z,q)) B,k,r,by rwa [show pL (qC7 lo nrem m).a (qC7 lo nrem m).b=nrem from B]at D,aq _⟩
 refine wp_asc L S d (aq 1) h1 one_Sg (qC0 lo nrem).e λm b G H J=>uv (qC1 ..) (λe=>aJ (h m st p S rfl b G H (Fx.refl _))) λC=>?_;have C:¬m=nrem:=λe=>C (by rw[e];exact beq_self_eq_true nrem);have v:=J.resolve_left C;have u:=bC G C;have Y:lo+m<=p.length:=by rw[S.len];exact b7 (BI u d).1
 refine uv (qC2 ..) (λP=>t8 (qC3 ..) (zu L S (iH (d7 lo m) (BI u d).1) (BI u d).2 ?_)) λP=>?_
 .by_cases K:kG key p lo<kG key p (lo+m-1)
  .rw[dA K];exact aJ (h m st p S rfl b G H (Fx.refl _))
  .rw[cq K];have a:=H.flat b K;have D:DIr key lo p p m (m-1):=⟨Fx.refl _,a.dg b,gJ (Nat.sub_add_cancel b),a⟩
   have T:=(D.turn Y).lt (by rw[K2 Y D.al,K2 Y D.al];exact v);rw[show lo+m-(m-1+1)=lo by lia]at T;exact t8 (qC5 ..) (zd S λst1 O q1=>j m _ st1 O q1 T.fx T.dg u)
 .have B:m=1:=hZ (oX P) b;subst B;exact j 1 p st S rfl (Fx.refl _) (Dg.step (Al.dg (m:=1) (λi a1 a2=>by grind) (aq 1)) (aq 1) (dW v)) u
end
section
open PySem.W hiding kindOf
variable{s:ao}{f:Nat->bU}{key:Nat->Int}
section
variable(lo m ok k:Nat)
noncomputable def qB0:Lp (binarySort' lo m ok):=⟨rfl⟩
noncomputable def qB1:Lp ((qB0 lo m ok).F k (af,())):=⟨rfl⟩
noncomputable def qB2(x c):Ic ((qB1 lo m ok k).F x c):=⟨rfl⟩
noncomputable def qB3(x c):Bd (qB2 lo m ok k x c).f:=⟨rfl⟩
noncomputable def qB4(l r:Nat):Bd ((qB1 lo m ok k).k (af,l,r)):=⟨rfl⟩
end
section
variable{lo k l x o:Nat}
def bdK(key:Nat->Int)(p:be)(lo k i:Nat):Bool:= !decide (kG key p (lo+k)<kG key p (lo+i))
theorem bdK_f(h:bdK key p lo k x=ae):kG key p (lo+k)<kG key p (lo+x):=by simp_all[bdK]
theorem bdK_t(h:bdK key p lo k x=ag):kG key p (lo+x)<=kG key p (lo+k):=by simp_all[bdK]
def bdK_mo(h:Sg key p lo (lo+k)):MoB (bdK key p lo k) k:=λi j I S e=>by have:=h _ _ (d7 _ _) (dS I _) (ij S _);have:=bdK_t e;simp only[bdK,Bool.not_eq_true',decide_eq_false_iff_not];exact ko.mpr (cY ‹_› this)
theorem Ah(e:¬l>=o):l<=(l+o)/2/\(l+o)/2<o:=ac
theorem bb_kG(I:lo+k<p.length)(S:l<=k)(i:Nat):kG key (bb p (lo+k) (lo+k-(lo+l))) i=if i=lo+l then kG key p (lo+k)else if lo+l<i/\i<=lo+k then kG key p (i-1)else kG key p i:=by
 unfold kG;rw[bb_get I (iG ..),show lo+k-(lo+k-(lo+l))=lo+l by lia];split
 .rfl
 .split<;>rfl
theorem ins_ok(h:Sg key p lo (lo+k))(S:lo+k<p.length)(I:l<=k)(h1:∀i,i<l->bdK key p lo k i=ag)(U:∀i,l<=i->i<k->bdK key p lo k i=ae):Sg key (bb p (lo+k) (lo+k-(lo+l))) lo (lo+(k+1)):=λi j g f e=>by
 rw[bb_kG S I,bb_kG S I];have c:∀i,lo<=i->i<lo+l->kG key p i<=kG key p (lo+k):=λi a b=>by
  have:=bdK_t (h1 (i-lo) ac)
  simp_all
 have g2:∀i,lo+l<=i->i<lo+k->kG key p (lo+k)<kG key p i:=λi a b=>by
  have:=bdK_f (U (i-lo) ac ac)
  grind
 by_cases Y:i=lo+l
 .grind
 .rw[aA Y];by_cases d:j=lo+l
  .grind
  .split<;>split<;>exact h _ _ ac ac ac
theorem ins_fx(I:lo+k<p.length):Fx lo p (bb p (lo+k) (lo+k-(lo+l))):=λi hi=>by rw[bb_get I (iG ..),aA ac,aA ac]
end
theorem L8(L:Ee prog w A E s κ f key n){lo m ok:Nat}{Q:Bool->bo->Prop}(S:SS κ f n st p)(y:lo+m<=n)(h1:1<=ok)(Y:ok<=m)(H:Sg key p lo (lo+ok))(h:∀I p',SS κ f n I p'->bj I=bj st->Sg key p' lo (lo+m)->Fx lo p p'->Q ag I):g8 (aI prog w) A E s (binarySort' lo m ok) Q st:=by
 refine wp_l (qB0 ..) (λk c I=>c=(af,())/\∃p',SS κ f n I p'/\bj I=bj st/\Sg key p' lo (lo+k)/\Fx lo p p') (R:=λc I=>c=(af,())/\∃p',SS κ f n I p'/\bj I=bj st/\Sg key p' lo (lo+m)/\Fx lo p p')
  ⟨rfl,p,S,rfl,by show Sg key p lo (lo+pL ok 1);simp_all,Fx.refl _⟩ ?step (λc I ⟨e,p',e1,e2,e3,e4⟩=>⟨e,p',e1,e2,?_,e4⟩) λc I ⟨e,p',G,e1,e2,e3⟩=>by cases e;exact aJ (h _ _ G e1 e2 e3)
 case step=>
  rintro k _ st1 C d ⟨rfl,p1,j,e1,s1,f1⟩;have g:=aH (ij d _) y;have U:lo+k<p1.length:=by rw[j.len];exact g
  have M:=bdK_mo s1;refine GH (qB1 lo m ok k) (λx c=>c.1=af/\Bn _ k x c.2.1 c.2.2) (R:=λc=>c.1=af/\∃x,Bn (bdK key p1 lo k) k x c.2.1 c.2.2/\c.2.2<=c.2.1) ⟨rfl,bz _,aq _,aq _,λi hi=>bu hi (Nat.not_lt_zero _),λi a b=>bu b (lh a)⟩ (λx c _ _ ⟨t,B⟩ W v o=>?_) (λc ⟨t,B⟩=>⟨t,_,B,Bn.ends B⟩) λ⟨_,l,r⟩ ⟨e,x,B,z⟩=>?_
  .refine uv (qB2 ..) (λe=>aJ (v _ ⟨rfl,x,B,e⟩)) λe=>t8 (qB3 ..) (zu L j g (aH (ij (aH (Ah e).2 B.l2) _) (b7 g)) ?_);have D:aF (kG key p1 (lo+k)<kG key p1 (lo+(c.2.1+c.2.2)/2))= !bdK key p1 lo k ((c.2.1+c.2.2)/2):=by simp[bdK]
   rw[D];cases q:bdK key p1 lo k _ with
   |true=>exact aJ (o _ ⟨rfl,B.up M (Ah e).1 (Ah e).2 q⟩)|false=>exact aJ (o _ ⟨rfl,B.dn M (Ah e).1 (Ah e).2 q⟩)
  .cases e;cases hZ B.l1 z;exact t8 (qB4 ..) (wpS_movS j λu F e2=>aJ ⟨rfl,_,F,e2.trans e1,ins_ok s1 U B.l2 B.y1 B.y2,f1.trans (ins_fx U)⟩)
 rwa [show pL (qB0 lo m ok).a (qB0 lo m ok).b=m from oV (by rw[show(qB0 lo m ok).a=ok from Nat.max_eq_left h1];exact Y)]at e3
end
section
open PySem.W hiding kindOf
variable{s:ao}{f:Nat->bU}{key:Nat->Int}
noncomputable def mkP:Nat->List (be×Nat)->List (Nat×Nat×Nat)
 |_,[]=>[]|a,(l,w)::r=>(a,l.length,w)::mkP (a+l.length) r
noncomputable def flt(gs:List (be×Nat)):be:=(gs.map gE).flatten
def Hy(x y:List (be×Nat)):flt (x++y)=flt x++flt y:=by simp[flt]
theorem vI(g:be×Nat)(y:List (be×Nat)):flt (g::y)=g.1++flt y:=by rfl
theorem yi:∀(x:List (be×Nat)) (a:Nat) (y:List (be×Nat)),mkP a (x++y)=mkP a x++mkP (a+(flt x).length) y
 |[],a,y=>by rfl|(l,w)::x,a,y=>by
  show(a,l.length,w)::mkP _ (x++y)=(a,l.length,w)::(mkP _ x++_)
  rw[yi x,vI,bB,gX]
theorem Du:∀(x:List (be×Nat)) (a:Nat),(mkP a x).length=x.length
 |[],_=>rfl|(l,w)::x,a=>by simp[mkP,Du x]
structure RI(κ:oS)(f:Nat->bU)(key:Nat->Int)(n:Nat)(st:bo)(gs:List (be×Nat))(rest:be):Prop where
 ss:SS κ f n st (flt gs++rest)
 pd:bj st=(mkP 0 gs).toArray
 ok:∀g∈gs,Srt key g.1/\0<g.1.length
theorem RI.size{st:bo}{gs:List (be×Nat)}{rest:be}(h:RI κ f key n st gs rest):(bj st).size=gs.length:=by rw[h.pd];simp[Du]
theorem RI.few:∀{gs:List (be×Nat)},(∀g∈gs,Srt key g.1/\0<g.1.length)->gs.length<=(flt gs).length
 |[],_=>bz _|g::gs,h=>by
  have S:=RI.few λx I=>h x (bH _ I)
  grind[vI,aW]
theorem merge_gs(L:Ee prog w A E s κ f key n){I post:List (be×Nat)}{a b:be}{wa wb:Nat}{Q:Bool->bo->Prop}(R:RI κ f key n st (I++(a,wa)::(b,wb)::post) rest)(hi:i=I.length)(h:∀U m,m.length=a.length+b.length->RI κ f key n U (I++(m,wa)::post) rest->Q ag U):g8 (aI prog w) A E s (oQ i) Q st:=by
 subst hi;have c:=R.ok (a,wa) ad;have Y:=R.ok (b,wb) ad;have q:flt (I++(a,wa)::(b,wb)::post)++rest=flt I++(a++(b++(flt post++rest))):=by rw[Hy,vI,vI];simp
 have p:mkP 0 (I++(a,wa)::(b,wb)::post)=mkP 0 I++((flt I).length,a.length,wa)::((flt I).length+a.length,b.length,wb)::mkP ((flt I).length+a.length+b.length) post:=by rw[yi];simp[mkP]
 have S:=R.ss;rw[q]at S;have d:=R.pd;rw[p]at d;have l:=Du I 0;refine JN L S d (wa:=wa) (wb:=wb) ?_ ?_ c.1 Y.1 c.2 Y.2 λU m pm j r p'=>h U m (by rw[pm.length_eq,bB]) ⟨?_,?_,?_⟩
 .simp_all
 .simp_all
 .simp_all[Hy,vI]
 .rw[p',yi];have k:m.length=a.length+b.length:=by rw[pm.length_eq,bB]
  show _=(mkP 0 I++(0+(flt I).length,m.length,wa)::mkP _ post).toArray;rw[dB,k,lX,<-l,List.set_append_right _ _ (aq _),kH,List.eraseIdxIfInBounds_toArray,List.eraseIdx_append_of_length_le ac,mN,<-gX];rfl
 .intro g o;rcases aZ.mp o with e|e
  .exact R.ok g (cf _ e)
  .rcases aM.mp e with e|e
   .subst e;exact⟨j,by rw[pm.length_eq,bB];lia⟩
   .exact R.ok g (bf _ (bH _ (bH _ e)))
theorem split2{l:List α}(h:i+1<l.length):∃I a b post,l=I++a::b::post/\I.length=i:=by
 refine⟨l.take i,l[i],l[i+1],l.drop (i+2),?_,a0⟩
 simp
def rePw(I:Nat):Nat×Nat×Nat->Nat×Nat×Nat
 |(s,l,_)=>(s,l,I)
theorem RI.last{U:Nat}(h:RI κ f key n st gs rest):∃S,S.length=gs.length/\flt S=flt gs/\RI κ f key n (pK st ((bj st).modify ((bj st).size-1) (rePw U))) S rest:=by
 by_cases e:gs=[]
 .subst e;refine⟨[],rfl,rfl,⟨h.ss.kind,h.ss.ok,h.ss.arr,h.ss.perm⟩,?_,h.ok⟩
  rw[h.pd];rfl
 .obtain⟨I,b,eb⟩:∃I b,gs=I++[b]:=⟨gs.dropLast,gs.getLast e,(List.dropLast_concat_getLast e).symm⟩
  subst eb;obtain⟨b,wb⟩:=b;have Y:flt (I++[(b,U)])=flt (I++[(b,wb)]):=by simp[flt]
  refine⟨I++[(b,U)],ad,Y,⟨h.ss.kind,h.ss.ok,?_,?_⟩,?_,λg d=>?_⟩
  .rw[Y];exact h.ss.arr
  .rw[Y];exact h.ss.perm
  .rw[h.size,h.pd,yi,yi];have a:=Du I 0;apply Array.ext_getElem?;intro i;rw[Array.getElem?_modify];simp[bB,gQ,Nat.add_sub_cancel,List.getElem?_toArray,mkP];by_cases c:I.length=i
   .subst c;rw[aC rfl,<-a,d8 (aq _),d8 (aq _),kH];rfl
   grind
  .rcases aZ.mp d with e|e
   .exact h.ok g (cf _ e)
   .have:=cj.mp e;subst this;exact h.ok (b,wb) ad
theorem RI.push{st:bo}{gs:List (be×Nat)}{I rest:be}(h:RI κ f key n st gs (I++rest))(Y:Srt key I)(a:0<I.length):RI κ f key n (pK st ((bj st).push ((flt gs).length,I.length,0))) (gs++[(I,0)]) rest:=by
 have S:flt (gs++[(I,0)])++rest=flt gs++(I++rest):=by simp[flt]
 refine⟨⟨h.ss.kind,h.ss.ok,?_,?_⟩,?_,λg U=>?_⟩
 .rw[S];exact h.ss.arr
 .rw[S];exact h.ss.perm
 .rw[h.pd,yi];simp[mkP]
 .rcases aZ.mp U with e|e
  .exact h.ok g e
  simp_all
theorem cut_run{I:bo}(R:RI κ f key n st gs rest)(Y:SS κ f n I p')(b:bj I=bj st)(k:(flt gs).length+m<=n)(a:Sg key p' (flt gs).length ((flt gs).length+m))(g:Fx (flt gs).length (flt gs++rest) p'):
  ∃S U,S.length=m/\Srt key S/\RI κ f key n I gs (S++U):=by
 have l:=Y.len;refine⟨(p'.drop (flt gs).length).take m,(p'.drop (flt gs).length).drop m,a0,?_,?_⟩
 .refine eB.mpr λi j hi c d=>?_;simp at hi c;have:=a ((flt gs).length+i) ((flt gs).length+j) ac ac ac
  grind[kG]
 .have e:flt gs++((p'.drop (flt gs).length).take m++(p'.drop (flt gs).length).drop m)=p':=by
   rw[cw];have:p'.take (flt gs).length=flt gs:=by
    apply jc
    .grind
    .intro i h1 h;have:=g i h
     grind
   have e2:=cw (flt gs).length p'
   rwa [this]at e2
  refine⟨by rw[e];exact Y,by rw[b];exact R.pd,R.ok⟩
section
variable(g:bo)(lo m:Nat)
noncomputable def qR0:Bd sortRuns':=⟨rfl⟩
noncomputable def qR1:Lp (qR0.k g):=⟨rfl⟩
noncomputable def qR2:Ic ((qR1 g).F 0 (af,lo)):=⟨rfl⟩
noncomputable def qR3:Bd (qR2 g lo).f:=⟨rfl⟩
noncomputable def qR4:Ic ((qR3 g lo).k (aa m)):=⟨rfl⟩
noncomputable def qR5:Bd (qR4 g lo m).t:=⟨rfl⟩
noncomputable def qR6:Bd ((qR5 g lo m).k ()):=⟨rfl⟩
noncomputable def qR7:Bd (qR4 g lo m).f:=⟨rfl⟩
noncomputable def qR8:Lp ((qR1 g).k (af,lo)):=⟨rfl⟩
noncomputable def qR9:Bd ((qR8 g lo).F 0 (af,())):=⟨rfl⟩
noncomputable def qRa(h):Ic ((qR9 g lo).k h):=⟨rfl⟩
noncomputable def qRb(h):Bd (qRa g lo h).f:=⟨rfl⟩
end
theorem RI.le(R:RI κ f key n st gs rest):(flt gs).length<=n:=by
 have:=R.ss.len
 grind
def ite_le{c:Prop}[oo c]{a b:Nat}(S:a<=k)(I:b<=k):ite c a b<=k:=by split<;>assumption
theorem run_up{l x m:Nat}(c:l<n)(h:x<=l\/l=n)(I:1<=m):x+1<=l+m:=ac
theorem LH{l m:Nat}(c:l<n)(h:m<=n-l):l+m<=n:=ac
theorem two_gs(L:Ee prog w A E s κ f key n){Q:Bool->bo->Prop}(R:RI κ f key n st gs rest)(d:j=i)(hi:i+1<gs.length)(h:∀S I,RI κ f key n S I rest->(flt I).length=(flt gs).length->I.length+1=gs.length->Q ag S):g8 (aI prog w) A E s (oQ j) Q st:=by
 obtain⟨Y,⟨a,wa⟩,⟨b,wb⟩,post,e,c⟩:=split2 hi;subst e;refine merge_gs L R (d.trans c.symm) λU k l g=>h U _ g ?_ ?_
 .simp_all[Hy,vI,gX]
 .simp;rfl
theorem sr_jp(L:Ee prog w A E s κ f key n){Y g:bo}{p2:be}{m:Nat}{W:i7 (Option Unit×Nat)->bo->Prop}(R:RI κ f key n st1 gs rest)(C:SS κ f n Y p2)(q2:bj Y=bj st1)(v:1<=m)(u:(flt gs).length+m<=n)(s2:Sg key p2 (flt gs).length ((flt gs).length+m))(f2:Fx (flt gs).length (flt gs++rest) p2)(B:∀a j S,RI κ f key n a j S->(flt j).length=(flt gs).length+m->W (.yield (af,(flt gs).length+m)) a):g8 (aI prog w) A E s (qR4 g (flt gs).length m).f W Y:=by
 obtain⟨d,S,x,r,p⟩:=cut_run R C q2 u s2 f2;have o:∀U I,RI κ f key n U I (d++S)->(flt I).length=(flt gs).length->g8 (aI prog w) A E s ((modify λs=>pK s ((bj s).push ((flt gs).length,m,0))) >>=λ_=>cO _) W U:=λU I b e=>by
  refine dq (gI (aJ (B _ (I++[(d,0)]) S ?_ ?_)))
  .have:=b.push r (by rw[x];exact v)
   simp_all
  simp_all[flt]
 show g8 _ _ _ _ (match (bj Y).back? with|some (s1,t,_)=>_|_=>_) _ _;rcases(bj Y).back? with _|⟨s1,t,D⟩
 .exact o _ gs p rfl
 .refine wp_l ⟨rfl⟩ (λ_ c a=>c=(af,())/\∃I,RI κ f key n a I _/\(flt I).length=(flt gs).length) ⟨rfl,gs,p,rfl⟩ ?step (λ_ _ h=>h) ?post
  case post=>rintro _ U ⟨rfl,I,b,e⟩;obtain⟨i,_,F,l⟩:=b.last;exact dq (gI (o _ i l a7))
  case step=>
   rintro y _ U _ _ ⟨rfl,I,b,e⟩;refine dq (jM ?_);show g8 _ _ _ _ (match if (bj U).size>1 then(bj U)[(bj U).size-2]? else af with|some (_,_,k)=>_|_=>_) _ _;rw[b.size];split
   .refine uv ⟨rfl⟩ (λ_=>aJ ⟨rfl,I,b,e⟩) λ_=>dq (two_gs L b rfl ac λq i l z _=>aJ ⟨rfl,_,l,z.trans e⟩)
   .exact aJ ⟨rfl,I,b,e⟩
theorem GG(L:Ee prog w A E s κ f key n){Q:Unit->bo->Prop}(S:SS κ f n st (aX n))(N:bj st=#[])(h1:1<=n)(h:∀I p,SS κ f n I p->Srt key p->Q () I):g8 (aI prog w) A E s sortRuns' Q st:=by
 have i:(kT st).size=n:=by rw[S.arr];simp
 refine t8 qR0 (jM ?_);refine wp_l (qR1 st) (λx c I=>∃gs rest,RI κ f key n I gs rest/\c=(af,(flt gs).length)/\(x<=(flt gs).length\/(flt gs).length=n)) (R:=λc I=>∃gs rest,RI κ f key n I gs rest/\c=(af,(flt gs).length)/\(flt gs).length=n)
  ⟨[],aX n,⟨S,N,λ_ h=>bu h cI⟩,rfl,.inl (bz _)⟩ ?step (λc I ⟨gs,rest,R,e,u⟩=>⟨gs,rest,R,e,?_⟩) ?post
 case step=>
  rintro x _ st1 _ u ⟨gs,rest,R,rfl,j⟩;have v:=R.le;refine uv (qR2 st (flt gs).length) (λc=>aJ ⟨gs,rest,R,rfl,hZ v (i▸c)⟩) λc=>?_;have o:(flt gs).length<n:=oW (i▸c);have B:∀m,1<=m->∀I a Y,RI κ f key n I a Y->(flt a).length=(flt gs).length+m->∃a Y,RI κ f key n I a Y/\(af,(flt gs).length+m)=((af,(flt a).length):Option Unit×Nat)/\(x+1<=(flt a).length\/(flt a).length=n):=λm k I a Y W C=>⟨a,Y,W,by rw[C],.inl (by rw[C];exact run_up o j k)⟩
  refine t8 (qR3 ..) (GI L R.ss (gJ a7) (iU a7) λm H p2 F q2 k l s2 f2=>?_);rw[i]at l;refine uv (qR4 st (flt gs).length m) (λD=>t8 (qR5 ..) (ki (eU ⟨rfl,t8 (qR6 ..) (L8 L F ?_ k ?_ s2 λd p3 P K J f3=>?_)⟩))) λ_=>sr_jp L R F q2 k (LH o l) s2 f2 (B m k)
  .exact LH o (i▸pq ..)
  .exact Nat.le_min.mpr ⟨i▸l,b7 D⟩
  .have r:=aQ k (Nat.le_min.mpr ⟨i▸l,b7 D⟩);exact sr_jp L R P (K.trans q2) r (LH o (i▸pq ..)) J (f2.trans f3) (B _ r)
 case post=>
  rintro _ st1 ⟨gs,rest,R,rfl,j⟩;have O:rest=[]:=eS.mp (by have:=R.ss.len;simp_all);subst O;refine wp_l (qR8 st (flt gs).length) (λy c I=>c=(af,())/\∃U,RI κ f key n I U []/\(U.length+y<=n\/U.length<=1)) (R:=λc I=>c=(af,())/\∃U,RI κ f key n I U []/\U.length<=1) ⟨rfl,gs,R,.inl (j▸RI.few R.ok)⟩ ?step1 (λc I ⟨e,U,b,t⟩=>⟨e,U,b,?_⟩) λc d ⟨e,U,b,z⟩=>?_
  case step1=>
   rintro y _ d _ t ⟨rfl,U,b,z⟩;refine t8 (qR9 ..) (jM (uv (qRa ..) (λc=>aJ ⟨rfl,U,b,b.size▸c⟩) λc=>t8 (qRb ..) ?_));have Z:¬U.length<=1:=b.size▸c;refine two_gs L b rfl ?_ λG q T _ X=>aJ ⟨rfl,q,T,.inl ?_⟩
   .have e:=b.size
    lia
   grind
  .have:(U.length+pL 0 (kT st).size<=n\/U.length<=1):=t
   grind
  .cases e;refine aJ (h d (flt U) (by have:=b.ss;simp_all) ?_)
   match U,z,b.ok with
   |[],_,_=>exact dU|[g],_,ok=>simp_all[vI,flt]
 .have v:=R.le;have:pL 0 (kT st).size<=(flt gs).length\/(flt gs).length=n:=u
  lia
end
section
open PySem.W hiding kindOf
variable{s:ao}{key:Nat->Int}
def KR(key:Nat->Int)(vs out:bm):Prop:=∃ps:be,ps.Perm (aX vs.length)/\Srt key ps/\out=ps.map λi=>vs.getD i cA
def ltOk_of(I:∀i j (C:Bool->ao->Prop),i<vs.length->j<vs.length->C (ltK key i j) s->oe prog w A κ vs i j C s):Ee prog w A E s κ (λi=>(vs.getD i cA,vs.getD i cA)) key vs.length:=by intro i j Q st hi U S h;rw[lt'_eq];refine dq (jM ?_);rw[S];refine dq (ki (eV (b9 (I i j (λb s'=>s'=s/\b=ltK key i j) hi U ⟨rfl,rfl⟩) (λb s' Y=>?_) λ_ _ x=>x.elim)));obtain⟨rfl,rfl⟩:=Y;exact⟨rfl,aJ h⟩
theorem Fn{P:nT->ao->Prop}(f:s.heap.get? a=aa (gb "list" vs.toArray n))(G:vs.length<=ay)(C:2<=vs.length->∀h1:bF,(∀b o,b≠a->s.heap.get? b=aa o->h1.get? b=aa o)->Asks prog w A key vs {s with heap:=h1})(h:∀(h':bF) (c:Nat) (out:bm),KR key vs out->(∀b o,b≠a->s.heap.get? b=aa o->h'.get? b=aa o)->h'.get? a=aa (gb "list" out.toArray c)->P (.done (.ret .none)) {s with heap:=h'}):
  aP (aI prog w) A (Builtin.«list.sort» ⟨[.ref a],[]⟩) P E s:=by
 obtain⟨e1,k⟩:∃e1,(s.heap.update a (fj λ_=>(#[]:Array aj))).get? a=aa (gb "list" #[] e1):=⟨_,get?_update_seq f λ_=>#[]⟩
 rw[list_sort_plain];refine ab (listItems_at f rfl (ab (nG f rfl (ab (oP k rfl (ab (mP (ab (ni (c6 ?_) (bz _))) a7)))) a7 (bz _))));have Y:∀b o,b≠a->s.heap.get? b=aa o->(((s.heap.update a (fj λ_=>(#[]:Array aj))).push (gb "tuple" vs.toArray 0)).push (gb "list" #[] 0)).get? b=aa o:=λb o m q=>ah _ (ah _ ((e8 _ _ (bO m)).trans q))
 have U:(((s.heap.update a (fj λ_=>(#[]:Array aj))).push (gb "tuple" vs.toArray 0)).push (gb "list" #[] 0)).get? a=aa (gb "list" #[] e1):=ah _ (ah _ k);dsimp only;have l:∀(out:bm),KR key vs out->P (.done (.ret .none)) {s with heap:=(((s.heap.update a (fj λ_=>(#[]:Array aj))).push (gb "tuple" vs.toArray 0)).push (gb "list" #[] 0)).update a (fj λ_=>out.toArray)}:=λout e=>h _ _ out e (λb o m q=>(e8 _ _ (bO m)).trans (Y b o m q)) (get?_update_seq U λ_=>out.toArray)
 have t:(aX vs.length).map (λi=>vs.getD i cA)=vs:=by
  apply jc
  .simp
  .intro i H D;simp[D]
 by_cases g:vs.toArray.size<2
 .rw[aC g,aC g];refine ab (ai ?_);refine ab (ai ?_);have d:vs.length<2:=by simpa using g
  have e:(kT (ig general' (vs.toArray.zip vs.toArray) #[] 7 af)).map (·.2)=vs.toArray:=by show(vs.toArray.zip vs.toArray).map (·.2)=vs.toArray;apply i8.mp;simp only[Array.toList_map,Array.toList_zip];exact List.map_snd_zip (aq _)
  rw[e];refine ab (oP U rfl (ab (nG U rfl ?_ (bz _) ac)));have e3:kj (ig general' (vs.toArray.zip vs.toArray) #[] 7 af)=af:=rfl;simp only[e3,bne_self_eq_false,iu,ng];refine ai (l vs ⟨aX vs.length,eJ _,?_,t.symm⟩)
  match vs,d with
  |[],_=>exact dU|[x],_=>exact List.pairwise_singleton _ _
 .rw[aA g,aA g];have d:2<=vs.length:=by rw[cx]at g;lia
  refine ab (b9 (C d _ Y) (fun κ F z=>?_) λ_ _ x=>x.elim);obtain⟨es,v⟩:=z;subst es;have ea:vs.toArray.zip vs.toArray=((aX vs.length).map λi=>(vs.getD i cA,vs.getD i cA)).toArray:=by
   apply i8.mp;apply jc
   .simp
   .grind
  have j:=GG (E:=E) (ltOk_of (E:=E) v) (st:=ig κ (vs.toArray.zip vs.toArray) #[] 7 af) (Q:=λ_ I=>kj I=af/\∃out,KR key vs out/\(kT I).map (·.2)=out.toArray) ⟨rfl,rfl,ea,eJ _⟩ rfl ac (λI p S sp=>⟨S.ok,_,⟨p,S.perm,sp,rfl⟩,by rw[S.arr];simp⟩);unfold g8 at j;refine ab (b9 j (λr s' y=>?_) λ_ _ x=>x);obtain⟨⟨⟩,I⟩:=r;obtain⟨es,u,out,f,e⟩:=y;subst es;have u:kj I=af:=u;have e:(kT I).map (·.2)=out.toArray:=e;dsimp only;rw[e];have B:out.length=vs.length:=by obtain⟨ps,h1,_,rfl⟩:=f;rw[az,h1.length_eq,eI]
  refine ab (oP U rfl (ab (nG U rfl ?_ (bz _) a0)));simp only[u,bne_self_eq_false,iu,ng];exact ai (l _ f)
theorem BO{l:av}(f:s.heap.IsList l vs.toArray)(U:vs.length<=ay)(g:2<=vs.length->∀h1:bF,(∀b o,s.heap.get? b=aa o->h1.get? b=aa o)->Asks prog w A.in1.in1 key vs {s with heap:=h1})(h:∀(h':bF) (D:av) (c:Nat) (out:bm),KR key vs out->s.heap.objs.size<=D->(∀b o,s.heap.get? b=aa o->h'.get? b=aa o)->h'.get? D=aa (gb "list" out.toArray c)->Q (.ref D) {s with heap:=h'}):
  aP (aI prog w) A (i0 (.builtin "sorted") [.ref l]) Q E s:=by
 refine lW kind_sorted plain_sorted entry_sorted (args_sorted1 _) ?_;refine ab (ai (ab (collect_list f (ab (ni ?_ ac)) ac)));have a:((s.heap.push (gb "list" #[] 0)).update s.z (fj (·++vs.toArray))).objs.size=s.z+1:=by rw[Heap.size_update,size_push']
 have d:(((s.heap.push (gb "list" #[] 0)).update s.z (fj (·++vs.toArray))).push (gb "list" vs.toArray 0)).get? (s.z+1)=aa (gb "list" vs.toArray 0):=by rw[<-a];exact aw _ rfl
 have I:∀b o,s.heap.get? b=aa o->(((s.heap.push (gb "list" #[] 0)).update s.z (fj (·++vs.toArray))).push (gb "list" vs.toArray 0)).get? b=aa o:=λb o q=>ah _ ((e8 _ _ (cW (aE q))).trans (ah _ q))
 rw[a];have S:∀b o,s.heap.get? b=aa o->b≠s.z+1:=λb o q=>bg (oB (aE q));refine ab (c6 (bh slot_list_sort ⟨_,d,rfl⟩ entry_list_sort (Fn d U (λi h1 Y=>g i h1 λb o q=>Y b o (S b o q) (I b o q)) λh' c out e k' j=>⟨_,rfl,?_⟩) (args_list_sort _)));exact ai ⟨_,rfl,h h' _ c out e (jP _) (λb o q=>k' b o (S b o q) (I b o q)) j⟩
end
section
open PySem.W hiding kindOf
variable{lt:α->α->Bool}
theorem Fb(o:Ord lt)(I:List α)(d:α){ps:be}(h1:ps.Perm (aX I.length))(e:Srt (rk lt I d) ps):ps.map (λi=>I.getD i d)=uy lt I:=by
 refine vx o ?_ ?_ (qU o I)
 .refine(h1.map _).trans ?_;have:(aX I.length).map (λi=>I.getD i d)=I:=by
   apply jc
   .simp
   .intro i f c;simp[c]
  rw[this];exact(o3 I).symm
 .rw[iR];refine ql (λ{a b} Y S U=>?_) e;rw[<-rk_lt o (bA.mp (h1.mem_iff.mp S)) (bA.mp (h1.mem_iff.mp Y))];exact cq ac
variable{W:qE}
theorem Ex(o:Ord lt){s:ao}{Q:VK}{S:List α}{d0:α}{U:α->A0}(I:A3 X A1 σ H s)(u:eH F H)(t:SqL X.K F a xs)(r:ei X.K F (S.map U) xs)(A:∀its:bm,A6 xs its->2<=its.length->∀h1:bF,(∀b o,s.heap.get? b=aa o->h1.get? b=aa o)->Asks X.prog X.w X.A.in1.in1 (rk lt S d0) its {s with heap:=h1})(p:eQ X.K W ag F H (.ok (.lst ((uy lt S).map U))) Q):aP (aI X.prog X.w) X.A (i0 (.builtin "sorted") [.ref a]) (EP X A1 σ Q) X.xe s:=by
 obtain⟨its,g,pl,E⟩:=I.list (u.lst t);have C:=g.length;have y:=r.length;rw[az]at y;refine BO (key:=rk lt S d0) pl.isList ac (λn h1 h=>A its g n h1 h) λh' D c out z x h e=>?_;obtain⟨ps,h1,n,rfl⟩:=z;rw[show its.length=S.length by lia]at h1;have Y:∀i∈ps,i<xs.length:=λi hi=>by grind
 have m:(ps.map λi=>xs.getD i .non).length<=ay:=by rw[az,h1.length_eq,eI];lia
 have l:=vals_map g ps Y;have j:ei X.K F ((uy lt S).map U) (ps.map λi=>xs.getD i .non):=by
  rw[<-Fb o S d0 h1 n,aR];refine ei.of_get ad λk G v f g2=>?_;rw[aV]at f g2;cases ek:ps[k]? with
  |none=>simp_all|some i=>
   rw[ek]at f g2;simp only[gW,g9,om]at f g2;have hi:=Y i (bS ek);obtain⟨w,e1,q⟩:=r.get (i:=i) (d:=U (S[i]'(by omega))) (by simp[show i<S.length by lia]);rw[getD_get (show i<S.length by lia)]at f
   simp_all
 have B:A3 X A1 σ (upd H D (.lst (ps.map λi=>xs.getD i .non))) {s with heap:=h'}:=I.laid (t':=s.toks) h x (show uo _ h' D (.lst _)from⟨m,_,c,l,e⟩);exact⟨.ref D,_,B,rfl,p.lst u j (I.hok.fresh x)⟩
def yc(ds:a9):M A0:=match o4 ds with
 |.ok is=>.ok (.lst ((uy ltZ is).map .int))|.error _=>(vd ds).bind λts=>if (ts.all λt=> !t.isEmpty)=ag then .ok (.lst ((uy Eg ts).map j0))else stk
def sZ:a9->M A0
 |[.lst ds]=>yc ds|_=>stk
def AV(m: ~~~(X.K=K)):B9 K W ag X (.builtin "sorted") sZ:=by
 subst m;intro A1 s σ H xs us Q I l h;obtain⟨F,d,x,s1,e,q,p⟩:=zZ (λds=>by match ds with|[d]=>simp|[]=>exact .inr rfl|a::b::c=>exact .inr (by cases a<;>rfl)) h;subst e;obtain⟨u,rfl,k⟩:=l.one;cases d with
 |lst ds=>
  obtain⟨a,ys,e1,t,r⟩:=q;subst e1;cases k;have p':eQ X.K W ag F H (yc ds) Q:=p;unfold yc at p';cases Y:o4 ds with
  |ok is=>rw[Y]at p';have i:=MN Y;subst i;refine Ex ordZ (d0:=0) I s1 t r (λits f g h1 j=>?_) p';have e2:=ry r Y;subst e2;exact NI (intsAre_of f) g|error z=>
   rw[Y]at p';have p2:=p';cases U:vd ds with
   |error n=>rw[U]at p2;have:=zx U;subst this;exact eQ.stuck p2|ok ts=>
    rw[U]at p2;have i:=zw U;subst i;have p3:eQ X.K W ag F H (if (ts.all λt=> !t.isEmpty)=ag then .ok _ else stk) Q:=p2;by_cases S:(ts.all λt=> !t.isEmpty)=ag
    .rw[aC S]at p3;exact Ex Ma I s1 t r (λits f g h1 j=>NH I s1 r S f g j) p3
    .rw[aA S]at p3;exact eQ.stuck p3
 |_=>exact eQ.stuck p
end
section
open PySem SetTable
end
section
open PySem
end
section
open PySem SetTable
end
section
open PySem.W
end
section
open PySem
structure IK(prog:bL)(w:c8)(κ:Type)[fG κ] where
 is:bF->κ->aj->Prop
 hash:κ->Int
 draws:κ->Nat
 up:Nat
 fuel:Nat
 inj:∀{h:bF} {v:aj} {x y:κ},is h x v->is h y v->x=y
 keeps:∀{h h':bF} {k:κ} {v:aj},is h k v->(∀(a:av) (o:j5) (us:Array aj) (n:Nat),h.get? a=aa o->o.data=.seq us n->h'.get? a=aa o)->is h' k v
 pyHash:∀{A:dD} {E:aj->ao->Prop} {s:ao} {k:κ} {v:aj} {Q:Int->ao->Prop},A.units+up<b_->is s.heap k v->Q (hash k) {s with toks:=s.toks+draws k}->aP (aI prog w) A (kf v) Q E s
 eqBool:∀{A:dD} {E:aj->ao->Prop} {s:ao} {x y:κ} {u v:aj} {Q:Bool->ao->Prop},A.units+up<b_->is s.heap x u->is s.heap y v->Q (aF (x=y)) s->aP (aI prog w) A (hV u v) Q E s
 quiet:∀{A:dD} {E:aj->ao->Prop} {s:ao} {k:κ} {v:aj} {Q:Bool->ao->Prop} (n:Nat),fuel<=n->is s.heap k v->Q ag s->aP (aI prog w) A (nM n v) Q E s
variable{s:ao}
def TupAt(h:bF)(a:av)(us:bm):Prop:=∃o n,h.get? a=aa o/\o.cls=.type "tuple"/\o.data=.seq us.toArray n
def TupAt.ty(h:TupAt s.heap a us):s.TypeIs (.ref a) "tuple":=let ⟨o,_,I,S,_⟩:=h;⟨o,I,S⟩
theorem TupAt.inj(x:TupAt h a us)(y:TupAt h a vs):us=vs:=by
 obtain⟨o,n,Y,_,b⟩:=x;obtain⟨o',U,I,_,S⟩:=y
 simp_all
def TupAt.keep(x:TupAt h a us)(k:∀(a:av) (o:j5) (us:Array aj) (n:Nat),h.get? a=aa o->o.data=.seq us n->h'.get? a=aa o):TupAt h' a us:=
 let ⟨o,n,S,U,I⟩:=x;⟨o,n,k _ _ _ _ S I,U,I⟩
inductive Hs(prog:bL)(w:c8)(A:dD)(h:bF):List aj->List Int->Nat->Prop
 |nil:Hs prog w A h [] [] 0
 |cons {v:aj} {vs:List aj} {i:Int} {is:List Int} {d n:Nat} (hv:∀(E:aj->ao->Prop) (s:ao) (Q:Int->ao->Prop),s.heap=h->Q i {s with toks:=s.toks+d}->aP (aI prog w) A (kf v) Q E s) (r:Hs prog w A h vs is n):Hs prog w A h (v::vs) (i::is) (d+n)
theorem Je{Q:Int->ao->Prop}(p:A.units<b_)(f:TupAt s.heap a us)(hi:Hs prog w A.in1 s.heap us is n)(h:Q (hR (bc is)) {s with toks:=s.toks+(n+1)}):
  aP (aI prog w) A (kf (.ref a)) Q E s:=by
 have S:=f.ty;obtain⟨o,m,q,_,u⟩:=f;unfold kf
 first|unfold pyHashByItsType|skip
 first|refine ab (wpAny_cRoomFor_or (.inr p) ?_)|skip
 refine ab (mx S i_.lookup ?_);show aP _ _ (ite ((aa (Value.builtin "tuple.__hash__")==aa cA)=ag) _ _) Q E s;rw[aA ad];refine ab (mx S i_.lookup ?_);show aP _ _ (callSpecialIfBoundUnlessNone? (.ref a) "__hash__" _ >>= _) Q E s;refine ab (wpAny_callSpecialIfBoundUnlessNone?_slot S i_ (bh i_ S F.entry_tuple_hash ?_ (F.args_tuple_hash_1 _)));show aP _ _ (j7 (.ref a) >>= _) _ _ s;refine ab (gG q u ?_);refine ab ?_;rw[<-nK];refine hI _ (λrest (b:Array Int) s'=>∃I m k,Hs prog w A.in1 s.heap rest I m/\b.toList++I=is/\k+m=n/\s'={s with toks:=s.toks+k}) _ ?_ ?_ _ _ ⟨is,n,0,hi,rfl,ac,rfl⟩
 .rintro x rest b s' ⟨I,m,k,Y,e,t,rfl⟩;cases Y with
  |@cons _ _ i U d j l r=>refine ab (l _ _ _ rfl (ai ⟨U,j,k+d,r,a7,ac,?_⟩));simp[gX]
 .rintro b s' ⟨I,m,k,Y,e,t,rfl⟩;cases Y;rw[b8]at e;have c:k=n:=ac
  subst c;show aP _ _ (retInt (bc b.toList)) _ _ _;rw[e];refine wpAny_ret_mkInt ?_;refine(?_:aP _ _ (ite ((aF (-(2:Int)^63<=bc is)&&aF (bc is<2^63))=ag) _ _) Q E _)
  unfold hR at h;by_cases g:(aF (-(2:Int)^63<=bc is)&&aF (bc is<2^63))=ag
  .rw[aC g]at h ⊢;exact ai (by simp_all[gX])
  .rw[aA g]at h ⊢;exact ab (eU (ai (by simpa[gX] using h)))
inductive Es(prog:bL)(w:c8)(A:dD)(h:bF):List aj->List aj->Bool->Prop
 |nil {us vs:List aj} (e:us=[]\/vs=[]):Es prog w A h us vs ag
 |cons {u v:aj} {us vs:List aj} {b c:Bool} (hv:∀(E:aj->ao->Prop) (s:ao) (Q:Bool->ao->Prop),s.heap=h->Q b s->aP (aI prog w) A (hV u v) Q E s) (r:Es prog w A h us vs c):Es prog w A h (u::us) (v::vs) (b&&c)
theorem Hz{c:Bool}{P:nT->ao->Prop}(t:TupAt s.heap a us)(o:TupAt s.heap b vs)(B:Es prog w A s.heap us vs c)(h:P (.done (.ret (.bool (c&&us.length==vs.length)))) s):
  aP (aI prog w) A (Builtin.«tuple.__eq__» ⟨[.ref a,.ref b],[]⟩) P E s:=by
 have l:=o.ty;obtain⟨K,na,i,_,k⟩:=t;obtain⟨J,nb,g,_,j⟩:=o;show aP _ _ (isInstance _ _ >>= _) _ _ s;refine ab (d9 l jW ?_);refine ab (gG i k (ab (gG g j (ab ?_))));refine hI _ (λrest r s'=>r.1=af/\s'=s/\∃S I Y,rest=List.zip S I/\Es prog w A s.heap S I Y/\Y=c) _ ?_ ?_ _ _ ⟨rfl,rfl,us,vs,c,ad,B,rfl⟩
 .rintro⟨u,v⟩ rest r s' ⟨p,rfl,S,I,Y,n,U,q⟩;cases U with
  |nil e=>
   rcases e with e|e
   .simp_all
   simp_all
  |@cons G F f d D C x m=>
   obtain⟨⟨rfl,rfl⟩,rfl⟩:=n;refine ab (x _ _ _ rfl ?_);cases D with
   |true=>exact ai ⟨rfl,rfl,f,d,C,rfl,m,a7⟩|false=>
    have z:c=ae:=by rw[<-q];rfl
    rw[z]at h;exact ab (ai (ai (ai h)))
 .rintro⟨m,H⟩ s' ⟨p,rfl,S,I,Y,n,U,q⟩;subst p;have y:c=ag:=by
   cases U with
   |nil e=>lia|cons _ _=>simp_all
  rw[y]at h;refine ai ?_;exact h
theorem eq_tup{c:Bool}{Q:Bool->ao->Prop}(Y:A.units<b_)(S:TupAt s.heap a us)(U:TupAt s.heap b vs)(f:Es prog w A.in1 s.heap us vs c)(d:a=b->(c&&us.length==vs.length)=ag)(h:Q (c&&us.length==vs.length) s):
  aP (aI prog w) A (hV (.ref a) (.ref b)) Q E s:=by
 unfold hV
 try with_reducible refine c6 ?_
 by_cases I:(aT a==aT b)=ag
 .rw[aC I];rw[d (by have:=dw I;injection this)]at h;exact ab (eU (ai h))
 .rw[aA I];exact ab (iJ S.ty U.ty mh (bh mh S.ty F.entry_tuple_eq (Hz S U f ⟨_,rfl,(λe=>nomatch e),cU h⟩) (F.args_tuple_eq_2 _ _)) Y)
theorem ET{Q:Bool->ao->Prop}(n:Nat)(U:TupAt s.heap a us)(c:∀v∈us,∀(E:aj->ao->Prop) (Q:Bool->ao->Prop),Q ag s->aP (aI prog w) A (nM n v) Q E s)(h:Q ag s):aP (aI prog w) A (nM (n+1) (.ref a)) Q E s:=by
 have b:=U.ty;obtain⟨o,m,d,_,e⟩:=U;unfold nM;refine ab (mx b mh.lookup ?_);refine ab (d9 b jW ?_);refine ab (eD d e (ab ?_));rw[<-nK];refine hI _ (λrest r s'=>r.1=af/\s'=s/\∀v∈rest,v∈us) _ ?_ ?_ _ _ ⟨rfl,rfl,λv i=>by simp_all⟩
 .rintro v rest r s' ⟨Y,rfl,I⟩;refine ab (c v (I v bW) _ _ ?_);exact ai ⟨rfl,rfl,λu S=>I u (bH _ S)⟩
 .rintro⟨g,f⟩ s' ⟨Y,rfl,_⟩;subst Y;exact ai h
end
section
open PySem
variable{κ μ:Type}[fG κ][fG μ]
inductive Bb{α β:Type}(R:α->β->Prop):List α->List β->Prop
 |nil:Bb R [] []
 |cons {x:α} {y:β} {xs:List α} {ys:List β} (h:R x y) (t:Bb R xs ys):Bb R (x::xs) (y::ys)
def Bb.imp{R S:α->β->Prop}(f:∀x y,R x y->S x y){xs:List α}{ys:List β}(h:Bb R xs ys):Bb S xs ys:=by
 induction h with
 |nil=>exact .nil|cons h _ I=>exact .cons (f _ _ h) I
theorem Bb.mem{R:α->β->Prop}{xs:List α}{ys:List β}(h:Bb R xs ys):∀y∈ys,∃x,R x y:=by
 induction h with
 |nil=>simp|cons h _ I=>grind
def KW(prog:bL)(w:c8):IK prog w Int where
 is:=λ_ k v=>∃t,v=.int k t
 hash:=pS
 draws:=λ_=>1
 up:=0
 fuel:=0
 inj:=λ⟨t,e⟩ ⟨u,f⟩=>by lia
 keeps:=λh _=>h
 pyHash:=λ_ ⟨t,e⟩ h=>by subst e;exact(n9 prog w).pyHash (pF _ _ _ _) h
 eqBool:=λ_ ⟨t,e⟩ ⟨u,f⟩ h=>by subst e f;exact(n9 prog w).eqBool (pF _ _ _ _) (pF _ _ _ _) h
 quiet:=λn _ ⟨t,e⟩ h=>by subst e;rw[eqIsQuiet_byValue n rfl];exact ai h
theorem hs_all(I:IK prog w κ){A:dD}{h:bF}(S:A.units+I.up<b_):∀{ks:List κ} {us:bm},Bb (I.is h) ks us->Hs prog w A h us (ks.map I.hash) ((ks.map I.draws).sum)
 |_,_,.nil=>.nil|_,_,.cons q t=>.cons (λE s Q e U=>I.pyHash S a7 U) (hs_all I S t)
theorem es_all(I:IK prog w κ){A:dD}{h:bF}(S:A.units+I.up<b_):∀{ks ls:List κ} {us vs:bm},Bb (I.is h) ks us->Bb (I.is h) ls vs->∃c,Es prog w A h us vs c/\(c&&us.length==vs.length)=aF (ks=ls)
 |_,_,_,_,.nil,.nil=>⟨ag,.nil (.inl rfl),ad⟩|_,_,_,_,.nil,.cons q t=>⟨ag,.nil (.inl rfl),ad⟩|_,_,_,_,.cons q t,.nil=>⟨ag,.nil (.inr rfl),ad⟩|k::ks,l::ls,_,_,.cons q t,.cons Y t'=>by
  obtain⟨c,e,a⟩:=es_all I S t t';refine⟨aF (k=l)&&c,.cons (λE s Q e U=>I.eqBool S a7 a7 U) e,?_⟩
  grind
theorem HS(I:IK prog w κ){h:bF}:∀{ks ls:List κ} {us:bm},Bb (I.is h) ks us->Bb (I.is h) ls us->ks=ls
 |_,_,_,.nil,.nil=>rfl|_,_,_,.cons q t,.cons S t'=>by rw[I.inj q S,HS I t t']
def tupI(I:IK prog w κ):IK prog w (List κ) where
 is:=λh ks v=>∃a us,v=.ref a/\TupAt h a us/\Bb (I.is h) ks us
 hash:=λks=>hR (bc (ks.map I.hash))
 draws:=λks=>(ks.map I.draws).sum+1
 up:=I.up+1
 fuel:=I.fuel+1
 inj:=λ⟨a,us,e,t,q⟩ ⟨b,vs,f,t',S⟩=>by rw[e]at f;cases f;have:=t.inj t';subst this;exact HS I q S
 keeps:=λ⟨a,us,e,t,q⟩ k=>⟨a,us,e,t.keep k,q.imp λ_ _ z=>I.keeps z k⟩
 pyHash:=λ{A E s k v Q} g ⟨a,us,e,t,q⟩ h=>by subst e;exact Je ac t (hs_all I (A:=A.in1) ac q) h
 eqBool:=λ{A E s x y u v Q} g ⟨a,us,e,t,q⟩ ⟨b,vs,f,t',S⟩ h=>by subst e f;obtain⟨c,es,Y⟩:=es_all I (A:=A.in1) ac q S;rw[<-Y]at h;refine eq_tup ac t t' es (λe=>?_) h;subst e;have:=t.inj t';subst this;rw[Y,HS I q S];simp
 quiet:=λ{A E s k v Q} n j ⟨a,us,e,t,q⟩ h=>by
  subst e;obtain⟨m,rfl⟩:∃m,n=m+1:=⟨n-1,ac⟩
  refine ET m t (λv d E Q i=>?_) h;obtain⟨k',U⟩:=q.mem v d;exact I.quiet m ac U i
def pairI(I:IK prog w κ)(J:IK prog w μ):IK prog w (κ×μ) where
 is:=λh k v=>∃a Y U,v=.ref a/\TupAt h a [Y,U]/\I.is h k.1 Y/\J.is h k.2 U
 hash:=λk=>hR (bc [I.hash k.1,J.hash k.2])
 draws:=λk=>I.draws k.1+(J.draws k.2+0)+1
 up:=pL I.up J.up+1
 fuel:=pL I.fuel J.fuel+1
 inj:=λ{h v x y} ⟨a,Y,U,e,t,q1,q2⟩ ⟨b,d,c,f,t',p1,p2⟩=>by rw[e]at f;cases f;have:=t.inj t';simp only[kn,and_true]at this;obtain⟨rfl,rfl⟩:=this;exact kx (I.inj q1 p1) (J.inj q2 p2)
 keeps:=λ⟨a,Y,U,e,t,q1,q2⟩ k=>⟨a,Y,U,e,t.keep k,I.keeps q1 k,J.keeps q2 k⟩
 pyHash:=λ{A E s k v Q} j ⟨a,Y,U,e,t,q1,q2⟩ h=>by subst e;exact Je ac t (.cons (λE s' Q e S=>I.pyHash (A:=A.in1) ac a7 S) (.cons (λE s' Q e S=>J.pyHash (A:=A.in1) ac a7 S) .nil)) h
 eqBool:=λ{A E s x y u v Q} j ⟨a,Y,U,e,t,q1,q2⟩ ⟨b,d,c,f,t',p1,p2⟩ h=>by
  subst e f;have i:((aF (x.1=y.1)&&(aF (x.2=y.2)&&ag))&&[Y,U].length==[d,c].length)=aF (x=y):=by obtain⟨q,p⟩:=x;obtain⟨o,l⟩:=y;simp[Prod.mk.injEq]
  rw[<-i]at h;refine eq_tup ac t t' (.cons (λE s' Q e S=>I.eqBool (A:=A.in1) (by show A.units+1+I.up<b_;lia) a7 a7 S) (.cons (λE s' Q e S=>J.eqBool (A:=A.in1) (by show A.units+1+J.up<b_;lia) a7 a7 S) (.nil (.inl rfl)))) (λe=>?_) h;subst e;have:=t.inj t';simp only[kn,and_true]at this;obtain⟨rfl,rfl⟩:=this;rw[i,kx (I.inj q1 p1) (J.inj q2 p2)];simp
 quiet:=λ{A E s k v Q} n r ⟨a,Y,U,e,t,q1,q2⟩ h=>by
  subst e;obtain⟨m,rfl⟩:∃m,n=m+1:=⟨n-1,ac⟩
  refine ET m t (λv g E Q S=>?_) h;simp only[aM,cI,or_false]at g;rcases g with e|e
  .subst e;exact I.quiet m ac q1 S
  .subst e;exact J.quiet m ac q2 S
def heapI(I:IK prog w κ)(i:I.fuel<=8):oN prog w κ where
 is:=λh k a=>I.is h k (.ref a)
 hash:=I.hash
 draws:=I.draws
 room:=λA=>A.units+I.up<b_
 inj:=λU S=>I.inj U S
 keeps:=λ{h h' k a d o es ep} x l m f=>I.keeps x λb j us n g p=>by
  rw[f.2 b λe=>?_]
  .exact g
  simp_all
 pyHash:=λY c h=>I.pyHash Y c h
 eqBool:=λY U S h=>I.eqBool Y U S h
 quiet:=λc h=>I.quiet 8 i c h
def labI(prog:bL)(w:c8):IK prog w LK:=pairI (KW prog w) (tupI (tupI (KW prog w)))
end
abbrev lKind(P:bL)(w:c8):oN P w LK:=heapI (labI P w) (by show pL 0 (0+1+1)+1<=8;decide)
def y8.map(s:∀b xs,SqT K F b xs->SqT K F' b xs){k:LK}(h:y8 K F b k):y8 K F' b k:=
 let ⟨r,a,Y,U,l,S⟩:=h;⟨r,a,s _ _ Y,s _ _ U,l,λj I c e1 e2=>s _ _ (S j I c e1 e2)⟩
noncomputable def putL(ks:bv)(k:LK):bv:=if k∈ks then ks else ks++[k]
noncomputable def D4(xs:List (LK×av))(k:LK)(b:av):List (LK×av):=if k∈xs.map (·.1)then xs else xs++[(k,b)]
def Ka(xs:List (LK×av))(k:LK)(b:av):(D4 xs k b).map (·.1)=putL (xs.map (·.1)) k:=by unfold D4 putL;split<;>simp
def LR{xs:List (LK×av)}{k:LK}{x:LK×av}(h:x∈D4 xs k b):x∈xs\/x=(k,b):=by
 unfold D4 at h;split at h
 .exact .inl h
 .simpa using h
def LS(xs:List (LK×av))(k:LK)(b:av):(D4 xs k b).length<=xs.length+1:=by unfold D4;split<;>simp
noncomputable def enL(x:LK×av):LK×av×aj:=(x.1,x.2,.bool ag)
def Jp(xs:List (LK×av)):(xs.map enL).map (·.1)=xs.map (·.1):=by rw[aR];rfl
def atL(xs:List (LK×av))(k:LK):(jT (xs.map enL) k).isSome=aF (k∈xs.map (·.1)):=by
 unfold jT;rw[j9,hG,oj];simp only[bp,eA];constructor
 .rintro⟨x,⟨y,I,rfl⟩,e⟩;exact⟨y,I,e⟩
 .rintro⟨y,I,e⟩;exact⟨enL y,⟨y,I,rfl⟩,e⟩
def storedL(xs:List (LK×av))(k:LK)(b:av):mJ (xs.map enL) k b (.bool ag)=(D4 xs k b).map enL:=by
 unfold mJ D4;rw[atL];by_cases h:k∈xs.map (·.1)
 .rw[dA h,aC h];rw[aR];refine bM λx _=>?_;show pR k _ _=enL x;unfold pR;split<;>rfl
 .rw[cq h,aA h];simp[enL]
section
variable{s:ao}{xs:List (LK×av)}{k:LK}
def Ie(I:A3 X A1 σ H s){vs:bi}(h:SqT X.K H b vs):∃us,A6 vs us/\TupAt s.heap b us:=by obtain⟨its,r,⟨o,h1,U,n,S⟩,_⟩:=I.tuple h;exact⟨its,r,o,n,h1,U,S⟩
theorem Jd:∀{I:a8} {us:bm} {h:bF},A6 (I.map V.int) us->Bb ((KW X.prog X.w).is h) I us
 |[],_,_,.nil=>.nil|i::I,_,_,.cons r t=>.cons r (Jd t)
def row_at(I:A3 X A1 σ H s){S:a8}(h:SqT X.K H b (S.map V.int)):(tupI (KW X.prog X.w)).is s.heap S (.ref b):=by obtain⟨us,r,t⟩:=Ie I h;exact⟨b,us,rfl,t,Jd r⟩
theorem Iw(I:A3 X A1 σ H s):∀{rows:List a8} {U:List av} {us:bm},A6 (U.map V.ref) us->U.length=rows.length->(∀(j:Nat) (S:a8) (c:av),rows[j]?=aa S->U[j]?=aa c->SqT X.K H c (S.map V.int))->Bb ((tupI (KW X.prog X.w)).is s.heap) rows us
 |[],[],_,.nil,_,_=>.nil|[],_::_,_,_,l,_=>by simp at l|_::_,[],_,_,l,_=>by simp at l|S::rows,c::U,_,.cons r t,l,h=>by cases(show _=aT c from r);exact .cons (row_at I (h 0 S c rfl rfl)) (Iw I t (by simpa using l) λj S c e1 e2=>h (j+1) S c e1 e2)
def Hn(I:A3 X A1 σ H s)(h:y8 X.K H b k):(lKind X.prog X.w).is s.heap k b:=by obtain⟨r,m,f,e,l,d⟩:=h;obtain⟨us,g,c⟩:=Ie I f;obtain⟨vs,U,S⟩:=Ie I e;obtain⟨a,Y,rfl,j,i⟩:=g.two;cases(show Y=aT r from i);exact⟨b,a,.ref r,rfl,c,j,r,vs,rfl,S,Iw I U l d⟩
def LabsAt(K:Fg)(H:Hp)(xs:List (LK×av)):Prop:=∀x∈xs,y8 K H x.2 x.1
def N9{xs:List (LK×av)}(z:KU h a xs ep):uo H h a (NO a xs ep):=by
 have S:=z;obtain⟨h1,l,k,o,es,Y,j⟩:=z;refine⟨S,⟨o,Y⟩,λ_ _ U e=>?_⟩
 obtain⟨i,g2,g,o',I,f,d,c,b⟩:=U;exact⟨i,g2,g,o',I,e _ f,d,c,b⟩
def dil_ok(I:A3 X A1 σ H s)(e:H a=aa (NO a xs ep)):KU s.heap a xs ep:=(show KU s.heap a xs ep/\_ from I.hok a _ e).1
def dil_at(I:A3 X A1 σ H s)(e:H a=aa (NO a xs ep))(z:LabsAt X.K H xs):(a==bT)=ae/\xs.length<=ay/\s.heap.DictOfH (lKind X.prog X.w) a (xs.map enL):=by
 obtain⟨c,b,Y,o,es,h1,g,f,d⟩:=dil_ok I e;refine⟨c,b,o,es,ep,h1,g,f,?_,λq U=>?_,by rw[Jp];exact Y⟩
 .rw[d,aR];rfl
 .obtain⟨x,S,rfl⟩:=bp.mp U;exact Hn I (z x S)
def dilOk_of(d:h.DictOfH (lKind P w) a (xs.map enL))(U:(a==bT)=ae)(S:xs.length<=ay):∃ep,KU h a xs ep:=by
 obtain⟨o,es,ep,h1,c,b,Y,_,I⟩:=d;rw[Jp]at I;refine⟨ep,U,S,I,o,es,h1,c,b,?_⟩
 rw[Y,aR];rfl
def A3.dil{ys:List (LK×av)}{t':Nat}(I:A3 X A1 σ H s)(e:H a=aa (NO a xs ep))(S:dG a s.heap h')(z:KU h' a ys ep'):A3 X A1 σ (upd H a (NO a ys ep')) {s with heap:=h',toks:=t'}:=
 I.write (by rw[e];exact gz) (.inl rfl) (λc q U w=>(S.2 c U).trans w) (let ⟨_,_,_,o,_,w,_,_,_⟩:=z;⟨o,w⟩) (N9 z)
theorem lroom(I:A.units+64<b_):(lKind X.prog X.w).room A.in1:=by show A.units+1+3<b_;lia
end
def tNewL:TE:=λ_ H Q=>∀p,H p=af->Q (.ref p) (upd H p (NO p [] 0))
def sPutT(K:Fg)(td ty tv:TE):TS:=λD σ H=>tv σ H λv H1=>td σ H1 λx H2=>ty σ H2 λy I=>∃a b k xs ep,v=.bl ag/\x=.ref a/\y=.ref b/\I a=aa (NO a xs ep)/\LabsAt K I xs/\y8 K I b k/\xs.length<ay/\∀ep',D.nx σ (upd I a (NO a (D4 xs k b) ep'))
section
variable{o i:bX}{ty:TE}
def pe_newL:PE X (.Dict [] [] pos) tNewL:=λA1 s σ H Q I h=>l_ ⟨.ref s.heap.objs.size,_,I.laid (a:=s.heap.objs.size) (o:=NO s.heap.objs.size [] 0) (t':=s.toks) (λ_ _ q=>ah _ q) (aq _) (N9 (⟨mw.mpr (bO (bg I.big)),bz _,gF,_,#[],aw _ rfl,⟨rfl,rfl,rfl⟩,rfl,rfl⟩)),rfl,h _ (I.hok.fresh (aq _))⟩
theorem ps_putT(n:X.A.units+64<b_)(q:PE X o td)(hi:PE X i ty)(m:PE X value tv)(p:dJ value (aa (.Subscript o i pos')) pos.line X.env=cO ae):PS X (.Assign [.Subscript o i pos'] value pos) (sPutT X.K td ty tv):=by intro A1 s σ H D I h;refine jG (A7 (m A1 s σ H _ I h) λr s1 S=>?_) p;obtain⟨v,H1,F,f,q1⟩:=S;refine A7 (q A1 s1 σ H1 _ F q1) λu s2 S=>?_;obtain⟨x,H2,E,e,q2⟩:=S;refine A7 (hi A1 s2 σ H2 _ E q2) λj G S=>?_;obtain⟨y,K,c,d,a,b,k,xs,ep,ev,ex,B,ea,w,t,J,g⟩:=S;subst ev ex B;cases(show u=aT a from e);cases(show j=aT b from d);cases(show r=lJ ag from f);obtain⟨A,l,C⟩:=dil_at c ea w;refine kZ (hsz:=by rw[az];exact l) (lroom n) (Hn c t) C λh' U Y=>?_;rw[storedL]at U;obtain⟨ep',z⟩:=dilOk_of U A (by have:=LS xs k b;lia);exact⟨σ,_,c.dil ea Y z,g ep'⟩
end
def Ko:A0->M LK
 |.tup [.int c,.tup I]=>(vd I).bind λrows=>.ok (c,rows)|_=>stk
def hC(k:LK):A0:=.tup [.int k.1,.tup (k.2.map j0)]
theorem MB{k:LK}(h:Ko d=.ok k):d=hC k:=by
 unfold Ko at h;split at h
 .rename_i c I;cases e:vd I with
  |error x=>simp_all|ok rows=>rw[e]at h;cases h;rw[zw e];rfl
 .cases h
theorem J7{e:Err}(h:Ko d=.error e):e=.stuck:=by
 unfold Ko at h;split at h
 .rename_i c I;cases e1:vd I with
  |error x=>rw[e1]at h;cases h;exact zx e1|ok rows=>simp_all
 .cases h;rfl
theorem El{K:Fg}{F:Hp}:∀{rows:List a8} {ys:bi},ei K F (rows.map j0) ys->∃U:List av,ys=U.map V.ref/\U.length=rows.length/\∀(j:Nat) (I:a8) (c:av),rows[j]?=aa I->U[j]?=aa c->SqT K F c (I.map V.int)
 |[],_,h=>⟨[],h,rfl,λj I c e=>by simp⟩|I::rows,_,⟨v,vs,e,⟨b,xs,ev,t,z⟩,r⟩=>by
  obtain⟨U,e1,l,h⟩:=El r;have Y:=ry z (sf _);subst Y;refine⟨b::U,a7,by simp[l],λj S c q1 q2=>?_⟩
  cases j with
  |zero=>cases q1;cases q2;exact t|succ j=>exact h j S c q1 q2
def MC{k:LK}(h:Ko d=.ok k)(q:i1 K F d v):∃b,v=.ref b/\y8 K F b k:=by have:=MB h;subst this;obtain⟨b,xs,e,t,Y,U,e1,q1,i,I,e2,⟨r,ys,f,a,S⟩,e3⟩:=q;cases(show Y=V.int k.1 from q1);subst f;cases(show I=[]from e3);subst e2 e1;obtain⟨g,eb,l,c⟩:=El S;subst eb;exact⟨b,e,r,g,t,a,l,c⟩
noncomputable def FY(ρ:df)(i:Nat):M bv:=match ρ[i]? with
 |some (aa (.dil ks))=>.ok ks|_=>.error .stuck
def Jr{ks:bv}(h:FY ρ i=.ok ks):ρ[i]?=aa (aa (.dil ks)):=by
 unfold FY at h;split at h
 .cases h;assumption
 .cases h
def Na{e:Err}(h:FY ρ i=.error e):e=.stuck:=by
 unfold FY at h;split at h
 .cases h
 .cases h;rfl
noncomputable def isTr:A0->Bool
 |.bl ag=>ag|_=>ae
def zP(i:Nat)(fk fv:df->M A0):df->M A4:=λρ=>(fv ρ).bind λd=>(FY ρ i).bind λks=>(fk ρ).bind λI=>(Ko I).bind λk=>if (isTr d&&aF (ks.length<ay))=ag then .ok (.nx (ρ.set i (aa (.dil (putL ks k)))))else .error .stuck
section
variable{W:qE}{D:Ends}
theorem rs_putT(hi:i∈O)(t:tS K W ro F0 H0 OL O O (zP i fk fv) D σ H):sPutT K (wj i) (tD K W ae fk) (tD K W ae fv) D σ H:=by
 obtain⟨FB,F,ρ,r,p⟩:=t;refine eu r.wm r.tG (λe h=>p.vk (r.freeze ad).st (by unfold zP;rw[h];rfl)) λd o v F1 H1 s1 q=>?_;have y:zP i fk fv ρ=(FY ρ i).bind λks=>(fk ρ).bind λY=>(Ko Y).bind λk=>if (isTr d&&aF (ks.length<ay))=ag then .ok (.nx (ρ.set i (aa (.dil (putL ks k)))))else .error .stuck:=by unfold zP;rw[o];rfl
 rw[y]at p;cases U:FY ρ i with
 |error e=>have:=Na U;subst this;exact p.stuck (by rw[U];rfl)|ok ks=>
  rw[U]at p;have p1:=p;have S:=r.u9 s1;obtain⟨B,e2,a,xs,ev,⟨ep,s⟩,_,_,z⟩:=S.ow i _ (Jr U) hi;subst ev;refine⟨.ref a,e2,?_⟩
  refine eu S.wm S.tG (λe h=>p1.vk (S.freeze ad).st (by rw[h];rfl)) λY n w C H2 s2 q2=>?_;rw[n]at p1;have p2:tM K W ro F0 H0 FB OL O D ((Ko Y).bind λk=>if (isTr d&&aF _)=ag then .ok _ else .error .stuck):=p1;cases I:Ko Y with
  |error e=>have:=J7 I;subst this;exact p2.stuck (by rw[I];rfl)|ok k=>
   rw[I]at p2;have p3:tM K W ro F0 H0 FB OL O D (if (isTr d&&aF (ks.length<ay))=ag then .ok (.nx (ρ.set i (aa (.dil (putL ks k)))))else .error .stuck):=p2;by_cases c:(isTr d&&aF (ks.length<ay))=ag
   .rw[aC c]at p3;simp at c;have A:d=.bl ag:=by
     have h1:=c.1;unfold isTr at h1;split at h1
     .rfl
     .lia
    subst A;cases(show v=V.bl ag from q);obtain⟨b,rfl,t⟩:=MC I q2;have f:=S.u9 s2;have j:=z.mono (S.sN s2);have m:=t.map (S.C1 s2);have l:xs.length=ks.length:=by rw[<-z.1,az]
    refine⟨a,b,k,xs,ep,rfl,rfl,rfl,s2.hh _ _ s,λx g=>(j.2 x g).mono f.st.fh,m.mono f.st.fh,a7,λep'=>p3 σ _ _ (f.HY hi (Jr U) rfl e2 λf0 u=>⟨a,_,rfl,⟨ep',dy⟩,f0,u,?_,λx g=>?_⟩)⟩
    .rw[Ka,z.1]
    .rcases LR g with e|e
     .exact j.2 x e
     simp_all
   .rw[aA c]at p3;exact p3.stuck rfl
end
section
variable{W:qE}{p:lj}
def de_newL:DE K W ag X (.Dict [] [] pos) (fC (.dil [])):=pe_newL.imp λσ H Q h=>by obtain⟨F,ρ,r,s,q⟩:=h;exact λa I=>q _ F _ (A2.grow s I) ⟨a,[],rfl,⟨0,dy⟩,s.free I,I,rfl,λx S=>bu S cI⟩
def ds_putT(U:X.A.units+64<b_)(b:DE K W ae X ek fk)(c:DE K W ae X ev fv)(a:(i∈O)⁻¹)(e: ~~~(X.N[i]?=aa x))(S:autoParam (Vis X.env.scope x) Jq5)(d:((x==("__debug__":br))=ae)⁻¹)(I:((x==("__classdict__":br))=ae)⁻¹)(f: ~~~(X.K=K))(Y: ~~~(dJ ev (aa (.Subscript (.Name x p) ek pos')) pos.line X.env=cO ae)):DS K W ro X OL O O (.Assign [.Subscript (.Name x p) ek pos'] ev pos) (zP i fk fv):=λF0 H0=>by subst f;exact PS.imp (ps_putT U (pv i e S d I) b c Y) λ_ _ _=>rs_putT a
end
section
open PySem
variable{s:ao}
inductive Ls(prog:bL)(w:c8)(A:dD)(h:bF):List aj->List aj->Bool->Prop
 |nil {us vs:List aj} (e:us=[]\/vs=[]):Ls prog w A h us vs (aF (us.length<vs.length))
 |eq {u v:aj} {us vs:List aj} {c:Bool} (hv:∀(E:aj->ao->Prop) (s:ao) (Q:Bool->ao->Prop),s.heap=h->Q ag s->aP (aI prog w) A (hV u v) Q E s) (r:Ls prog w A h us vs c):Ls prog w A h (u::us) (v::vs) c
 |ne {u v:aj} {us vs:List aj} {c:Bool} (hv:∀(E:aj->ao->Prop) (s:ao) (Q:Bool->ao->Prop),s.heap=h->Q ae s->aP (aI prog w) A (hV u v) Q E s) (hl:∀(E:aj->ao->Prop) (s:ao) (Q:aj->ao->Prop),s.heap=h->Q (.bool c) s->aP (aI prog w) A (richCompare .Lt u v) Q E s):Ls prog w A h (u::us) (v::vs) c
theorem Hm{c:Bool}{P:nT->ao->Prop}(o:TupAt s.heap a us)(m:TupAt s.heap b vs)(t:Ls prog w A s.heap us vs c)(h:P (.done (.ret (.bool c))) s):
  aP (aI prog w) A (Builtin.«tuple.__lt__» ⟨[.ref a,.ref b],[]⟩) P E s:=by
 have k:=m.ty;obtain⟨B,na,g,_,j⟩:=o;obtain⟨z,nb,f,_,i⟩:=m;show aP _ _ (isInstance _ _ >>= _) _ _ s;refine ab (d9 k jW ?_);refine ab (gG g j (ab (gG f i (ab ?_))));refine hI _ (λrest r s'=>r.1=af/\s'=s/\∃S I,rest=List.zip S I/\Ls prog w A s.heap S I c/\S.length+vs.length=us.length+I.length) _ ?_ ?_ _ _ ⟨rfl,rfl,us,vs,ad,t,rfl⟩
 .rintro⟨u,v⟩ rest r s' ⟨n,rfl,S,I,Y,U,q⟩;cases U with
  |nil e=>
   rcases e with e|e
   .simp_all
   simp_all
  |eq d l=>obtain⟨⟨rfl,rfl⟩,rfl⟩:=Y;refine ab (d _ _ _ rfl ?_);exact ai ⟨rfl,rfl,_,_,rfl,l,a0⟩
  |ne d x=>obtain⟨⟨rfl,rfl⟩,rfl⟩:=Y;refine ab (d _ _ _ rfl ?_);refine ab (eU (ab (x _ _ _ rfl ?_)));exact ab (ai (ai (ai h)))
 .rintro⟨l,y⟩ s' ⟨n,rfl,S,I,Y,U,q⟩;subst n;have p:c=aF (us.length<vs.length):=by
   cases U with
   |nil e=>lia|eq _ _=>simp_all|ne _ _=>simp_all
  rw[p]at h;refine ai ?_;exact h
def LtI{κ:Type}[fG κ](I:IK prog w κ)(lt:κ->κ->Bool):Prop:=∀{A:dD} {E:aj->ao->Prop} {s:ao} {x y:κ} {u v:aj} {Q:aj->ao->Prop},A.units+I.up<b_->I.is s.heap x u->I.is s.heap y v->Q (.bool (lt x y)) s->aP (aI prog w) A (richCompare .Lt u v) Q E s
noncomputable def Ba{κ:Type}[fG κ](lt:κ->κ->Bool):List κ->List κ->Bool
 |x::xs,y::ys=>if x=y then Ba lt xs ys else lt x y
 |xs,ys=>aF (xs.length<ys.length)
def int_lt:LtI (KW prog w) λx y=>aF (x<y):=λ_ ⟨t,e⟩ ⟨u,f⟩ h=>by subst e f;exact nW h
theorem ls_all{κ:Type}[fG κ](I:IK prog w κ){lt:κ->κ->Bool}(a:LtI I lt){h:bF}(U:A.units+I.up<b_):∀{ks ls:List κ} {us vs:bm},Bb (I.is h) ks us->Bb (I.is h) ls vs->Ls prog w A h us vs (Ba lt ks ls)
 |_,_,_,_,.nil,.nil=>.nil (.inl rfl)|_,_,_,_,.nil,@Bb.cons _ _ _ y v ys vs q t=>by
  have e:Ba lt [] (y::ys)=aF (([]:bm).length<(v::vs).length):=by simp[Ba]
  exact .nil (.inl rfl)
 |_,_,_,_,@Bb.cons _ _ _ x u xs us q t,.nil=>by
  have e:Ba lt (x::xs) []=aF ((u::us).length<([]:bm).length):=by simp[Ba]
  exact .nil (.inr rfl)
 |_,_,_,_,@Bb.cons _ _ _ x u xs us q t,@Bb.cons _ _ _ y v ys vs q2 b=>by
  show Ls prog w A h _ _ (if x=y then Ba lt xs ys else lt x y);by_cases e:x=y
  .rw[aC e];exact .eq (λE s Q S Y=>I.eqBool U (by rw[S];exact q) (by rw[S];exact q2) a7) (ls_all I a U t b)
  .rw[aA e];exact .ne (λE s Q S Y=>I.eqBool U (by rw[S];exact q) (by rw[S];exact q2) a7) λE s Q S Y=>a U a7 a7 Y
theorem tup_lt{κ:Type}[fG κ]{I:IK prog w κ}{lt:κ->κ->Bool}(f:LtI I lt):LtI (tupI I) (Ba lt):=λ{A E s x y u v Q} Y ⟨a,us,e1,S,d⟩ ⟨b,vs,e2,U,c⟩ h=>by subst e1 e2;have Y:A.units+(I.up+1)<b_:=Y;exact iJ S.ty U.ty pX (bh pX S.ty F.entry_tuple_lt (Hm S U (ls_all I f ac d c) ⟨_,rfl,(λe=>nomatch e),h⟩) (F.args_tuple_lt_2 _ _)) ac
end
theorem M9{κ:Type}[fG κ]{lt:κ->κ->Bool}(o:Ord lt):Ord (Ba lt):=by
 refine⟨λa=>?_,λa b c=>?_,λa b=>?_⟩
 .induction a with
  |nil=>rfl|cons x xs S=>simp[Ba,S]
 .induction a generalizing b c with
  |nil=>
   cases b with
   |nil=>simp|cons y ys=>
    intro _ I;cases c with
    |nil=>simp_all[Ba]|cons z Y=>rfl
  |cons x xs S=>
   intro h1 I;cases b with
   |nil=>simp_all[Ba]|cons y ys=>
    cases c with
    |nil=>simp_all[Ba]|cons z Y=>
     simp[Ba]at h1 I ⊢;by_cases e1:x=y
     .grind
     .rw[aA e1]at h1;by_cases e2:y=z
      .simp_all
      .rw[aA e2]at I;have U:=o.tr _ _ _ h1 I;by_cases e3:x=z
       .subst e3;rw[o.irr]at U;cases U
       simp_all
 .induction a generalizing b with
  |nil=>simp[Ba]|cons x xs S=>
   cases b with
   |nil=>simp[Ba]|cons y ys=>
    simp[Ba];by_cases e:x=y
    .grind
    .rw[aA e,aA (bO e)];intro h1 I;exact bu (o.tot _ _ h1 I) e
abbrev ltR:List a8->List a8->Bool:=Ba (Ba λx y=>aF (x<y))
theorem ordR:Ord ltR:=M9 (M9 ⟨λa=>by simp,λa b c h1 I=>by lia,λa b h1 I=>by lia⟩)
def ltL(k l:LK):Bool:=if k.1=l.1 then ltR k.2 l.2 else aF (k.1<l.1)
theorem Mb:Ord ltL:=by
 refine⟨λa=>?_,λa b c h1 I=>?_,λa b h1 I=>?_⟩
 .unfold ltL;rw[aC rfl];exact ordR.irr _
 .unfold ltL at h1 I ⊢;by_cases e1:a.1=b.1
  .rw[aC e1]at h1;by_cases e2:b.1=c.1
   .rw[aC e2]at I;rw[aC (e1.trans e2)];exact ordR.tr _ _ _ h1 I
   simp_all
  grind
 .unfold ltL at h1 I;by_cases e:a.1=b.1
  .rw[aC e]at h1;rw[aC e.symm]at I;exact kx e (ordR.tot _ _ h1 I)
  lia
section
open PySem.W
variable{s:ao}
def LKeys(prog:bL)(w:c8)(h:bF)(I:List (LK×av)):Prop:=∀r∈I,(labI prog w).is h r.1 (.ref r.2)
theorem asks_L{I:List (LK×av)}(R:A.units+8<b_)(D:LKeys prog w s.heap I)(X:2<=I.length):Asks prog w A (rk ltL (I.map gE) (0,[])) (I.map λr=>aT r.2) s:=by
 have b:∀i,i<I.length->∃(l:av) (Y U:aj),(I.map λr=>aT r.2).getD i cA=.ref l/\TupAt s.heap l [Y,U]/\(KW prog w).is s.heap ((I.map gE).getD i (0,[])).1 Y/\(tupI (tupI (KW prog w))).is s.heap ((I.map gE).getD i (0,[])).2 U:=λi hi=>by obtain⟨a,Y,U,e,t,q1,q2⟩:=D I[i] (dh hi);cases e;exact⟨I[i].2,Y,U,by simp[hi],t,by simpa[hi] using q1,by simpa[hi] using q2⟩
 have c:∀(k:Nat),k<=I.length->∃fs,KatTups s.heap ((I.map λr=>aT r.2).drop (I.length-k)) fs/\fs.length=k/\∀v∈fs,∃i t,v=i3 i t:=by
  intro k
  induction k with
  |zero=>intro _;exact⟨[],by rw[mZ,List.drop_of_length_le ad];exact ph,rfl,λ_ h=>nomatch h⟩
  |succ k B=>
   intro W;obtain⟨fs,q1,q2,g⟩:=B ac;have hi:I.length-(k+1)<I.length:=ac
   obtain⟨l,Y,U,e1,⟨N,n,e2,e3,e4⟩,⟨t,e5⟩,_⟩:=b _ hi;refine⟨Y::fs,?_,by simp[q2],λv m=>?_⟩
   .have d:I.length-(k+1)<(I.map λr=>aT r.2).length:=by rw[az];exact hi
    rw[cM d];rw[show I.length-(k+1)+1=I.length-k by lia];rw[getD_get d]at e1;rw[e1];exact oK e2 e3 e4 rfl q1
   .rcases aM.mp m with e|e
    .rw[e];exact⟨_,_,e5⟩
    .exact g v e
 obtain⟨fs,q1,q2,g⟩:=c I.length (aq _);rw[kH,f_]at q1;unfold Asks;refine kat_kind (s:=s) (T:=.type "int") q1 ac (λv m=>?_) rfl ⟨rfl,λi j C hi y S=>?_⟩
 .obtain⟨i,t,e⟩:=g v m;rw[e];exact pf rfl
 .rw[az]at hi y;unfold oe;obtain⟨J,Y,U,e1,⟨P,Q,E,_,G⟩,u,p⟩:=b i hi;obtain⟨H,z,x,e2,⟨O,n2,g2,_,F⟩,q,o⟩:=b j y;rw[e1,e2];rw[rk_lt Mb a7 a7]at S;generalize (I.map gE).getD i (0,[])=k at u p S;generalize (I.map gE).getD j (0,[])=l at q o S;refine kat_lt (s:=s) E G g2 F ?_;show KatLex prog w _ _ _ _ [(Y,z),(U,x)] 0 s;refine kat_cons ((KW prog w).eqBool (by show A.units+0<b_;lia) u q ?_);unfold ltL at S;by_cases e:k.1=l.1
  .rw[aC e]at S;rw[dA e];refine kat_yes (kat_cons ((tupI (tupI (KW prog w))).eqBool (by show A.units+(0+1+1)<b_;lia) p o ?_));by_cases f:k.2=l.2
   .rw[dA f];rw[f,ordR.irr]at S;exact kat_yes (kat_nil S)
   .rw[cq f];show aP (aI prog w) _ (oneLt' ae U x) _ _ _;rw[oneLt'_eq];simp only[iu,ng];exact ab (tup_lt (tup_lt int_lt) (by show A.units+(0+1+1)<b_;lia) p o (cU S))
  .rw[aA e]at S;rw[cq e];obtain⟨L,f1⟩:=u;obtain⟨K,f2⟩:=q;subst f1 f2;exact oneLt_int S
end
section
open PySem PySem.W
variable{s:ao}
theorem walksR(j:A.handled=af)(I d:av)(c:d≠I)(es:Array cF)(ep:Nat):
  Walks prog w A I [I,d] [I] es.size (λi v=>∃e,es[i]?=aa e/\v=e.key) (λi h=>h.IsKeyIter I d i es.size ep/\B3 h d es ep) where
 sub:=λb a=>by simp_all
 frame:=λ_ _ _ st g=>⟨st.1.at λo e=>g I ad o e,st.2.at λo e=>g d ad o e⟩
 item:=λi s Q E hi st Y=>by refine BZ st.1 st.2 (e:=es[i]) ad λh' U S=>?_;exact Y _ h' s.toks ⟨es[i],ad,rfl⟩ ⟨U,st.2.at λo e=>S.extBut d o c e⟩ λb o a e=>S.extBut b o (λh=>a (by simp[h])) e
 done:=λs Q E st Y=>FU j st.1 st.2 (aq _) λh' f=>Y h' s.toks λb o a e=>f b o (λh=>a (by simp[h])) e
 self:=λ_ _ _ _ st Y=>oE st.1 Y
def srcR{d:av}(lo:(d==bT)=ae):KdlSrc prog w "dict" d d es.size (λi v=>∃e,es[i]?=aa e/\v=e.key) (λh=>B3 h d es ep) where
 type:=λ_ z=>z.ty
 there:=λ_ ⟨o,h,_⟩=>⟨aE h,aE h⟩
 keep:=λ_ _ z S=>z.at λo e=>S d (.inl rfl) o e
 notList:=by decide
 notTuple:=by decide
 hint:=λ_ _ _ _ z I=>kdl_hint_dict z.ty I
 iter:=λA s U z=>⟨_,_,(λ_ _ I=>C8 lo z I),walksR U _ d (let ⟨o,h,_⟩:=z;bg (aE h)) es ep,⟨⟨_,aw _ rfl,rfl,rfl⟩,z.at λo e=>ah _ e⟩⟩
theorem collectR{d:av}{Q:bm->ao->Prop}(v:A.handled=af)(lo:(d==bT)=ae)(z:B3 s.heap d es ep)(u:es.size<=ay)(h:∀(h':bF) (S:Nat),(∀b o,s.heap.get? b=aa o->h'.get? b=aa o)->s.heap.objs.size<=h'.objs.size->Q (es.toList.map (·.key)) {s with heap:=h',toks:=S}):aP (aI prog w) A (collect (.ref d)) Q E s:=by
 have m:d<s.z:=by obtain⟨o,t,_⟩:=z;exact aE t
 refine ab (wpAny_runValue (jS (nU) ?_));rw[mM (F.plain_proto_collect) _];refine ab (bw ?_);refine ai ⟨plainId_quiet k_ _,jS (pk) ?_⟩;have B:(s.heap.push {cls:=.type "list",data:=.seq ([]:bm).toArray}).get? s.z=aa {cls:=.type "list",data:=.seq #[]}:=aw _ rfl;refine b9 (kdl_extend (A:=A) (s:={s with heap:=s.heap.push {cls:=.type "list",data:=.seq ([]:bm).toArray}})
  (R:=λ(q:pI) (s':ao)=>∃(h':bF) (S:Nat) (I:Array aj) (c:Nat),q=.ok (.ret (.ref s.z))/\s'={s with heap:=h',toks:=S}/\(∀b o,s.heap.get? b=aa o->h'.get? b=aa o)/\h'.get? s.z=aa {cls:=.type "list",dict:=af,data:=.seq I c,slots:=#[]}/\I.toList=es.toList.map (·.key))
  (srcR (ep:=ep) lo) v (z.at λo e=>ah _ e) s.z (cW m) (cW m) (.ref s.z) 0 B
  (λh' S I c g Y U=>⟨h',S,I,c,rfl,rfl,λb o e=>g b o (bg (aE e)) (ah _ e),Y,(by
    apply kA;intro i;by_cases hi:i<es.size
    .have L:i<I.size:=by rw[U.1];exact hi
     obtain⟨e,K,J⟩:=U.2 i I[i] ad
     simp_all
    .rw[jt (by rw[bQ,U.1];lia),jt a7])⟩) u) (λl s' x=>?_) λe s' x=>?_
 .have n:∀(s':ao),(∃(h':bF) (S:Nat) (I:Array aj) (c:Nat),s'={s with heap:=h',toks:=S}/\(∀b o,s.heap.get? b=aa o->h'.get? b=aa o)/\h'.get? s.z=aa {cls:=.type "list",dict:=af,data:=.seq I c,slots:=#[]}/\I.toList=es.toList.map (·.key))->∃(o:j5) (I:Array aj) (c:Nat),s'.heap.get? s.z=aa o/\o.data=.seq I c/\Q I.toList s':=λs' ⟨h',S,I,c,e,g,Y,ea⟩=>by
   subst e;exact⟨_,I,c,Y,rfl,by rw[ea];exact h h' S g (b7 (aE Y))⟩
  cases l with
  |done f=>obtain⟨h',S,I,c,e,r⟩:=x;cases e;obtain⟨⟨H,G,D,C⟩,I,c,Y,k,j⟩:=n s' ⟨h',S,I,c,r⟩;cases k;show aP _ A (load s.z >>= _) _ _ _;exact ab (jE Y (ai j))
  |again p=>
   refine⟨x.1,gu x.2 λq a y=>?_⟩
   obtain⟨h',S,I,c,rfl,r⟩:=y;obtain⟨⟨H,G,D,C⟩,I,c,Y,k,j⟩:=n a ⟨h',S,I,c,r⟩;cases k;show aP _ A (load s.z >>= _) _ _ _;exact ab (jE Y (ai j))
 simp_all
theorem sorted_R{d:av}{key:Nat->Int}(k:A.handled=af)(lo:(d==bT)=ae)(z:B3 s.heap d es ep)(e:es.toList.map (·.key)=vs)(a:vs.length<=ay)(j:2<=vs.length->∀(h1:bF) (I:Nat),(∀b o,s.heap.get? b=aa o->h1.get? b=aa o)->Asks prog w A.in1.in1 key vs {s with heap:=h1,toks:=I})(h:∀(h':bF) (D:av) (c I:Nat) (out:bm),s.heap.objs.size<=D->(∀b o,s.heap.get? b=aa o->h'.get? b=aa o)->h'.get? D=aa (gb "list" out.toArray c)->KR key vs out->Q (.ref D) {s with heap:=h',toks:=I}):
  aP (aI prog w) A (i0 (.builtin "sorted") [.ref d]) Q E s:=by
 have hsz:es.size=vs.length:=by rw[<-e,az,bQ]
 refine lW kind_sorted plain_sorted entry_sorted (args_sorted1 _) ?_;refine ab (ai (ab (collectR k lo z ac λh1 I S U=>?_)));rw[e];refine ab (ni ?_ a);have f:(h1.push _).get? h1.objs.size=aa (gb "list" vs.toArray 0):=aw _ rfl;have Y:=λb o q=>bg (aE (S b o q));refine ab (c6 (bh slot_list_sort ⟨_,f,rfl⟩ entry_list_sort (Fn (key:=key) f a (λm l g=>?_) λh' c out i k' n=>⟨_,rfl,?_⟩) (args_list_sort _)))
 .exact j m l I λb o q=>g b o (Y b o q) (ah _ (S b o q))
 .exact ai ⟨_,rfl,h h' _ c I out U (λb o q=>k' b o (Y b o q) (ah _ (S b o q))) n i⟩
end
section
variable{W:qE}
theorem J6{k:LK}(h:y8 K F b k):i1 K F (hC k) (.ref b):=by
 obtain⟨r,a,Y,U,l,S⟩:=h;refine⟨b,_,rfl,Y,V.int k.1,_,rfl,rfl,.ref r,[],rfl,⟨r,_,rfl,U,?_⟩,rfl⟩
 refine ei.of_get a7 λi d v e1 e2=>?_;rw[aV]at e1 e2;cases f1:k.2[i]? with
 |none=>simp_all|some I=>
  cases f2:a[i]? with
  |none=>simp_all|some c=>rw[f1]at e1;rw[f2]at e2;simp at e1 e2;subst e1 e2;exact⟨c,_,rfl,S i I c f1 f2,sU I⟩
def yj:a9->M bv
 |[]=>.ok []|d::ds=>(Ko d).bind λk=>(yj ds).bind λks=>.ok (k::ks)
def zH:a9->M A0
 |[.dil ks]=>.ok (.lst ((uy ltL ks).map hC))|[.lst ds]=>(yj ds).bind λks=>.ok (.lst ((uy ltL ks).map hC))|_=>stk
theorem Fv:∀{ds:a9} {e:Err},yj ds=.error e->e=.stuck
 |[],_,h=>by cases h|d::ds,e,h=>by
  unfold yj at h;cases e1:Ko d with
  |error x=>rw[e1]at h;cases h;exact J7 e1|ok k=>
   rw[e1]at h;cases e2:yj ds with
   |error x=>rw[e2]at h;cases h;exact Fv e2|ok ks=>simp_all
theorem Fu:∀{ds:a9} {ks:bv},yj ds=.ok ks->ds=ks.map hC
 |[],_,h=>by cases h;rfl|d::ds,ks,h=>by
  unfold yj at h;cases e1:Ko d with
  |error x=>simp_all|ok k=>
   rw[e1]at h;cases e2:yj ds with
   |error x=>simp_all|ok ls=>rw[e2]at h;cases h;rw[Fu e2,MB e1];rfl
theorem BM:∀ts:List a8,vd (ts.map j0)=.ok ts
 |[]=>rfl|t::ts=>by show(o4 _).bind _=_;rw[sf];rw[BM ts];rfl
def DB(k:LK):Ko (hC k)=.ok k:=by show(vd _).bind _=_;rw[BM];rfl
theorem MA{F:Hp}:∀{ks:bv} {xs:bi},ei K F (ks.map hC) xs->∃I:List (LK×av),I.map gE=ks/\xs=I.map (λr=>V.ref r.2)/\∀r∈I,y8 K F r.2 r.1
 |[],_,h=>⟨[],rfl,h,λr U=>nomatch U⟩
 |k::ks,_,⟨v,vs,e,q,r⟩=>by obtain⟨b,e1,t⟩:=MC (DB k) q;obtain⟨I,e2,e3,h⟩:=MA r;exact⟨(k,b)::I,a7,a7,λx S=>(aM.mp S).elim (λz=>by simp_all) (h x)⟩
def Lc{I:List (α×av)}(h:A6 (I.map λr=>V.ref r.2) us):us=I.map λr=>aT r.2:=by
 induction I generalizing us with
 |nil=>cases h;rfl|cons r I S=>
  cases h with
  |cons q t=>rw[S t];cases(show _=aT r.2 from q);rfl
def lk_keep{k:LK}{v:aj}(x:(labI prog w).is h k v)(e:∀b o,h.get? b=aa o->h'.get? b=aa o):(labI prog w).is h' k v:=(labI prog w).keeps x λa o us n q _=>e a o q
theorem sort_out{lt:α->α->Bool}(o:Ord lt){d0:α}{U:α->A0}{S:List (α×av)}(Y:∀r∈S,i1 K F (U r.1) (.ref r.2)){ps:be}(h1:ps.Perm (aX S.length))(a:Srt (rk lt (S.map gE) d0) ps):
  ei K F ((uy lt (S.map gE)).map U) (ps.map λi=>(S.map λr=>V.ref r.2).getD i .non):=by
 rw[<-Fb o _ d0 a7 a,aR];refine ei.of_get ad λk b v I g2=>?_;rw[aV]at I g2;cases ek:ps[k]? with
 |none=>rw[ek]at I;cases I|some i=>rw[ek]at I g2;simp only[gW,g9,om]at I g2;have hi:=bA.mp (h1.mem_iff.mp (bS ek));rw[getD_get (by simpa using hi)]at I;rw[getD_get (by simpa using hi)]at g2;rw[<-I,<-g2,jb,jb];exact Y _ (dh hi)
theorem vals_out{I:List (α×av)}{ps:be}(h1:ps.Perm (aX I.length)):A6 (ps.map λi=>(I.map λr=>V.ref r.2).getD i .non) (ps.map λi=>(I.map λr=>aT r.2).getD i cA):=by
 have S:∀i∈ps,i<I.length:=λi hi=>bA.mp (h1.mem_iff.mp hi);clear h1
 induction ps with
 |nil=>exact .nil|cons i ps U=>refine .cons ?_ (U λj Y=>S j (bH _ Y));dsimp only;rw[getD_get a7,getD_get a7,jb,jb];rfl
def Im{lt:α->α->Bool}(o:Ord lt){d0:α}{U:α->A0}{s:ao}{Q:VK}{S:List (α×av)}{D:av}{c Y:Nat}{out:bm}(I:A3 X A1 σ H s)(s1:eH F H)(h:∀r∈S,i1 X.K F (U r.1) (.ref r.2))(f:S.length<=ay)(p:eQ X.K W ag F H (.ok (.lst ((uy lt (S.map gE)).map U))) Q)(a:s.heap.objs.size<=D)(d:∀b o,s.heap.get? b=aa o->h'.get? b=aa o)(e:h'.get? D=aa (gb "list" out.toArray c))(g:KR (rk lt (S.map gE) d0) (S.map λr=>aT r.2) out):EP X A1 σ Q (.ref D) {s with heap:=h',toks:=Y}:=by obtain⟨ps,h1,i,rfl⟩:=g;rw[az]at h1;exact⟨.ref D,_,(I.laid (t':=Y) d a (show uo _ h' D (.lst _)from⟨by rw[az,h1.length_eq,eI];exact f,_,c,vals_out h1,e⟩)),rfl,p.lst s1 (sort_out o h h1 i) (I.hok.fresh a)⟩
theorem Gk(N:X.A.units+64<b_)(C: ~~~(X.calm=ag))(U: ~~~(X.K=K)):B9 K W ag X (.builtin "sorted") zH:=by
 subst U;intro A1 s σ H xs us Q I y h;obtain⟨F,d,x,s1,e,q,p⟩:=zZ (λds=>by match ds with|[d]=>simp|[]=>exact .inr rfl|a::b::c=>exact .inr (by cases a<;>rfl)) h;subst e;obtain⟨u,rfl,m⟩:=y.one;have f:∀{Y:List _} {h':bF},(∀r∈Y,y8 X.K F r.2 r.1)->(∀b o,s.heap.get? b=aa o->h'.get? b=aa o)->LKeys X.prog X.w h' Y:=λ{Y h'} U S r g=>lk_keep (Hn I ((U r g).mono s1)) S;cases d with
 |dil ks=>obtain⟨a,Y,e1,⟨ep,E⟩,ek,U⟩:=q;subst e1;cases m;rw[<-ek]at p;obtain⟨B,A,O,o,es,L,g2,J,G⟩:=dil_ok I (s1 _ _ E);refine sorted_R (key:=rk ltL _ (0,[])) (I.ok.hd C) B ⟨o,L,g2,J⟩ (by rw[G,aR];rfl) a7 (λj h1 v S=>?_) λh' D c v out l S e k=>Im Mb I s1 (λr g=>J6 (U r g)) A p l S e k;rw[az]at j;exact asks_L ac (f U S) j
 |lst ds=>
  obtain⟨a,ys,e1,t,r⟩:=q;subst e1;cases m;have p:eQ X.K W ag F H ((yj ds).bind λks=>.ok _) Q:=p;cases ek:yj ds with
  |error z=>cases Fv ek;rw[ek]at p;exact eQ.stuck p|ok ks=>rw[ek]at p;rw[Fu ek]at r;obtain⟨Y,e2,e3,U⟩:=MA r;subst e2;obtain⟨its,w,pl,n⟩:=I.list (s1.lst t);subst e3;have i:=Lc w;subst i;rw[az]at n;refine BO (key:=rk ltL _ (0,[])) pl.isList a7 (λj h1 S=>?_) λh' D c out k l S e=>Im Mb I s1 (λr g=>J6 (U r g)) n p l S e k;rw[az]at j;exact asks_L ac (f U S) j
 |_=>exact eQ.stuck p
end
section
open PySem PySem.W
end
mutual
noncomputable def tf:A0->Bool
 |.tup ds=>ua ds|.lst ds=>ua ds|.ins _ _=>ae|.dic _=>ae|.dil _=>ae|_=>ag
noncomputable def ua:a9->Bool
 |[]=>ag|d::ds=>tf d&&ua ds
end
mutual
theorem i1.plain{K:Fg}{F F':Hp}(s:∀a xs,SqT K F a xs->SqT K F' a xs)(t:∀a xs,SqL K F a xs->SqL K F' a xs):∀{d:A0} {v:V},tf d=ag->i1 K F d v->i1 K F' d v
 |.non,_,_,h=>h|.bl _,_,_,h=>h|.int _,_,_,h=>h|.tup ds,_,f,⟨a,xs,e,q,r⟩=>⟨a,xs,e,s _ _ q,ei.plain s t (by simpa[tf] using f) r⟩|.lst ds,_,f,⟨a,xs,e,q,r⟩=>⟨a,xs,e,t _ _ q,ei.plain s t (by simpa[tf] using f) r⟩|.ins _ _,_,f,_=>by simp_all[tf]|.dic _,_,f,_=>by simp_all[tf]|.dil _,_,f,_=>by simp_all[tf]
theorem ei.plain{K:Fg}{F F':Hp}(s:∀a xs,SqT K F a xs->SqT K F' a xs)(t:∀a xs,SqL K F a xs->SqL K F' a xs):∀{ds:a9} {xs:bi},ua ds=ag->ei K F ds xs->ei K F' ds xs
 |[],_,_,h=>h|d::ds,_,f,⟨v,vs,e,q,r⟩=>by simp only[ua,aU]at f;exact⟨v,vs,e,i1.plain s t f.1 q,ei.plain s t f.2 r⟩
end
def yB(i:Nat)(fk fv:df->M A0):df->M A4:=λρ=>(fv ρ).bind λd=>(AF ρ i).bind λks=>(fk ρ).bind λI=>(u5 I).bind λk=>if (tf d&&aF (ks.length<ay))=ag then .ok (.nx (ρ.set i (aa (.dic (rY ks k d)))))else .error .stuck
section
variable{W:qE}{D:Ends}
theorem Rep.minusL(r:Rep K F0 H0 FB [i] F H σ ρ)(I:ρ[i]?=aa (aa (.dic ks)))(s:A2 (plus F H (yw [i] [] σ ρ)) H F1 H1)(b:av)(xs:bi)(h:SqL K F1 b xs):SqL K (minus F1 (yw [i] [] σ ρ)) b xs:=by
 have key:∀{b:av} {o:HO},F1 b=aa o->(∀f,o≠.ext f)->minus F1 (yw [i] [] σ ρ) b=aa o:=λ{b o} h n=>by
  by_cases S:yw [i] [] σ ρ b
  .obtain⟨j,d,U,_,_,e1,e2⟩:=id S;have:=cj.mp U;subst this;rw[I]at e1;obtain⟨v,e3,a,ys,ev,⟨ep,Y⟩,_⟩:=r.ow j _ I bW;rw[e2]at e3;cases e3;cases ev;have:=s.ff _ _ (by rw[wo S];exact Y);rw[h]at this;cases this;exact bu rfl (n _)
  simp_all[vg]
 rcases h with(h|⟨o,h⟩)|h
 .exact .inl (.inl (key h λf z=>nomatch z))
 .exact .inl (.inr ⟨o,key h λf z=>nomatch z⟩)
 .exact .inr h
def rs_putDL(t:tS K W ro F0 H0 OL [i] [i] (yB i fk fv) D σ H):sPut K (wj i) (tD K W ae fk) (tD K W ae fv) D σ H:=by
 obtain⟨FB,F,ρ,r,p⟩:=t;have hi:i∈[i]:=bW;refine eu r.wm r.tG (λe g=>p.vk (r.freeze ad).st (by unfold yB;rw[g];rfl)) λd n v F1 H1 s1 q=>?_;have u:yB i fk fv ρ=(AF ρ i).bind λks=>(fk ρ).bind λc=>(u5 c).bind λk=>if (tf d&&aF (ks.length<ay))=ag then .ok (.nx (ρ.set i (aa (.dic (rY ks k d)))))else .error .stuck:=by unfold yB;rw[n];rfl
 rw[u]at p;cases U:AF ρ i with
 |error e=>have:=G2 U;subst this;exact p.stuck (by rw[U];rfl)|ok ks=>
  rw[U]at p;have p1:=p;have S:=r.u9 s1;obtain⟨x,e2,a,xs,ev,⟨ep,o⟩,_,_,z⟩:=S.ow i _ (xU U) hi;subst ev;refine⟨.ref a,e2,?_⟩
  refine eu S.wm S.tG (λe g=>p1.vk (S.freeze ad).st (by rw[g];rfl)) λc m w y H2 s2 q2=>?_;rw[m]at p1;have p2:tM K W ro F0 H0 FB OL [i] D ((u5 c).bind λk=>if (tf d&&aF _)=ag then .ok _ else .error .stuck):=p1;cases I:u5 c with
  |error e=>have:=rF I;subst this;exact p2.stuck (by rw[I];rfl)|ok k=>
   rw[I]at p2;have p3:tM K W ro F0 H0 FB OL [i] D (if (tf d&&aF _)=ag then .ok _ else .error .stuck):=p2;by_cases Y:(tf d&&aF (ks.length<ay))=ag
   .rw[aC Y]at p3;simp at Y;obtain⟨b,rfl,t⟩:=tH I q2;have f:=S.u9 s2;have l:=i1.plain (r.C1 s1) (r.minusL (xU U) s1) Y.1 q;have h:=z.mono (S.sN s2);have j:=S.C1 s2 b _ t;exact⟨a,b,k,xs,ep,rfl,rfl,s2.hh _ _ o,h.key.mono f.st.fh,f.st.fh.tup j,by rw[z.length];exact Y.2,λep'=>p3 σ _ _ (f.HY hi (xU U) rfl e2 λf0 s=>⟨a,_,rfl,⟨ep',dy⟩,f0,s,h.put j (l.mono (S.sN s2))⟩)⟩
   .rw[aA Y]at p3;exact p3.stuck rfl
end
section
variable{W:qE}{p:lj}
theorem ds_putDL(e:X.A.units+64<b_)(Y:DE K W ae X ek fk)(a:DE K W ae X ev fv)(c: ~~~(X.N[i]?=aa x))(S:autoParam (Vis X.env.scope x) Jq5)(b:((x==("__debug__":br))=ae)⁻¹)(I:((x==("__classdict__":br))=ae)⁻¹)(d: ~~~(X.K=K))(U: ~~~(dJ ev (aa (.Subscript (.Name x p) ek pos')) pos.line X.env=cO ae)):DS K W ro X OL [i] [i] (.Assign [.Subscript (.Name x p) ek pos'] ev pos) (yB i fk fv):=λF0 H0=>by subst d;exact PS.imp (EZ ac (pv i c S b I) Y a U) λ_ _ _=>rs_putDL
end
section
open PySem PySem.W
end
structure B7 where
 f:av
 c:aj
 A:dD
 o:List m7
 s:ao
 H:Hp
 E:XK
section
variable{base:bF}{q:br}{st:bY}
def YO(_:∃f fd,Def K mg x st ps f fd)(P:bL)(w:c8)(base:bF)(k:Nat)(ro:Bool)(m:a9->M A0):Prop:=∃f fd,Yd P w K mg base CX0 k x st ps (spF K ro m ps.length) f fd
def YM(_:∃f fd,Mth K C x q st ps f fd)(P:bL)(w:c8)(mg:br->Option aj)(base:bF)(k:Nat)(ro:Bool)(m:a9->M A0):Prop:=∃f fd,Mth K C x q st ps f fd/\vT P w K mg base CX0 k f fd ps (spF K ro m ps.length)
def fY(N:List br){h:∃f fd,Def K mg x st ps f fd}(U:∀z:B7,N.Nodup->vc k (z.A.deeper (iE x (eF st) z.s.heap.objs.size z.f z.c))->DSs K A9 ro (Nj CX0 P w K mg base N x (eF st) z.f z.c z.A z.o z.s z.H z.E).nox [] [] [] (qD st) g)(S:autoParam (uq N ps (eF st)) Jq8):YO h P w base (k+1) ro (nf N.length ps.length g):=
 let ⟨f,fd,D⟩:=h
 ⟨f,fd,D,fn_D D.fn S ro g λc A o s H E I=>U ⟨f,c,A,o,s,H,E⟩ S.nd I⟩
def fM(N:List br){h:∃f fd,Mth K C x q st ps f fd}(U:∀z:B7,N.Nodup->vc k (z.A.deeper (iE q (eF st) z.s.heap.objs.size z.f z.c))->DSs K A9 ro (Nj CX0 P w K mg base N q (eF st) z.f z.c z.A z.o z.s z.H z.E).nox [] [] [] (qD st) g)(S:autoParam (uq N ps (eF st)) Jq8):YM h P w mg base (k+1) ro (nf N.length ps.length g):=
 let ⟨f,fd,D⟩:=h
 ⟨f,fd,D,fn_D D.fn S ro g λc A o s H E I=>U ⟨f,c,A,o,s,H,E⟩ S.nd I⟩
end
section
variable{W:qE}{a b d:bX}{es:List bX}{p:lj}{f:df->M A0}{fr:df->M (List A0)}
def dY{st:bY}(Y:∃f fd,Yd X.prog X.w X.K X.mg X.base CX0 k x st ps (spF K ro (nf nN n g) n) f fd)(a:vc j X.A)(d:DA K A9 X (e::es) fr)(b:(k<=j)⁻¹)(c: ~~~(Gl X x))(U:((x==("__debug__":br))=ae)⁻¹)(I: ~~~(au (e::es) X.env=(ae,a_ e X.env)::au es X.env))(S: ~~~((cu pos (au es X.env)).any (·.1)=ae)):
  DE K A9 ro X (.Call (.Name x p) (e::es) [] pos) (fL (nf nN n g) fr):=let ⟨_,_,Y⟩:=Y;Nh Y.o (a.mono b) Y.d.mg Y.d.fn.kp Y.d.bd d c U I S
def da1(S:DE K W ae X a fa)(I: ~~~(au [a] X.env=[(ae,a_ a X.env)])):DA K W X [a] (b6 fa ej):=m3 S pT I
theorem da2(U:DE K W ae X a fa)(S:DE K W ae X b fb)(Y: ~~~(au [a,b] X.env=[(ae,a_ a X.env),(ae,a_ b X.env)]))(I: ~~~(au [b] X.env=[(ae,a_ b X.env)])):DA K W X [a,b] (b6 fa (b6 fb ej)):=m3 U (da1 S I) a7
def da3{f1 f2:df->M A0}(h1:DE K W ae X e1 f1)(U:DE K W ae X e2 f2)(S:DE K W ae X e3 f3)(s1: ~~~(au [e1,e2,e3] X.env=(ae,a_ e1 X.env)::au [e2,e3] X.env))(s2: ~~~(au [e2,e3] X.env=(ae,a_ e2 X.env)::au [e3] X.env))(I: ~~~(au [e3] X.env=(ae,a_ e3 X.env)::au [] X.env)):DA K W X [e1,e2,e3] (b6 f1 (b6 f2 (b6 f3 ej))):=(m3 h1 (m3 U (m3 S pT I) s2) s1)
def da4{f1 f2:df->M A0}(h1:DE K W ae X e1 f1)(a:DE K W ae X e2 f2)(Y:DE K W ae X e3 f3)(U:DE K W ae X e4 f4)(s1: ~~~(au [e1,e2,e3,e4] X.env=(ae,a_ e1 X.env)::au [e2,e3,e4] X.env))(s2: ~~~(au [e2,e3,e4] X.env=(ae,a_ e2 X.env)::au [e3,e4] X.env))(S: ~~~(au [e3,e4] X.env=(ae,a_ e3 X.env)::au [e4] X.env))(I: ~~~(au [e4] X.env=(ae,a_ e4 X.env)::au [] X.env)):DA K W X [e1,e2,e3,e4] (b6 f1 (b6 f2 (b6 f3 (b6 f4 ej)))):=(m3 h1 (m3 a (m3 Y (m3 U pT I) S) s2) s1)
def da5{f1 f2:df->M A0}(h1:DE K W ae X e1 f1)(c:DE K W ae X e2 f2)(b:DE K W ae X e3 f3)(a:DE K W ae X e4 f4)(Y:DE K W ae X e5 f5)(s1: ~~~(au [e1,e2,e3,e4,e5] X.env=(ae,a_ e1 X.env)::au [e2,e3,e4,e5] X.env))(s2: ~~~(au [e2,e3,e4,e5] X.env=(ae,a_ e2 X.env)::au [e3,e4,e5] X.env))(U: ~~~(au [e3,e4,e5] X.env=(ae,a_ e3 X.env)::au [e4,e5] X.env))(S: ~~~(au [e4,e5] X.env=(ae,a_ e4 X.env)::au [e5] X.env))(I: ~~~(au [e5] X.env=(ae,a_ e5 X.env)::au [] X.env)):DA K W X [e1,e2,e3,e4,e5] (b6 f1 (b6 f2 (b6 f3 (b6 f4 (b6 f5 ej))))):=(m3 h1 (m3 c (m3 b (m3 a (m3 Y pT I) S) U) s2) s1)
def da6{I:bX}{f1 f2 S:df->M A0}(h1:DE K W ae X e1 f1)(g:DE K W ae X e2 f2)(f:DE K W ae X e3 f3)(e:DE K W ae X e4 f4)(d:DE K W ae X e5 f5)(c:DE K W ae X I S)(s1: ~~~(au [e1,e2,e3,e4,e5,I] X.env=(ae,a_ e1 X.env)::au [e2,e3,e4,e5,I] X.env))(s2: ~~~(au [e2,e3,e4,e5,I] X.env=(ae,a_ e2 X.env)::au [e3,e4,e5,I] X.env))(b: ~~~(au [e3,e4,e5,I] X.env=(ae,a_ e3 X.env)::au [e4,e5,I] X.env))(a: ~~~(au [e4,e5,I] X.env=(ae,a_ e4 X.env)::au [e5,I] X.env))(Y: ~~~(au [e5,I] X.env=(ae,a_ e5 X.env)::au [I] X.env))(U: ~~~(au [I] X.env=(ae,a_ I X.env)::au [] X.env)):DA K W X [e1,e2,e3,e4,e5,I] (b6 f1 (b6 f2 (b6 f3 (b6 f4 (b6 f5 (b6 S ej)))))):=(m3 h1 (m3 g (m3 f (m3 e (m3 d (m3 c pT U) Y) a) b) s2) s1)
def pw(a:X.N.Nodup)(Y:DE K W ae X e f)(hi: ~~~(X.N[i]?=aa x))(I:autoParam (Loc X.env.scope x) Jq6)(S: ~~~(dJ e (aa (.Name x pos')) pos.line X.env=cO ae))(U:autoParam (X.fn x=ag\/X.env.scope.names.lookup x=aa .local) Jq3):
  DS K W ro X OL O (aft ae i O) (.Assign [.Name x pos'] e pos) (g7 O i f):=HC a Y hi I S U
def yq(a:X.N.Nodup)(Y:DE K W ag X e f)(hi: ~~~(X.N[i]?=aa x))(I:autoParam (Loc X.env.scope x) Jq6)(S: ~~~(dJ e (aa (.Name x pos')) pos.line X.env=cO ae))(U:autoParam (X.fn x=ag\/X.env.scope.names.lookup x=aa .local) Jq3):
  DS K W ro X OL O (aft ag i O) (.Assign [.Name x pos'] e pos) (g7 O i f):=HC a Y hi I S U
end
section
variable{f:av}{q:br}{st:bY}
def dF(S:K.In h)(G:h.Ns cz mg)(a:autoParam (jY K cz x=aa (aa (.ref f))) Jq2)(l:autoParam (K.lookup f=aa ⟨oc,od,.func (cE x x (sT st) (qD st) (eF st) .none kV doc pm an cdv ct),osl⟩) Jq2)(c:autoParam (fU K cdv x=ag) Jq2)(k:autoParam (ck K (.ref f)=ag) Jq2)(I:autoParam (∀(kV doc pm:aj) (an:Option av) (cdv ct:aj) (us:bm),us.length=ps.length->lI (cE x x (sT st) (qD st) (eF st) .none kV doc pm an cdv ct) ⟨us,[]⟩=cO (ps.zip us)) Jq13):∃f fd,Def K mg x st ps f fd:=⟨_,_,def_of S G a l c k I⟩
def mF(a:autoParam (cp K (.ref C) x=aa (aa (.ref f))) Jq2)(i:autoParam (jZ K (.ref f)=ag) Jq2)(l:autoParam (K.lookup f=aa ⟨oc,od,.func (cE x q (sT st) (qD st) (eF st) .none kV doc pm an cdv ct),osl⟩) Jq2)(c:autoParam (fU K cdv q=ag) Jq2)(k:autoParam (ck K (.ref f)=ag) Jq2)(I:autoParam (∀(kV doc pm:aj) (an:Option av) (cdv ct:aj) (us:bm),us.length=ps.length->lI (cE x q (sT st) (qD st) (eF st) .none kV doc pm an cdv ct) ⟨us,[]⟩=cO (ps.zip us)) Jq13):∃f fd,Mth K C x q st ps f fd:=⟨_,_,(⟨Jk l c k,⟨a,i,k⟩,(Jk l c k).binds I⟩)⟩
def kF(g:K.In h)(G:h.Ns cz mg)(a:autoParam (jY K cz x=aa (aa (.ref C))) Jq2)(S:autoParam (gH K C Str.empty=ag) Jq2)(b:autoParam (ip K C=ag) Jq2)(I:autoParam (jX K C=ag) Jq2)(sa:autoParam (cp K (.ref C) "__setattr__"=aa (aa (.builtin "object.__setattr__"))) Jq2)(U:autoParam (i9 K C=ag) Jq2)(Y:autoParam (ck K (.ref C)=ag) Jq2)(f:autoParam (cp K (.ref C) "__class__"=aa (aa (.builtin "object.__class__"))) Jq2)(e:autoParam (il K (.builtin "object.__class__") "__get__"=aa (aa (.builtin "getset_descriptor.__get__"))) Jq2)(d:autoParam (nP K (.builtin "object.__class__")=aa ag) Jq2)(c:autoParam (ou K C (.type "object")=aa ag) Jq2):Kls K mg x C:=⟨⟨S,b,I,sa⟩,oz g G a,U,Y,f,e,d,c⟩
def lF{y:br}(U:K.In h)(G:h.Ns cz mg)(a:autoParam (jY K cz x=aa (aa (.ref f))) Jq2)(l:autoParam (K.lookup f=aa ⟨oc,od,.func (cE x x (sT st) (qD st) (eF st) .none kV doc pm an cdv ct),osl⟩) Jq2)(c:autoParam (fU K cdv x=ag) Jq2)(k:autoParam (ck K (.ref f)=ag) Jq2)(I:∀(kV doc pm:aj) (an:Option av) (cdv ct:aj) (v:aj),lI (cE x x (sT st) (qD st) (eF st) .none kV doc pm an cdv ct) ⟨[v],[]⟩=cO [(y,v)]:=by intros;rfl):∃f fd,Def K mg x st [y] f fd/\∀(s:ao) (v:aj),kv s fd ⟨[v],[]⟩ [(y,v)]:=
 ⟨_,_,def_of U G a l c k λ_ _ _ _ _ _ us S=>match us,S with|[_],_=>I ..,λ_ _=>.of_eq (I ..)⟩
theorem Fun.uniq{I:dX}(a:Fun K x q st f fd)(b:Fun K x q st f I):fd=I:=by
 obtain⟨oc,od,kV,doc,pm,an,cdv,ct,osl,rfl,k,_⟩:=a.ex;obtain⟨e,d,h,U,c,j,Y,i,S,rfl,g,_⟩:=b.ex
 lia
def rS(N:∃f fd,Mth K C x q st ps f fd)(a:autoParam (cp K (.ref C) x=aa (aa (.ref f))) Jq2)(s1:autoParam (il K (.ref C) "__getattribute__"=aa (aa (.builtin "type.__getattribute__"))) Jq9)(s2:autoParam (nQ K C mc=ag) Jq9)(S:autoParam (nR K (.ref C) mc x=aa (.val (.ref f))) Jq9)(I:autoParam (ck K (.ref f)=ag) Jq2):∃f fd,Mth K C x q st ps f fd/\Stat K C mc x f:=by obtain⟨U,fd,M⟩:=N;cases(M.mt.1.symm.trans a);exact⟨_,fd,M,s1,s2,S,I⟩
end
theorem rV.hide(r:rV K F σ ρ)(i:Nat)(v:Option V):rV K F (σ.set i v) (ρ.set i af):=
 ⟨by rw[aL,aL,r.len],λj d e=>by
  by_cases I:i=j
  .subst I;by_cases hi:i<ρ.length
   .rw[aG hi]at e;cases e
   .rw[jt (by rw[aL];lia)]at e;cases e
  .rw[aB I]at e;obtain⟨v,h1,S⟩:=r.sl j d e;exact⟨v,by rw[aB I];exact h1,S⟩⟩
def pi_seqD(g:PE X e tl):PI X tg e (iSeq X.K tl):=by
 intro A1 s σ H R I h;refine A7 (g A1 s σ H _ I h) λv s1 f=>?_;obtain⟨y,H1,S,c,q1⟩:=f;obtain⟨l,e1,q⟩:=q1;subst e1;cases c;rcases q with⟨⟨xs,U⟩,q⟩|⟨⟨xs,U⟩,q⟩
 .obtain⟨its,a,p,d⟩:=S.list U;refine lC p.isList ⟨s1.z,[s1.z],_,_,H1,rfl,S.kept λb o e=>ah _ e,Ej l _,⟨_,aw _ rfl,rfl,rfl⟩,λb Y=>?_,q⟩;have e:=by simpa using Y
  subst e;exact S.MX (aq _) (S.hok.fresh (aq _))
 .obtain⟨its,a,p,d⟩:=S.tuple U;refine fS (show s1.heap.IsTuple l its.toArray from p) ⟨s1.z,[s1.z],_,_,H1,rfl,S.kept λb o e=>ah _ e,BK l _,⟨_,aw _ rfl,rfl,rfl⟩,λb Y=>?_,q⟩;have e:=by simpa using Y
  subst e;exact S.MX (aq _) (S.hok.fresh (aq _))
open Classical in
section
variable{base:bF}{st:bY}
def YR(_:∃f fd,Def K mg x st ps f fd)(P:bL)(w:c8)(base:bF)(k:Nat)(sp:Sp):Prop:=∃f fd,Yd P w K mg base CX0 k x st ps sp f fd
def fR(N:List br){h:∃f fd,Def K mg x st ps f fd}(I:∀vs H Q E,sp vs H Q E->vs.length=ps.length)(Y:∀z:B7,N.Nodup->vc k (z.A.deeper (iE x (eF st) z.s.heap.objs.size z.f z.c))->∀(vs:bi) (Q:VK),sp vs z.H Q z.E->∃t,PSs (Nj CX0 P w K mg base N x (eF st) z.f z.c z.A z.o z.s z.H z.E).nox (qD st) t/\t {nx:=λ_ H'=>Q .non H',rt:=Q} (start N vs) z.H)(S:autoParam (uq N ps (eF st)) Jq8):YR h P w base (k+1) sp:=
 let ⟨f,fd,D⟩:=h
 ⟨f,fd,D,D.fn.okX S I λc A o s H vs Q E U h=>Y ⟨f,c,A,o,s,H,E⟩ S.nd U vs Q h⟩
end
section
variable{es:List bX}{p:lj}{t:TA}
def pY{st:bY}(Y:∃f fd,Yd X.prog X.w X.K X.mg X.base CX0 k x st ps sp f fd)(a:vc j X.A)(d:PA X (e::es) t)(b:(k<=j)⁻¹)(c: ~~~(Gl X x))(U:((x==("__debug__":br))=ae)⁻¹)(I: ~~~(au (e::es) X.env=(ae,a_ e X.env)::au es X.env))(S: ~~~((cu pos (au es X.env)).any (·.1)=ae)):PE X (.Call (.Name x p) (e::es) [] pos) (Ln sp [] E0 t):=let ⟨_,_,Y⟩:=Y;D7 Y.o (a.mono b) c Y.d.mg Y.d.fn.kp Y.d.bd .nil D8 d U I S
theorem hU(h:n+64<b_):n+1<b_:=ac
end
section
open PySem.W
end
section
open PySem PySem.W
end
section
open PySem.W
end
section
open PySem PySem.W
end
section
open PySem.W
end
def ixKD:A0->A0->M A0
 |.dic ks,I=>(u5 I).bind λk=>match tT ks k with
  |some d=>.ok d|none=>stk
 |_,_=>stk
@[simp]def e_ixKD(ks:List (a8×A0))(I:A0):ixKD (.dic ks) I=(u5 I).bind λk=>match tT ks k with|some d=>.ok d|none=>stk:=id rfl
def rIxK(K:Fg):R2:=λx y H Q=>∃a b k xs ep v,x=.ref a/\y=.ref b/\H a=aa (ur a xs ep)/\wd K H xs/\SqT K H b (k.map V.int)/\wA xs k=aa v/\Q v H
theorem ix_K(l:X.A.units+1<b_):IxR X (rIxK X.K):=by
 intro value S A1 s σ H x y v u Q I i g h m;obtain⟨a,b,k,xs,ep,z,rfl,rfl,ea,n,t,e,q⟩:=h;cases(show v=aT a from i);cases(show u=aT b from g);obtain⟨vs,j,r,o,f⟩:=Cm I ea n;have Y:=xB (k:=k) j;rw[e]at Y;obtain⟨w,d,U⟩:=Y.some_of;cases c:jT vs k with
 |none=>simp_all|some p=>rw[c]at d;cases d;exact jN f.typeIs slot_dict_getitem.lookup (wpAny_getItem_heap (iY l) (zy I t) f c ⟨rfl,z,H,I.tok _,U,q⟩) m
theorem x_ixK{W:qE}(g:X.A.units+64<b_)(f: ~~~(X.K=K)):IxR X (rD2 K W ae ixKD):=by
 subst f;refine(ix_K ac).imp λx y H Q h=>?_;obtain⟨F,a,b,s1,U,S,p⟩:=h;cases a with
 |dic ks=>
  have p:eQ X.K W ae F H ((u5 b).bind λk=>match tT ks k with|some d=>.ok d|none=>stk) Q:=p;cases I:u5 b with
  |error e=>rw[I]at p;have:=rF I;subst this;exact eQ.stuck p|ok k=>
   rw[I,dm]at p;obtain⟨a,xs,rfl,⟨ep,Y⟩,z⟩:=U;obtain⟨c,rfl,t⟩:=tH I S;rcases z.at with⟨e1,_⟩|⟨d,v,e1,e2,q⟩
   .rw[e1]at p;exact eQ.stuck p
   .rw[e1]at p;exact⟨a,c,k,xs,ep,v,rfl,rfl,s1 _ _ Y,z.key.mono s1,s1.tup t,e2,p v F H (A2.refl s1) q⟩
 |_=>exact eQ.stuck p
section
open PySem.W
end
def tClrK(td:TE):TE:=λσ H Q=>td σ H λx H1=>∃a xs ep,x=.ref a/\H1 a=aa (ur a xs ep)/\∀ep',Q .non (upd H1 a (ur a [] ep'))
section
variable{o:bX}
def pe_clrK(k:PE X o td)(U: ~~~(cy o "clear" X.env (a_ o X.env)=a_ o X.env))(S: ~~~((apos.endLine==cpos.line)=ag)):PE X (.Call (.Attribute o "clear" apos) [] [] cpos) (tClrK td):=by
 intro A1 s σ H Q I h;refine gM U S (A7 (k A1 s σ H _ I h) λv s1 j=>?_);obtain⟨x,H1,e,i,a,xs,ep,ex,ea,q1⟩:=j;subst ex;cases(show v=aT a from i);obtain⟨c,f⟩:=Js e ea;refine⟨"dict","dict.clear",eN,lU,PySem.F.type_dict_clear,c,f,dR rfl (gZ ?_)⟩
 obtain⟨vs,g,na,l,r,q,es,h1,p,b,n⟩:=FZ e ea;have m:es.size<=ay:=by
  have e1:es.size=vs.length:=by rw[<-bQ,n,az]
  rw[e1,<-g.length];exact l
 refine bh lU c PySem.F.entry_dict_clear ?_ (PySem.F.args_dict_clear_1 _);refine ab ?_;refine ab (gY c ?_);refine ai ?_;refine ab (bP h1 b ?_);refine ab ?_;refine ab (jE h1 (ai ?_));refine ab (wpAny_updateDictKeys h1 b ?_);have d:B8 (s1.heap.update a (pj λ_=>#[])) a [] (ep+1):=⟨[],.nil,na,bz _,gF,_,_,fO _ h1 (Obj.isFreed_of_dict (nF b _)),p.mapDictKeys _,nF b _,rfl⟩
 have Y:EP X A1 σ Q .none {s1 with heap:=s1.heap.update a (pj λ_=>#[])}:=⟨.non,_,e.dic ea (c9 ..) d,rfl,q1 _⟩
 split
 .exact ab (kc (ai ⟨.none,rfl,Y⟩))
 .exact ab (ai (ai ⟨.none,rfl,Y⟩))
end
section
open PySem
end
mutual
noncomputable def noD:A0->Bool
 |.tup ds=>noDs ds|.lst ds=>noDs ds|.ins _ gs=>noDF gs|.dic _=>ae|.dil _=>ae|_=>ag
noncomputable def noDs:a9->Bool
 |[]=>ag|d::ds=>noD d&&noDs ds
noncomputable def noDF:List (br×A0)->Bool
 |[]=>ag|(_,d)::gs=>noD d&&noDF gs
end
noncomputable def isExt:HO->Bool
 |.ext _=>ag|_=>ae
def Drops(F F':Hp):Prop:=∀b o,F b=aa o->isExt o=ae->F' b=aa o
structure Mst where
 k:A0
 g:A0
 b:A0
 c:a9
 n:a9
 f:a9
structure Mad where
 p:av
 c:av
 n:av
 f:av
 v0:V
 v1:V
 v2:V
inductive Mfl where
 |nx (s:Mst) (ρ:df)
 |rt (s:Mst) (d:A0)
noncomputable abbrev SK:=a8×Int
variable{T:List (SK×List Int)}
abbrev ya:=SK×av×av
def skHash(k:SK):Int:=hR (bc [tHash k.1,pS k.2])
def rowS(x:ya):cF:=⟨skHash x.1,.ref x.2.1,.ref x.2.2⟩
inductive HU(h:bF)(a:av)(xs:List ya)(ep:Nat):Prop
 |mk (m:(a==bT)=ae) (z:xs.length<=ay) (n:(xs.map (·.1)).Nodup) (o:j5) (es:Array cF) (g:h.get? a=aa o) (x:o.ExactDict) (d:o.data=.dict es ep) (e:es.toList=xs.map rowS)
noncomputable def yu(a:av)(xs:List ya)(ep:Nat):HO:=.ext λh=>HU h a xs ep
inductive NL(K:Fg)(F:Hp)(b:av)(k:SK):Prop
 |mk (r:av) (p:SqT K F b [V.ref r,V.int k.2]) (q:SqT K F r (k.1.map V.int))
abbrev Io(P:bL)(w:c8):oN P w SK:=heapI (pairI (tupI (KW P w)) (KW P w)) (by show pL (0+1) 0+1<=8;decide)
def NL.map(s:∀b xs,SqT K F b xs->SqT K F' b xs){k:SK}(h:NL K F b k):NL K F' b k:=
 let ⟨r,S,I⟩:=h;⟨r,s _ _ S,s _ _ I⟩
noncomputable def putS(ks:List (SK×a8))(k:SK)(v:a8):List (SK×a8):=if k∈ks.map (·.1)then ks.map (λx=>if x.1=k then(x.1,v)else x)else ks++[(k,v)]
noncomputable def K9(xs:List ya)(k:SK)(b c:av):List ya:=if k∈xs.map (·.1)then xs.map (λx=>if x.1=k then(x.1,x.2.1,c)else x)else xs++[(k,b,c)]
def LP(xs:List ya)(k:SK)(b c:av):(K9 xs k b c).length<=xs.length+1:=by unfold K9;split<;>simp
noncomputable def enS(x:ya):SK×av×aj:=(x.1,x.2.1,.ref x.2.2)
def Jo(xs:List ya):(xs.map enS).map (·.1)=xs.map (·.1):=by rw[aR];rfl
def atS(xs:List ya)(k:SK):(jT (xs.map enS) k).isSome=aF (k∈xs.map (·.1)):=by
 unfold jT;rw[j9,hG,oj];simp only[bp,eA];constructor
 .rintro⟨x,⟨y,I,rfl⟩,e⟩;exact⟨y,I,e⟩
 .rintro⟨y,I,e⟩;exact⟨enS y,⟨y,I,rfl⟩,e⟩
def storedS(xs:List ya)(k:SK)(b c:av):mJ (xs.map enS) k b (.ref c)=(K9 xs k b c).map enS:=by
 unfold mJ K9;rw[atS];by_cases h:k∈xs.map (·.1)
 .rw[dA h,aC h,aR,aR];refine bM λx _=>?_;show pR k _ _=enS (if x.1=k then(x.1,x.2.1,c)else x);unfold pR;split<;>rename_i e
  .rw[aC (show x.1=k from e)];rfl
  .rw[aA (show ¬x.1=k from e)]
 .rw[cq h,aA h];simp[enS]
section
variable{s:ao}{xs:List ya}{k:SK}
def LB(I:A3 X A1 σ H s)(h:NL X.K H b k):(Io X.prog X.w).is s.heap k b:=by obtain⟨r,c,a⟩:=h;obtain⟨us,d,Y⟩:=Ie I c;obtain⟨U,S,rfl,f,e⟩:=d.two;cases(show U=aT r from f);exact⟨b,.ref r,S,rfl,Y,row_at I a,e⟩
def SksAt(K:Fg)(H:Hp)(xs:List ya):Prop:=∀x∈xs,NL K H x.2.1 x.1
def Lu{xs:List ya}(z:HU h a xs ep):uo H h a (yu a xs ep):=by
 have S:=z;obtain⟨h1,l,k,o,es,Y,j⟩:=z;refine⟨S,⟨o,Y⟩,λ_ _ U e=>?_⟩
 obtain⟨i,g2,g,o',I,f,d,c,b⟩:=U;exact⟨i,g2,g,o',I,e _ f,d,c,b⟩
def Lr(I:A3 X A1 σ H s)(e:H a=aa (yu a xs ep)):HU s.heap a xs ep:=(show HU s.heap a xs ep/\_ from I.hok a _ e).1
def stp_at(I:A3 X A1 σ H s)(e:H a=aa (yu a xs ep))(z:SksAt X.K H xs):(a==bT)=ae/\xs.length<=ay/\s.heap.DictOfH (Io X.prog X.w) a (xs.map enS):=by
 obtain⟨c,b,Y,o,es,h1,g,f,d⟩:=Lr I e;refine⟨c,b,o,es,ep,h1,g,f,?_,λq U=>?_,by rw[Jo];exact Y⟩
 .rw[d,aR];rfl
 .obtain⟨x,S,rfl⟩:=bp.mp U;exact LB I (z x S)
def stpOk_of(d:h.DictOfH (Io P w) a (xs.map enS))(U:(a==bT)=ae)(S:xs.length<=ay):∃ep,HU h a xs ep:=by
 obtain⟨o,es,ep,h1,c,b,Y,_,I⟩:=d;rw[Jo]at I;refine⟨ep,U,S,I,o,es,h1,c,b,?_⟩
 rw[Y,aR];rfl
def A3.stp{ys:List ya}{t':Nat}(I:A3 X A1 σ H s)(e:H a=aa (yu a xs ep))(S:dG a s.heap h')(z:HU h' a ys ep'):A3 X A1 σ (upd H a (yu a ys ep')) {s with heap:=h',toks:=t'}:=
 I.write (by rw[e];exact gz) (.inl rfl) (λc q U w=>(S.2 c U).trans w) (let ⟨_,_,_,o,_,w,_,_,_⟩:=z;⟨o,w⟩) (Lu z)
end
theorem sroom(I:A.units+64<b_):(Io P w).room A.in1:=by show A.units+1+2<b_;lia
def tNewS:TE:=λ_ H Q=>∀p,H p=af->Q (.ref p) (upd H p (yu p [] 0))
def sPutS(K:Fg)(td ty tv:TE):TS:=λD σ H=>tv σ H λv H1=>td σ H1 λx H2=>ty σ H2 λy I=>∃a b c k xs ep,v=.ref c/\x=.ref a/\y=.ref b/\I a=aa (yu a xs ep)/\SksAt K I xs/\NL K I b k/\xs.length<ay/\∀ep',D.nx σ (upd I a (yu a (K9 xs k b c) ep'))
section
variable{o i:bX}{ty:TE}
def Lv(h:bF)(I:bT<h.objs.size):HU (h.push {cls:=.type "dict",data:=.dict #[]}) h.objs.size [] 0:=
 ⟨mw.mpr (bO (bg I)),bz _,gF,_,#[],aw _ rfl,⟨rfl,rfl,rfl⟩,rfl,rfl⟩
def pe_newS:PE X (.Dict [] [] pos) tNewS:=λA1 s σ H Q I h=>l_ ⟨.ref s.heap.objs.size,_,I.laid (λ_ _ q=>ah _ q) (aq _) (Lu (Lv s.heap I.big)),rfl,h _ (I.hok.fresh (aq _))⟩
theorem ps_putS(p:X.A.units+64<b_)(w:PE X o td)(hi:PE X i ty)(n:PE X value tv)(q:dJ value (aa (.Subscript o i pos')) pos.line X.env=cO ae):PS X (.Assign [.Subscript o i pos'] value pos) (sPutS X.K td ty tv):=by intro A1 s σ H D I h;refine jG (A7 (n A1 s σ H _ I h) λr s1 S=>?_) q;obtain⟨v,H1,G,g,q1⟩:=S;refine A7 (w A1 s1 σ H1 _ G q1) λu s2 S=>?_;obtain⟨x,H2,F,f,q2⟩:=S;refine A7 (hi A1 s2 σ H2 _ F q2) λl J S=>?_;obtain⟨y,L,d,e,a,b,c,k,xs,ep,ev,ex,C,ea,A,t,K,j⟩:=S;subst ev ex C;cases(show u=aT a from f);cases(show l=aT b from e);cases(show r=aT c from g);obtain⟨B,m,E⟩:=stp_at d ea A;refine kZ (hsz:=by rw[az];exact m) (sroom p) (LB d t) E λh' U Y=>?_;rw[storedS]at U;obtain⟨ep',z⟩:=stpOk_of U B (by have:=LP xs k b c;lia);exact⟨σ,_,d.stp ea Y z,j ep'⟩
end
def tViewS(td:TE):TE:=λσ H Q=>td σ H λx H1=>∃a xs ep,x=.ref a/\H1 a=aa (yu a xs ep)/\∀p,H1 p=af->Q (.ref p) (upd H1 p (VwO "dict_items" p a))
def srows_at{xs:List ya}{e:cF}(h:(xs.map rowS)[i]?=aa e):∃x,xs[i]?=aa x/\e.key=.ref x.2.1/\e.val=.ref x.2.2:=by
 rw[aV]at h;cases I:xs[i]? with
 |none=>rw[I]at h;cases h|some x=>rw[I]at h;cases h;exact⟨x,rfl,rfl,rfl⟩
section
variable{s:ao}{xs:List ya}{o:bX}
def CJ(I:A3 X A1 σ H s)(e:H a=aa (yu a xs ep)):∃es:Array cF,(a==bT)=ae/\xs.length<=ay/\B3 s.heap a es ep/\es.toList=xs.map rowS/\es.size=xs.length:=by obtain⟨Y,U,d,u,es,h1,c,b,S⟩:=Lr I e;exact⟨es,Y,U,⟨u,h1,c,b⟩,S,by rw[<-bQ,S,az]⟩
def stp_ty(I:A3 X A1 σ H s)(e:H a=aa (yu a xs ep)):s.TypeIs (.ref a) "dict"/\(∀b,aT a=.ref b->∃S,s.heap.get? b=aa S/\S.dict=af):=by obtain⟨_,_,_,o,_,h1,U,_⟩:=Lr I e;exact⟨⟨o,h1,U.1⟩,λc q=>by cases q;exact⟨o,h1,U.2.1⟩⟩
def pe_itmsS(d:PE X o td)(g: ~~~(cy o "items" X.env (a_ o X.env)=a_ o X.env))(e: ~~~((apos.endLine==cpos.line)=ag)):PE X (.Call (.Attribute o "items" apos) [] [] cpos) (tViewS td):=by
 intro A1 s σ H Q I h;refine gM g e (A7 (d A1 s σ H _ I h) λv s1 c=>?_);obtain⟨x,H1,S,b,a,xs,ep,ex,ea,q1⟩:=c;subst ex;cases(show v=aT a from b);obtain⟨U,Y⟩:=stp_ty S ea;obtain⟨es,f,_,z,_⟩:=CJ S ea;exact⟨"dict","dict.items",eN,gn,lS,U,Y,dR rfl (gZ (lH gn U lN (ll _) (C3 a es ep f)
  ⟨z,.ref s1.z,_,S.laid (λ_ _ q=>ah _ q) (aq _) (Lb ⟨_,aw _ rfl,rfl,rfl⟩),rfl,q1 _ (S.hok.fresh (aq _))⟩))⟩
end
def ItS(a:av)(xs:List ya)(ep:Nat):It:=
 ⟨λi H=>H a=aa (yu a xs ep)/\i<xs.length,λi H v H'=>∃T x,H T=af/\v=.ref T/\xs[i]?=aa x/\H'=upd H T (.tup [.ref x.2.1,.ref x.2.2]),λi H=>H a=aa (yu a xs ep)/\xs.length<=i⟩
theorem JQ(a q:av)(xs:List ya)(ep:Nat):Turn P w K (.Tuple elts k pos) (ItS a xs ep) [q] q (λi h=>∃ok ov,jK h q a i xs.length ep ok ov) where
 mem:=by simp
 obj:=λi h st b d=>by grind
 keep:=λi h h' st n=>let ⟨ok,ov,e⟩:=st;⟨ok,ov,n q ad _ e⟩
 item:=by
  intro X B hw C m i A1 s σ H E I c st g;obtain⟨ok,ov,S⟩:=st;obtain⟨j,hi⟩:=g;obtain⟨es,y,p,z,l,hsz⟩:=CJ I j;rw[<-hsz]at S;have f0:=(c q ad).1;have f:i<es.size:=ac
  obtain⟨x,r,v,t⟩:=srows_at (i:=i) (e:=es[i]) (by rw[<-l];simp[f]);refine C0 S z (e:=es[i]) ad λh' out A u keep=>⟨_,rfl,mI out λD Y U=>?_⟩
  have F:A3 X A1 σ (upd H s.z (.tup [.ref x.2.1,.ref x.2.2])) {s with heap:=D,toks:=s.toks}:=I.zv c (λb o d e=>(U.2 b a7).trans (keep b o a7 e)) (aq _) ⟨ad,[es[i].key,es[i].val],.cons v (.cons t .nil),⟨_,(U.2 _ (cW (aE S))).trans A,rfl,0,rfl⟩⟩;refine⟨.ref s.z,_,F,rfl,⟨_,x,I.hok.fresh (aq _),rfl,r,rfl⟩,⟨_,_,by rw[hsz]at Y;exact Y⟩,λb d=>?_⟩
  grind[dV]
 done:=by intro X B hw C m i A1 s σ H E I c st g;obtain⟨ok,ov,S⟩:=st;obtain⟨j,hi⟩:=g;obtain⟨es,y,p,z,l,hsz⟩:=CJ I j;rw[<-hsz]at S;obtain⟨f0,f1,f2,f3,f4,f5⟩:=c q ad;exact FV (I.ok.hd m) S z ac λh' eb=>⟨rfl,I.turned (λb o d e=>eb b o d e) f0 f1 f3 f4 f5⟩
 self:=λ_ _ _ _ _ ⟨ok,ov,e⟩ h=>nu e h
def qo{α:Type}(f:α->A0->M α):a9->α->M α
 |[],a=>.ok a|d::ds,a=>(f a d).bind λa'=>qo f ds a'
structure IterS(K:Fg)(P:Hp->Hp->Prop)(J:It)(ds:a9):Prop where
 go:∀(i:Nat) (F H:Hp),P F H->i<ds.length->J.go i H
 yl:∀(i:Nat) (F H:Hp) (x:V) (H':Hp) (d:A0),P F H->ds[i]?=aa d->J.yld i H x H'->∃F',A2 F H F' H'/\i1 K F' d x
 st:∀(F H:Hp),P F H->J.stop ds.length H
def yx.toS{J:It}(I:yx K F1 J ds):IterS K (λF H=>eH F1 F/\eH F H) J ds:=
 ⟨λi F H z h=>I.go i F H z.1 z.2 h,λi F H x H' d z h y=>I.yl i F H x H' d z.1 z.2 h y,λF H z=>I.st F H z.1 z.2⟩
def iter_cel{ys:bi}:IterS K (λF H=>H c=aa (.lst ys)/\ei K F ds ys/\eH F H) (Itl K c) ds where
 go:=λi F H z hi=>⟨ys,ys[i]'(by rw[z.2.1.length];exact hi),SqL.of z.1,ad⟩
 yl:=λi F H x H' d z S I=>by obtain⟨e,I⟩:=I;subst e;obtain⟨v,e1,q⟩:=z.2.1.get S;have e2:=I ys (SqL.of z.1);rw[e1]at e2;cases e2;exact⟨F,A2.refl z.2.2,q⟩
 st:=λF H z=>⟨ys,SqL.of z.1,by rw[z.2.1.length];simp⟩
theorem vH{g:TG}{tb:TS}{D:Ends}{f:α->A0->M α}{S:α->Hp->St->Hp->Prop}{J:It}{P:Hp->Hp->Prop}{c:α}{j:St}(l:IterS K P J ds)(t:∀{a F σ H},S a F σ H->P F H)(A:S c F0 j H0)(w:∀e,qo f ds c=.error e->wp e)(v:∀a F σ H,qo f ds c=.ok a->S a F σ H->D.nx σ H)(body:∀a d F σ H,S a F σ H->(∀e,f a d=.error e->wp e)->∀x F' H',A2 F H F' H'->i1 K F' d x->g x σ H' λU H2=>tb {D with nx:=λI k=>∃a' b,f a d=.ok a'/\S a' b I k,ct:=λI k=>∃a' b,f a d=.ok a'/\S a' b I k,bk:=D.nx} U H2):
  ∃W:Nat->Nat->St->Hp->Prop,(∃m,W 0 m j H0)/\∀i m σ H,W i m σ H ->
 (J.stop i H/\D.nx σ H)\/(J.go i H/\∃N:St->Hp->Prop,(∀Y H',N Y H'->∃n,n<m/\W (i+1) n Y H')/\∀x H',J.yld i H x H'->g x σ H' λU H2=>tb {D with nx:=N,ct:=N,bk:=D.nx} U H2):=by
 refine⟨λi m σ H=>m+i=ds.length/\∃a F,S a F σ H/\qo f (ds.drop i) a=qo f ds c,⟨ds.length,rfl,c,F0,A,by rw[f_]⟩,λi m σ H u=>?_⟩
 obtain⟨E,a,F,s,e⟩:=u;have p:=t s;by_cases hi:i<ds.length
 .rw[cM hi]at e;have o:(f a ds[i]).bind (λa'=>qo f _ a')=qo f ds c:=e;refine .inr ⟨l.go i F H p hi,λI k=>∃a' b,f a ds[i]=.ok a'/\S a' b I k,λY H' ⟨a',b,h1,z⟩=>⟨m-1,ac,ac,a',b,z,by rw[<-o,h1];rfl⟩,λx H' y=>?_⟩;obtain⟨F',r,q⟩:=l.yl i F H x H' ds[i] p ad y;exact body a ds[i] F σ H s (λB h=>w B (by rw[<-o,h];rfl)) x F' H' r q
 .rw[List.drop_eq_nil_of_le ac]at e;have C:i=ds.length:=ac
  subst C;exact .inl ⟨l.st F H p,v a F σ H e.symm s⟩
inductive Cel(K:Fg)(F H:Hp)(c:av)(L:List A0):Prop
 |mk (ys:List V) (h:H c=aa (.lst ys)) (d:ei K F L ys) (f:F c=af)
def Cel.step(z:Cel K F H c L)(s:A2 F H F' H'):Cel K F' H' c L:=by
 obtain⟨ys,h,d,f⟩:=z;refine⟨ys,s.hh _ _ h,d.mono s.ff,?_⟩
 cases e:F' c with
 |none=>rfl|some o=>
  rcases s.nw c o e with z|z
  .rw[f]at z;cases z
  .rw[h]at z;cases z
def celC(iL:Nat)(ft:df->M Bool)(iB:Nat)(ρ:df)(L:a9):M a9:=(ft (ρ.set iL (aa (.lst L)))).bind λb=>if b=ag then(match ρ[iB]? with
 |some (aa d)=>if L.length<ay then .ok (L++[d])else stk
 |_=>stk)else .ok L
def wk(iS iB iL:Nat)(fb:df->M A0)(ft:df->M Bool)(a:df×a9)(d:A0):M (df×a9):=(fb (a.1.set iS (aa d))).bind λb=>(celC iL ft iB ((a.1.set iS (aa d)).set iB (aa b)) a.2).bind λL=>.ok ((a.1.set iS (aa d)).set iB (aa b),L)
def Cel.lay(z:Cel K F H c L)(a:J c=af)(s:A2 F1 J F H)(r:rV K F σ ρ)(h:σ[i]?=aa (aa (.ref c))):∃F',A2 F1 J F' H/\rV K F' σ (ρ.set i (aa (.lst L))):=by
 obtain⟨ys,e,d,f⟩:=z;have S:eH F (upd F c (.lst ys)):=eH.upd f;have U:=(r.mono S).set (i:=i) (d:=.lst L) ⟨c,ys,rfl,SqL.of dy,d.mono S⟩;refine⟨upd F c _,⟨s.ff.trans S,s.hh,λb o q=>?_,λb o q=>?_⟩,?_⟩
 .by_cases I:b=c
  .subst I;rw[dy]at q;cases q;exact e
  .rw[dV I]at q;exact s.fh b o q
 .by_cases I:b=c
  .subst I;exact .inr a
  .rw[dV I]at q;exact s.nw b o q
 .have:σ.set i (aa (.ref c))=σ:=by
   refine kA λj=>?_;by_cases Y:i=j
   .subst Y;rw[aG (aD.mp h).1,h]
   .rw[aB Y]
  rw[this]at U;exact U
def Cel.put(z:Cel K F H c L)(I:J c=af)(s:A2 F1 J F H)(q:i1 K F d v):∃ys,H c=aa (.lst ys)/\ys.length=L.length/\A2 F1 J F (upd H c (.lst (ys++[v])))/\Cel K F (upd H c (.lst (ys++[v]))) c (L++[d]):=by
 obtain⟨ys,e,w,f⟩:=z;refine⟨ys,e,w.length,⟨s.ff,λb o h=>?_,λb o h=>?_,s.nw⟩,⟨_,dy,w.append (ei.cons q ei.nil),f⟩⟩
 .rw[dV (λz=>by subst z;rw[I]at h;cases h)];exact s.hh b o h
 .rw[dV (λz=>by subst z;rw[f]at h;cases h)];exact s.fh b o h
def rs_strip{W:qE}{D:Ends}{ks:be}(q:∀e,wp e->∀F H,A2 F1 J F H->W.p e F H)(hS:iS∉ks)(hB:iB∉ks)(hL:iL∈ks)(T:iB<σ.length)(hJ:J c=af)(s:A2 F1 J F H)(r:rV K F σ ρ)(cl:Cel K F H c L)(hv:σ[iL]?=aa (aa (.ref c)))(C:∀e,((fi ρ).bind λds=>qo (wk iS iB iL fb ft) ds (ρ,L))=.error e->wp e)(hN:∀a,((fi ρ).bind λds=>qo (wk iS iB iL fb ft) ds (ρ,L))=.ok a->∀F' U H',A2 F1 J F' H'->rV K F' U a.1->Cel K F' H' c a.2->(∀j∈ks,U[j]?=σ[j]?)->U.length=σ.length->D.nx U H'):
  CF (iD K W fi) (r9 iS) (y9 (GA (tD K W ae fb) (r9 iB)) (tIfS (tDT K W ft) (tApp K iL (wj iB)) JU)) D σ H:=by
 refine⟨F,ρ,r,s.fh,?_⟩
 cases Z:fi ρ with
 |error e=>exact q e (C e (by rw[Z];rfl)) F H s|ok ds=>
 rw[Z]at C hN;intro I F2 H2 s2 it;refine vH (S:=λa F' U H'=>eH F2 F'/\A2 F1 J F' H'/\rV K F' U a.1/\Cel K F' H' c a.2/\(∀j∈ks,U[j]?=σ[j]?)/\U.length=σ.length) it.toS (λz=>⟨z.1,z.2.1.fh⟩) ⟨eH.refl _,s.trans s2,r.mono s2.ff,cl.step s2,λ_ _=>rfl,rfl⟩ C (λa F' U H' e z=>hN a e F' U H' z.2.1 z.2.2.1 z.2.2.2.1 z.2.2.2.2.1 z.2.2.2.2.2) ?_;rintro⟨f,g⟩ d F3 m H3 ⟨f3,s3,Q,c3,k3,u⟩ B x F4 H4 l q4;have P:=(Q.mono l.ff).set q4 iS;have p:=s3.trans l;refine eu P l.fh (λe h=>q e (B e (by unfold wk;rw[h];rfl)) _ _ p) λb hb v F5 H5 k R=>?_;have O:=(P.mono k.ff).set R iB;have o:=p.trans k;have c5:=(c3.step l).step k;have w:∀j∈ks,((m.set iS (aa x)).set iB (aa v))[j]?=σ[j]?:=λj A=>by rw[aB (λz=>hB (by rw[z];exact A)),aB (λz=>hS (by rw[z];exact A))];exact k3 j A
 have X:((m.set iS (aa x)).set iB (aa v)).length=σ.length:=by rw[aL,aL,u]
 have E:=(w iL hL).trans hv;obtain⟨F6,G,r6⟩:=c5.lay hJ o O E;have Y:wk iS iB iL fb ft (f,g) d=(celC iL ft iB ((f.set iS (aa d)).set iB (aa b)) g).bind λL=>.ok ((f.set iS (aa d)).set iB (aa b),L):=by unfold wk;rw[hb];rfl
 refine u7 r6 G.fh (λe h=>q e (B e (by rw[Y];unfold celC;rw[h];rfl)) _ _ G) λt ht F7 H7 s7=>?_;have n:=A2.same k.fh s7.hh;have i:=o.trans n;have c7:=c5.step n;have N:=O;have ec:celC iL ft iB ((f.set iS (aa d)).set iB (aa b)) g=if t=ag then(match ((f.set iS (aa d)).set iB (aa b))[iB]? with|some (aa d)=>if g.length<ay then .ok (g++[d])else stk|_=>stk)else .ok g:=by unfold celC;rw[ht];rfl
 cases t with
 |false=>rw[ec]at Y;exact⟨_,F5,Y,f3.trans (l.ff.trans k.ff),i,N,c7,w,X⟩|true=>
  rw[ec,(aG (by rw[aL,Q.len,u];exact T))]at Y;obtain⟨ys,h1,h2,h3,h4⟩:=c7.put hJ i R;have Y:wk iS iB iL fb ft (f,g) d=((if g.length<ay then .ok (g++[b])else stk)).bind λL=>.ok ((f.set iS _).set iB _,L):=Y;by_cases y:g.length<ay
  .rw[aC y]at Y;refine⟨.ref c,E,⟨rfl,_,_,rfl,SqL.of h1⟩,v,by rw[aG (by rw[aL,u];exact T)],c,ys,v,rfl,rfl,h1,by rw[h2];exact y,?_⟩
   exact⟨_,F5,Y,f3.trans (l.ff.trans k.ff),h3,N,h4,w,X⟩
  .rw[aA y]at Y;exact(W.ns (q _ (B _ Y) _ _ i)).elim
def labC(iLab iS iB iL:Nat)(fi:df->M a9)(fb:df->M A0)(ft:df->M Bool)(a:df×a9)(d:A0):M (df×a9):=(fi (a.1.set iLab (aa d))).bind λds=>qo (wk iS iB iL fb ft) ds (a.1.set iLab (aa d),a.2)
def rs_labs{W:qE}{La:a9}{D:Ends}{ks:be}(p:∀e,wp e->∀F H,A2 F1 J F H->W.p e F H)(f:iLab∉ks)(T:iS∉ks)(hB:iB∉ks)(q:iL∈ks)(C:iB<σ.length)(Z:J c=af)(s:A2 F1 J F H)(r:rV K F σ ρ)(cl:Cel K F H c L)(O:σ[iL]?=aa (aa (.ref c)))(P:σ[iF]?=aa (aa (.ref a)))(m:∀e,fa ρ=.error e->wp e)(hA:∀d,fa ρ=.ok d->∃i xs ep g ys,u5 d=.ok i/\J a=aa (ur a xs ep)/\wd K J xs/\wA xs i=aa (.ref g)/\J g=aa (.lst ys)/\ei K F1 La ys)(hE:∀e,qo (labC iLab iS iB iL fi fb ft) La (ρ,L)=.error e->wp e)(X:∀a,qo (labC iLab iS iB iL fi fb ft) La (ρ,L)=.ok a->∀F' I H',A2 F1 J F' H'->rV K F' I a.1->Cel K F' H' c a.2->(∀j∈ks,I[j]?=σ[j]?)->I.length=σ.length->D.nx I H'):
  CF (iSeq K (tOp (rIxK K) (wj iF) (tD K W ae fa))) (r9 iLab) (CF (iD K W fi) (r9 iS) (y9 (GA (tD K W ae fb) (r9 iB)) (tIfS (tDT K W ft) (tApp K iL (wj iB)) JU))) D σ H:=by
 refine⟨.ref a,P,eu r s.fh (λe h=>p e (m e h) _ _ s) λd R y F2 H2 s2 q2=>?_⟩
 obtain⟨i,xs,ep,g,ys,h1,h2,h3,h4,u,h6⟩:=hA d R;obtain⟨b,rfl,t⟩:=tH h1 q2;have U:=s.trans s2;refine⟨a,b,i,xs,ep,.ref g,rfl,rfl,U.hh _ _ h2,h3.mono U.hh,s2.fh.tup t,h4,g,rfl,.inl ⟨⟨ys,SqL.of (U.hh _ _ u)⟩,?_⟩⟩
 refine vH (S:=λz F' I H'=>A2 F1 J F' H'/\rV K F' I z.1/\Cel K F' H' c z.2/\(∀j∈ks,I[j]?=σ[j]?)/\I.length=σ.length) (iter_cel) (λz=>⟨z.1.hh _ _ u,h6.mono z.1.ff,z.1.fh⟩) ⟨U,r.mono s2.ff,cl.step s2,λ_ _=>rfl,rfl⟩ hE (λz F' I H' e y=>X z e F' I H' y.1 y.2.1 y.2.2.1 y.2.2.2.1 y.2.2.2.2) ?_;rintro⟨v,L1⟩ d1 F3 k H3 ⟨w,A,c3,G,n⟩ Q x F4 H4 l B;have o:∀j∈ks,(k.set iLab (aa x))[j]?=σ[j]?:=λj Y=>by rw[aB (λz=>f (by rw[z];exact Y))];exact G j Y
 refine rs_strip p T hB q (by rw[aL,n];exact C) Z (w.trans l) ((A.mono l.ff).set B iLab) (c3.step l) ((o iL q).trans O) (λe h=>Q e h) λz N F' I H' s' r' c' k' E=>?_;exact⟨z,F',N,s',r',c',λj Y=>(k' j Y).trans (o j Y),by rw[E,aL,n]⟩
inductive FdR(K:Fg)(F G H:Hp)(a:av)(e:List Int×A0)(x:JJ):Prop
 |mk (k:x.1=e.1) (t:SqT K F x.2.1 (x.1.map V.int)) (c:av) (L:List A0) (e1:e.2=.lst L) (e2:x.2.2=.ref c) (z:Cel K F H c L) (g:G c=af) (n:c≠a)
inductive Fd(K:Fg)(F G H:Hp)(a:av)(E:List (List Int×A0)):Prop
 |mk (xs:List JJ) (ep:Nat) (top:H a=aa (ur a xs ep)) (fa:F a=af) (ga:G a=af) (rows:cb (FdR K F G H a) E xs) (nd:(xs.map (·.2.2)).Nodup) (nk:(xs.map (·.1)).Nodup)
def Cel.at(z:Cel K F H c L)(e:H' c=H c):Cel K F H' c L:=by obtain⟨ys,h,d,f⟩:=z;exact⟨ys,e.trans h,d,f⟩
theorem yn:∀{E:List (a8×A0)} {xs:b0},cb (FdR K F G H a) E xs->wd K F xs
 |_,_,.nil,x,I=>by cases I|_,_,.cons h t,x,I=>by
  cases I with
  |head=>exact h.2|tail _ I=>exact yn t x I
theorem FL{k:a8}:∀{E:List (a8×A0)} {xs:b0},cb (FdR K F G H a) E xs ->
  (tT E k=af/\wA xs k=af)\/∃L c,tT E k=aa (.lst L)/\wA xs k=aa (.ref c)/\Cel K F H c L/\G c=af/\c≠a
 |_,_,.nil=>.inl ⟨rfl,rfl⟩|e::E,x::xs,.cons h t=>by
  obtain⟨h1,S,c,L,e1,e2,z,g,n⟩:=h;by_cases I:x.1=k
  .refine .inr ⟨L,c,?_,?_,z,g,n⟩
   .unfold tT;rw[cV,show aF _=ag from dA (h1▸I)];exact dI aa e1
   .unfold wA;rw[cV,show aF _=ag from dA I];exact dI aa e2
  .have q1:tT (e::E) k=tT E k:=by unfold tT;rw[cV,show aF _=ae from cq (h1▸I)]
   have q2:wA (x::xs) k=wA xs k:=by unfold wA;rw[cV,show aF _=ae from cq I]
   rw[q1,q2];exact FL t
def zj{k:a8}:∀{xs:b0},wA xs k=aa v->∃x∈xs,x.1=k/\x.2.2=v:=by
 intro xs h;unfold wA at h;cases e:xs.find? (λp=>aF (p.1=k))with
 |none=>rw[e]at h;cases h|some x=>rw[e]at h;cases h;exact⟨x,List.mem_of_find?_eq_some e,by simpa using List.find?_some e,rfl⟩
def MT{k:a8}{xs:b0}(h:wA xs k=af):∀x∈xs,x.1≠k:=by intro x I e;unfold wA at h;rw[Option.map_eq_none_iff,nZ]at h;exact h x I (by simpa using e)
theorem wN{α β:Type}{f:α->β}:∀{xs:List α},(xs.map f).Nodup->∀{x y:α},x∈xs->y∈xs->f x=f y->x=y
 |[],_,_,_,h,_,_=>by cases h|z::xs,n,x,y,S,I,e=>by
  rw[aO,dN]at n;cases S with
  |head=>
   cases I with
   |head=>rfl|tail _ I=>exact bu (bp.mpr ⟨y,I,e.symm⟩) n.1
  |tail _ S=>
   cases I with
   |head=>exact bu (bp.mpr ⟨x,S,e⟩) n.1|tail _ I=>exact wN n.2 S I e
theorem MZ{k:a8}{c:av}{L:a9}(b:eH F F')(S:Cel K F' H' c L)(j:G c=af)(d:c≠a)(I:∀Y o,Y≠c->Y≠a->Cel K F H Y o->Cel K F' H' Y o):∀{E:List (a8×A0)} {xs:b0},cb (FdR K F G H a) E xs ->
  (∀x∈xs,x.1≠k->x.2.2≠.ref c)->cb (FdR K F' G H' a) (E.map λp=>if p.1=k then(p.1,.lst L)else p) (xs.map λx=>if x.1=k then(x.1,x.2.1,.ref c)else x)
 |_,_,.nil,_=>.nil|e::E,x::xs,.cons h t,f=>by
  refine .cons ?_ (MZ b S j d I t λy r=>f y (bH _ r));obtain⟨h1,i,l,m,e1,e2,z,g,n⟩:=h;show FdR K F' G H' a (if e.1=k then(e.1,.lst L)else e) (if x.1=k then(x.1,x.2.1,.ref c)else x);by_cases U:x.1=k
  .rw[aC U,aC (by rw[<-h1];exact U)];exact⟨h1,b.tup i,c,L,rfl,rfl,S,j,d⟩
  .rw[aA U,aA (by rw[<-h1];exact U)];refine⟨h1,b.tup i,l,m,e1,e2,I l m (λq=>?_) n z,g,n⟩
   subst q;exact f x (bW ..) U e2
theorem Jm(U:eH F F')(I:∀S c,S≠a->Cel K F H S c->Cel K F' H' S c):∀{E:List (a8×A0)} {xs:b0},cb (FdR K F G H a) E xs->cb (FdR K F' G H' a) E xs
 |_,_,.nil=>.nil|e::E,x::xs,.cons h t=>by obtain⟨h1,d,Y,b,e1,e2,z,g,n⟩:=h;exact .cons ⟨h1,U.tup d,Y,b,e1,e2,I Y b n z,g,n⟩ (Jm U I t)
theorem zY{α β:Type}{R:α->β->Prop}{x:α}{y:β}(r:R x y):∀{xs:List α} {ys:List β},cb R xs ys->cb R (xs++[x]) (ys++[y])
 |_,_,.nil=>.cons r .nil|_,_,.cons h t=>.cons h (zY r t)
theorem Fd.step{E:List (a8×A0)}(z:Fd K F G H a E)(s:A2 F H F' H'):Fd K F' G H' a E:=by
 obtain⟨xs,ep,I,fa,Y,rows,U,S⟩:=z;refine⟨xs,ep,s.hh _ _ I,?_,Y,Jm s.ff (λc L n q=>q.step s) rows,U,S⟩
 cases e:F' a with
 |none=>rfl|some o=>
  rcases s.nw a o e with q|q
  .rw[fa]at q;cases q
  .rw[I]at q;cases q
noncomputable def lstO:Option A0->a9
 |some (.lst L)=>L|_=>[]
def Lx(fk:df->M A0)(k:a8)(E:List (a8×A0))(w:df×a9):M (df×List (a8×A0)):=(fk w.1).bind λI=>(u5 I).bind λk2=>if k2=k/\E.length<ay then .ok (w.1,rY E k (.lst w.2))else stk
def stepK(iL iLab iS iB:Nat)(fk fa:df->M A0)(fi:df->M a9)(fb:df->M A0)(ft:df->M Bool)(ρ:df)(E:List (a8×A0))(k:a8):M (df×List (a8×A0)):=(fa ρ).bind λS=>(u5 S).bind λI=>if I=k then stk else match tT E I with
 |some (.lst La)=>(qo (labC iLab iS iB iL fi fb ft) La (ρ,lstO (tT E k))).bind (Lx fk k E)|_=>stk
def Bf(iL iLab iS iB:Nat)(fk fa:df->M A0)(fi:df->M a9)(fb:df->M A0)(ft:df->M Bool)(ρ:df)(E:List (a8×A0)):M (df×List (a8×A0)):=(fk ρ).bind λI=>(u5 I).bind λk=>stepK iL iLab iS iB fk fa fi fb ft (ρ.set iL af) E k
def hide1(H:Hp)(c:av):∃J:Hp,J c=af/\(∀b,b≠c->J b=H b):=⟨λb=>if b=c then af else H b,aC rfl,λb h=>aA h⟩
def focus(z:Cel K F H c L)(g:G c=af)(s:A2 F0 G F H):∃J:Hp,J c=af/\(∀b,b≠c->J b=H b)/\A2 F0 G F J/\A2 F J F H:=by
 obtain⟨J,U,I⟩:=hide1 H c;obtain⟨ys,h,d,f⟩:=z;have S:∀{A:Hp} {b:av} {o:HO},A c=af->A b=aa o->b≠c:=λh1 Y q=>by rw[q,h1]at Y;cases Y
 refine⟨J,U,I,⟨s.ff,λb o e=>(I b (S g e)).trans (s.hh b o e),λb o e=>(I b (S f e)).trans (s.fh b o e),s.nw⟩,eH.refl _,λb o e=>(I b (S U e)).symm.trans e,s.fh,λ_ _ e=>.inl e⟩
section
variable{E:List (List Int×A0)}
def Fd.put{k:a8}{S:a9}{xs:b0}(fa:F' a=af)(B:G a=af)(rows:cb (FdR K F G H a) E xs)(j:(xs.map (·.2.2)).Nodup)(i:(xs.map (·.1)).Nodup)(C:eH F F')(f:Cel K F' H' c S)(A:G c=af)(s:c≠a)(t:SqT K F' b (k.map V.int))(d:∀U S,U≠c->U≠a->Cel K F H U S->Cel K F' H' U S)(J:(tT E k=af/\wA xs k=af/\H c=af)\/∃L,tT E k=aa (.lst L)/\wA xs k=aa (.ref c))(Y:H' a=aa (ur a (IE xs k b (.ref c)) ep)):Fd K F' G H' a (rY E k (.lst S)):=by
 rcases J with⟨e1,e2,e3⟩|⟨L,e1,e2⟩
 .have p1:rY E k (.lst S)=E++[(k,.lst S)]:=by unfold rY;rw[e1];rfl
  have p2:IE xs k b (.ref c)=xs++[(k,b,.ref c)]:=by unfold IE;rw[e2];rfl
  rw[p2]at Y;have g:∀U S,Cel K F H U S->U≠c:=λU S z q=>by obtain⟨ys,h,_⟩:=z;rw[q,e3]at h;cases h
  have cells:∀{E:List (a8×A0)} {xs:b0},cb (FdR K F G H a) E xs->∀x∈xs,x.2.2≠.ref c:=by
   intro E xs r
   induction r with
   |nil=>intro x I;cases I|cons h t D=>
    intro x I q;cases I with
    |head=>obtain⟨_,_,O,P,_,e2,z,_⟩:=h;rw[e2]at q;cases q;exact g _ _ z rfl
    |tail _ I=>exact D x I q
  rw[p1];refine⟨_,ep,Y,fa,B,zY ⟨rfl,t,c,S,rfl,rfl,f,A,s⟩ (Jm C (λU S n z=>d U S (g _ _ z) n z) rows),?_,?_⟩
  .rw[g_,dK];refine⟨j,ad,λv l u m q=>?_⟩
   obtain⟨x,I,e⟩:=bp.mp l;have:u=V.ref c:=by simpa using m
   exact cells rows x I (e.trans (q.trans this))
  .rw[g_,dK];refine⟨i,ad,λv l u m q=>?_⟩
   obtain⟨x,I,e⟩:=bp.mp l;have:u=k:=by simpa using m
   exact MT e2 x I (e.trans (q.trans this))
 .have p1:rY E k (.lst S)=E.map (λp=>if p.1=k then(p.1,.lst S)else p):=by unfold rY;rw[e1];rfl
  have p2:IE xs k b (.ref c)=xs.map (λx=>if x.1=k then(x.1,x.2.1,.ref c)else x):=by unfold IE;rw[e2];rfl
  rw[p2]at Y;obtain⟨N,w,y,o⟩:=zj e2;have q1:∀x∈xs,x.1=k->x.2.2=.ref c:=λx I e=>by rw[wN i I w (e.trans y.symm)];exact o
  have q2:∀x∈xs,x.1≠k->x.2.2≠.ref c:=λx I e q=>e (by rw[wN j I w (q.trans o.symm)];exact y);rw[p1];refine⟨_,ep,Y,fa,B,MZ C f A s d rows q2,?_,?_⟩
  .rw[aR,show xs.map ((λx:JJ=>x.2.2)∘λx=>if x.1=k then(x.1,x.2.1,.ref c)else x)=xs.map (·.2.2)from bM λx I=>?_]
   .exact j
   .show(if x.1=k then(x.1,x.2.1,V.ref c)else x).2.2=x.2.2;split
    .rename_i e;exact(q1 x I e).symm
    .rfl
  .rw[aR,show xs.map ((λx:JJ=>x.1)∘λx=>if x.1=k then(x.1,x.2.1,.ref c)else x)=xs.map (·.1)from bM λx I=>?_]
   .exact i
   .show(if x.1=k then(x.1,x.2.1,V.ref c)else x).1=x.1;split<;>rfl
end
section
variable{W:qE}{E:List (List Int×A0)}{D:Ends}{ks:List Nat}
def Lh(K:Fg)(W:qE)(iF iL iLab iS iB:Nat)(fk fa:df->M A0)(fi:df->M a9)(fb:df->M A0)(ft:df->M Bool):TS:=
 y9 (GA (tGet2 K (wj iF) (tD K W ae fk) (tLst Ii)) (r9 iL)) (y9 (CF (iSeq K (tOp (rIxK K) (wj iF) (tD K W ae fa))) (r9 iLab) (CF (iD K W fi) (r9 iS) (y9 (GA (tD K W ae fb) (r9 iB)) (tIfS (tDT K W ft) (tApp K iL (wj iB)) JU)))) (sPut K (wj iF) (tD K W ae fk) (wj iL)))
def rs_step(hW:∀e,wp e->∀F H,A2 F0 G F H->W.p e F H)(hF:iF∈ks)(hL:iL∉ks)(hLab:iLab∉iL::ks)(hS:iS∉iL::ks)(hB:iB∉iL::ks)(lB:iB<σ.length)(lL:iL<σ.length)(s:A2 F0 G F H)(r:rV K F σ ρ)(fd:Fd K F G H a E)(hf:σ[iF]?=aa (aa (.ref a)))(hE:∀e,Bf iL iLab iS iB fk fa fi fb ft ρ E=.error e->wp e)(hN:∀z,Bf iL iLab iS iB fk fa fi fb ft ρ E=.ok z->∀F' u H',A2 F0 G F' H'->rV K F' u z.1->Fd K F' G H' a z.2->(∀j∈ks,u[j]?=σ[j]?)->u.length=σ.length->D.nx u H'):
  Lh K W iF iL iLab iS iB fk fa fi fb ft D σ H:=by
 obtain⟨xs,ep,l,fda,ga,rows,nd,nk⟩:=fd;refine⟨.ref a,hf,a,xs,ep,rfl,l,eu r s.fh (λe h=>hW e (hE e (by unfold Bf;rw[h];rfl)) _ _ s) λdk hdk y C H2 s2 q2=>⟨bz _,λp hp=>?_⟩⟩
 have I:∀{F H},A2 F0 G F H->Bf iL iLab iS iB fk fa fi fb ft ρ E=.error .stuck->False:=λs h=>W.ns (hW _ (hE _ h) _ _ s);have R:=s.trans s2;have S:Bf iL iLab iS iB fk fa fi fb ft ρ E=(u5 dk).bind λk=>stepK iL iLab iS iB fk fa fi fb ft (ρ.set iL af) E k:=by unfold Bf;rw[hdk];rfl
 cases hk:u5 dk with
 |error e=>rw[hk]at S;have:=rF hk;subst this;exact(I R S).elim|ok k=>
 rw[hk,dm]at S;obtain⟨b,rfl,t⟩:=tH hk q2;have sg:A2 C H2 C (upd H2 p (.lst [])):=A2.grow s2.fh hp;have f:=R.trans sg;have v:=s2.trans sg;refine⟨b,k,rfl,v.hh _ _ l,(yn rows).mono (v.ff.trans v.fh),(sg.fh).tup t,?_⟩
 have p2:C p=af:=s2.fh.free hp;have pG:G p=af:=R.hh.free hp;have pa:p≠a:=λq=>by rw[q,s2.hh _ _ l]at hp;cases hp
 have aF2:C a=af:=by
  cases e:C a with
  |none=>rfl|some o=>
   rcases s2.nw a o e with q|q
   .rw[fda]at q;cases q
   .rw[l]at q;cases q
 have cell:∃c,(wA xs k).getD (.ref p)=.ref c/\Cel K C (upd H2 p (.lst [])) c (lstO (tT E k))/\G c=af/\c≠a/\((tT E k=af/\wA xs k=af/\H c=af)\/∃L,tT E k=aa (.lst L)/\wA xs k=aa (.ref c)):=by
  rcases FL (k:=k) rows with⟨e1,e2⟩|⟨L,c,e1,e2,z,g,n⟩
  .rw[e1,e2];exact⟨p,rfl,⟨[],dy,rfl,p2⟩,pG,pa,.inl ⟨rfl,rfl,s2.hh.free hp⟩⟩
  .rw[e1,e2];exact⟨c,rfl,(z.step v),g,n,.inr ⟨L,rfl,rfl⟩⟩
 obtain⟨c,ec,zc,gc,nc,m⟩:=cell;rw[ec];obtain⟨J,j1,j2,j3,j4⟩:=focus zc gc f
 have Ja:J a=aa (ur a xs ep):=(j2 a (bO nc)).trans (v.hh _ _ l);have O:∀X L',X≠c->Cel K F H X L'->Cel K C J X L':=λX L' n z=>(z.step v).at (j2 X n)
 have rr:rV K C (σ.set iL (aa (.ref c))) (ρ.set iL af):=(r.mono s2.ff).hide iL (aa _);have hv:(σ.set iL (aa (.ref c)))[iL]?=aa (aa (.ref c)):=aG lL;have U:∀j∈ks,(σ.set iL (aa (.ref c)))[j]?=σ[j]?:=λj hj=>aB λq=>hL (by rw[q];exact hj);have hW2:∀e,wp e->∀F H,A2 C J F H->W.p e F H:=λe h F H s=>hW e h F H (j3.trans s);have e1:stepK iL iLab iS iB fk fa fi fb ft (ρ.set iL af) E k=(fa (ρ.set iL af)).bind λda=>(u5 da).bind λZ=>if Z=k then stk else match tT E Z with|some (.lst La)=>(qo (labC iLab iS iB iL fi fb ft) La (ρ.set iL af,lstO (tT E k))).bind (Lx fk k E)|_=>stk:=rfl
 rw[e1]at S;cases i:fa (ρ.set iL af)with
 |error e=>
  rw[i]at S;refine⟨.ref a,(U iF hF).trans hf,eu rr f.fh (λe' h=>?_) λd h=>?_⟩
  .rw[i]at h;cases h;exact hW e (hE e S) _ _ f
  .rw[i]at h;cases h
 |ok da=>
 rw[i,dm]at S;cases A:u5 da with
 |error e=>rw[A]at S;have:=rF A;subst this;exact(I f S).elim|ok Z=>
 rw[A,dm]at S;by_cases T:Z=k
 .rw[aC T]at S;exact(I f S).elim
 rw[aA T]at S;rcases FL (k:=Z) rows with⟨g1,g2⟩|⟨La,ca,g1,g2,zca,gca,nca⟩
 .rw[g1]at S;exact(I f S).elim
 rw[g1]at S;have S:Bf iL iLab iS iB fk fa fi fb ft ρ E=(qo (labC iLab iS iB iL fi fb ft) La (ρ.set iL af,lstO (tT E k))).bind (Lx fk k E):=S;have cne:ca≠c:=λq=>by
  subst q;rcases m with⟨_,_,h3⟩|⟨L,_,h3⟩
  .obtain⟨ys,h,_⟩:=zca;rw[h3]at h;cases h
  .obtain⟨x1,m1,k1,v1⟩:=zj g2;obtain⟨x2,m2,k2,v2⟩:=zj h3;have:=wN nd m1 m2 (v1.trans v2.symm);subst this;exact T (k1.symm.trans k2)
 obtain⟨ys,y1,y2,y3⟩:=O ca La cne zca;refine rs_labs (a:=a) (La:=La) hW2 hLab hS hB (bW ..) (by rw[aL];exact lB) j1 j4 rr zc hv ((U iF hF).trans hf) (λe h=>by rw[i]at h;cases h) (λd h=>?_) (λe h=>hE e (by rw[S,h];rfl)) λw hw F5 P H5 Q r5 c5 k5 l5=>?_
 .rw[i]at h;cases h;exact⟨Z,xs,ep,ca,ys,A,Ja,λx hx=>(j3.fh).tup (v.ff.tup (yn rows x hx)),g2,y1,y2⟩
 rw[hw,dm]at S;have s05:=j3.trans Q;have e2:Lx fk k E w=(fk w.1).bind λdk=>(u5 dk).bind λk2=>if k2=k/\E.length<ay then .ok (w.1,rY E k (.lst w.2))else stk:=rfl
 rw[e2]at S;have v5:P[iL]?=aa (aa (.ref c)):=(k5 iL (bW ..)).trans hv;have f5:P[iF]?=aa (aa (.ref a)):=(k5 iF (bH _ hF)).trans ((U iF hF).trans hf);refine⟨.ref c,v5,.ref a,f5,eu r5 Q.fh (λe h=>hW e (hE e (by rw[S,h];rfl)) _ _ s05) λdk2 hdk2 y F6 H6 N q6=>?_⟩
 rw[hdk2,dm]at S;have Y:=s05.trans N;cases B:u5 dk2 with
 |error e=>rw[B]at S;have:=rF B;subst this;exact(I Y S).elim|ok k2=>
 rw[B,dm]at S;by_cases hc:k2=k/\E.length<ay
 .rw[aC hc]at S;obtain⟨rfl,hlen⟩:=hc;obtain⟨b2,rfl,t2⟩:=tH B q6;have top6:H6 a=aa (ur a xs ep):=N.hh _ _ (Q.hh _ _ Ja);have F6a:F6 a=af:=by
   cases e:F6 a with
   |none=>rfl|some o=>
    rcases(Q.trans N).nw a o e with q|q
    .rw[aF2]at q;cases q
    .rw[Ja]at q;cases q
  refine⟨a,b2,k2,xs,ep,rfl,rfl,top6,λx hx=>Y.fh.tup ((Q.trans N).ff.tup (v.ff.tup (yn rows x hx))),Y.fh.tup t2,by rw[<-dQ rows];exact hlen,λep'=>?_⟩
  have s07:A2 F0 G F6 (upd H6 a (ur a (IE xs k2 b2 (.ref c)) ep')):=⟨Y.ff,λd o h=>by rw[dV (λq=>by rw[q,ga]at h;cases h)];exact Y.hh d o h,λd o h=>by rw[dV (λq=>by rw[q,F6a]at h;cases h)];exact Y.fh d o h,Y.nw⟩
  refine hN _ S F6 P _ s07 (r5.mono N.ff) ?_ (λj hj=>(k5 j (bH _ hj)).trans (U j hj)) (by rw[l5,aL]);exact Fd.put F6a ga rows nd nk (v.ff.trans (Q.trans N).ff) ((c5.step N).at (dV nc)) gc nc t2 (λX L' n1 n2 z=>(((O X L' n1 z).step (Q.trans N)).at (dV n2))) m dy
 .rw[aA hc]at S;exact(I Y S).elim
end
def MO(td:TE):TI:=λσ H R=>tViewS td σ H λx H2=>∃p a xs ep,x=.ref p/\H2 p=aa (VwO "dict_items" p a)/\H2 a=aa (yu a xs ep)/\R (ItS a xs ep) H2
def pi_itmsS{o:bX}(f:PE X o td)(Y: ~~~(cy o "items" X.env (a_ o X.env)=a_ o X.env))(d: ~~~((apos.endLine==cpos.line)=ag)):PI X (.Tuple elts k q) (.Call (.Attribute o "items" apos) [] [] cpos) (MO td):=by
 intro A1 s σ H R I h;refine A7 (pe_itmsS f Y d A1 s σ H _ I h) λv s1 U=>?_;obtain⟨y,H1,S,c,p,a,xs,ep,ex,U,g,q1⟩:=U;subst ex;cases(show v=aT p from c);obtain⟨es,l,i,z,j,hsz⟩:=CJ S g;refine C9 ((show(∃o,s1.heap.get? p=aa o/\o.cls=.type "dict_items"/\o.data=.fields #[.ref a])/\_ from S.hok p _ U).1) z ⟨s1.z,[s1.z],_,_,H1,rfl,S.kept λb o e=>ah _ e,JQ a _ xs ep,⟨_,_,by rw[<-hsz];exact aw _ rfl⟩,λb Y=>?_,q1⟩;have e:=by simpa using Y
 subst e;exact S.MX (aq _) (S.hok.fresh (aq _))
inductive SdR(K:Fg)(F:Hp)(e:SK×List Int)(x:ya):Prop
 |mk (k:x.1=e.1) (t:NL K F x.2.1 e.1) (v:SqT K F x.2.2 (e.2.map V.int))
inductive Sd(K:Fg)(F G H:Hp)(a:av)(T:List (SK×List Int)):Prop
 |mk (xs:List ya) (ep:Nat) (top:H a=aa (yu a xs ep)) (fa:F a=af) (ga:G a=af) (rows:cb (SdR K F) T xs)
theorem GN{K:Fg}{F F':Hp}(s:eH F F'):∀{T:List (SK×a8)} {xs:List ya},cb (SdR K F) T xs->cb (SdR K F') T xs
 |_,_,.nil=>.nil|_,_,.cons ⟨h1,S,I⟩ t=>.cons ⟨h1,S.map λ_ _=>s.tup,s.tup I⟩ (GN s t)
theorem sd_at{K:Fg}{F:Hp}:∀{T:List (SK×a8)} {xs:List ya} {i:Nat} {x:ya},cb (SdR K F) T xs->xs[i]?=aa x->∃e,T[i]?=aa e/\SdR K F e x
 |_,_,_,_,.nil,h=>by simp at h|e::_,x::_,0,_,.cons h _,q=>by simp at q;subst q;exact⟨e,rfl,h⟩|_::_,_::_,i+1,_,.cons _ t,q=>by simp only[dM]at q ⊢;exact sd_at t q
noncomputable def itD(e:SK×a8):A0:=.tup [.tup [.tup (e.1.1.map .int),.int e.1.2],.tup (e.2.map .int)]
def Kq{xs:List ya}:IterS K (λF H=>H a=aa (yu a xs ep)/\cb (SdR K F) T xs/\eH F H) (ItS a xs ep) (T.map itD) where
 go:=λi F H z hi=>⟨z.1,by rw[<-dQ z.2.1];simpa using hi⟩
 yl:=λi F H x H' d z S c=>by
  obtain⟨U,y,g,ev,f,j⟩:=c;subst ev j;obtain⟨e,h1,k,⟨r,b,Y⟩,h⟩:=sd_at z.2.1 f;rw[aV,h1]at S;have e:=by simpa using S.symm
  subst e;have I:A2 F H (upd F U (.tup [.ref y.2.1,.ref y.2.2])) _:=A2.lay z.2.2 g;exact⟨_,I,U,_,rfl,SqT.of dy,.ref y.2.1,[.ref y.2.2],rfl,⟨y.2.1,_,rfl,I.ff.tup b,.ref r,[.int _],rfl,⟨r,_,rfl,I.ff.tup Y,sU _⟩,.int _,[],rfl,rfl,rfl⟩,.ref y.2.2,[],rfl,⟨y.2.2,_,rfl,I.ff.tup h,sU _⟩,rfl⟩
 st:=λF H z=>⟨z.1,by rw[az,dQ z.2.1];exact aq _⟩
section
variable{W:qE}{E:List (List Int×A0)}{D:Ends}{ks:List Nat}
theorem Jl{G':Hp}(h:∀c L,Cel K F H c L->G c=af->G' c=af):∀{E:List (a8×A0)} {xs:b0},cb (FdR K F G H a) E xs->cb (FdR K F G' H a) E xs
 |_,_,.nil=>.nil|_,_,.cons ⟨h1,I,c,L,e1,e2,z,g,n⟩ t=>.cons ⟨h1,I,c,L,e1,e2,z,h c L z g,n⟩ (Jl h t)
def A2.wide(h:eH G G')(s:A2 F0 G' F H):A2 F0 G F H:=⟨s.ff,h.trans s.hh,s.fh,λb o e=>(s.nw b o e).imp_right h.free⟩
def A2.base(s:A2 F0 G F H)(t:A2 F G F' H'):A2 F0 G F' H':=⟨s.ff.trans t.ff,t.hh,t.fh,λb o e=>(t.nw b o e).elim (λz=>s.nw b o z) .inr⟩
def DD(iSt iAh iL iLab iS iB:Nat)(fk fa:df->M A0)(fi:df->M a9)(fb:df->M A0)(ft:df->M Bool)(z:df×List (a8×A0)):A0->M (df×List (a8×A0))
 |.tup [S,I]=>Bf iL iLab iS iB fk fa fi fb ft ((z.1.set iSt (aa S)).set iAh (aa I)) z.2|_=>stk
def rs_items(hW:∀e,wp e->∀F H,A2 F0 G F H->W.p e F H)(hF:iF∈ks)(h1:iSt∉ks)(h2:iAh∉ks)(hL:iL∉ks)(u:iLab∉iL::ks)(hS:iS∉iL::ks)(hB:iB∉iL::ks)(lB:iB<σ.length)(lL:iL<σ.length)(s:A2 F0 G F H)(r:rV K F σ ρ)(fd:Fd K F G H a E)(sd:Sd K F G H aS T)(na:a≠aS)(hf:σ[iF]?=aa (aa (.ref a)))(hT:σ[iT]?=aa (aa (.ref aS)))(hE:∀e,qo (DD iSt iAh iL iLab iS iB fk fa fi fb ft) (T.map itD) (ρ,E)=.error e->wp e)(hN:∀z,qo (DD iSt iAh iL iLab iS iB fk fa fi fb ft) (T.map itD) (ρ,E)=.ok z->∀F' I H',A2 F0 G F' H'->rV K F' I z.1->Fd K F' G H' a z.2->(∀j∈ks,I[j]?=σ[j]?)->I.length=σ.length->D.nx I H'):
  CF (MO (wj iT)) (gP K (.tp [iSt,iAh])) (Lh K W iF iL iLab iS iB fk fa fi fb ft) D σ H:=by
 obtain⟨xs,ep,U,fSa,ga,rows⟩:=sd;have l:eH G (upd G aS (yu aS xs ep)):=eH.upd ga;have s1:A2 F0 (upd G aS (yu aS xs ep)) F H:=⟨s.ff,λb o e=>by
  by_cases n:b=aS
  .subst n;rw[dy]at e;cases e;exact U
  .rw[dV n]at e;exact s.hh b o e,s.fh,λb o e=>by
  by_cases n:b=aS
  .subst n;rw[fSa]at e;cases e
  .rw[dV n];exact s.nw b o e⟩
 have cn:∀c L,Cel K F H c L->G c=af->(upd G aS (yu aS xs ep)) c=af:=λc L z g=>by obtain⟨ys,h,_⟩:=z;rw[dV (λq=>by rw[q,U]at h;cases h)];exact g
 have fd1:Fd K F (upd G aS (yu aS xs ep)) H a E:=by obtain⟨A,f,X,R,Q,P,O,N⟩:=fd;exact⟨A,f,X,R,by rw[dV na];exact Q,Jl cn P,O,N⟩
 refine⟨.ref aS,hT,aS,xs,ep,rfl,U,λp hp=>⟨p,aS,xs,ep,rfl,dy,by rw[dV (eP U hp)];exact U,?_⟩⟩
 have sp:A2 F H F (upd H p (VwO "dict_items" p aS)):=A2.grow s.fh hp;refine vH (S:=λz F' I H'=>A2 F0 (upd G aS (yu aS xs ep)) F' H'/\cb (SdR K F') T xs/\rV K F' I z.1/\Fd K F' (upd G aS (yu aS xs ep)) H' a z.2/\(∀j∈ks,I[j]?=σ[j]?)/\I.length=σ.length) (Kq)
  (λz=>⟨z.1.hh _ _ dy,z.2.1,z.1.fh⟩) ⟨s1.trans sp,rows,r,fd1.step sp,λ_ _=>rfl,rfl⟩ hE (λz F' I H' e y=>hN z e F' I H' (y.1.wide l) y.2.2.1 ?_ y.2.2.2.2.1 y.2.2.2.2.2) ?_
 .obtain⟨A,f,X,R,Q,P,O,N⟩:=y.2.2.2.1;exact⟨A,f,X,R,l.free Q,Jl (λc L z g=>l.free g) P,O,N⟩
 rintro⟨w,E1⟩ d F3 k H3 ⟨s3,w3,r3,f3,k3,l3⟩ he x F4 H4 m q4;have Y:=s3.trans m;have v:DD iSt iAh iL iLab iS iB fk fa fi fb ft (w,E1) d=.error .stuck->False:=λh=>W.ns (hW _ (he _ h) _ _ (Y.wide l));cases d with
 |tup ds=>
  rcases ds with _|⟨d1,_|⟨d2,_|⟨d3,ds⟩⟩⟩
  .exact(v rfl).elim
  .exact(v rfl).elim
  .obtain⟨ax,ys,rfl,t,J,ys1,rfl,p1,C,B,rfl,p2,e3⟩:=q4;cases(show B=[]from e3);have r4:=((r3.mono m.ff).set p1 iSt).set p2 iAh;have k4:∀j∈ks,((k.set iSt (aa J)).set iAh (aa C))[j]?=σ[j]?:=λj i=>by
    rw[aB (λz=>h2 (by rw[z];exact i)),aB (λz=>h1 (by rw[z];exact i))];exact k3 j i
   have Z:((k.set iSt (aa J)).set iAh (aa C)).length=σ.length:=by rw[aL,aL,l3]
   refine⟨ax,_,rfl,m.fh.tup t,rfl,J,_,rfl,C,_,rfl,rfl,?_⟩
   refine rs_step (F0:=F4) (λe h F H s=>hW e h F H ((Y.base s).wide l)) hF hL u hS hB (by rw[Z];exact lB) (by rw[Z];exact lL) ⟨eH.refl _,Y.hh,Y.fh,λ_ _ z=>.inl z⟩ r4 (f3.step m) ((k4 iF hF).trans hf) (λe h=>he e h) λz hz F' I H' s' r' f' k' l'=>?_;exact⟨z,F',hz,Y.base s',GN (m.ff.trans s'.ff) w3,r',f',λj i=>(k' j i).trans (k4 j i),by rw[l',Z]⟩
  .exact(v rfl).elim
 |_=>exact(v rfl).elim
end
def skD:A0->M SK
 |.tup [.tup I,.int f]=>(o4 I).bind λk=>.ok (k,f)|_=>stk
def skD_err{e:Err}(h:skD d=.error e):e=.stuck:=by
 unfold skD at h;split at h
 .rename_i I f;cases e1:o4 I with
  |error x=>rw[e1]at h;cases h;exact tm e1|ok k=>rw[e1]at h;cases h
 .cases h;rfl
def skD_at{k:SK}(h:skD d=.ok k)(q:i1 K F d v):∃b,v=.ref b/\NL K F b k:=by
 unfold skD at h;split at h
 .rename_i c f;cases e1:o4 c with
  |error x=>rw[e1]at h;cases h|ok g=>rw[e1]at h;cases h;obtain⟨b,xs,rfl,t,e,U,rfl,⟨r,ys,rfl,a,S⟩,Y,I,rfl,q2,e3⟩:=q;cases(show I=[]from e3);cases(show Y=V.int f from q2);have:=ry S e1;subst this;exact⟨b,rfl,r,t,a⟩
 .cases h
def ordC(iO:Nat)(fv fk:df->M A0)(z:df×List (SK×a8))(d:A0):M (df×List (SK×a8)):=(fv (z.1.set iO (aa d))).bind λI=>(u5 I).bind λv=>(fk (z.1.set iO (aa d))).bind λS=>(skD S).bind λk=>if z.2.length<ay then .ok (z.1.set iO (aa d),putS z.2 k v)else stk
theorem LD{K:Fg}{F:Hp}:∀{T:List (SK×a8)} {xs:List ya},cb (SdR K F) T xs->xs.map (·.1)=T.map (·.1)
 |_,_,.nil=>rfl|_,_,.cons ⟨h,_,_⟩ t=>by rw[aO,aO,LD t,h]
theorem sd_map{K:Fg}{F:Hp}{k:SK}{v:a8}{c:av}(t:SqT K F c (v.map V.int)):∀{T:List (SK×a8)} {xs:List ya},cb (SdR K F) T xs->cb (SdR K F) (T.map λx=>if x.1=k then(x.1,v)else x) (xs.map λx=>if x.1=k then(x.1,x.2.1,c)else x)
 |_,_,.nil=>.nil|e::_,x::_,.cons ⟨h1,S,U⟩ r=>by
  refine .cons ?_ (sd_map t r);show SdR K F (if e.1=k then(e.1,v)else e) (if x.1=k then(x.1,x.2.1,c)else x);by_cases I:x.1=k
  .rw[aC I,aC (h1▸I)];exact⟨h1,S,t⟩
  .rw[aA I,aA (h1▸I)];exact⟨h1,S,U⟩
def NL.mono{k:SK}(z:NL K F b k)(s:eH F F'):NL K F' b k:=z.map λ_ _=>s.tup
theorem sd_sks{K:Fg}{F:Hp}:∀{T:List (SK×a8)} {xs:List ya},cb (SdR K F) T xs->SksAt K F xs
 |_,_,.nil,x,I=>by cases I|_,_,.cons ⟨h1,S,_⟩ t,x,I=>by
  cases I with
  |head=>rw[h1];exact S|tail _ I=>exact sd_sks t x I
section
variable{W:qE}{E:List (List Int×A0)}{D:Ends}{ks:List Nat}
def Sd.step(z:Sd K F G H aS T)(s:A2 F H F' H'):Sd K F' G H' aS T:=by
 obtain⟨xs,ep,I,fa,S,rows⟩:=z;refine⟨xs,ep,s.hh _ _ I,?_,S,GN s.ff rows⟩
 cases e:F' aS with
 |none=>rfl|some o=>
  rcases s.nw aS o e with q|q
  .rw[fa]at q;cases q
  .rw[I]at q;cases q
def Fd.beside{xs ys:List ya}(z:Fd K F G H a E)(e:H aS=aa (yu aS xs ep))(na:a≠aS):Fd K F G (upd H aS (yu aS ys ep')) a E:=by
 obtain⟨S,I,g,f,d,b,Y,U⟩:=z;refine⟨S,I,by rw[dV na];exact g,f,d,Jm (eH.refl _) (λc L n q=>q.at (dV λw=>?_)) b,Y,U⟩
 obtain⟨ys,h,_⟩:=q;rw[w,e]at h;cases h
def rs_ords(J:∀e,wp e->∀F H,A2 F0 G F H->W.p e F H)(hO:iO∉ks)(hT':iT∈ks)(s:A2 F0 G F H)(r:rV K F σ ρ)(fd:Fd K F G H a E)(sd:Sd K F G H aS T)(na:a≠aS)(hT:σ[iT]?=aa (aa (.ref aS)))(hE:∀e,((fo ρ).bind λO=>qo (ordC iO fv fq) O (ρ,T))=.error e->wp e)(hN:∀z,((fo ρ).bind λO=>qo (ordC iO fv fq) O (ρ,T))=.ok z->∀F' U H',A2 F0 G F' H'->rV K F' U z.1->Fd K F' G H' a E->Sd K F' G H' aS z.2->(∀j∈ks,U[j]?=σ[j]?)->U.length=σ.length->D.nx U H'):
  CF (iD K W fo) (r9 iO) (sPutS K (wj iT) (tD K W ae fq) (tD K W ae fv)) D σ H:=by
 refine⟨F,ρ,r,s.fh,?_⟩
 cases hf:fo ρ with
 |error e=>exact J e (hE e (by rw[hf];rfl)) F H s|ok ds=>
 rw[hf]at hE hN;intro I F2 H2 s2 it;refine vH (S:=λz F' U H'=>eH F2 F'/\A2 F0 G F' H'/\rV K F' U z.1/\Fd K F' G H' a E/\Sd K F' G H' aS z.2/\(∀j∈ks,U[j]?=σ[j]?)/\U.length=σ.length) it.toS (λz=>⟨z.1,z.2.1.fh⟩) ⟨eH.refl _,s.trans s2,r.mono s2.ff,fd.step s2,sd.step s2,λ_ _=>rfl,rfl⟩ hE (λz F' U H' e y=>hN z e F' U H' y.2.1 y.2.2.1 y.2.2.2.1 y.2.2.2.2.1 y.2.2.2.2.2.1 y.2.2.2.2.2.2) ?_;rintro⟨m,C⟩ d F3 L H3 ⟨b3,s3,r3,f3,d3,k3,l3⟩ R x F4 H4 u q4;have N:=(r3.mono u.ff).set q4 iO;have B:=s3.trans u;have k4:∀j∈ks,(L.set iO (aa x))[j]?=σ[j]?:=λj hj=>by rw[aB (λz=>hO (by rw[z];exact hj))];exact k3 j hj
 have Y:ordC iO fv fq (m,C) d=(fv _).bind λdv=>(u5 dv).bind λv=>(fq _).bind λdk=>(skD dk).bind λk=>if C.length<ay then .ok (m.set iO _,putS C k v)else stk:=rfl
 refine eu N u.fh (λe h=>J e (R e (by rw[Y,h];rfl)) _ _ B) λdv X y F5 H5 n q5=>?_;rw[X,dm]at Y;have p:=B.trans n;have P:∀{F H},A2 F0 G F H->ordC iO fv fq (m,C) d=.error .stuck->False:=λs h=>W.ns (J _ (R _ h) _ _ s);cases g:u5 dv with
 |error e=>rw[g]at Y;have:=rF g;subst this;exact(P p Y).elim|ok v=>
 rw[g,dm]at Y;obtain⟨c,rfl,tc⟩:=tH g q5;refine⟨.ref aS,(k4 iT hT').trans hT,eu (N.mono n.ff) n.fh (λe h=>J e (R e (by rw[Y,h];rfl)) _ _ p) λdk Z w F6 H6 l q6=>?_⟩
 rw[Z,dm]at Y;have f:=p.trans l;cases i:skD dk with
 |error e=>rw[i]at Y;have:=skD_err i;subst this;exact(P f Y).elim|ok k=>
 rw[i,dm]at Y;obtain⟨b,rfl,tb⟩:=skD_at i q6;by_cases Q:C.length<ay
 .rw[aC Q]at Y;have f6:=(f3.step (u.trans n)).step l;obtain⟨xs,ep,A,fa,ga,rows⟩:=(d3.step (u.trans n)).step l;refine⟨aS,b,c,k,xs,ep,rfl,rfl,rfl,A,λx hx=>((sd_sks rows x hx).mono l.fh),tb.mono l.fh,by rw[<-dQ rows];exact Q,λep'=>?_⟩
  refine⟨_,F6,Y,b3.trans ((u.trans (n.trans l)).ff),⟨f.ff,λd o h=>?_,λd o h=>?_,f.nw⟩,(N.mono n.ff).mono l.ff,f6.beside A na,⟨_,ep',dy,fa,ga,(by
    have t:=(l.ff.tup tc)
    unfold putS K9;rw[LD rows];split
    .exact sd_map t rows
    .exact zY ⟨rfl,tb,t⟩ rows)⟩,k4,by rw[aL,l3]⟩
  .rw[dV (λq=>by rw[q,ga]at h;cases h)];exact f.hh d o h
  .rw[dV (λq=>by rw[q,fa]at h;cases h)];exact f.fh d o h
 .rw[aA Q]at Y;exact(P f Y).elim
end
section
variable{W:qE}{E:List (List Int×A0)}{D:Ends}{fr:df->M (List A0)}{ks:List Nat}
def zI(iT iO iZ iSt iAh iL iLab iS iB:Nat)(fo:df->M a9)(fv fq fk fa:df->M A0)(fi:df->M a9)(fb:df->M A0)(ft:df->M Bool)(z:df×List (a8×A0))(d:A0):M (df×List (a8×A0)):=
 ((fo ((z.1.set iZ (aa d)).set iT af)).bind λI=>qo (ordC iO fv fq) I ((z.1.set iZ (aa d)).set iT af,[])).bind λw=>qo (DD iSt iAh iL iLab iS iB fk fa fi fb ft) (w.2.map itD) (w.1,z.2)
def Li(K:Fg)(W:qE)(iF iT iO iSt iAh iL iLab iS iB:Nat)(fo:df->M a9)(fv fq fk fa:df->M A0)(fi:df->M a9)(fb:df->M A0)(ft:df->M Bool):TS:=
 y9 (GA tNewS (r9 iT)) (y9 (CF (iD K W fo) (r9 iO) (sPutS K (wj iT) (tD K W ae fq) (tD K W ae fv))) (CF (MO (wj iT)) (gP K (.tp [iSt,iAh])) (Lh K W iF iL iLab iS iB fk fa fi fb ft)))
def rs_size(hW:∀e,wp e->∀F H,A2 F0 G F H->W.p e F H)(lT:iT<σ.length)(lB:iB<σ.length)(lL:iL<σ.length)(i:[iF,iT,iO,iZ,iSt,iAh,iL,iLab,iS,iB].Nodup)(s:A2 F0 G F H)(r:rV K F σ ρ)(fd:Fd K F G H a E)(hf:σ[iF]?=aa (aa (.ref a)))(hE:∀e,((fr ρ).bind λo=>qo (zI iT iO iZ iSt iAh iL iLab iS iB fo fv fq fk fa fi fb ft) o (ρ,E))=.error e->wp e)(hN:∀z,((fr ρ).bind λo=>qo (zI iT iO iZ iSt iAh iL iLab iS iB fo fv fq fk fa fi fb ft) o (ρ,E))=.ok z->∀F' U H',A2 F0 G F' H'->rV K F' U z.1->Fd K F' G H' a z.2->U[iF]?=aa (aa (.ref a))->D.nx U H'):
  CF (iD K W fr) (r9 iZ) (Li K W iF iT iO iSt iAh iL iLab iS iB fo fv fq fk fa fi fb ft) D σ H:=by
 simp at i;obtain⟨⟨N,P,L,B,J,Q,C,O,R⟩,⟨t,nTZ,nTs,nTa,nTL,nTl,nTS,nTB⟩,⟨nOZ,nOs,nOa,nOL,nOl,nOS,nOB⟩,⟨nZs,nZa,nZL,nZl,nZS,nZB⟩,⟨nsa,nsL,nsl,nsS,nsB⟩,⟨naL,nal,naS,naB⟩,⟨u,v,A⟩,_,_⟩:=i;refine⟨F,ρ,r,s.fh,?_⟩
 cases j:fr ρ with
 |error e=>exact hW e (hE e (by rw[j];rfl)) F H s|ok ds=>
 rw[j]at hE hN;intro I F2 H2 s2 it;refine vH (S:=λz F' U H'=>eH F2 F'/\A2 F0 G F' H'/\rV K F' U z.1/\Fd K F' G H' a z.2/\U[iF]?=aa (aa (.ref a))/\U.length=σ.length) it.toS (λz=>⟨z.1,z.2.1.fh⟩) ⟨eH.refl _,s.trans s2,r.mono s2.ff,fd.step s2,hf,rfl⟩ hE (λz F' U H' e y=>hN z e F' U H' y.2.1 y.2.2.1 y.2.2.2.1 y.2.2.2.2.1) ?_;rintro⟨g,E1⟩ d F3 Y H3 ⟨b3,s3,r3,f3,v3,l3⟩ he x f m c q4;intro p l;have sg:A2 f m f (upd m p (yu p [] 0)):=A2.grow c.fh l;have b:=s3.trans (c.trans sg);have r5:rV K f ((Y.set iZ (aa x)).set iT (aa (.ref p))) ((g.set iZ (aa d)).set iT af):=((r3.mono c.ff).set q4 iZ).hide iT (aa _);have f5:=f3.step (c.trans sg);have X:((Y.set iZ (aa x)).set iT (aa (.ref p))).length=σ.length:=by rw[aL,aL,l3]
 have v5:((Y.set iZ (aa x)).set iT (aa (.ref p)))[iF]?=aa (aa (.ref a)):=by rw[aB (bO N),aB (bO L)];exact v3
 have t5:((Y.set iZ (aa x)).set iT (aa (.ref p)))[iT]?=aa (aa (.ref p)):=aG (by rw[aL,l3];exact lT);have na:a≠p:=λq=>by obtain⟨zs,ep1,t1,_⟩:=f3;have:=c.hh _ _ t1;rw[q,l]at this;cases this
 have sd:Sd K f G (upd m p (yu p [] 0)) p []:=⟨[],0,dy,c.fh.free l,(s3.trans c).hh.free l,.nil⟩
 have k:=λe h F H s=>hW e h F H (b.base s);have n:A2 f G f (upd m p (yu p [] 0)):=⟨eH.refl _,b.hh,b.fh,λ_ _ z=>.inl z⟩
 refine rs_ords (ks:=[iF,iT]) k (by simp[bO P,bO t]) ad n r5 f5 sd na t5 (λe h=>he e (by unfold zI;rw[h];rfl)) λw hw F6 σ6 H6 s6 r6 f6 d6 Z T=>?_;have e0:zI iT iO iZ iSt iAh iL iLab iS iB fo fv fq fk fa fi fb ft (g,E1) d=qo (DD iSt iAh iL iLab iS iB fk fa fi fb ft) (w.2.map itD) (w.1,E1):=by unfold zI;rw[hw];rfl
 refine rs_items (ks:=[iF]) k ad (by simp[bO B]) (by simp[bO J]) (by simp[bO Q]) (by simp[bO C,bO u]) (by simp[bO O,bO v]) (by simp[bO R,bO A]) (by rw[T,X];exact lB) (by rw[T,X];exact lL) s6 r6 f6 d6 na ((Z iF ad).trans v5) ((Z iT ad).trans t5) (λe h=>he e (e0.trans h)) λz hz F7 σ7 H7 s7 r7 f7 k7 l7=>?_;exact⟨z,F7,e0.trans hz,b3.trans (c.ff.trans s7.ff),b.base s7,r7,f7,(k7 iF ad).trans ((Z iF ad).trans v5),by rw[l7,T,X]⟩
def Fd.freeze(z:Fd K F G H a E)(s:eH F H):∃F',eH F F'/\eH F' H/\(∀b o,F' b=aa o->F b=aa o\/G b=af)/\i1 K F' (.dic E) (.ref a):=by
 classical
 obtain⟨xs,ep,S,fa,m,rows,_,_⟩:=z;refine⟨λb=>if b=a\/(G b=af/\F b=af)then H b else F b,λb o e=>?_,λb o e=>?_,λb o e=>?_,a,xs,rfl,⟨ep,?_⟩,?_⟩
 .show(if b=a\/(G b=af/\F b=af)then H b else F b)=aa o;split
  .exact s b o e
  .exact e
 .have I:(if b=a\/(G b=af/\F b=af)then H b else F b)=aa o:=e;split at I
  .exact I
  .exact s b o I
 .have I:(if b=a\/(G b=af/\F b=af)then H b else F b)=aa o:=e;split at I
  .rename_i h;rcases h with rfl|h
   .exact .inr m
   .exact .inr h.1
  .exact .inl I
 .show(if a=a\/(G a=af/\F a=af)then H a else F a)=_;rw[aC (.inl rfl)];exact S
 .have U:eH F (λb=>if b=a\/(G b=af/\F b=af)then H b else F b):=λb o e=>by
   show(if b=a\/(G b=af/\F b=af)then H b else F b)=aa o;split
   .exact s b o e
   .exact e
  have key:∀{E:List _} {xs:b0},cb (FdR K F G H a) E xs->qm K (λb=>if b=a\/(G b=af/\F b=af)then H b else F b) E xs:=by
   intro E xs r
   induction r with
   |nil=>rfl|@cons e x E xs h t j=>
    obtain⟨h1,l,c,L,e1,e2,⟨ys,i,f,Y⟩,g,n⟩:=h;obtain⟨k,d⟩:=e;obtain⟨k',b,v⟩:=x;cases(show k'=k from h1);cases(show d=_ from e1);cases(show v=_ from e2);refine⟨b,.ref c,xs,rfl,U.tup l,⟨c,ys,rfl,SqL.of ?_,f.mono U⟩,j⟩
    rw[aC (.inr ⟨g,Y⟩)];exact i
  exact key rows
end
section
variable{W:qE}{D:Ends}{fr:df->M (List A0)}{fu:df->M A0}
def EO(iF iT iO iZ iSt iAh iL iLab iS iB:Nat)(fu f0:df->M A0)(fr fo:df->M a9)(fv fq fk fa:df->M A0)(fi:df->M a9)(fb:df->M A0)(ft:df->M Bool)(ρ:df):M A4:=
 (fu ρ).bind λS=>(u5 S).bind λk=>(f0 ρ).bind λd=>((fr (ρ.set iF af)).bind λI=>qo (zI iT iO iZ iSt iAh iL iLab iS iB fo fv fq fk fa fi fb ft) I (ρ.set iF af,[(k,.lst [d])])).bind λz=>.ok (.rt (.dic z.2))
def rs_allD(Z:iF<σ.length)(T:iT<σ.length)(lB:iB<σ.length)(X:iL<σ.length)(B:[iF,iT,iO,iZ,iSt,iAh,iL,iLab,iS,iB].Nodup)(t:tS K W ae F0 H0 OL [] O' (EO iF iT iO iZ iSt iAh iL iLab iS iB fu f0 fr fo fv fq fk fa fi fb ft) D σ H):
  y9 (GA (Lk K (tD K W ae fu) (tLst (zF (tD K W ae f0) Ii))) (r9 iF)) (y9 (CF (iD K W fr) (r9 iZ) (Li K W iF iT iO iSt iAh iL iLab iS iB fo fv fq fk fa fi fb ft)) (tRet (wj iF))) D σ H:=by
 obtain⟨FB,F,ρ,r,q⟩:=t;have A:=r.repE;have s:=r.st;have m:∀e,EO iF iT iO iZ iSt iAh iL iLab iS iB fu f0 fr fo fv fq fk fa fi fb ft ρ=.error e->W.p e F0 H0:=λe h=>by rw[h]at q;exact q
 have u:∀e,W.p e F0 H0->∀F H,A2 F0 H0 F H->W.p e F H:=λe h F H s=>W.mono h s;have I:EO iF iT iO iZ iSt iAh iL iLab iS iB fu f0 fr fo fv fq fk fa fi fb ft ρ=(fu ρ).bind λG=>(u5 G).bind λk=>(f0 ρ).bind λd=>((fr (ρ.set iF af)).bind λR=>qo (zI iT iO iZ iSt iAh iL iLab iS iB fo fv fq fk fa fi fb ft) R (ρ.set iF af,[(k,.lst [d])])).bind λz=>.ok (.rt (.dic z.2)):=rfl;intro p C;have l:A2 F H F (upd H p (ur p [] 0)):=A2.grow s.fh C;have s1:=s.trans l;refine eu A l.fh (λe h=>u e (m e (by rw[I,h];rfl)) _ _ s1) λG E x F1 H1 Y q1=>?_;rw[E,dm]at I;have s2:=s1.trans Y;cases n:u5 G with
 |error e=>rw[n]at I;have:=rF n;subst this;exact(W.ns (u _ (m _ I) _ _ s2)).elim|ok k=>
 rw[n,dm]at I;obtain⟨b,rfl,tb⟩:=tH n q1;refine eu (A.mono (l.trans Y).ff) Y.fh (λe h=>u e (m e (by rw[I,h];rfl)) _ _ s2) λd hd v y H2 S q2=>⟨by simp only[gQ];decide,λc g=>?_⟩
 rw[hd,dm]at I;have a:=s2.trans S;have f:=S.hh _ _ (Y.hh _ _ dy);have U:c≠p:=λw=>by rw[w,f]at g;cases g
 have i:y p=af:=by
  cases e:y p with
  |none=>rfl|some o=>
   rcases(Y.trans S).nw p o e with z|z
   .rw[s.fh.free C]at z;cases z
   .rw[dy]at z;cases z
 have j:=a.fh.free g;have N:=a.hh.free g;have L:=s.hh.free C;refine⟨b,k,.ref c,rfl,by rw[dV (bO U)];exact f,(eH.upd g).tup (S.fh.tup (S.ff.tup tb)),λep=>?_⟩
 have Q:A2 F0 H0 y (upd (upd H2 c (.lst [v])) p (ur p [(k,b,.ref c)] ep)):=⟨a.ff,λw o h=>by
  rw[dV (λz=>by rw[z,L]at h;cases h),dV (λz=>by rw[z,N]at h;cases h)];exact a.hh w o h,λw o h=>by
  rw[dV (λz=>by rw[z,i]at h;cases h),dV (λz=>by rw[z,j]at h;cases h)];exact a.fh w o h,a.nw⟩
 have fd:Fd K y H0 (upd (upd H2 c (.lst [v])) p (ur p [(k,b,.ref c)] ep)) p [(k,.lst [d])]:=
  ⟨_,ep,dy,i,L,.cons ⟨rfl,S.ff.tup tb,c,[d],rfl,rfl,⟨[v],by rw[dV U,dy],ei.cons q2 ei.nil,j⟩,N,U⟩ .nil,ad,ad⟩
 refine rs_size (wp:=λe=>W.p e F0 H0) u (by rw[aL];exact T) (by rw[aL];exact lB) (by rw[aL];exact X) B Q (((A.mono (l.trans (Y.trans S)).ff)).hide iF (aa (.ref p))) fd (aG Z) (λe h=>m e (by rw[I,h];rfl)) λz hz F' O H' s' r' f' P=>?_;obtain⟨J,g1,g2,g3,g4⟩:=f'.freeze s'.fh;have e1:EO iF iT iO iZ iSt iAh iL iLab iS iB fu f0 fr fo fv fq fk fa fi fb ft ρ=.ok (.rt (.dic z.2)):=by rw[I,hz];rfl
 rw[e1]at q;exact⟨.ref p,P,q (.ref p) J H' ⟨s'.ff.trans g1,s'.hh,g2,λw o h=>(g3 w o h).elim (λz=>s'.nw w o z) .inr⟩ g4⟩
end
def ds_allD{W:qE}{fr:df->M a9}{fu:df->M A0}(p:PSs X sts (y9 (GA (Lk K (tD K W ae fu) (tLst (zF (tD K W ae f0) Ii))) (r9 iF)) (y9 (CF (iD K W fr) (r9 iZ) (Li K W iF iT iO iSt iAh iL iLab iS iB fo fv fq fk fa fi fb ft)) (tRet (wj iF)))))(a: ~~~((X.N[iF]?).isSome=ag))(U: ~~~((X.N[iT]?).isSome=ag))(b: ~~~((X.N[iB]?).isSome=ag))(Y: ~~~((X.N[iL]?).isSome=ag))(S:([iF,iT,iO,iZ,iSt,iAh,iL,iLab,iS,iB].Nodup)⁻¹):
  DSs K W ae X OL [] O' sts (EO iF iT iO iZ iSt iAh iL iLab iS iB fu f0 fr fo fv fq fk fa fi fb ft):=λF0 H0 A1 s σ H D I z=>
 p A1 s σ H D I (rs_allD (by rw[I.len];simpa using a) (by rw[I.len];simpa using U) (by rw[I.len];simpa using b) (by rw[I.len];simpa using Y) S z)
theorem hU1(h:n+64<b_):n<b_:=ac
theorem pe_get2a{o f:bX}{ty:TE}(c:X.A.units+64<b_)(S:PE X o td)(a:PE X e ty)(Y:PE X f tx)(b: ~~~(cy o "get" X.env (a_ o X.env)=a_ o X.env))(hw: ~~~(((cu cpos (au [e,f] X.env)).all (λx=> !x.1)&&(ik cpos (fN [] X.env)).all (λx=>x.1.isSome)&&aF (([e,f]:List bX).length+([]:List ie).length+(if ([]:List ie).isEmpty then 0 else 1)<30))=ag))(U: ~~~((apos.endLine==cpos.line)=ag))(I: ~~~(cu cpos (au [e,f] X.env)=[(ae,a_ e X.env),(ae,a_ f X.env)])):PE X (.Call (.Attribute o "get" apos) [e,f] [] cpos) (tGet2 X.K td ty tx):=
 M6 ac S a Y ⟨b,hw,U,I⟩
section
variable{E:List (List Int×A0)}
def Fd.lay(z:Fd K F G H a E)(s:A2 F0 G F H):∃(F':Hp) (P:av->Prop),A2 F0 G F' H/\eH F F'/\i1 K F' (.dic E) (.ref a) /\
  (∀b,P b->F b=af/\G b=af/\∃o,H b=aa o/\(∀xs,o≠.tup xs)/\∀A u,o≠.frz A u)/\(∀b,¬P b->F' b=F b) /\
  ∀(j H2:Hp),eH F j->eH H H2->(∀b,P b->j b=af)->Fd K j G H2 a E:=by
 classical
 obtain⟨xs,ep,I,fa,J,rows,O,N⟩:=z;have cells:∀{E:List _} {xs:b0},cb (FdR K F G H a) E xs->∀x∈xs,∃c L,x.2.2=.ref c/\Cel K F H c L/\G c=af:=by
  intro E xs r
  induction r with
  |nil=>intro x S;cases S|cons h t f=>
   intro x S;cases S with
   |head=>obtain⟨_,_,c,L,_,e2,z,g,_⟩:=h;exact⟨c,L,e2,z,g⟩
   |tail _ S=>exact f x S
 have C:∀b,(b=a\/∃x∈xs,x.2.2=.ref b)->F b=af/\G b=af/\∃o,H b=aa o/\(∀ys,o≠.tup ys)/\∀A u,o≠.frz A u:=by
  rintro b (rfl|⟨x,S,e⟩)
  .exact⟨fa,J,_,I,(λ_ h=>nomatch h),λ_ _ h=>nomatch h⟩
  .obtain⟨c,L,e2,⟨ys,Y,_,q⟩,g⟩:=cells rows x S;rw[e2]at e;cases e;exact⟨q,g,_,Y,(λ_ h=>nomatch h),λ_ _ h=>nomatch h⟩
 have l:eH F (λb=>if b=a\/∃x∈xs,x.2.2=.ref b then H b else F b):=λb o e=>by show(if b=a\/∃x∈xs,x.2.2=.ref b then H b else F b)=aa o;rw[aA (λh=>by rw[(C b h).1]at e;cases e)];exact e
 refine⟨λb=>if b=a\/∃x∈xs,x.2.2=.ref b then H b else F b,λb=>b=a\/∃x∈xs,x.2.2=.ref b,⟨s.ff.trans l,s.hh,λb o e=>?_,λb o e=>?_⟩,l,⟨a,xs,rfl,⟨ep,?_⟩,?_⟩,C,λb h=>aA h,λj H2 f2 m n2=>⟨xs,ep,m _ _ I,n2 a (.inl rfl),J,?_,O,N⟩⟩
 .have U:=e;split at U
  .exact U
  .exact s.fh b o U
 .have U:=e;split at U
  .rename_i h;exact .inr (C b h).2.1
  .exact s.nw b o U
 .show(if a=a\/∃x∈xs,x.2.2=.ref a then H a else F a)=_;rw[aC (.inl rfl)];exact I
 .have key:∀{E:List _} {ys:b0},cb (FdR K F G H a) E ys->(∀y∈ys,y∈xs)->qm K (λb=>if b=a\/∃x∈xs,x.2.2=.ref b then H b else F b) E ys:=by
   intro E ys r
   induction r with
   |nil=>intro _;rfl|@cons e x E ys h t f=>
    intro i;obtain⟨h1,m,c,L,e1,e2,⟨p,Y,w,q⟩,g,n⟩:=h;obtain⟨k,d⟩:=e;obtain⟨k',b,v⟩:=x;cases(show k'=k from h1);cases(show d=_ from e1);cases(show v=_ from e2);refine⟨b,.ref c,ys,rfl,l.tup m,⟨c,p,rfl,SqL.of ?_,w.mono l⟩,f λy B=>i y (bH _ B)⟩
    rw[aC (.inr ⟨_,i _ (bW ..),rfl⟩)];exact Y
  exact key rows λ_ h=>h
 .have key:∀{E:List _} {ys:b0},cb (FdR K F G H a) E ys->(∀y∈ys,y∈xs)->cb (FdR K j G H2 a) E ys:=by
   intro E ys r
   induction r with
   |nil=>intro _;exact .nil|@cons e x E ys h t f=>intro i;obtain⟨h1,D,c,L,e1,e2,⟨p,Y,w,q⟩,g,n⟩:=h;exact .cons ⟨h1,f2.tup D,c,L,e1,e2,⟨p,m _ _ Y,w.mono f2,n2 c (.inr ⟨x,i x (bW ..),e2⟩)⟩,g,n⟩ (f λy B=>i y (bH _ B))
  exact key rows λ_ h=>h
def unlay{P:av->Prop}(c:eH F F')(a:∀b,P b->F b=af/\G b=af/\∃o,H b=aa o/\(∀xs,o≠.tup xs)/\∀I u,o≠.frz I u)(d:∀b,¬P b->F' b=F b)(t:A2 F' H F1 H1):
  ∃S:Hp,A2 F H S H1/\(∀b,P b->S b=af)/\(∀b,F1 b=af->S b=af)/\(∀b xs,SqT K F1 b xs->SqT K S b xs):=by
 classical
 have U:eH F (λb=>if P b then af else F1 b):=λb o e=>by show(if P b then af else F1 b)=aa o;rw[aA (λh=>by rw[(a b h).1]at e;cases e)];exact t.ff _ _ (c _ _ e)
 have out:∀b o,(if P b then af else F1 b)=aa o->¬P b/\F1 b=aa o:=λb o e=>by
  by_cases h:P b
  .rw[aC h]at e;cases e
  .rw[aA h]at e;exact⟨h,e⟩
 refine⟨λb=>if P b then af else F1 b,⟨U,t.hh,λb o e=>t.fh b o (out b o e).2,λb o e=>?_⟩,λb h=>aC h,(λb h=>by show(if P b then af else F1 b)=af;split;rfl;exact h),λb xs q=>?_⟩
 .obtain⟨n,e1⟩:=out b o e;rcases t.nw b o e1 with z|z
  .rw[d b n]at z;exact .inl z
  .exact .inr z
 .have Y:∀o,F1 b=aa o->(∃xs,o=.tup xs)\/(∃I u,o=.frz I u)->¬P b:=λo e k h=>by
   obtain⟨_,_,o',h1,g,f⟩:=a b h;have:=(t.hh _ _ h1).symm.trans (t.fh _ _ e);cases this;rcases k with⟨xs,rfl⟩|⟨I,u,rfl⟩
   .exact g _ rfl
   .exact f _ _ rfl
  rcases q with(q|⟨I,q⟩)|q
  .exact .inl (.inl ((aA (Y _ q (.inl ⟨_,rfl⟩))).trans q))
  .exact .inl (.inr ⟨I,(aA (Y _ q (.inr ⟨_,_,rfl⟩))).trans q⟩)
  .exact .inr q
end
section
variable{W:qE}{E:List (List Int×A0)}{D:Ends}{f1 f2:df->M A0}
def Hl(E:List (a8×A0))(k:a8)(L:a9):M (List (a8×A0)):=if (tT E k).isSome=ag then stk else if E.length<ay then .ok (rY E k (.lst L))else stk
def Bc(iP iM:Nat)(fc:df->M Bool)(fk f1 f2:df->M A0)(z:df×List (a8×A0))(d:A0):M (df×List (a8×A0)):=
 (fc (z.1.set iM (aa d))).bind λb=>(if b=ag then(f1 (z.1.set iM (aa d))).bind λx=>.ok [x]else(f2 ((z.1.set iM (aa d)).set iP (aa (.dic z.2)))).bind λx=>match x with|.lst L=>if tq L=ag then .ok L else stk|_=>stk).bind λL=>((fk (z.1.set iM (aa d))).bind λI=>(u5 I).bind λk=>Hl z.2 k L).bind λE=>.ok (z.1.set iM (aa d),E)
def rp_put{r n:Hp}(N:∀e,wp e->∀F H,A2 F0 G F H->W.p e F H)(s:A2 F0 G F H)(fd:Fd K F G H a E)(u:A2 F H r n)(cl:Cel K r n c L)(m:H c=af)(R:rV K r σ ρ)(hv:σ[iP]?=aa (aa (.ref a))){g:M (List (a8×A0))}(S:g=(fk ρ).bind λB=>(u5 B).bind λk=>Hl E k L)(O:∀e,g=.error e->wp e)(hN:∀Q,g=.ok Q->∀F' H',A2 r n F' H'->∀xs ep,A2 F0 G F' (upd H' a (ur a xs ep))->Fd K F' G (upd H' a (ur a xs ep)) a Q->D.nx σ (upd H' a (ur a xs ep))):
  wj iP σ n λx H2=>tD K W ae fk σ H2 λy p=>∃a b k xs ep,x=.ref a/\y=.ref b/\p a=aa (ur a xs ep)/\wd K p xs/\SqT K p b (k.map V.int)/\xs.length<ay/\∀ep',D.nx σ (upd p a (ur a (IE xs k b (.ref c)) ep')):=by
 have f:=s.trans u;refine⟨.ref a,hv,eu R u.fh (λe h=>N e (O e (by rw[S,h];rfl)) _ _ f) λB A y C H6 j T=>?_⟩
 rw[A,dm]at S;have I:=f.trans j;have v:=λh=>W.ns (N _ (O _ h) _ _ I);cases l:u5 B with
 |error e=>rw[l]at S;have:=rF l;subst this;exact(v S).elim|ok k=>
 rw[l,dm]at S;obtain⟨b,rfl,t⟩:=tH l T;obtain⟨xs,ep,Y,fa,P,rows,Z,X⟩:=fd;unfold Hl at S;rcases FL rows with⟨e1,e2⟩|⟨L0,c0,e1,_⟩
 .rw[e1]at S;by_cases w:E.length<ay
  .rw[aC w]at S;have U:=u.trans j;have i:C a=af:=by
    cases e:C a with
    |none=>rfl|some o=>
     rcases U.nw a o e with q|q
     .rw[fa]at q;cases q
     .rw[Y]at q;cases q
   have J:c≠a:=λq=>by rw[q,Y]at m;cases m
   refine⟨a,b,k,xs,ep,rfl,rfl,(U.hh _ _ Y),λx hx=>I.fh.tup (U.ff.tup (yn rows x hx)),I.fh.tup t,by rw[<-dQ rows];exact w,λep'=>?_⟩
   refine hN _ S C H6 j _ _ ⟨I.ff,λd o h=>by rw[dV (λq=>by rw[q,P]at h;cases h)];exact I.hh d o h,λd o h=>by rw[dV (λq=>by rw[q,i]at h;cases h)];exact I.fh d o h,I.nw⟩ ?_;exact Fd.put i P rows Z X U.ff ((cl.step j).at (dV J)) (s.hh.free m) J t (λc' L' _ n2 z=>(z.step U).at (dV n2)) (.inl ⟨e1,e2,m⟩) dy
  .rw[aA w]at S;exact(v S).elim
 .rw[e1]at S;exact(v S).elim
def set_self(h:σ[i]?=aa (aa v)):σ.set i (aa v)=σ:=by
 refine kA λj=>?_;by_cases I:i=j
 .subst I;rw[aG (aD.mp h).1,h]
 .rw[aB I]
def LJ(l:∀e,wp e->∀F H,A2 F0 G F H->W.p e F H)(Q:iP≠iM)(s:A2 F0 G F H)(r:rV K F σ ρ)(fd:Fd K F G H a E)(hv:σ[iP]?=aa (aa (.ref a)))(Z:∀e,((fo ρ).bind λO=>qo (Bc iP iM fc fk f1 f2) O (ρ,E))=.error e->wp e)(hN:∀z,((fo ρ).bind λO=>qo (Bc iP iM fc fk f1 f2) O (ρ,E))=.ok z->∀F' Y H',A2 F0 G F' H'->rV K F' Y z.1->Fd K F' G H' a z.2->Y[iP]?=aa (aa (.ref a))->D.nx Y H'):
  CF (iD K W fo) (r9 iM) (tIfS (tDT K W fc) (sPut K (wj iP) (tD K W ae fk) (tLst (zF (tD K W ae f1) Ii))) (sPut K (wj iP) (tD K W ae fk) (tD K W ag f2))) D σ H:=by
 refine⟨F,ρ,r,s.fh,?_⟩
 cases hf:fo ρ with
 |error e=>exact l e (Z e (by rw[hf];rfl)) F H s|ok ds=>
 rw[hf]at Z hN;intro I F2 H2 s2 it;refine vH (S:=λz F' Y H'=>eH F2 F'/\A2 F0 G F' H'/\rV K F' Y z.1/\Fd K F' G H' a z.2/\Y[iP]?=aa (aa (.ref a))) it.toS (λz=>⟨z.1,z.2.1.fh⟩) ⟨eH.refl _,s.trans s2,r.mono s2.ff,fd.step s2,hv⟩ Z (λz F' Y H' e y=>hN z e F' Y H' y.2.1 y.2.2.1 y.2.2.2.1 y.2.2.2.2) ?_;rintro⟨U,n⟩ d F3 u H3 ⟨b3,s3,r3,f3,v3⟩ t x F4 H4 p q4;have r4:=(r3.mono p.ff).set q4 iM;have A:=s3.trans p;have w:(u.set iM (aa x))[iP]?=aa (aa (.ref a)):=by rw[aB (bO Q)];exact v3
 have f:Bc iP iM fc fk f1 f2 (U,n) d=(fc (U.set iM (aa d))).bind λb=>(if b=ag then(f1 (U.set iM (aa d))).bind λx=>.ok [x]else(f2 ((U.set iM (aa d)).set iP (aa (.dic n)))).bind λx=>match x with|.lst L=>if tq L=ag then .ok L else stk|_=>stk).bind λL=>((fk (U.set iM (aa d))).bind λdk=>(u5 dk).bind λk=>Hl n k L).bind λE=>.ok (U.set iM (aa d),E):=rfl
 refine u7 r4 p.fh (λe h=>l e (t e (by rw[f,h];rfl)) _ _ A) λb hb F5 H5 o=>?_;rw[hb,dm]at f;have i:=A.trans o;have f5:=f3.step (p.trans o);have q:=r4.mono o.ff;have no:∀{F H},A2 F0 G F H->Bc iP iM fc fk f1 f2 (U,n) d=.error .stuck->False:=λs h=>W.ns (l _ (t _ h) _ _ s);cases b with
 |true=>
  rw[aC rfl]at f;refine eu q o.fh (λe h=>l e (t e (by rw[f,h];rfl)) _ _ i) λd1 T v F6 H6 g N=>⟨by simp only[gQ];decide,λc X=>?_⟩
  rw[T,dm,dm]at f;refine rp_put l i f5 (g.trans (A2.grow g.fh X)) ⟨[v],dy,ei.cons N ei.nil,g.fh.free X⟩ (g.hh.free X) (q.mono g.ff) w rfl (λe h=>t e (by rw[f,h];rfl)) λE' m F7 H7 s7 xs ep C f8=>?_;exact⟨(U.set iM (aa d),E'),F7,by rw[f,m];rfl,b3.trans (p.ff.trans (o.ff.trans (g.ff.trans s7.ff))),C,(q.mono g.ff).mono s7.ff,f8,w⟩
 |false=>
  obtain⟨F',P,J,l2,l3,l4,l5,l6⟩:=f5.lay i;have r6:rV K F' (u.set iM (aa x)) ((U.set iM (aa d)).set iP (aa (.dic n))):=by
   have:=(q.mono l2).set l3 iP
   rwa [set_self w]at this
  refine eu r6 J.fh (λe h=>l e (t e (by rw[f,h];rfl)) _ _ J) λdL R v F6 H6 g N=>?_;rw[R,dm]at f;cases dL with
  |lst L=>
   obtain⟨c,ys,rfl,hq,fz,zz,dd⟩:=N;by_cases j:tq L=ag
   .have e1:Bc iP iM fc fk f1 f2 (U,n) d=((fk (U.set iM (aa d))).bind λdk=>(u5 dk).bind λk=>Hl n k L).bind λE=>.ok (U.set iM (aa d),E):=by
     rw[f];show(if tq L=ag then cG L else stk).bind _=_;rw[aC j];rfl
    obtain⟨F7,B,u2,u3,u4⟩:=unlay l2 l4 l5 g;refine rp_put l i f5 B ⟨ys,hq,ei.flat u4 j dd,u3 c fz⟩ zz (q.mono B.ff) w rfl (λe h=>t e (by rw[e1,h];rfl)) λE' m F8 H8 C xs ep s9 f9=>?_;exact⟨(U.set iM (aa d),E'),F8,by rw[e1,m];rfl,b3.trans (p.ff.trans (o.ff.trans (B.ff.trans C.ff))),s9,(q.mono B.ff).mono C.ff,f9,w⟩
   .exact(no (J.trans g) (by rw[f];show(if tq L=ag then cG L else stk).bind _=_;rw[aA j];rfl)).elim
  |_=>exact(no (J.trans g) (by rw[f];rfl)).elim
end
section
variable{W:qE}{D:Ends}{f1 f2:df->M A0}
def papD(iP iM:Nat)(fx:df->M A0)(fo:df->M a9)(fc:df->M Bool)(fk f1 f2:df->M A0)(ρ:df):M (List (a8×A0)):=(fx ρ).bind λ_=>((fo (ρ.set iP af)).bind λI=>qo (Bc iP iM fc fk f1 f2) I (ρ.set iP af,[])).bind λz=>.ok z.2
def rs_papD(r:rV K F σ ρ)(s:eH F H)(S:iP≠iM)(g:iP<σ.length)(Y:∀e,papD iP iM fx fo fc fk f1 f2 ρ=.error e->W.p e F H)(k:∀E,papD iP iM fx fo fc fk f1 f2 ρ=.ok E->∀a F' H',A2 F H F' H'->Fd K F' H H' a E->D.rt (.ref a) H'):
  y9 (CG (tD K W ae fx)) (y9 (GA tNewK (r9 iP)) (y9 (CF (iD K W fo) (r9 iM) (tIfS (tDT K W fc) (sPut K (wj iP) (tD K W ae fk) (tLst (zF (tD K W ae f1) Ii))) (sPut K (wj iP) (tD K W ae fk) (tD K W ag f2)))) (tRet (wj iP)))) D σ H:=by
 have I:papD iP iM fx fo fc fk f1 f2 ρ=(fx ρ).bind λ_=>((fo _).bind λf=>qo _ f (ρ.set iP af,[])).bind λz=>.ok z.2:=rfl;refine eu r s (λe h=>Y e (by rw[I,h];rfl)) λd j v F1 H1 s1 q1=>?_;rw[j]at I;intro p U;refine LJ (λe h F H s=>W.mono h s) S (s1.trans (A2.grow s1.fh U)) ((r.mono s1.ff).hide iP _) ⟨[],0,dy,s1.fh.free U,s1.hh.free U,.nil,gF,gF⟩ (aG g) (λe h=>Y e (by rw[I,h];rfl)) λz i F' b H' s' r' l c=>?_;exact⟨.ref p,c,k z.2 (by rw[I,i];rfl) p F' H' s' l⟩
end
def spP(K:Fg)(g:a9->M (List (a8×A0)))(n:Nat):Sp:=λvs H Q _=>∃F ds,eH F H/\ei K F ds vs/\ds.length=n/\∃E,g ds=.ok E/\∀a F' H',A2 F H F' H'->Fd K F' H H' a E->Q (.ref a) H'
section
variable{base:bF}{st:bY}{f1 f2:df->M A0}
noncomputable def runP(nN:Nat)(g:df->M (List (a8×A0))):a9->M (List (a8×A0)):=λds=>g (ds.map aa++aK (nN-ds.length) af)
def Ly{vs:bi}(q:ei K F ds vs)(l:ds.length<=N.length):rV K F (start N vs) (ds.map aa++aK (N.length-ds.length) af):=
 ⟨by unfold start;rw[bB,bB,az,az,fQ,fQ,q.length],λi d e=>Eu q e⟩
theorem fP(N:List br){h:∃f fd,Def K mg x st ps f fd}(c:ps.length<=N.length)(b:∀z:B7,N.Nodup->vc k (z.A.deeper (iE x (eF st) z.s.heap.objs.size z.f z.c))->PSs (Nj CX0 P w K mg base N x (eF st) z.f z.c z.A z.o z.s z.H z.E).nox (qD st)
   (y9 (CG (tD K A9 ae fx)) (y9 (GA tNewK (r9 iP)) (y9 (CF (iD K A9 fo) (r9 iM) (tIfS (tDT K A9 fc) (sPut K (wj iP) (tD K A9 ae fk) (tLst (zF (tD K A9 ae f1) Ii))) (sPut K (wj iP) (tD K A9 ae fk) (tD K A9 ag f2)))) (tRet (wj iP))))))(I:(iP≠iM)⁻¹)(i:(iP<N.length)⁻¹)(S:autoParam (uq N ps (eF st)) Jq8):
  YR h P w base (k+1) (spP K (runP N.length (papD iP iM fx fo fc fk f1 f2)) ps.length):=
 fR N (λvs H Q E h=>by
   obtain⟨F,ds,_,q,l,_⟩:=h;rw[q.length,l]) (λz U Y vs Q ⟨F,ds,s,q,l,E,e,d⟩=>⟨_,b z U Y,by
  have r:=Ly q (by rw[l];exact c);refine rs_papD r s I (by rw[<-r.len,bB,az,fQ];lia) (λj h=>?_) λm h' a F' H' s' g=>d a F' H' s' ?_
  .have:=h.symm.trans e;cases this
  .have:=h'.symm.trans e;cases this;exact g⟩) S
end
def CA(iS:Nat)(fk:df->M A0)(z:df×List (a8×A0))(d:A0):M (df×List (a8×A0)):=(fk (z.1.set iS (aa d))).bind λI=>(u5 I).bind λk=>match tT z.2 k with
 |some (.lst L)=>if L.length<ay then .ok (z.1.set iS (aa d),rY z.2 k (.lst (L++[.int 0])))else stk
 |_=>stk
section
variable{W:qE}{E:List (List Int×A0)}{D:Ends}{fd:df->M (List A0)}
def Fd.app{k:a8}(z:Fd K F G H a E)(s:eH F H)(e:tT E k=aa (.lst L)):∃xs ep c ys,H a=aa (ur a xs ep)/\wd K H xs/\wA xs k=aa (.ref c)/\H c=aa (.lst ys)/\ys.length=L.length/\F c=af/\G c=af/\Fd K F G (upd H c (.lst (ys++[.int 0]))) a (rY E k (.lst (L++[.int 0]))):=by
 obtain⟨xs,ep,I,fa,t,rows,f,d⟩:=z;rcases FL rows with⟨e1,_⟩|⟨y,c,e1,e2,⟨ys,l,Y,U⟩,g,n⟩
 .rw[e1]at e;cases e
 rw[e1]at e;cases e;refine⟨xs,ep,c,ys,I,(yn rows).mono s,e2,l,Y.length,U,g,xs,ep,by rw[dV (bO n)];exact I,fa,t,?_,f,d⟩
 obtain⟨m,i,j,b⟩:=zj e2;have q2:∀x∈xs,x.1≠k->x.2.2≠.ref c:=λx S e q=>e (by rw[wN f S i (q.trans b.symm)];exact j);have p1:rY E k (.lst (L++[.int 0]))=E.map (λp=>if p.1=k then(p.1,.lst (L++[.int 0]))else p):=by unfold rY;rw[e1];rfl
 have p2:xs.map (λx=>if x.1=k then(x.1,x.2.1,V.ref c)else x)=xs:=by
  refine(bM λx S=>?_).trans (qj _);split
  .rename_i h;rw[wN d S i (h.trans j.symm)];obtain⟨v,u,o⟩:=m;cases(show o=_ from b);rfl
  .rfl
 have:=MZ (c:=c) (L:=L++[.int 0]) (eH.refl _) ⟨_,dy,Y.append (ei.cons (show i1 K F (.int 0) (.int 0)from rfl) ei.nil),U⟩ g n (λw A r _ z=>z.at (dV r)) rows q2;rw[p2]at this;rw[p1];exact this
def rs_zeros(J:∀e,wp e->∀F H,A2 F0 G F H->W.p e F H)(v:iF≠iS)(s:A2 F0 G F H)(r:rV K F σ ρ)(f:Fd K F G H a E)(hv:σ[iF]?=aa (aa (.ref a)))(N:∀e,((fd ρ).bind λds=>qo (CA iS fk) ds (ρ,E))=.error e->wp e)(X:∀z,((fd ρ).bind λds=>qo (CA iS fk) ds (ρ,E))=.ok z->∀F' U H',A2 F0 G F' H'->rV K F' U z.1->Fd K F' G H' a z.2->U[iF]?=aa (aa (.ref a))->D.nx U H'):
  CF (iD K W fd) (r9 iS) (CG (tBM K "list" zR (tOp (rIxK K) (wj iF) (tD K W ae fk)) (zF (tC (.int 0)) Ii))) D σ H:=by
 refine⟨F,ρ,r,s.fh,?_⟩
 cases R:fd ρ with
 |error e=>exact J e (N e (by rw[R];rfl)) F H s|ok ds=>
 rw[R]at N X;intro I F2 H2 s2 it;refine vH (S:=λz F' U H'=>eH F2 F'/\A2 F0 G F' H'/\rV K F' U z.1/\Fd K F' G H' a z.2/\U[iF]?=aa _) it.toS (λz=>⟨z.1,z.2.1.fh⟩) ⟨eH.refl _,s.trans s2,r.mono s2.ff,f.step s2,hv⟩ N (λz F' U H' e y=>X z e F' U H' y.2.1 y.2.2.1 y.2.2.2.1 y.2.2.2.2) ?_;rintro⟨i,j⟩ d F3 u H3 ⟨b3,s3,r3,f3,v3⟩ T x F4 H4 l q4;have Q:=(r3.mono l.ff).set q4 iS;have m:=s3.trans l;have P:(u.set iS (aa x))[iF]?=aa (aa (.ref a)):=by rw[aB (bO v)];exact v3
 have g:CA iS fk (i,j) d=(fk _).bind λO=>(u5 O).bind λk=>match tT j k with|some (.lst L)=>if L.length<ay then .ok (i.set iS (aa d),rY j k (.lst (L++[.int 0])))else stk|_=>stk:=rfl
 refine⟨.ref a,P,eu Q l.fh (λe h=>J e (T e (by rw[g,h];rfl)) _ _ m) λO C y F5 H5 n q5=>?_⟩
 rw[C,dm]at g;have Y:=m.trans n;have f5:=(f3.step l).step n;have p:=λh=>W.ns (J _ (T _ h) _ _ Y);cases q:u5 O with
 |error e=>rw[q]at g;have:=rF q;subst this;exact(p g).elim|ok k=>
 rw[q,dm]at g;obtain⟨b,rfl,t⟩:=tH q q5;cases B:tT j k with
 |none=>rw[B]at g;exact(p g).elim|some dl=>
 rw[B]at g;cases dl with
 |lst L=>
  have g:CA iS fk (i,j) d=if L.length<ay then .ok (i.set iS (aa d),rY j k (.lst (L++[.int 0])))else stk:=g
  by_cases A:L.length<ay
  .rw[aC A]at g;obtain⟨xs,ep,c,ys,h1,h2,h3,Z,h5,h6,h7,h8⟩:=f5.app Y.fh B;refine⟨a,b,k,xs,ep,.ref c,rfl,rfl,h1,h2,Y.fh.tup t,h3,⟨rfl,_,_,rfl,SqL.of Z⟩,c,ys,.int 0,rfl,rfl,Z,by rw[h5];exact A,?_⟩
   refine⟨_,F5,g,b3.trans (l.ff.trans n.ff),⟨Y.ff,λw o h=>?_,λw o h=>?_,Y.nw⟩,Q.mono n.ff,h8,P⟩
   .rw[dV (λz=>by rw[z,h7]at h;cases h)];exact Y.hh w o h
   .rw[dV (λz=>by rw[z,h6]at h;cases h)];exact Y.fh w o h
  .rw[aA A]at g;exact(p g).elim
 |_=>exact(p g).elim
end
section
variable{D:Ends}{m:List A0->M (List (List Int×A0))}{fr:df->M (List A0)}{fd:df->M (List A0)}
def zO(iF iS n:Nat)(m:a9->M (List (a8×A0)))(fr:df->M a9)(ft:df->M Bool)(fd:df->M a9)(fk:df->M A0)(g:df->M A4)(ρ:df):M A4:=
 (fr ρ).bind λas=>if as.length=n then(m as).bind λE=>(ft (ρ.set iF (aa (.dic E)))).bind λb=>if b=ag then .ok (.rt (.bl ae))else
  ((fd (ρ.set iF af)).bind λds=>qo (CA iS fk) ds (ρ.set iF af,E)).bind λz=>g z.1 else stk
def rs_tailP(p:iF≠iS)(lF:iF<σ.length)(t:tS K A9 ae F0 H0 OL [] O' (zO iF iS n m fr ft fd fk g) D σ H):
  y9 (GA (Ln (spP K m n) [] E0 (tDA K A9 fr)) (r9 iF)) (y9 (tIfS (tDT K A9 ft) (tRet (tC (.bl ae))) JU) (y9 (CF (iD K A9 fd) (r9 iS) (CG (tBM K "list" zR (tOp (rIxK K) (wj iF) (tD K A9 ae fk)) (zF (tC (.int 0)) Ii))))
   (y9 (CG (tClrK (wj iF))) (tS K A9 ae F0 H0 OL [] O' g)))) D σ H:=by
 obtain⟨FB,F,ρ,r,q⟩:=t;have l:=r.repE;have s:=r.st;have j:∀e,zO iF iS n m fr ft fd fk g ρ=.error e->False:=λe h=>by rw[h]at q;exact q
 have I:zO iF iS n m fr ft fd fk g ρ=(fr ρ).bind λas=>if as.length=n then(m as).bind λE=>(ft _).bind λb=>if b=ag then .ok _ else
  ((fd _).bind λds=>qo _ ds (ρ.set iF af,E)).bind λz=>g z.1 else stk:=rfl
 refine vv l s.fh (λe h=>j e (by rw[I,h];rfl)) λas x vs F1 H1 s1 q1=>?_;rw[x,dm]at I;by_cases v:as.length=n
 .rw[aC v]at I;cases u:m as with
  |error e=>exact(j e (by rw[I,u];rfl)).elim|ok E=>
  rw[u,dm]at I;rw[b8];refine⟨F1,as,s1.fh,q1,v,E,u,λa G H2 s2 f2=>?_⟩
  have Y:=s.trans (s1.trans s2);have f3:Fd K G H0 H2 a E:=by obtain⟨N,y,Z,X,W,T,R,Q⟩:=f2;have A:=(s.trans s1).hh;exact⟨N,y,Z,X,A.free W,Jl (λc L z g=>A.free g) T,R,Q⟩
  obtain⟨F',P,l1,l2,l3,_,_,_⟩:=f3.lay Y;refine u7 (((l.mono (s1.trans s2).ff).mono l2).set l3 iF) l1.fh (λe h=>j e (by rw[I,h];rfl)) λb hb F3 H3 s3=>?_;rw[hb]at I;have f:=A2.same Y.fh s3.hh;have U:=Y.trans f;cases b with
  |true=>rw[I]at q;exact q _ G H3 U rfl|false=>
   refine rs_zeros (λ_ h=>h.elim) p ⟨eH.refl _,U.hh,U.fh,λ_ _ z=>.inl z⟩ ((l.mono (s1.trans s2).ff).hide iF (aa (.ref a))) (f3.step f) (aG lF) (λe h=>j e (by rw[I,h];rfl)) λz hz F4 J H4 B C f4 O=>?_;rw[hz]at I;rw[I]at q;obtain⟨xs,ep,k,fa,ga,_⟩:=f4;have S:=U.base B;refine⟨.ref a,O,a,xs,ep,rfl,k,λep'=>⟨FB,F4,z.1,(⟨⟨S.ff,λw o h=>?_,λw o h=>?_,S.nw⟩,(r.fb.trans ((s1.trans s2).ff.trans B.ff)),C.len,λi d e _=>C.sl i d e,(λ_ _ _ h=>nomatch h),(λ_ _ _ _ _ h=>nomatch h)⟩),q⟩⟩
   .rw[dV (λz=>by rw[z,ga]at h;cases h)];exact S.hh w o h
   .rw[dV (λz=>by rw[z,fa]at h;cases h)];exact S.fh w o h
 .rw[aA v]at I;exact(j _ I).elim
def ds_tailP(p:∀F0 H0,PSs X sts (y9 (GA (Ln (spP K m n) [] E0 (tDA K A9 fr)) (r9 iF)) (y9 (tIfS (tDT K A9 ft) (tRet (tC (.bl ae))) JU) (y9 (CF (iD K A9 fd) (r9 iS) (CG (tBM K "list" zR (tOp (rIxK K) (wj iF) (tD K A9 ae fk)) (zF (tC (.int 0)) Ii))))
   (y9 (CG (tClrK (wj iF))) (tS K A9 ae F0 H0 OL [] O' g))))))(S:(iF≠iS)⁻¹)(U: ~~~((X.N[iF]?).isSome=ag)):DSs K A9 ae X OL [] O' sts (zO iF iS n m fr ft fd fk g):=λF0 H0 A1 s σ H D I z=>
 p F0 H0 A1 s σ H D I (rs_tailP S (by rw[I.len];simpa using U) z)
end
noncomputable def okT(ts:List a8):Bool:=aF (ts.head? =aa [])||ts.all λt=> !t.isEmpty
section
open PySem.W
end
section
open PySem
end
def xN:A0->M A0
 |.dic _=>.ok (.bl ag)|_=>stk
@[simp]def e_isi_dict(ks:List (a8×A0)):xN (.dic ks)=.ok (.bl ag):=id rfl
section
variable{W:qE}{own:Bool}{a:bX}{p:lj}
def KI(a: ~~~(X.K=K)):sH X (.builtin "isinstance") (λxs H Q=>∃v,xs=[v,.ty "dict"]/\rD1 K W own xN v H Q):=by
 intro A1 s σ H xs us Q I r h;obtain⟨v,rfl,F,d,s1,q,p⟩:=h;obtain⟨u,w,rfl,U,S⟩:=r.two;cases(show w=gO "dict" from S);cases d with
 |dic ks=>obtain⟨l,ys,rfl,⟨ep,t⟩,_⟩:=q;cases U;obtain⟨_,_,_,_,_,o,_,h1,Y,_⟩:=FZ I (s1 _ _ t);exact qc h1 Y.1 ⟨.bl ag,H,I,rfl,eQ.bl p s1⟩
 |_=>exact eQ.stuck p
def HF(c:X.mg "isinstance"=af)(Y:X.mg "dict"=af)(e:DE K W ae X a fa)(f: ~~~(X.K=K))(d: ~~~(Gl X "isinstance"))(b: ~~~(Gl X "dict"))(S: ~~~(au [a,.Name "dict" p2] X.env=[(ae,a_ a X.env),(ae,a_ (.Name "dict" p2) X.env)]))(I: ~~~(au [.Name "dict" p2] X.env=[(ae,a_ (.Name "dict" p2) X.env)]))(U: ~~~((cu pos (au [.Name "dict" p2] X.env)).any (·.1)=ae)):
  DE K W own X (.Call (.Name "isinstance" p) [a,.Name "dict" p2] [] pos) (f1 xN fa):=G3 (KI f) c Y (by rfl) e d b am am S I U
end
def fCP(m:a9->M (List (a8×A0)))(n:Nat)(fr:df->M a9):df->M A0:=λρ=>(fr ρ).bind λas=>if as.length=n then(m as).bind λE=>.ok (.dic E)else stk
section
variable{m:List A0->M (List (List Int×A0))}{fr:df->M (List A0)}
def Ng{es:List bX}{p:lj}{st:bY}(Y:∃f fd,Yd X.prog X.w X.K X.mg X.base CX0 k x st ps (spP X.K m n) f fd)(g:vc j X.A)(u:DA X.K A9 X (e::es) fr)(l:(k<=j)⁻¹)(t: ~~~(Gl X x))(c:((x==("__debug__":br))=ae)⁻¹)(I: ~~~(au (e::es) X.env=(ae,a_ e X.env)::au es X.env))(S: ~~~((cu pos (au es X.env)).any (·.1)=ae)):DE X.K A9 ae X (.Call (.Name x p) (e::es) [] pos) (fCP m n fr):=by
    refine(pY Y g u l t c I S).imp λσ H Q i=>?_;obtain⟨F,ρ,r,s,q⟩:=i;have q:eQ X.K A9 ae F H ((fr ρ).bind λas=>if as.length=n then(m as).bind λE=>.ok _ else stk) Q:=q;refine vv r s (λe h=>by rw[h]at q;exact q) λas d vs F1 H1 s1 q1=>?_;rw[d,dm]at q;by_cases b:as.length=n
    .rw[aC b]at q;cases U:m as with
     |error e=>rw[U]at q;exact(show False from q).elim|ok E=>
     rw[U]at q;rw[b8];refine⟨F1,as,s1.fh,q1,b,E,U,λa B H2 s2 f2=>?_⟩
     obtain⟨F',A,g2,y,v⟩:=f2.freeze s2.fh;exact q _ F' H2 ⟨s1.ff.trans (s2.ff.trans A),(s1.trans s2).hh,g2,λw o h=>(y w o h).elim (λz=>(s1.trans s2).nw w o z) λz=>.inr (s1.hh.free z)⟩ v
    .rw[aA b]at q;exact(show False from q).elim
end
def GP(ks I:List (a8×A0)):Bool:=aF (ks.length=I.length)&&ks.all λp=>match tT I p.1 with
 |some e=>A8 p.2 40&&A8 e 40&&eqD p.2 e|none=>ae
def neKA:A0->A0->M A0
 |.dic ks,.dic I=>if GP ks I=ag then .ok (.bl ae)else .error .stuck
 |_,_=>.error .stuck
@[simp]def e_neKA(ks I:List (a8×A0)):neKA (.dic ks) (.dic I)=if GP ks I=ag then .ok (.bl ae)else .error .stuck:=id rfl
section
open PySem
variable{s:ao}
theorem GO{y:String}{vs us:List (a8×av×aj)}{Q:Bool->ao->Prop}(B:(Be prog w).room A)(W:(a==bT)=ae)(T:(b==bT)=ae)(G:s.heap.DictOfH (Be prog w) a vs)(F:s.heap.DictOfH (Be prog w) b us)(R:vs.length=us.length)(f:∀(j:Nat) (x:a8×av×aj),vs[j]?=aa x->∃q,jT us x.1=aa q/\gv A s x.2.2 q.2 ag)(h:Q ag s):
  aP (aI prog w) A (kS y a b) Q E s:=by
 obtain⟨L,es,ep,c,a2,Y,u,J,a6⟩:=G;obtain⟨K,fs,X,n,Z,m,g,H,t⟩:=F;have O:es.size=vs.length:=by rw[<-bQ,u,az]
 have N:fs.size=us.length:=by rw[<-bQ,g,az]
 unfold kS cH;rw[aA a7,aA a7];refine ab (ai (ab (ai (ab (bP c Y ?_)))));refine ab (bP n m ?_);rw[aA a7];refine ab (di c Y ?_);refine ab ?_;rw[o9];refine hI _ (λrest q s'=>s'=s/\q=(af,())/\∃i,rest=jC i (es.size-i)/\i<=es.size) _ ?_ ?_ _ _ ⟨rfl,rfl,0,ad,bz _⟩
 .rintro x rest q s' ⟨rfl,rfl,i,P,hi⟩;have I:i<es.size:=by
   rcases qi i es.size with h|h
   .exact h
   .simp_all
  obtain⟨rfl,S⟩:x=i/\rest=jC (i+1) (es.size-(i+1)):=by
   have e:es.size-i=(es.size-(i+1))+1:=ac
   grind[kW]
  have d:x<vs.length:=ac
  have D:es[x]'I=rowE vs[x]:=by have:=dI (λl:List cF=>l[x]?) u;simp only[gN,l9 I,aV,cv d,gW,g9]at this;exact this
  obtain⟨v,U,ev⟩:=f x vs[x] (cv d);refine ab (bP c Y ?_);rw[l9 I];rw[D];refine ab (c6 (ab (wpAny_dictFind_heap (knd:=Be prog w) (k:=vs[x].1) B (J _ (dh d)) n m g H t (λz=>?_) λj p r=>?_)))
  .rw[atKey_none_of_get z]at U;cases U
  .have o:=atKey_of_get t r;rw[U]at o;cases o;refine ab (bP n m ?_);have C:fs[j]?=aa (rowE (vs[x].1,v)):=by
    have:=dI (λl:List cF=>l[j]?) g;simp only[gN,aV,r,gW]at this;exact this
   rw[C];refine c6 ?_;refine ev prog w _ _ ?_;show aP _ _ (if (!true)=ag then _ else _) _ _ _;rw[aA am];refine ab (di c Y ?_);rw[aA ad];exact ai ⟨rfl,rfl,x+1,S,I⟩
 .rintro q s' ⟨rfl,rfl,_⟩;exact ai h
theorem ne_dicA{vs us:List (a8×av×aj)}(c:(Be prog w).room A.in1)(f:(a==bT)=ae)(e:(b==bT)=ae)(U:s.heap.DictOfH (Be prog w) a vs)(S:s.heap.DictOfH (Be prog w) b us)(d:vs.length=us.length)(I:∀(j:Nat) (x:a8×av×aj),vs[j]?=aa x->∃q,jT us x.1=aa q/\gv A.in1 s x.2.2 q.2 ag)(Y:A.units<b_)(h:Q (.bool ae) s):
  aP (aI prog w) A (bZ .NotEq (.ref a) (.ref b)) Q E s:=by
 refine iJ (op:=.NotEq) U.typeIs S.typeIs mE (bh mE U.typeIs PySem.F.entry_dict_ne ?_ (PySem.F.args_dict_ne_2 _ _)) Y;refine ab ?_;refine ai ?_;refine ab (d9 S.typeIs PySem.F.sub_dict_dict ?_);refine ab (ai (ab (ai ?_)));refine ab (GO c f e U S d I ?_);refine ai ⟨_,rfl,?_,?_⟩
 .simp
 simp_all
end
section
variable{W:qE}{own:Bool}
theorem Ip{A1:Pn}{σ:St}{F H:Hp}{s:ao}{A:dD}(I:A3 X A1 σ H s)(i:eH F H)(g:A.units+40<b_){f:List (a8×A0)}{ys:b0}{us:List (a8×av×aj)}(b:qm X.K F f ys)(p2:cb vt ys us):∀{ks:List (a8×A0)} {xs:b0} {vs:List (a8×av×aj)},(∀p∈ks,∃e,tT f p.1=aa e/\A8 p.2 40=ag/\A8 e 40=ag/\eqD p.2 e=ag)->qm X.K F ks xs->cb vt xs vs ->
  ∀(j:Nat) (x:a8×av×aj),vs[j]?=aa x->∃q,jT us x.1=aa q/\gv A s x.2.2 q.2 ag
 |[],_,_,_,h1,a=>by rw[show _=[]from h1]at a;cases a;intro j x h;simp at h|(k,d)::ks,_,_,h,⟨z,t,a,e1,v,q1,m⟩,p1=>by
  subst e1;cases p1 with
  |cons l p1=>
  intro j x ex;cases j with
  |succ j=>exact Ip I i g b p2 (λp S=>h p (by simp[S])) m p1 j x (by simpa using ex)|zero=>
   simp at ex;subst ex;obtain⟨e,h1,r,o,n⟩:=h (k,d) ad;rcases b.at with⟨f1,_⟩|⟨y,u,f1,f2,q2⟩
   .rw[f1]at h1;cases h1
   .rw[f1]at h1;cases h1;have c:=xB (k:=k) p2;rw[f2]at c;obtain⟨w,U,Y⟩:=c.some_of;cases S:jT us k with
    |none=>rw[S]at U;cases U|some q=>rw[S]at U;cases U;have:=N1 I i d e r o q1 q2 l.2.2 Y g;rw[n]at this;exact⟨q,by rw[<-l.1];exact S,this⟩
theorem o_neA(E:X.A.units+64<b_)(r: ~~~(X.K=K)):Op2 K W own X (bZ .NotEq) neKA:=by
 subst r;intro A1 s σ H x y v u Q I l k h;obtain⟨F,a,b,s1,n,m,p⟩:=h;cases a with
 |dic ks=>
  cases b with
  |dic c=>
   obtain⟨D,xs,rfl,⟨z,h1⟩,Y⟩:=n;obtain⟨C,ys,rfl,⟨w,t⟩,U⟩:=m;cases l;cases k;have p':eQ X.K W own F H (if GP ks c=ag then .ok _ else .error .stuck) Q:=p;by_cases S:GP ks c=ag
   .rw[aC S]at p';unfold GP at S;rw[aU,eA,eT]at S;obtain⟨vs,j,q,_,B⟩:=Cm I (s1 _ _ h1) (Y.key.mono s1);obtain⟨us,q1,g,_,i⟩:=Cm I (s1 _ _ t) (U.key.mono s1);have f:=Ip (A:=X.A.in1) I s1 ac U q1 (λp o=>by
     have:=S.2 p o;cases e:tT c p.1 with
     |none=>rw[e]at this;cases this|some d=>rw[e]at this;simp at this;exact⟨d,rfl,this.1.1,this.1.2,this.2⟩) Y j
    refine ne_dicA (iY ac) q g B i (by rw[<-dQ j,<-dQ q1,Y.length,U.length];exact S.1) f ac ⟨.bl ae,H,I,rfl,?_⟩;exact p' _ F H (A2.refl s1) (by cases own<;>rfl)
   .rw[aA S]at p';exact eQ.stuck p'
  |_=>exact eQ.stuck p
 |_=>exact eQ.stuck p
end
end Lake
namespace Tactic
open PySem Lake PyProof.Rows
variable{mg:br->Option aj}{n m i k j sh:Nat}{w:c8}{CP qy:av}{o5:dX}{d:A0}{t u a c:Int}{v:V}{p q:Int×List (List Int)}{rows L:List (List Int)}{b r:List Int}{l x y:LK}{ks ls B:List LK}{T:List (SK×List Int)}{ρ:df}
def tX:df->M A4:=
 sIf (fB (f2 ltD (de 1) (fL x5 (b6 (de 0) ej))))
   (qI (f2 ixD (de 0) (de 1)))
   ri
def vP:df->M A4:=
 sIf (fB (f2 eqM (de 0) (fL nA ej)))
   (qI (fC (.int 0)))
   ri
def vF:df->M A4:=
 (kd (tX)
  (kd (vP)
  (qI (f2 vr (f2 Dt (f2 ixD (de 0) (f2 xq (de 1) (fL x5 (b6 (de 0) ej)))) (fC (.int 69621))) (f2 Dt (f2 Dt (de 1) (de 1)) (fC (.int 48271)))))))
def hP:a9->M A0:=nf 2 2 (vF)
def rh:df->M A4:=
 (kd (g7 [3,5] 7 (fL (hP) (b6 (de 0) (b6 (f2 vr (f2 vr (de 1) (f2 Dt (de 2) (de 4))) (de 6)) ej))))
  (wZ [3,5] 5 (f2 ixD (fL nA (b6 (fC (.int 0)) (b6 (f2 xq (f2 tW (de 7) (fC (.int 4))) (fC (.int 10))) (b6 (f2 xq (f2 tW (de 7) (fC (.int 4))) (fC (.int 10))) (b6 (f2 xq (f2 tW (de 7) (fC (.int 4))) (f2 ixD (fL nA (b6 (fC (.int 40)) (b6 (f2 vr (f2 powD (fC (.int 10)) (fC (.int 6))) (fC (.int 1))) ej))) (f2 xq (f2 tW (de 7) (fC (.int 4))) (fC (.int 2))))) ej))))) (f2 xq (de 7) (fC (.int 4))))))
def sY:df->M A4:=
 (kd (g7 [3] 5 (fL nA ej))
  (kd (we [3,5] (wg ye (b6 (de 2) ej)) (.nm 6) (rh))
  (wZ [3] 3 (de 5))))
def wG:df->M A4:=
 (kd (g7 [] 3 (fL nA ej))
  (kd (we [3] (wg ye (b6 (de 2) ej)) (.nm 4) (sY))
  (qI (de 3))))
def qT:a9->M A0:=nf 8 3 (wG)
def vO:df->M A4:=
 sIf (fB (f2 eqM (f2 xq (f2 tW (fL (hP) (b6 (de 0) (b6 (fC (.int 0)) ej))) (fC (.int 3))) (fC (.int 3))) (fC (.int 1))))
   (qI (fL nA (b6 (de 2) (b6 (fL (qT) (b6 (de 0) (b6 (f2 vr (fC (.int 3)) (f2 Dt (de 1) (de 1))) (b6 (de 1) ej)))) ej))))
   ri
def xu:df->M A4:=
 (kd (g7 [] 1 (f2 vr (fC (.int 1)) (f2 xq (fL (hP) (b6 (de 0) (b6 (fC (.int 0)) ej))) (fC (.int 3)))))
  (kd (g7 [] 2 (fL (qT) (b6 (de 0) (b6 (fC (.int 3)) (b6 (de 1) ej)))))
  (kd (vO)
  (qI (fL nA (b6 (de 2) ej))))))
def sR:a9->M A0:=nf 3 1 (xu)
def Ce:df->M A4:=
 (kd (g7 [] 2 (f2 xq (f2 tW (fL (hP) (b6 (de 0) (b6 (fC (.int 1)) ej))) (fC (.int 96))) (fC (.int 4))))
  (kd (g7 [] 3 (f2 ixD (f2 ixD (fL nA (b6 (fL nA (b6 (fC (.int 8)) (b6 (fC (.int 8)) (b6 (fC (.int 6)) (b6 (fC (.int 5)) ej))))) (b6 (fL nA (b6 (fC (.int 6)) (b6 (fC (.int 4)) (b6 (fC (.int 3)) (b6 (fC (.int 3)) ej))))) ej))) (f2 Lq (fL x5 (b6 (de 1) ej)) (fC (.int 1)))) (de 2)))
  (qI (fL rH (b6 (de 2) (b6 (f2 xq (f2 tW (fL (hP) (b6 (de 0) (b6 (fC (.int 0)) ej))) (fC (.int 9))) (f2 vr (de 3) (fC (.int 1)))) ej))))))
def vh:a9->M A0:=nf 4 2 (Ce)
def um:df->M A4:=
 (kd (g7 [3] 5 (f2 vr (f2 tW (fL (hP) (b6 (de 0) (b6 (fC (.int 2)) ej))) (f2 vr (f2 Dt (de 4) (de 4)) (fC (.int 1)))) (f2 Dt (f2 Dt (fC (.int 17)) (de 4)) (f2 xq (f2 tW (de 1) (fC (.int 32))) (fC (.int 3))))))
  (kd (g7 [3] 6 (f2 xq (de 5) (fC (.int 50))))
  (wZ [3] 3 (fL rH (b6 (de 6) (b6 (f2 vr (f2 vr (de 6) (fC (.int 1))) (f2 xq (f2 tW (de 5) (fC (.int 50))) (fC (.int 9)))) ej))))))
def xR:df->M A4:=
 (kd (g7 [] 1 (fL (hP) (b6 (de 0) (b6 (fC (.int 1)) ej))))
  (kd (g7 [] 2 (f2 ixD (fL nA (b6 (f2 xq (de 1) (fC (.int 4))) (b6 (f2 xq (de 1) (fC (.int 4))) (b6 (fC (.int 20)) ej)))) (f2 tW (f2 xq (f2 tW (de 1) (fC (.int 4))) (fC (.int 8))) (fC (.int 3)))))
  (kd (g7 [] 3 (fL nA ej))
  (kd (we [3] (wg ye (b6 (de 2) ej)) (.nm 4) (um))
  (qI (de 3))))))
def se:a9->M A0:=nf 7 1 (xR)
def tL:df->M A4:=
 (kd (g7 [4] 6 (fL (hP) (b6 (de 0) (b6 (f2 vr (de 1) (f2 Dt (fC (.int 3)) (de 5))) ej))))
  (kd (g7 [4] 7 (fL (hP) (b6 (de 0) (b6 (f2 vr (f2 vr (de 1) (f2 Dt (fC (.int 3)) (de 5))) (fC (.int 1))) ej))))
  (kd (g7 [4] 8 (fL (hP) (b6 (de 0) (b6 (f2 vr (f2 vr (de 1) (f2 Dt (fC (.int 3)) (de 5))) (fC (.int 2))) ej))))
  (kd (g7 [4] 9 (f2 xq (f2 tW (de 6) (fC (.int 3))) (f2 ixD (fL nA (b6 (fC (.int 20)) (b6 (fC (.int 20)) (b6 (fC (.int 60)) (b6 (f2 Dt (fC (.int 9)) (f2 powD (fC (.int 10)) (fC (.int 8)))) ej))))) (f2 xq (f2 tW (de 6) (fC (.int 3))) (fC (.int 4))))))
  (kd (g7 [4] 10 (f2 vr (de 9) (f2 xq (f2 tW (de 7) (fC (.int 5))) (f2 ixD (fL nA (b6 (fC (.int 5)) (b6 (fC (.int 30)) (b6 (fC (.int 80)) (b6 (f2 powD (fC (.int 10)) (fC (.int 6))) (b6 (f2 powD (fC (.int 10)) (fC (.int 7))) ej)))))) (f2 xq (de 7) (fC (.int 5)))))))
  (kd (g7 [4] 11 (f2 ixD (fL nA (b6 (f2 xq (f2 tW (de 8) (fC (.int 2))) (fC (.int 40))) (b6 (f2 xq (f2 tW (de 8) (fC (.int 2))) (f2 vr (f2 powD (fC (.int 10)) (fC (.int 9))) (fC (.int 1)))) ej))) (f2 xq (de 8) (fC (.int 2)))))
  (kd (g7 [4] 12 (f2 ixD (fL nA (b6 (f2 xq (f2 tW (de 8) (fC (.int 80))) (fC (.int 5))) (b6 (f2 xq (f2 tW (de 8) (fC (.int 80))) (fC (.int 5))) (b6 (f2 xq (f2 tW (de 8) (fC (.int 80))) (f2 vr (f2 powD (fC (.int 10)) (fC (.int 9))) (fC (.int 1)))) ej)))) (f2 xq (f2 tW (de 8) (fC (.int 8))) (fC (.int 3)))))
  (wZ [4] 4 (fL rH (b6 (f2 xq (de 6) (de 2)) (b6 (de 9) (b6 (de 10) (b6 (de 11) (b6 (de 12) ej))))))))))))))
def xi:df->M A4:=
 (kd (g7 [] 4 (fL nA ej))
  (kd (we [4] (wg ye (b6 (de 3) ej)) (.nm 5) (tL))
  (qI (de 4))))
def rq:a9->M A0:=nf 13 4 (xi)
def B1:df->M A4:=
 (kd (g7 [4] 6 (qO (wg ye (b6 (de 0) ej)) [af,aa 5] (.nm 0) (fB (f2 IQ (de 0) (de 1))) (de 0)))
  (sExt [4] 4 (qO (fIt (de 6)) [af,aa 1,aa 3,aa 5] (.nm 0) (fB (uL leD leD (f1 IT (de 1)) (f2 Lq (de 0) (de 2)) (de 1))) (f2 vr (de 3) (fL nA (b6 (de 0) ej))))))
def B0:df->M A4:=
 (kd (g7 [] 4 (fL nA ej))
  (kd (we [4] (fIt (de 2)) (.nm 5) (B1))
  (g7 [] 2 (de 4))))
def DL:df->M A4:=
 (kd (g7 [] 2 (fL nA (b6 (fL nA ej) ej)))
  (kd (we [] (wg ye (b6 (de 0) ej)) (.nm 3) (B0))
  (qI (de 2))))
def tQ:a9->M A0:=nf 7 2 (DL)
def yJ:df->M A4:=
 (qI (fL rH (b6 (fC (.int 0)) (b6 (fL u6 (b6 (qO (fIt (de 0)) [af,aa 0] (.nm 0) x6 (fL u6 (b6 (f2 repD (fL nA (b6 (f1 IT (fC (.int 1))) ej)) (fL x5 (b6 (f2 ixD (de 1) (fC (.int 0))) ej))) ej))) ej)) ej))))
def uE:a9->M A0:=nf 1 1 (yJ)
def vN:df->M A4:=
 sIf (fB (f2 eqM (de 2) (fL nA ej)))
   (qI (de 1))
   ri
def tN:df->M Bool:=
 (yL (fC (.bl ag)))
def sE:df->M A4:=
 (kd (g7 [] 2 (qO (fIt (de 0)) [af,af,aa 1] (.tp [0,1]) (fB (uL leD ltD (de 0) (de 2) (de 1))) (de 1)))
  (kd (vN)
  (g7 [] 1 (fL maxD (b6 (de 2) ej)))))
def Ay(CR CP:av)(n:Nat):df->M A4:=
 (vU (tN) (sE) n)
def vB(CR CP:av)(n:Nat):a9->M A0:=nf 3 2 (Ay CR CP n)
def v8:df->M A4:=
 sIf (fB (f2 eqM (f2 ixD (de 1) (fC (.int 1))) (f2 ixD (de 2) (fC (.int 1)))))
   (qI (f2 ixD (f2 ixD (f2 ixD (de 0) (fC (.int 0))) (f2 ixD (de 1) (fC (.int 0)))) (f2 ixD (de 2) (fC (.int 0)))))
   ri
def wH:df->M A4:=
 (kd (v8)
  (qI (f2 ixD (f2 ixD (f2 ixD (de 0) (fC (.int 1))) (f2 ixD (de 1) (fC (.int 0)))) (f2 ixD (de 2) (fC (.int 0))))))
def ti:a9->M A0:=nf 3 3 (wH)
def uk:df->M A4:=
 sIf (fB (f2 neM (f2 ixD (f2 ixD (f2 ixD (de 3) (fC (.int 1))) (de 12)) (de 13)) (f1 IT (fC (.int 1)))))
   (g7 [] 11 (fL maxD (b6 (de 11) (b6 (f2 vr (f2 ixD (f2 ixD (f2 ixD (de 3) (fC (.int 1))) (de 12)) (de 13)) (fL (ti) (b6 (de 0) (b6 (fL rH (b6 (de 13) (b6 (de 12) ej))) (b6 (fL rH (b6 (de 6) (b6 (de 5) ej))) ej))))) ej))))
   ri
def qW:df->M A4:=
 (uk)
def sF:df->M A4:=
 (we [] (wg ye (b6 (fL x5 (b6 (f2 ixD (de 0) (fC (.int 0))) ej)) ej)) (.nm 13) (qW))
def uj:df->M A4:=
 sIf (fB (f2 gtD (de 11) (de 8)))
   (qI (fC .non))
   ri
def vG(CR CP:av)(n:Nat):df->M A4:=
 (kd (EN [] (.tp [6,7,8,9,10]) (f2 ixD (de 1) (de 4)))
  (kd (g7 [] 11 (de 7))
  (kd (we [] (wg ye (b6 (fL x5 (b6 (de 0) ej)) ej)) (.nm 12) (sF))
  (kd (g7 [] 11 (fL (vB CR CP n) (b6 (de 2) (b6 (de 11) ej))))
  (kd (uj)
  (kd (CZ 14 (qO (fIt (f2 ixD (de 3) (fC (.int 1)))) [af] (.nm 0) x6 (fL vC (b6 (de 0) ej))) (de 11) (de 5) (de 6))
  (qI (fL rH (b6 (f2 vr (f2 ixD (de 3) (fC (.int 0))) (f2 Dt (de 10) (fL maxD (b6 (fC (.int 0)) (b6 (f2 Lq (de 11) (de 9)) ej))))) (b6 (fL u6 (b6 (qO (fIt (de 14)) [af] (.nm 0) x6 (fL u6 (b6 (de 0) ej))) ej)) ej))))))))))
def r1(CR CP:av)(n:Nat):a9->M A0:=nf 15 6 (vG CR CP n)
def uO:df->M A0:=
 (fL rH ej)
def uN:df->M A0:=
 (fL (uE) (b6 (de 0) ej))
def uG:df->M a9:=
 (wg GB (b6 (fC (.int 1)) (b6 (f2 vr (fL x5 (b6 (de 1) ej)) (fC (.int 1))) ej)))
def rN:df->M a9:=
 (fIt (de 4))
def qA:df->M A0:=
 (fL rH (b6 (fL u6 (b6 (fL sZ (b6 (fSl ve (de 8) Dc (yT (de 6))) ej)) ej)) (b6 (f2 ixD (de 8) (f2 Lq (de 6) (fC (.int 1)))) ej)))
def qz:df->M A0:=
 (fL u6 (b6 (fL sZ (b6 (fSl ve (de 8) Dc (yT (f2 Lq (de 6) (fC (.int 1))))) ej)) ej))
def pe:df->M A0:=
 (f2 ixD (de 9) (fC (.int 0)))
def oq:df->M A0:=
 (de 10)
def lk:df->M a9:=
 (wg ye (b6 (fL x5 (b6 (de 0) ej)) ej))
def gy(CR CP:av)(n:Nat):df->M A0:=
 (fL (r1 CR CP n) (b6 (de 0) (b6 (de 1) (b6 (de 2) (b6 (de 12) (b6 (f2 ixD (de 9) (fC (.int 1))) (b6 (de 13) ej)))))))
def gi:df->M Bool:=
 (fAnd (fB (f2 Hj (de 14) (fC .non))) (fB (f2 IQ (de 14) (de 11))))
def Cf(CR CP:av)(n:Nat):df->M A4:=
 (kd (g7 [] 4 (fL (tQ) (b6 (fL x5 (b6 (de 1) ej)) (b6 (de 3) ej))))
  (EO 5 7 8 6 9 10 11 12 13 14 (uO) (uN) (uG) (rN) (qz) (qA) (pe) (oq) (lk) (gy CR CP n) (gi)))
def u1(CR CP:av)(n:Nat):a9->M A0:=nf 15 4 (Cf CR CP n)
def xP:df->M A4:=
 (qI (qO (fIt (de 0)) [af] (.nm 0) x6 (fL vC (b6 (de 0) ej))))
def tO:a9->M A0:=nf 1 1 (xP)
def Cu:df->M A4:=
 sIf (fOr (By (yL (f1 xK (de 0)))) (yL (f1 wz (de 0))))
   (qI (fC (.bl ae)))
   ri
def Jj:df->M A4:=
 (kd (Cu)
  (qI (uL leD leD (fC (.int 0)) (de 0) (fC (.int 1000000)))))
def wR:a9->M A0:=nf 1 1 (Jj)
def yG:df->M A4:=
 (qI (FO (f1 wy (de 0)) (FO (f2 eqM (fL x5 (b6 (de 0) ej)) (de 1)) (fL allD (b6 (qO (fIt (de 0)) [af] (.nm 0) x6 (fL (wR) (b6 (de 0) ej))) ej)))))
def rM:a9->M A0:=nf 2 2 (yG)
def w9:df->M A4:=
 sIf (By (fB (uL leD leD (fC (.int 1)) (de 1) (fC (.int 6)))))
   sStk
   ri
def w6:df->M A4:=
 sIf (By (yL (fL allD (b6 (qO (fIt (de 0)) [af,aa 1] (.nm 0) x6 (fL (rM) (b6 (de 0) (b6 (de 1) ej)))) ej))))
   sStk
   ri
def xh:df->M A4:=
 (kd (g7 [] 1 (fL x5 (b6 (de 0) ej)))
  (kd (w9)
  (kd (w6)
  (qI (fL (tO) (b6 (de 0) ej))))))
def ew:a9->M A0:=nf 2 1 (xh)
def uV(CR CP:av)(n:Nat):df->M A4:=
 sIf (fB (f2 eqM (fL x5 (b6 (de 0) ej)) (fC (.int 2))))
   (qI (fL (newP CP (ew)) (b6 (f2 ixD (de 0) (fC (.int 0))) (b6 (f2 ixD (de 0) (fC (.int 1))) ej))))
   ri
def wD(CR CP:av)(n:Nat):df->M A4:=
 (kd (uV CR CP n)
  (qI (fL (newR CR (ew)) (b6 (f2 ixD (de 0) (fC (.int 0))) ej))))
def qQ(CR CP:av)(n:Nat):a9->M A0:=nf 1 1 (wD CR CP n)
def BE(R:a9->M A0):df->M A4:=
 sIf (fB (f2 eqM (de 1) (fC (.int 0))))
   (qI (fL nA (b6 (fL rH ej) ej)))
   ri
def BG(R:a9->M A0):df->M A4:=
 (wZ [2] 2 (f2 vr (fL rH (b6 (de 4) ej)) (de 5)))
def BF(R:a9->M A0):df->M A4:=
 (we [2] (fIt (fL R (b6 (fSl ve (de 0) (yT (f2 vr (de 3) (fC (.int 1)))) Dc) (b6 (f2 Lq (de 1) (fC (.int 1))) ej)))) (.nm 5) (BG R))
def yH(R:a9->M A0):df->M A4:=
 (kd (BE R)
  (kd (g7 [] 2 (fL nA ej))
  (kd (we [2] (N0 (de 0)) (.tp [3,4]) (BF R))
  (qI (de 2)))))
def rR:Nat->df->M A4
 |0=>λ_=>stk|d+1=>yH (nf 6 2 (rR d))
def wt:a9->M A0:=nf 6 2 (rR 6)
def Ax:df->M A4:=
 (kd (g7 [] 3 (fTR (wg ye (b6 (fL maxD (b6 (fC (.int 0)) (b6 (f2 Lq (de 2) (de 1)) ej))) ej))))
  (kd (g7 [] 4 (fLR (wg GB (b6 (fL x5 (b6 (de 3) ej)) (b6 (fL minD (b6 (de 0) (b6 (f2 vr (de 2) (de 1)) ej))) ej)))))
  (qI (qO (fIt (fL (wt) (b6 (de 4) (b6 (f2 Lq (de 2) (fL x5 (b6 (de 3) ej))) ej)))) [af,aa 3] (.nm 0) x6 (f2 vr (de 1) (de 0))))))
def uc:a9->M A0:=nf 5 3 (Ax)
def vZ:df->M A4:=
 (qI (qO (yM (de 0)) [af,af,aa 0] (.tp [0,1]) x6 (fL rH (b6 (f2 vr (fSl ve (de 2) Dc (yT (de 0))) (fSl ve (de 2) (yT (f2 vr (de 0) (fC (.int 1)))) Dc)) (b6 (de 1) ej)))))
def qF:a9->M A0:=nf 1 1 (vZ)
def AY:df->M A4:=
 (K1 4 (de 5) (fL sumD (b6 (qO (fIt (fL (qF) (b6 (de 5) ej))) [af,af,aa 2] (.tp [0,1]) x6 (FN (de 2) (de 0) (fC (.int 0)))) ej)))
def AX:df->M A4:=
 (kd (g7 [] 4 (fC (.dic [])))
  (kd (we [4] (fIt (fL (uc) (b6 (de 0) (b6 (de 1) (b6 (de 3) ej))))) (.nm 5) (AY))
  (g7 [] 2 (de 4))))
def DK:df->M A4:=
 (kd (g7 [] 2 (f2 mkD1 (fL rH ej) (fC (.int 1))))
  (kd (we [] (wg GB (b6 (fC (.int 1)) (b6 (f2 vr (de 0) (fC (.int 1))) ej))) (.nm 3) (AX))
  (qI (f1 Lo (de 2)))))
def r0:a9->M A0:=nf 6 2 (DK)
def ud:df->M A4:=
 (qI (fC (.int 1)))
def js:a9->M A0:=nf 1 1 (ud)
def uJ:df->M A4:=
 (qI (fC (.int 2)))
def lp:a9->M A0:=nf 1 1 (uJ)
def t6(CR CP:av)(n:Nat):df->M A4:=
 (g7 [] 3 (f2 Dt (de 3) (tu CR CP "many_strips" (js) (lp) (de 0) ej)))
def yE(CR CP:av)(n:Nat):df->M A4:=
 (kd (g7 [] 3 (fL (r0) (b6 (de 1) (b6 (de 2) ej))))
  (kd (we [] (wg ye (b6 (de 1) ej)) (.nm 4) (t6 CR CP n))
  (qI (de 3))))
def uB(CR CP:av)(n:Nat):a9->M A0:=nf 5 3 (yE CR CP n)
def ug(CR CP:av)(n:Nat):df->M A4:=
 sIf (fB (f2 gtD (fL (uB CR CP n) (b6 (de 0) (b6 (fL x5 (b6 (de 1) ej)) (b6 (de 2) ej)))) (fC (.int 5000))))
   sStk
   ri
def vj(CR CP:av)(n:Nat):df->M A4:=
 (ug CR CP n)
def qZ(CR CP:av)(n:Nat):a9->M A0:=nf 3 3 (vj CR CP n)
def y4:df->M A4:=
 (sExt [2] 2 (fL (uc) (b6 (de 0) (b6 (de 1) (b6 (de 3) ej)))))
def yZ:df->M A4:=
 (kd (g7 [] 2 (fL nA ej))
  (kd (we [2] (wg ye (b6 (f2 vr (de 0) (fC (.int 1))) ej)) (.nm 3) (y4))
  (qI (de 2))))
def rD:a9->M A0:=nf 4 2 (yZ)
def sA:df->M A4:=
 sIf (fB (f2 gtD (f2 ixD (de 0) (fC (.int 0))) (f2 ixD (de 1) (fC (.int 0)))))
   (qI (fC (.bl ae)))
   ri
def uh:df->M A4:=
 sIf (fB (f2 gtD (de 4) (de 5)))
   (qI (fC (.bl ae)))
   ri
def sD:df->M A4:=
 (uh)
def sC:df->M A4:=
 (we [] (Bx (de 2) (de 3)) (.tp [4,5]) (sD))
def tU:df->M A4:=
 (kd (sA)
  (kd (we [] (Bx (f2 ixD (de 0) (fC (.int 1))) (f2 ixD (de 1) (fC (.int 1)))) (.tp [2,3]) (sC))
  (qI (fC (.bl ag)))))
def qC:a9->M A0:=nf 6 2 (tU)
def tK:df->M A4:=
 sIf (yL (fL (qC) (b6 (de 2) (b6 (de 1) ej))))
   (qI (fC (.bl ag)))
   ri
def lr:df->M A4:=
 (tK)
def uS:df->M A4:=
 (kd (we [] (fIt (de 0)) (.nm 2) (lr))
  (qI (fC (.bl ae))))
def rp:a9->M A0:=nf 3 2 (uS)
def ui:df->M A4:=
 sIf (By (yL (fL (rp) (b6 (de 1) (b6 (de 2) ej)))))
   (wZ [1] 1 (de 2))
   ri
def qt:df->M A4:=
 (ui)
def xQ:df->M A4:=
 (kd (g7 [] 1 (fL nA ej))
  (kd (we [1] (fIt (fL zH (b6 (de 0) ej))) (.nm 2) (qt))
  (qI (de 1))))
def tP:a9->M A0:=nf 3 1 (xQ)
def sj(CR CP:av)(n:Nat):df->M A4:=
 (qI (fL x5 (b6 (f1 (BH [CR,CP] "gaps") (de 0)) ej)))
def hH(CR CP:av)(n:Nat):a9->M A0:=nf 1 1 (sj CR CP n)
def vE(CR CP:av)(n:Nat):df->M A4:=
 (kd (g7 [] 1 (fL u6 (b6 (qO (wg ye (b6 (tu CR CP "many_kinds" (hH CR CP n) (hH CR CP n) (de 0) ej) ej)) [af] (.nm 0) x6 (f1 IT (fC (.int 1)))) ej)))
  (qI (fL rH (b6 (fC (.int 0)) (b6 (fL u6 (b6 (qO (wg ye (b6 (tu CR CP "many_strips" (js) (lp) (de 0) ej) ej)) [af,aa 1] (.nm 0) x6 (de 1)) ej)) ej)))))
def vA(CR CP:av)(n:Nat):a9->M A0:=nf 2 1 (vE CR CP n)
def rm:df->M A4:=
 sIf (fAnd (yL (de 1)) (fB (f2 leD (de 2) (f2 ixD (f2 ixD (de 1) (f1 IT (fC (.int 1)))) (fC (.int 1))))))
   (GW 1 (f1 IT (fC (.int 1))) (fL rH (b6 (f2 ixD (f2 ixD (de 1) (f1 IT (fC (.int 1)))) (fC (.int 0))) (b6 (fL maxD (b6 (de 3) (b6 (f2 ixD (f2 ixD (de 1) (f1 IT (fC (.int 1)))) (fC (.int 1))) ej))) ej))))
   (wZ [1] 1 (fL rH (b6 (de 2) (b6 (de 3) ej))))
def qp:df->M A4:=
 (rm)
def uH:df->M A4:=
 (kd (g7 [] 1 (fL nA ej))
  (kd (we [1] (fIt (fL sZ (b6 (de 0) ej))) (.tp [2,3]) (qp))
  (qI (de 1))))
def qJ:a9->M A0:=nf 4 1 (uH)
def xY:df->M A4:=
 sIf (fB (uL leD ltD (de 2) (de 1) (de 3)))
   (qI (de 3))
   ri
def vR:df->M A4:=
 (xY)
def xt:df->M A4:=
 (kd (we [] (fIt (fL (qJ) (b6 (de 0) ej))) (.tp [2,3]) (vR))
  (qI (de 1)))
def sQ:a9->M A0:=nf 4 2 (xt)
def yF:df->M A4:=
 (kd (CZ 3 (qO (fIt (de 0)) [af] (.nm 0) x6 (fL vC (b6 (de 0) ej))) (de 2) (f2 ixD (de 1) (fC (.int 1))) (f2 ixD (de 1) (fC (.int 0))))
  (qI (fL u6 (b6 (qO (fIt (de 3)) [af] (.nm 0) x6 (fL u6 (b6 (de 0) ej))) ej))))
def uC:a9->M A0:=nf 4 3 (yF)
def Aw:df->M A4:=
 (kd (g7 [] 2 (f2 ixD (de 0) (fC (.int 3))))
  (kd (g7 [] 3 (f2 ixD (de 0) (fC (.int 4))))
  (qI (f2 Dt (de 3) (fL maxD (b6 (fC (.int 0)) (b6 (f2 Lq (de 1) (de 2)) ej)))))))
def vz:a9->M A0:=nf 4 2 (Aw)
def xS(CR CP:av)(n:Nat):df->M A4:=
 (qI (f2 ixD (f2 ixD (f1 (BH [CR,CP] "gaps") (de 0)) (f2 ixD (de 1) (fC (.int 0)))) (f2 ixD (de 2) (fC (.int 0)))))
def tR(CR CP:av)(n:Nat):a9->M A0:=nf 3 3 (xS CR CP n)
def wI(CR CP:av)(n:Nat):df->M A4:=
 (kd (g7 [] 3 (fIte (fB (f2 eqM (f2 ixD (de 1) (fC (.int 1))) (f2 ixD (de 2) (fC (.int 1))))) (f1 (BH [CR,CP] "gaps") (de 0)) (f1 (BH [CP] "beside") (de 0))))
  (qI (f2 ixD (f2 ixD (de 3) (f2 ixD (de 1) (fC (.int 0)))) (f2 ixD (de 2) (fC (.int 0))))))
def tj(CR CP:av)(n:Nat):a9->M A0:=nf 4 3 (wI CR CP n)
def sv(CR CP:av)(n:Nat):df->M A4:=
 sIf (fB (f2 neM (de 7) (f1 IT (fC (.int 1)))))
   (wZ [3] 3 (f2 vr (de 7) (tu CR CP "apart" (tR CR CP n) (tj CR CP n) (de 0) (b6 (fL rH (b6 (de 6) (b6 (de 4) ej))) (b6 (de 2) ej)))))
   ri
def qN(CR CP:av)(n:Nat):df->M A4:=
 (sv CR CP n)
def qL(CR CP:av)(n:Nat):df->M A4:=
 (we [3] (yM (de 5)) (.tp [6,7]) (qN CR CP n))
def w4(CR CP:av)(n:Nat):df->M A4:=
 (kd (g7 [] 3 (fL nA ej))
  (kd (we [3] (yM (de 1)) (.tp [4,5]) (qL CR CP n))
  (qI (de 3))))
def rC(CR CP:av)(n:Nat):a9->M A0:=nf 8 3 (w4 CR CP n)
def tJ:df->M A4:=
 sIf (fB (f2 gtD (de 8) (f2 ixD (de 6) (fC (.int 2)))))
   (qI (fC .non))
   ri
def uR(CR CP:av)(n:Nat):df->M A4:=
 (kd (g7 [] 6 (f2 ixD (de 1) (de 4)))
  (kd (g7 [] 7 (fL rH (b6 (f2 ixD (de 6) (fC (.int 0))) (b6 (de 5) ej))))
  (kd (g7 [] 8 (fL (sQ) (b6 (de 2) (b6 (fL maxD (b6 (f2 vr (fL nA (b6 (f2 ixD (de 6) (fC (.int 1))) ej)) (fL (rC CR CP n) (b6 (de 0) (b6 (f2 ixD (de 3) (fC (.int 1))) (b6 (de 7) ej))))) ej)) ej))))
  (kd (tJ)
  (qI (fL rH (b6 (f2 vr (f2 ixD (de 3) (fC (.int 0))) (fL (vz) (b6 (de 6) (b6 (de 8) ej)))) (b6 (fL (uC) (b6 (f2 ixD (de 3) (fC (.int 1))) (b6 (de 7) (b6 (de 8) ej)))) ej))))))))
def qG(CR CP:av)(n:Nat):a9->M A0:=nf 9 6 (uR CR CP n)
def sV:df->M A4:=
 sIf (fB (f2 Hj (de 10) (fC .non)))
   (zP 5 (de 10) (fC (.bl ag)))
   ri
def qr(CR CP:av)(n:Nat):df->M A4:=
 (kd (g7 [5] 10 (fL (qG CR CP n) (b6 (de 0) (b6 (de 1) (b6 (de 2) (b6 (de 8) (b6 (de 7) (b6 (de 9) ej))))))))
  (sV))
def rg(CR CP:av)(n:Nat):df->M A4:=
 (we [5] (wg ye (b6 (tu CR CP "many_strips" (js) (lp) (de 0) ej) ej)) (.nm 9) (qr CR CP n))
def rf(CR CP:av)(n:Nat):df->M A4:=
 (we [5] (fIt (FN (de 3) (de 6) (fL nA ej))) (.nm 8) (rg CR CP n))
def wC(CR CP:av)(n:Nat):df->M A4:=
 (kd (g7 [] 5 (fC (.dil [])))
  (kd (we [5] (fIt (fL (qF) (b6 (de 4) ej))) (.tp [6,7]) (rf CR CP n))
  (qI (de 5))))
def rZ(CR CP:av)(n:Nat):a9->M A0:=nf 11 5 (wC CR CP n)
def uM(CR CP:av)(n:Nat):df->M A0:=
 (fL (qZ CR CP n) (b6 (de 0) (b6 (de 1) (b6 (de 3) ej))))
def uF:df->M a9:=
 (fIt (fL (rD) (b6 (fL x5 (b6 (de 1) ej)) (b6 (de 3) ej))))
def qv:df->M Bool:=
 (fB (f2 eqM (de 5) (fL rH ej)))
def tw:df->M A0:=
 (de 5)
def rP(CR CP:av)(n:Nat):df->M A0:=
 (fL (vA CR CP n) (b6 (de 0) ej))
def rO(CR CP:av)(n:Nat):df->M A0:=
 (fL (tP) (b6 (fL (rZ CR CP n) (b6 (de 0) (b6 (de 1) (b6 (de 2) (b6 (de 4) (b6 (de 5) ej)))))) ej))
def qX(CR CP:av)(n:Nat):a9->M (List (a8×A0)):=
 runP 6 (papD 4 5 (uM CR CP n) (uF) (qv) (tw) (rP CR CP n) (rO CR CP n))
def FA:df->M A4:=
 (qI (FO (f1 xK (de 0)) (f1 notD (f1 wz (de 0)))))
def qw:a9->M A0:=nf 1 1 (FA)
def vq:df->M A4:=
 sIf (fOr (By (yL (f1 sS (de 0)))) (fOr (fB (f2 neM (fL x5 (b6 (de 0) ej)) (fC (.int 2)))) (fOr (By (yL (fL (qw) (b6 (f2 ixD (de 0) (fC (.int 0))) ej)))) (By (yL (f1 sS (f2 ixD (de 0) (fC (.int 1)))))))))
   (qI (fC (.bl ae)))
   ri
def vp:df->M A4:=
 sIf (fB (f2 neM (fL x5 (b6 (f2 ixD (de 0) (fC (.int 1))) ej)) (fL x5 (b6 (de 1) ej))))
   (qI (fC (.bl ae)))
   ri
def vo:df->M A4:=
 sIf (fOr (By (yL (f1 sS (de 2)))) (fOr (fB (f2 neM (fL x5 (b6 (de 2) ej)) (fL x5 (b6 (f2 ixD (de 1) (fC (.int 0))) ej)))) (By (yL (fL allD (b6 (qO (fIt (de 2)) [af] (.nm 0) x6 (fL (qw) (b6 (de 0) ej))) ej))))))
   (qI (fC (.bl ae)))
   ri
def sX:df->M A4:=
 (vo)
def wF:df->M A4:=
 (kd (vq)
  (kd (vp)
  (kd (we [] (fIt (f2 ixD (de 0) (fC (.int 1)))) (.nm 2) (sX))
  (qI (fC (.bl ag))))))
def qS:a9->M A0:=nf 3 2 (wF)
def uZ:df->M A4:=
 sIf (fOr (By (yL (f1 xN (de 0)))) (fB (f2 neKA (de 0) (de 1))))
   (qI (fC (.bl ae)))
   ri
def uY:df->M A4:=
 sIf (fOr (By (yL (f1 sS (de 3)))) (By (yL (f1 wy (de 4)))))
   (qI (fC (.bl ae)))
   ri
def uX:df->M A4:=
 sIf (By (yL (fL allD (b6 (qO (fIt (de 3)) [af] (.nm 0) x6 (fL (qw) (b6 (de 0) ej))) ej))))
   (qI (fC (.bl ae)))
   ri
def uW:df->M A4:=
 sIf (By (yL (fL allD (b6 (qO (fIt (de 4)) [af,aa 2] (.nm 0) x6 (fL (qS) (b6 (de 0) (b6 (de 1) ej)))) ej))))
   (qI (fC (.bl ae)))
   ri
def rB:df->M A4:=
 (kd (uY)
  (kd (uX)
  (uW)))
def uI:df->M A4:=
 (kd (uZ)
  (kd (we [] (vK (de 0)) (.tp [3,4]) (rB))
  (qI (fC (.bl ag)))))
def qR:a9->M A0:=nf 5 3 (uI)
def rb:df->M A4:=
 sIf (fB (f2 gtD (f2 ixD (de 0) (fC (.int 0))) (f2 ixD (de 1) (fC (.int 0)))))
   (qI (fC (.bl ae)))
   ri
def sW:df->M A4:=
 sIf (fB (f2 neM (qO (wg ye (b6 (fL x5 (b6 (de 2) ej)) ej)) [af,aa 2,aa 3] (.nm 0) (fB (f2 gtD (f2 ixD (de 1) (de 0)) (f2 ixD (de 2) (de 0)))) (de 0)) (fL nA ej)))
   (qI (fC (.bl ae)))
   ri
def qu:df->M A4:=
 (sW)
def si:df->M A4:=
 (kd (rb)
  (kd (we [] (Bx (f2 ixD (de 0) (fC (.int 1))) (f2 ixD (de 1) (fC (.int 1)))) (.tp [2,3]) (qu))
  (qI (fC (.bl ag)))))
def lb:a9->M A0:=nf 4 2 (si)
def v7:df->M A4:=
 sIf (fB (f2 eqM (qO (fIt (de 0)) [af,aa 2] (.nm 0) (fAnd (fB (f2 neM (de 0) (de 1))) (yL (fL (lb) (b6 (de 0) (b6 (de 1) ej))))) (de 0)) (fL nA ej)))
   (wZ [1] 1 (de 2))
   ri
def qH:df->M A4:=
 (v7)
def yI:df->M A4:=
 (kd (g7 [] 1 (fL nA ej))
  (kd (we [1] (fIt (de 0)) (.nm 2) (qH))
  (qI (fL zH (b6 (de 1) ej)))))
def uD:a9->M A0:=nf 3 1 (yI)
def AZ:df->M A4:=
 (yB 7 (de 8) (fL (uD) (b6 (f2 ixKD (de 6) (de 8)) ej)))
def Ed:df->M a9:=
 (b6 (de 9) (b6 (f2 ixD (de 10) (fC (.int 0))) (b6 (f2 ixD (de 10) (fC (.int 1))) (b6 (de 2) ej))))
def CD:df->M Bool:=
 (fOr (By (yL (fL (qR) (b6 (de 11) (b6 (de 7) (b6 (de 1) ej)))))) (fB (f2 neM (de 10) (fL nA (b6 (de 5) (b6 (de 4) ej))))))
def DH:df->M a9:=
 (xj (de 7))
def AB:df->M A0:=
 (de 8)
def g_law(CR CP:av)(n:Nat):df->M A4:=
 (kd (g7 [] 1 (fL (sR) (b6 (de 0) ej)))
  (kd (EN [] (.tp [2,3]) (fL (vh) (b6 (de 0) (b6 (de 1) ej))))
  (kd (g7 [] 4 (fL (se) (b6 (de 0) ej)))
  (kd (g7 [] 5 (fL (rq) (b6 (de 0) (b6 (fC (.int 21)) (b6 (fL x5 (b6 (f2 ixD (de 1) (fC (.int 0))) ej)) (b6 (de 3) ej))))))
  (kd (g7 [] 6 (fL (u1 CR CP n) (b6 (de 1) (b6 (de 5) (b6 (de 4) (b6 (de 2) ej))))))
  (kd (g7 [] 7 (fC (.dic [])))
  (kd (we [7] (xj (de 6)) (.nm 8) (AZ))
  (kd (g7 [] 9 (fL (qQ CR CP n) (b6 (de 1) ej)))
  (kd (g7 [] 10 (fL nA (b6 (fL vC (b6 (de 5) ej)) (b6 (fL vC (b6 (de 4) ej)) ej))))
  (zO 11 8 4 (qX CR CP n) (Ed) (CD) (DH) (AB)
  (qI (fL (qR) (b6 (fCP (qX CR CP n) 4 (b6 (de 9) (b6 (f2 ixD (de 10) (fC (.int 0))) (b6 (f2 ixD (de 10) (fC (.int 1))) (b6 (de 2) ej))))) (b6 (de 7) (b6 (de 1) ej)))))))))))))))
def m_law(CR CP:av)(n:Nat):a9->M A0:=nf 12 1 (g_law CR CP n)
noncomputable def top(i:Nat):bY:=pJ.main.body.getD i (.Pass ⟨0,0,0,0⟩)
abbrev GV:bY:=top 40
abbrev zN:bY:=top 43
abbrev GU:bY:=top 44
abbrev JZ:bY:=top 56
abbrev CV:bY:=top 47
abbrev Bi:bY:=top 46
abbrev CU:bY:=top 52
abbrev EK:bY:=top 51
abbrev GS:bY:=top 49
abbrev EL:bY:=top 48
abbrev CW:bY:=top 50
abbrev K0:bY:=top 54
abbrev CS:bY:=top 35
abbrev s_is_gap:bY:=top 33
abbrev EF:bY:=top 34
abbrev uQ:bY:=top 36
abbrev EH:bY:=top 45
abbrev t9:bY:=top 17
abbrev zK:bY:=top 18
abbrev yP:bY:=top 19
abbrev CN:bY:=top 20
abbrev xk:bY:=inClass (top 37) 2
abbrev xA:bY:=inClass (top 38) 1
abbrev ED:bY:=top 23
abbrev yd:bY:=top 24
abbrev yR:bY:=top 25
abbrev CO:bY:=top 15
abbrev Bh:bY:=top 27
abbrev CT:bY:=top 28
abbrev uA:bY:=inClass (top 37) 1
abbrev CQ:bY:=top 11
abbrev xy:bY:=top 8
abbrev GQ:bY:=top 9
abbrev EE:bY:=top 13
abbrev GR:bY:=top 6
abbrev CY:bY:=inClass (top 37) 3
abbrev EM:bY:=inClass (top 38) 2
abbrev yQ:bY:=top 12
abbrev Bg:bY:=top 14
abbrev zJ:bY:=top 26
abbrev JY:bY:=top 29
abbrev EG:bY:=top 41
abbrev zM:bY:=top 42
abbrev EI:bY:=top 57
abbrev zL:bY:=top 53
abbrev EJ:bY:=top 55
abbrev s_law:bY:=top 58
abbrev s_nR:bY:=inClass (top 37) 0
abbrev s_nP:bY:=inClass (top 38) 0
structure Zs(K:Fg)(mg:br->Option aj)(CR CP:av):Prop where
 kR:Kls K mg "Rules" CR
 kP:Kls K mg "Pair" CP
 vJ:∀C∈[CR,CP],Cls K C/\wc K C "gaps"
 Cj:∀C∈[CP],Cls K C/\wc K C "beside"
 L2:mg "all"=af
 z_bool:mg "bool"=af
 z_dict:mg "dict"=af
 vu:mg "enumerate"=af
 z_int:mg "int"=af
 la:mg "isinstance"=af
 t7:mg "len"=af
 yy:mg "list"=af
 GF:mg "max"=af
 z_min:mg "min"=af
 qB:mg "range"=af
 xw:mg "sorted"=af
 z_sum:mg "sum"=af
 rG:mg "tuple"=af
 z_zip:mg "zip"=af
 Bw:∃t,mg "GREATEST_GAP"=aa (.int 1000000 t)
 FD:∃t,mg "MOST_KINDS"=aa (.int 6 t)
 FC:∃t,mg "MOST_PLANS"=aa (.int 5000 t)
 kit:Kit K
 KA:∃f fd,Def K mg "paper_of" JY ["rules","flights","closed","shift"] f fd
 HL:∃f fd,Def K mg "_law_cell" GV ["_law_script","_law_k"] f fd
 AO:∃f fd,Def K mg "_law_gap_rows" zN ["_law_script","_law_start","_law_kinds"] f fd
 HK:∃f fd,Def K mg "_law_gaps" GU ["_law_script"] f fd
 KC:∃f fd,Def K mg "_law_few" JZ ["_law_script","_law_gaps_here"] f fd
 E3:∃f fd,Def K mg "_law_closed" CV ["_law_script"] f fd
 BC:∃f fd,Def K mg "_law_flights" Bi ["_law_script","_law_start","_law_kinds","_law_many"] f fd
 E2:∃f fd,Def K mg "_law_orders" CU ["_law_many","_law_shift"] f fd
 Gd:∃f fd,Def K mg "_law_first" EK ["_law_gaps_here"] f fd
 HJ:∃f fd,Def K mg "_law_open" GS ["_law_closed_here","_law_time"] f fd
 Ge:∃f fd,Def K mg "_law_apart" EL ["_law_gaps_here","_law_one","_law_other"] f fd
 E4:∃f fd,Def K mg "_law_behind" CW ["_law_gaps_here","_law_flights_here","_law_closed_here","_law_label","_law_flight","_law_strip"] f fd
 KD:∃f fd,Def K mg "_law_all" K0 ["_law_gaps_here","_law_flights_here","_law_closed_here","_law_shift"] f fd
 DY:∃f fd,Def K mg "copied_rows" CS ["rows"] f fd
 d_is_gap:∃f fd,Def K mg "is_gap" s_is_gap ["number"] f fd
 G7:∃f fd,Def K mg "is_gap_row" EF ["row","kinds"] f fd
 BB:∃f fd,Def K mg "checked_rows" uQ ["rows"] f fd
 G9:∃f fd,Def K mg "_law_rules" EH ["_law_gaps_here"] f fd
 rR:∃f fd,Def K mg "choices_of" t9 ["pool","size"] f fd
 AL:∃f fd,Def K mg "beginnings_of" zK ["many","shift","size"] f fd
 z4:∃f fd,Def K mg "smaller_by_one" yP ["some"] f fd
 DU:∃f fd,Def K mg "many_orders" CN ["many","shift"] f fd
 G5:∃f fd,Def K mg "many_plans" ED ["rules","many","shift"] f fd
 yr:∃f fd,Def K mg "refuse_too_many" yd ["rules","flights","shift"] f fd
 z6:∃f fd,Def K mg "all_beginnings" yR ["many","shift"] f fd
 DV:∃f fd,Def K mg "is_no_worse" CO ["one","other"] f fd
 BA:∃f fd,Def K mg "has_no_worse" Bh ["labels","label"] f fd
 DZ:∃f fd,Def K mg "best_labels" CT ["labels"] f fd
 DX:∃f fd,Def K mg "first_label" CQ ["rules"] f fd
 xW:∃f fd,Def K mg "joined_stretches" xy ["closed"] f fd
 HH:∃f fd,Def K mg "next_open" GQ ["closed","time"] f fd
 G6:∃f fd,Def K mg "lasts_with" EE ["lasts","spot","time"] f fd
 HI:∃f fd,Def K mg "late_cost" GR ["flight","time"] f fd
 z5:∃f fd,Def K mg "last_gap_times" yQ ["rules","lasts","spot"] f fd
 Bz:∃f fd,Def K mg "label_behind" Bg ["rules","flights","closed","label","flight","strip"] f fd
 AK:∃f fd,Def K mg "labels_behind" zJ ["rules","flights","closed","paper","some"] f fd
 G8:∃f fd,Def K mg "_law_whole" EG ["_law_found"] f fd
 AN:∃f fd,Def K mg "_law_is_label" zM ["_law_found","_law_gaps_here"] f fd
 Ga:∃f fd,Def K mg "_law_right" EI ["_law_found","_law_due","_law_gaps_here"] f fd
 AM:∃f fd,Def K mg "_law_no_worse" zL ["_law_one","_law_other"] f fd
 Gb:∃f fd,Def K mg "_law_least" EJ ["_law_labels"] f fd
 d_law:∃f fd,Def K mg "law" s_law ["_law_script"] f fd/\∀(s:ao) (v:aj),kv s fd ⟨[v],[]⟩ [("_law_script",v)]
 m_M_R_many_strips:∃f fd,Mth K CR "many_strips" "Rules.many_strips" xk ["self"] f fd
 m_M_P_many_strips:∃f fd,Mth K CP "many_strips" "Pair.many_strips" xA ["self"] f fd
 m_M_R_many_kinds:∃f fd,Mth K CR "many_kinds" "Rules.many_kinds" uA ["self"] f fd
 m_M_P_many_kinds:∃f fd,Mth K CP "many_kinds" "Rules.many_kinds" uA ["self"] f fd
 m_M_R_apart:∃f fd,Mth K CR "apart" "Rules.apart" CY ["self","one","other"] f fd
 m_M_P_apart:∃f fd,Mth K CP "apart" "Pair.apart" EM ["self","one","other"] f fd
 n_R:∃f fd,Mth K CR "__init__" "Rules.__init__" s_nR ["self","gaps"] f fd/\Stat K CR (.type "type") "__init__" f
 n_P:∃f fd,Mth K CP "__init__" "Pair.__init__" s_nP ["self","gaps","beside"] f fd
 ne:CR≠CP
noncomputable abbrev Zq(_:Nat)(_:bL)(_:c8)(_:bF):=Zs
theorem law_d{K:Fg}{x:br}{st:bY}{ps:List br}{q:dX->Prop}(h:∃f fd,Def K mg x st ps f fd/\q fd):∃f fd,Def K mg x st ps f fd:=a0
def putGB(a b:V):GC ("beside":br) b [(("gaps":br),a)]=[(("gaps":br),a),(("beside":br),b)]:=by rfl
section
variable{P:bL}{base:bF}{K:Fg}{CR:av}(Z:Zq n P w base K mg CR CP)
include Z
def ml:YO Z.HL P w base 1 ae (hP):=
 fY ["_law_script","_law_k"] λz S I=>(dt (rz (n3 o_lt (dr 1) (er tI Z.t7 aY (da1 (dr 0)))) (du (et (eE q9 (dr 0) (dr 1)))) n4) (dt (rz (n3 (o_eq I.units) (dr 0) (eh (k8 pT))) (du (et cc)) n4) (du (et (eh (en qY (en xp (eE q9 (dr 0) (en sG (dr 1) (er tI Z.t7 aY (da1 (dr 0))))) cc) (en xp (en xp (dr 1) (dr 1)) cc)))))))
def vW:YO Z.AO P w base 2 ae (qT):=
 fY ["_law_script","_law_start","_law_kinds","_law_rows","_law_k","_law_row","_law_j","_law_cell_here"] λz I S=>(dt (yq I (k8 pT)) (dt (nB (rJ Z.qB (da1 (dr 2))) (vm I) (dt (yq I (k8 pT)) (qK (dt (nB (rJ Z.qB (da1 (dr 2))) (vm I) (dt (pw I (dY (ml Z) S (da2 (dr 0) (eh (en qY (eh (en qY (dr 1) (en xp (dr 2) (dr 4)))) (dr 6)))))) (du (vL (eE q9 (eh (k8 (da4 cc (en sG (en rn (dr 7) cc) cc) (en sG (en rn (dr 7) cc) cc) (en sG (en rn (dr 7) cc) (eE q9 (eh (k8 (da2 cc (eh (en qY (en Kf cc cc) cc))))) (en sG (en rn (dr 7) cc) cc)))))) (en sG (dr 7) cc)))))) (qK (du (vL (dr 5)))))))) (qK (O2:=[]) (du (et (dr 3))))))
def Fh:YO Z.HK P w base 3 ae (sR):=
 fY ["_law_script","_law_kinds","_law_gaps_here"] λz S I=>(dt (pw S (eh (en qY cc (en sG (dY (ml Z) I (da2 (dr 0) cc)) cc)))) (dt (pw S (dY (vW Z) I (da3 (dr 0) cc (dr 1)))) (dt (rz (n3 (o_eq I.units) (en sG (en rn (dY (ml Z) I (da2 (dr 0) cc)) cc) cc) cc) (du (et (eh (k8 (da2 (dr 2) (dY (vW Z) I (da3 (dr 0) (eh (en qY cc (en xp (dr 1) (dr 1)))) (dr 1)))))))) n4) (du (et (eh (k8 (da1 (dr 2)))))))))
def He:YO Z.KC P w base 2 ae (vh):=
 fY ["_law_script","_law_gaps_here","_law_shift","_law_most"] λz I S=>(dt (pw I (en sG (en rn (dY (ml Z) S (da2 (dr 0) cc)) cc) cc)) (dt (pw I (eE q9 (eE q9 (eh (k8 (da2 (eh (k8 (da4 cc cc cc cc))) (eh (k8 (da4 cc cc cc cc)))))) (en Dn (er tI Z.t7 aY (da1 (dr 1))) cc)) (dr 2))) (du (et (rQ (da2 (dr 2) (en sG (en rn (dY (ml Z) S (da2 (dr 0) cc)) cc) (eh (en qY (dr 3) cc)))))))))
def Bs:YO Z.E3 P w base 2 ae (se):=
 fY ["_law_script","_law_cell_here","_law_many","_law_closed_here","_law_k","_law_there","_law_start"] λz I S=>(dt (pw I (dY (ml Z) S (da2 (dr 0) cc))) (dt (pw I (eE q9 (eh (k8 (da3 (en sG (dr 1) cc) (en sG (dr 1) cc) cc))) (en rn (en sG (en rn (dr 1) cc) cc) cc))) (dt (yq I (k8 pT)) (dt (nB (rJ Z.qB (da1 (dr 2))) (vm I) (dt (pw I (eh (en qY (en rn (dY (ml Z) S (da2 (dr 0) cc)) (eh (en qY (en xp (dr 4) (dr 4)) cc))) (en xp (en xp cc (dr 4)) (en sG (en rn (dr 1) cc) cc))))) (dt (pw I (en sG (dr 5) cc)) (du (vL (rQ (da2 (dr 6) (eh (en qY (eh (en qY (dr 6) cc)) (en sG (en rn (dr 5) cc) cc)))))))))) (qK (O2:=[]) (du (et (dr 3))))))))
def Ae:YO Z.BC P w base 2 ae (rq):=
 fY ["_law_script","_law_start","_law_kinds","_law_many","_law_flights_here","_law_k","_law_cell_here","_law_wide","_law_worth","_law_first_here","_law_last","_law_due","_law_price"] λz I S=>(dt (yq I (k8 pT)) (dt (nB (rJ Z.qB (da1 (dr 3))) (vm I) (dt (pw I (dY (ml Z) S (da2 (dr 0) (eh (en qY (dr 1) (en xp cc (dr 5))))))) (dt (pw I (dY (ml Z) S (da2 (dr 0) (eh (en qY (eh (en qY (dr 1) (en xp cc (dr 5)))) cc))))) (dt (pw I (dY (ml Z) S (da2 (dr 0) (eh (en qY (eh (en qY (dr 1) (en xp cc (dr 5)))) cc))))) (dt (pw I (en sG (en rn (dr 6) cc) (eE q9 (eh (k8 (da4 cc cc cc (en xp cc (en Kf cc cc))))) (en sG (en rn (dr 6) cc) cc)))) (dt (pw I (eh (en qY (dr 9) (en sG (en rn (dr 7) cc) (eE q9 (eh (k8 (da5 cc cc cc (en Kf cc cc) (en Kf cc cc)))) (en sG (dr 7) cc)))))) (dt (pw I (eE q9 (eh (k8 (da2 (en sG (en rn (dr 8) cc) cc) (en sG (en rn (dr 8) cc) (eh (en qY (en Kf cc cc) cc)))))) (en sG (dr 8) cc))) (dt (pw I (eE q9 (eh (k8 (da3 (en sG (en rn (dr 8) cc) cc) (en sG (en rn (dr 8) cc) cc) (en sG (en rn (dr 8) cc) (eh (en qY (en Kf cc cc) cc)))))) (en sG (en rn (dr 8) cc) cc))) (du (vL (rQ (da5 (en sG (dr 6) (dr 2)) (dr 9) (dr 10) (dr 11) (dr 12))))))))))))) (qK (O2:=[]) (du (et (dr 4))))))
def Br:YO Z.E2 P w base 1 ae (tQ):=
 fY ["_law_many","_law_shift","_law_orders_here","_law_place","_law_longer","_law_order","_law_left"] λz I S=>(dt (pw I (eh (k8 (da1 (eh (k8 pT)))))) (dt (nB (rJ Z.qB (da1 (dr 0))) (vm I) (dt (yq I (k8 pT)) (dt (nB (px (dr 2)) (vm I) (dt (Jq ae ["_law_flight","_law_order"] [af,aa 5] I (rJ Z.qB (da1 (dr 0))) (λ_ _ _ _ _=>sJ dkK) (gf rfl) (λ_ _ _ _ _=>zV (n3 (Mh S.units) (dr 0) (dr 1))) (λ_ _ _ _ _=>(dr 0))) (du (ds_ext (qV ["_law_flight","_law_shift","_law_place","_law_order"] [af,aa 1,aa 3,aa 5] (px (dr 6)) (λ_ _ _ _ _=>sJ dkK) (gf rfl) (λ_ _ _ _ _=>zV (zo o_le o_le (DR Dp (dr 1)) (en Dn (dr 0) (dr 2)) (dr 1))) (λ_ _ _ _ _=>(eh (en qY (dr 3) (eh (k8 (da1 (dr 0)))))))))))) (qK (du (pw I (dr 4))))))) (du (et (dr 2)))))
def Dk:YO Z.Gd P w base 1 ae (uE):=
 fY ["_law_gaps_here"] λz I S=>(du (et (rQ (da2 cc (n7 uU Z.rG bE (da1 (eh (qV ["_law_rows","_law_gaps_here"] [af,aa 0] (px (dr 0)) (λ_ _ _ _ _=>sJ dkK) (gf rfl) (λ_ _ _ _ _=>rl) (λ_ _ _ _ _=>(n7 uU Z.rG bE (da1 (eh (de_rep (k8 (da1 (DR Dp cc))) (er tI Z.t7 aY (da1 (eE q9 (dr 1) cc))))))))))))))))
def Ff:YO Z.HJ P w base 1 ae (vB CR CP n):=
 fY ["_law_closed_here","_law_time","_law_stops"] λz I S=>(du (ds_while (su vn) (dt (Jq ae ["_law_start","_law_stop","_law_time"] [af,af,aa 1] I (px (dr 0)) (λ_ _ _ _ _=>x9 rfl (vl dkK (vl dkK rK))) (An am) (λ_ _ _ _ _=>zV (zo o_le o_lt (dr 0) (dr 2) (dr 1))) (λ_ _ _ _ _=>(dr 1))) (dt (rz (n3 (o_eq S.units) (dr 2) (eh (k8 pT))) (du (et (dr 1))) n4) (du (pw I (er (HN rfl) Z.GF km (da1 (dr 2)))))))))
def Dl:YO Z.Ge P w base 1 ae (ti):=
 fY ["_law_gaps_here","_law_one","_law_other"] λz S I=>(dt (rz (n3 (o_eq I.units) (eE q9 (dr 1) cc) (eE q9 (dr 2) cc)) (du (et (eE q9 (eE q9 (eE q9 (dr 0) cc) (eE q9 (dr 1) cc)) (eE q9 (dr 2) cc)))) n4) (du (et (eE q9 (eE q9 (eE q9 (dr 0) cc) (eE q9 (dr 1) cc)) (eE q9 (dr 2) cc)))))
def Bu:YO Z.E4 P w base 2 ae (r1 CR CP n):=
 fY ["_law_gaps_here","_law_flights_here","_law_closed_here","_law_label","_law_flight","_law_strip","_law_kind","_law_first_here","_law_last","_law_due","_law_price","_law_time","_law_side","_law_other","_law_lasts"] λz I S=>(dt (N6 (eE q9 (dr 1) (dr 4)) (x9 rfl (h9 I (h9 I (h9 I (h9 I (h9 I rK))))))) (dt (pw I (dr 7)) (dt (nB (rJ Z.qB (da1 (er tI Z.t7 aY (da1 (dr 0))))) (vm I) (du (nB (rJ Z.qB (da1 (er tI Z.t7 aY (da1 (eE q9 (dr 0) cc))))) (vm I) (du (rz (n3 (o_ne S.units) (eE q9 (eE q9 (eE q9 (dr 3) cc) (dr 12)) (dr 13)) (DR Dp cc)) (du (pw I (er (HN rfl) Z.GF km (da2 (dr 11) (eh (en qY (eE q9 (eE q9 (eE q9 (dr 3) cc) (dr 12)) (dr 13)) (dY (Dl Z) S (da3 (dr 0) (rQ (da2 (dr 13) (dr 12))) (rQ (da2 (dr 6) (dr 5))))))))))) n4))))) (dt (pw I (dY (Ff Z) S (da2 (dr 2) (dr 11)))) (dt (rz (n3 o_gt (dr 11) (dr 8)) (du (et Jw)) n4) (N8 ["_law_row"] [af] I (px (eE q9 (dr 3) cc)) (λ_ _ _ _ _=>sJ dkK) (gf rfl) (λ_ _ _ _ _=>rl) (λ_ _ _ _ _=>(n7 Gm Z.yy dH (da1 (dr 0)))) Fp (dr 11) (dr 5) (dr 6) (du (et (rQ (da2 (eh (en qY (eE q9 (dr 3) cc) (en xp (dr 10) (er (HN rfl) Z.GF km (da2 cc (en Dn (dr 11) (dr 9))))))) (n7 uU Z.rG bE (da1 (eh (qV ["_law_row"] [af] (px (dr 14)) (λ_ _ _ _ _=>sJ dkK) (gf rfl) (λ_ _ _ _ _=>rl) (λ_ _ _ _ _=>(n7 uU Z.rG bE (da1 (dr 0))))))))))))))))))
def Hf:YO Z.KD P w base 3 ae (u1 CR CP n):=
 fY ["_law_gaps_here","_law_flights_here","_law_closed_here","_law_shift","_law_orders_here","_law_found","_law_size","_law_steps","_law_order","_law_step","_law_ahead","_law_labels","_law_label","_law_strip","_law_behind_here"] λz I S=>(dt (pw I (dY (Br Z) S (da2 (er tI Z.t7 aY (da1 (dr 1))) (dr 3)))) (ds_allD (iT:=7) (iO:=8) (iZ:=6) (iSt:=9) (iAh:=10) (iL:=11) (iLab:=12) (iS:=13) (iB:=14) (lP (zW (i:=5) I rfl (.inl rfl) (II (hU1 S.units) (rQ pT) (IH (nD (dY (Dk Z) S (da1 (dr 0))) rL)))) (lP (yC eX rfl (Nb Z.qB (da2 cc (eh (en qY (er tI Z.t7 aY (da1 (dr 1))) cc)))) (ub (i:=6) I rfl (.inl rfl)) (lP (zW (i:=7) I rfl (.inl rfl) pe_newS) (lP (yC eX rfl (px (dr 4)) (ub (i:=8) I rfl (.inl rfl)) (rj (ps_putS S.units (pv 7) (rQ (da2 (n7 uU Z.rG bE (da1 (eh (er AV Z.xw kl (da1 (eh (Nc x_sl (dr 8) AE (AD (dr 6))))))))) (eE q9 (dr 8) (en Dn (dr 6) cc)))) (n7 uU Z.rG bE (da1 (eh (er AV Z.xw kl (da1 (eh (Nc x_sl (dr 8) AE (AD (en Dn (dr 6) cc))))))))) rfl))) (rj (yC eX rfl (pi_itmsS (pv 7)) (x9 rfl (ze (ub (i:=9) I rfl (.inl rfl)) (ze (ub (i:=10) I rfl (.inl rfl)) M3))) (lP (zW (i:=11) I rfl (.inl rfl) (pe_get2a S.units (pv 5) (eE q9 (dr 9) cc) (IH rL))) (lP (yC eX rfl (pi_seqD (pe_ix (ix_K (hU S.units)) (pv 5) (dr 10) (λ_ _=>rfl))) (ub (i:=12) I rfl (.inl rfl)) (rj (yC eX rfl (rJ Z.qB (da1 (er tI Z.t7 aY (da1 (dr 0))))) (ub (i:=13) I rfl (.inl rfl)) (lP (zW (i:=14) I rfl (.inl rfl) (dY (Bu Z) S (da6 (dr 0) (dr 1) (dr 2) (dr 12) (eE q9 (dr 9) cc) (dr 13)))) (rj (LW (PW.pt (N5 (n3 o_notN (dr 14) Jw) (HB (n3 (Mh S.units) (dr 14) (dr 11))))) (rj (xm (pe_bm gp gB iy Ag (pv 11) (nD (pv 14) rL)))) D5)))))) (rj (EZ (hU S.units) (pv 5) (eE q9 (dr 9) cc) (pv 11) rfl))))))))) (rj (EY (pv 5)))))))
def Bp:YO Z.DY P w base 1 ae (tO):=
 fY ["rows"] λz I S=>(du (et (eh (qV ["row"] [af] (px (dr 0)) (λ_ _ _ _ _=>sJ dkK) (gf rfl) (λ_ _ _ _ _=>rl) (λ_ _ _ _ _=>(eh (n7 Gm Z.yy dH (da1 (dr 0)))))))))
def Md:YO Z.d_is_gap P w base 1 ae (wR):=
 fY ["number"] λz I S=>(dt (rz (PW.pt (DM (uf (su (Cn Z.kit Z.la Z.z_int (dr 0)))) (Ck (su (AJ Z.kit Z.la Z.z_bool (dr 0)))))) (du (et vn)) n4) (du (et (de_chain o_le o_le cc (dr 0) (HG Z.Bw)))))
theorem Df:YO Z.G7 P w base 2 ae (rM):=
 fY ["row","kinds"] λz S I=>(du (et (Ni (AI Z.kit Z.la Z.yy (dr 0)) (Ni (de_cmp (o_eq I.units) (er tI Z.t7 aY (da1 (dr 0))) (dr 1)) (de_one (er (NA rfl) Z.L2 mY (da1 (eh (qV ["number"] [af] (px (dr 0)) (λ_ _ _ _ _=>sJ a0) (gf rfl) (λ_ _ _ _ _=>rl) (λ_ _ _ _ _=>(dY (Md Z) I (da1 (dr 0)))))))))))))
def wq:YO Z.BB P w base 3 ae (ew):=
 fY ["rows","kinds"] λz S I=>(dt (pw S (er tI Z.t7 aY (da1 (dr 0)))) (dt (rz (uf (zo o_le o_le cc (dr 1) (HG Z.FD))) (du N7) n4) (dt (rz (uf (su (er (NA rfl) Z.L2 mY (da1 (eh (qV ["row","kinds"] [af,aa 1] (px (dr 0)) (λ_ _ _ _ _=>sJ dkK) (gf rfl) (λ_ _ _ _ _=>rl) (λ_ _ _ _ _=>(dY (Df Z) I (da2 (dr 0) (dr 1)))))))))) (du N7) n4) (du (et (dY (Bp Z) I (da1 (dr 0))))))))
end
def sc_nR:uq ["self","gaps"] ["self","gaps"] (eF s_nR):=⟨rfl,rfl,rfl,by decide +kernel,rfl,by decide +kernel,by decide +kernel⟩
theorem okn_R{P : bL}{w : c8}{K : Fg}{mg : br -> Option aj}{base : bF}{C U f : av}{S fd : dX}(I : Def K mg "checked_rows" uQ ["rows"] U S)(n : vT P w K mg base CX0 3 U S ["rows"] (spF K ae (ew) 1))(N : Fun K "__init__" "Rules.__init__" s_nR f fd)(m : Cls K C)(na : wc K C "gaps"): vT P w K mg base CX0 4 f fd ["self", "gaps"] (spI1 K C (ew)) := by
  refine N.okX sc_nR (λvs H Q E h => ?_) (λcdv A outer s H vs Q E j h => ?_)
  · obtain⟨p,dx,v,F,d,rfl,_⟩ := h
    rfl
  · obtain⟨p,dx,v,F,d,rfl,k,t,s1,g,q⟩ := h
    refine⟨_,rj (ps_fld (pv 0) (D7 n j (by rfl) I.mg I.fn.kp I.bd .nil D8 (nD (pv 1) rL)) rfl),?_⟩
    refine⟨v,rfl,F,[d],s1,⟨v,[],rfl,g,rfl⟩,rfl,?_⟩
    cases a : ew [d]with
    | error e => rw[a]at q; exact q| ok r =>
      rw[a]at q;intro u F' H' st b;have Y : F' p = af := by
        cases i : F' p with
        | none => rfl| some o =>
          rcases st.nw p o i with z | z
          · simp_all
          simp_all
      refine⟨_,rfl,p,C,dx,[],rfl,st.hh _ _ k,m,na,am,?_⟩
      refine q u F' _ st.ff (λc o e => ?_) Y st.nw (λc o e l => by rw[dV l]; exact st.hh _ _ e) dy b;rw[dV (λz => by simp_all)];exact st.fh _ _ e
def sc_nP:uq ["self","gaps","beside"] ["self","gaps","beside"] (eF s_nP):=⟨rfl,rfl,rfl,by decide +kernel,rfl,by decide +kernel,by decide +kernel⟩
theorem okn_P{P:bL}{K:Fg}{base:bF}{CR:av}{Y f R:av}{U fd i:dX}{mc:aj}(I:Def K mg "checked_rows" uQ ["rows"] Y U)(OK:vT P w K mg base CX0 3 Y U ["rows"] (spF K ae (ew) 1))(S:Stat K CR mc "__init__" R)(bI:Binds K i ["self","gaps"] [])(FI:vT P w K mg base CX0 4 R i ["self","gaps"] (spI1 K CP (ew)))(mR:mg "Rules"=aa (.ref CR))(D:mg "len"=af)(N:Fun K "__init__" "Pair.__init__" s_nP f fd)(C:Cls K CP)(na:wc K CP "gaps")(nb:wc K CP "beside"):vT P w K mg base CX0 5 f fd ["self","gaps","beside"] (spI2 K CP (ew)):=by
 refine N.okX sc_nP (λvs H Q E h=>?_) (λcdv A outer s H vs Q E O h=>?_)
 .obtain⟨p,dx,v,l,F,d,B,rfl,_⟩:=h;rfl
 .obtain⟨p,dx,v,l,F,d,B,rfl,hp,hF,s1,qd,t,q⟩:=h;cases x:ew [d]with
  |error e=>rw[x]at q;exact bV q|ok r=>
   rw[x,dm]at q;cases a:ew [B]with
   |error e=>rw[a]at q;exact bV q|ok n=>
    rw[a,dm]at q;by_cases g:twoL r n=ag
    .rw[aC g]at q;obtain⟨xs,ys,rfl,rfl,hl⟩:∃xs ys,r=.lst xs/\n=.lst ys/\xs.length=ys.length:=by
      cases r with
      |lst xs=>
       cases n with
       |lst ys=>exact⟨_,_,rfl,rfl,j8 g⟩|_=>cases g
      |_=>cases g
     refine⟨_,lP (xm (pe_cmeth S (by rfl) mR FI O bI .nil D8 (nD (pv 0) (nD (pv 1) rL))))
      (lP (ps_fld (pv 0) (D7 OK (O.mono am) (by rfl) I.mg I.fn.kp I.bd .nil D8 (nD (pv 2) rL)) rfl)
      (rj (LW (LU op_ne (xG wK (by rfl) D aY (nD (M7 (pv 0) rfl) rL)) (xG wK (by rfl) D aY (nD (M7 (pv 0) rfl) rL)) (nomark _)) LV D5))),?_⟩
     refine⟨_,rfl,_,rfl,p,dx,v,F,d,rfl,hp,hF,s1,qd,?_⟩
     rw[x];intro u F1 H1 W a2 a3 a4 a5 a6 T;refine⟨l,rfl,F1,[B],a2,⟨l,[],rfl,i1.mono W t,rfl⟩,rfl,?_⟩
     rw[a];intro G k H2 st J;have y:k p=af:=by
      cases L:k p with
      |none=>rfl|some o=>
       rcases st.nw p o L with z|z
       .simp_all
       simp_all
     refine⟨_,rfl,p,CP,dx,_,rfl,st.hh _ _ a6,C,nb,ad,?_⟩
     have m:eH k (upd H2 p (.ins CP dx [("gaps",u),("beside",G)])):=λc o e=>by
      have j:c≠p:=λz=>by simp_all
      rw[dV j];exact st.fh _ _ e
     obtain⟨g1,xs1,e1,t1,Z⟩:=i1.mono st.ff T;obtain⟨g2,xs2,e2,t2,X⟩:=id J;refine⟨_,rfl,p,CP,dx,_,_,rfl,dy,C,nb,rfl,g2,_,by rw[e2],.inl (m.lst t2),_,rfl,p,CP,dx,_,_,rfl,dy,C,na,rfl,g1,_,by rw[e1],.inl (m.lst t1),rfl,_,rfl,?_⟩
     refine iteNS (by rw[Z.length,X.length,hl]) ?_;refine q u G k _ (W.trans st.ff) m y (λb o e=>?_) (λc o e j=>by rw[dV j];exact st.hh _ _ (a5 c o e j)) dy (i1.mono st.ff T) J;rcases st.nw b o e with z|z
     .exact a4 b o z
     .refine .inr ?_;cases L:H b with
      |none=>rfl|some o'=>grind
    .rw[aA g]at q;exact bV q
section
variable{P:bL}{base:bF}{K:Fg}{CR:av}(Z:Zq n P w base K mg CR CP)
include Z
def on_P:∃f fd,Mth K CP "__init__" "Pair.__init__" s_nP ["self","gaps","beside"] f fd/\vT P w K mg base CX0 5 f fd ["self","gaps","beside"] (spI2 K CP (ew)):=
 let ⟨_,_,Y⟩:=wq Z;let ⟨_,_,N,S⟩:=Z.n_R;let ⟨_,_,M⟩:=Z.n_P;⟨_,_,M,okn_P Y.d Y.o S N.bd (okn_R Y.d Y.o N.fn Z.kP.cl (Z.vJ CP ad).2) Z.kR.mg Z.t7 M.fn Z.kP.cl (Z.vJ CP ad).2 (Z.Cj CP ad).2⟩
def on_R:∃f fd,Mth K CR "__init__" "Rules.__init__" s_nR ["self","gaps"] f fd/\vT P w K mg base CX0 4 f fd ["self","gaps"] (spI1 K CR (ew)):=
 let ⟨_,_,Y⟩:=wq Z;let ⟨_,_,N,_⟩:=Z.n_R;⟨_,_,N,okn_R Y.d Y.o N.fn Z.kR.cl (Z.vJ CR ad).2⟩
def Di:YO Z.G9 P w base 7 ae (qQ CR CP n):=
 fY ["_law_gaps_here"] λz b a=>let ⟨_,_,Y,S⟩:=on_P Z;let ⟨_,_,U,I⟩:=on_R Z;(dt (rz (n3 (o_eq a.units) (er tI Z.t7 aY (da1 (dr 0))) cc) (du (et (de_newP ⟨Z.kP.mks,Y.mt.at_,Y.mt.fn,Z.kP.kp⟩ S a Z.kP.mg Y.bd (da2 (eE q9 (dr 0) cc) (eE q9 (dr 0) cc))))) n4) (du (et (de_newR ⟨Z.kR.mks,U.mt.at_,U.mt.fn,Z.kR.kp⟩ I (a.mono am) Z.kR.mg U.bd (da1 (eE q9 (dr 0) cc))))))
end
def rX:uq ["pool","size","choices","place","one","rest"] ["pool","size"] (eF t9):=⟨rfl,rfl,rfl,by decide +kernel,rfl,by decide +kernel,by decide +kernel⟩
def Bk{P:bL}{K:Fg}{base:bF}{CR:av}(Z:Zs K mg CR CP)(I:Def K mg "choices_of" t9 ["pool","size"] qy o5){d:Nat}{h:df->M A4}(S:vT P w K mg base CX0 d qy o5 ["pool","size"] (spF K ae (nf 6 2 h) 2)):vT P w K mg base CX0 (d+1) qy o5 ["pool","size"] (spF K ae (nf 6 2 (yH (nf 6 2 h))) 2):=
 fn_D (O':=[]) I.fn rX ae _ λcdv A outer s H E U=>
  (dt (rz (n3 (o_eq U.units) (dr 1) cc)
   (du (et (eh (k8 (m3 (rQ pT) pT)))))
   n4)
  (dt (HC rX.nd (k8 pT))
  (dt (nB (di_enum Z.vu (dr 0)) (x9 rfl (h9 rX.nd (h9 rX.nd rK)))
   (du (nB (px (Nh S U I.mg I.fn.kp I.bd (m3 (eh (Nc x_sl (dr 0) (AD (eh (en qY (dr 3) cc))) AE)) (m3 (en Dn (dr 1) cc) pT)))) (vm rX.nd)
   (du (vL (eh (en qY (rQ (m3 (dr 4) pT)) (dr 5))))))))
  (qK (O2:=[]) (du (et (dr 2)))))))
theorem xb{P:bL}{w:c8}{K:Fg}{mg:br->Option aj}{base:bF}{CR CP:av}(Z:Zs K mg CR CP){qy:av}{o5:dX}(I:Def K mg "choices_of" t9 ["pool","size"] qy o5):∀d:Nat,vT P w K mg base CX0 d qy o5 ["pool","size"] (spF K ae (nf 6 2 (rR d)) 2)
 |0=>fn_stk|d+1=>Bk Z I (xb Z I d)
def Dq{P:bL}{K:Fg}{base:bF}{CR:av}(Z:Zs K mg CR CP)(I:Def K mg "choices_of" t9 ["pool","size"] qy o5):vT P w K mg base CX0 6 qy o5 ["pool","size"] (spF K ae (wt) 2):=xb Z I 6
section
variable{P:bL}{base:bF}{K:Fg}{CR:av}(Z:Zq n P w base K mg CR CP)
include Z
def Dh:YO Z.rR P w base 6 ae (wt):=let ⟨_,_,D⟩:=Z.rR;⟨_,_,D,Dq Z D⟩
def vV:YO Z.AL P w base 7 ag (uc):=
 fY ["many","shift","size","sure","free"] λz I S=>(dt (pw I (de_trng1 Z.rG Z.qB (da1 (er (HN rfl) Z.GF km (da2 cc (en Dn (dr 2) (dr 1))))))) (dt (pw I (eh (de_lrng2 Z.yy Z.qB (da2 (er tI Z.t7 aY (da1 (dr 3))) (er (c_min rfl) Z.z_min boot_min (da2 (dr 0) (eh (en qY (dr 2) (dr 1))))))))) (du (et (qV ["some","sure"] [af,aa 3] (px (dY (Dh Z) S (da2 (dr 4) (en Dn (dr 2) (er tI Z.t7 aY (da1 (dr 3))))))) (λ_ _ _ _ _=>sJ dkK) (gf rfl) (λ_ _ _ _ _=>rl) (λ_ _ _ _ _=>(eh (en qY (dr 1) (dr 0)))))))))
def vf:YO Z.z4 P w base 1 ae (qF):=
 fY ["some"] λz I S=>(du (et (eh (qV ["place","flight","some"] [af,af,aa 0] (DN Z.vu (dr 0)) (λ_ _ _ _ _=>x9 rfl (vl dkK (vl dkK rK))) (An am) (λ_ _ _ _ _=>rl) (λ_ _ _ _ _=>(rQ (da2 (eh (en qY (eh (Nc x_sl (dr 2) AE (AD (dr 0)))) (eh (Nc x_sl (dr 2) (AD (eh (en qY (dr 0) cc))) AE)))) (dr 1))))))))
def Bl:YO Z.DU P w base 8 ae (r0):=
 fY ["many","shift","counts","size","grown","some"] λz I S=>(dt (pw I (eh (de_disp1 S.units (rQ pT) cc))) (dt (nB (Nb Z.qB (da2 cc (eh (en qY (dr 0) cc)))) (vm I) (dt (yq I Nd) (dt (nB (px (eh (dY (vV Z) S (da3 (dr 0) (dr 1) (dr 3))))) (vm I) (du (ds_putD (i:=4) S.units (dr 5) (er (c_sum rfl) Z.z_sum boot_sum (da1 (eh (qV ["smaller","flight","counts"] [af,af,aa 2] (px (dY (vf Z) S (da1 (dr 5)))) (λ_ _ _ _ _=>x9 rfl (vl (i:=0) dkK (vl (i:=1) dkK rK))) (An am) (λ_ _ _ _ _=>rl) (λ_ _ _ _ _=>(Nf S.units (dr 2) (dr 0) cc))))))))) (qK (O2:=[]) (du (pw I (dr 4))))))) (du (et (de_sumV rfl Z.z_sum (dr 2))))))
def sO:YM Z.m_M_R_many_strips P w mg base 1 ae (js):=
 fM ["self"] λz I S=>(du (et cc))
def sP:YM Z.m_M_P_many_strips P w mg base 1 ae (lp):=
 fM ["self"] λz I S=>(du (et cc))
def Dd:YO Z.G5 P w base 9 ae (uB CR CP n):=
 fY ["rules","many","shift","plans","flight"] λz a b=>let ⟨_,_,S,Y⟩:=sP Z;let ⟨_,_,I,U⟩:=sO Z;(dt (pw a (dY (Bl Z) b (da2 (dr 1) (dr 2)))) (dt (nB (rJ Z.qB (da1 (dr 1))) (vm a) (du (pw a (en xp (dr 3) (xV Z.kR.cl I.mt U (b.mono am) I.bd Z.kP.cl S.mt Y (b.mono am) S.bd (dr 0)))))) (du (et (dr 3)))))
def xH:YO Z.yr P w base 10 ae (qZ CR CP n):=
 fY ["rules","flights","shift"] λz S I=>(du (rz (n3 o_gt (dY (Dd Z) I (da3 (dr 0) (er tI Z.t7 aY (da1 (dr 1))) (dr 2))) (HG Z.FC)) (du N7) n4))
def yh:YO Z.z6 P w base 8 ae (rD):=
 fY ["many","shift","beginnings","size"] λz I S=>(dt (yq I (k8 pT)) (dt (nB (rJ Z.qB (da1 (eh (en qY (dr 0) cc)))) (vm I) (du (ds_ext (dY (vV Z) S (da3 (dr 0) (dr 1) (dr 3)))))) (qK (O2:=[]) (du (et (dr 2))))))
def Bm:YO Z.DV P w base 1 ae (qC):=
 fY ["one","other","row","bounds","last","bound"] λz I S=>(dt (rz (n3 o_gt (eE q9 (dr 0) cc) (eE q9 (dr 1) cc)) (du (et vn)) n4) (dt (nB (HE Z.z_zip (eE q9 (dr 0) cc) (eE q9 (dr 1) cc)) (x9 rfl (h9 I (h9 I rK))) (du (nB (HE Z.z_zip (dr 2) (dr 3)) (x9 rfl (h9 I (h9 I rK))) (du (rz (n3 o_gt (dr 4) (dr 5)) (du (et vn)) n4))))) (du (et vn))))
def Ad:YO Z.BA P w base 2 ae (rp):=
 fY ["labels","label","one"] λz I S=>(dt (nB (px (dr 0)) (vm I) (du (rz (su (dY (Bm Z) S (da2 (dr 2) (dr 1)))) (du (et vn)) n4))) (du (et vn)))
def Bq:YO Z.DZ P w base 3 ag (tP):=
 fY ["labels","best","label"] λz I S=>(dt (yq I (k8 pT)) (dt (nB (px (eh (er (Gk S.units) Z.xw kl (da1 (dr 0))))) (vm I) (du (rz (uf (su (dY (Ad Z) S (da2 (dr 1) (dr 2))))) (du (vL (dr 2))) n4))) (du (ds_retV))))
def yX:YM Z.m_M_R_many_kinds P w mg base 1 ae (hH CR CP n):=
 fM ["self"] λz I S=>(du (et (er tI Z.t7 aY (da1 (G4 Z.vJ (dr 0))))))
def yY:YM Z.m_M_P_many_kinds P w mg base 1 ae (hH CR CP n):=
 fM ["self"] λz I S=>(du (et (er tI Z.t7 aY (da1 (G4 Z.vJ (dr 0))))))
def Bo:YO Z.DX P w base 2 ae (vA CR CP n):=
 fY ["rules","row"] λz f e=>let ⟨_,_,Y,d⟩:=yY Z;let ⟨_,_,S,b⟩:=sP Z;let ⟨_,_,U,c⟩:=yX Z;let ⟨_,_,I,a⟩:=sO Z;(dt (pw f (n7 uU Z.rG bE (da1 (eh (qV ["kind"] [af] (rJ Z.qB (da1 (xV Z.kR.cl U.mt c e U.bd Z.kP.cl Y.mt d e Y.bd (dr 0)))) (λ_ _ _ _ _=>sJ dkK) (gf rfl) (λ_ _ _ _ _=>rl) (λ_ _ _ _ _=>(DR Dp cc))))))) (du (et (rQ (da2 cc (n7 uU Z.rG bE (da1 (eh (qV ["strip","row"] [af,aa 1] (rJ Z.qB (da1 (xV Z.kR.cl I.mt a e I.bd Z.kP.cl S.mt b e S.bd (dr 0)))) (λ_ _ _ _ _=>sJ dkK) (gf rfl) (λ_ _ _ _ _=>rl) (λ_ _ _ _ _=>(dr 1)))))))))))
def xo:YO Z.xW P w base 1 ae (qJ):=
 fY ["closed","joined","start","stop"] λz I S=>(dt (yq I (k8 pT)) (dt (nB (px (eh (er AV Z.xw kl (da1 (dr 0))))) (x9 rfl (h9 I (h9 I rK))) (du (rz (PW.pt (N5 (su (dr 1)) (HB (n3 o_le (dr 2) (eE q9 (eE q9 (dr 1) (DR Dp cc)) cc))))) (du (ds_setI (rQ (da2 (eE q9 (eE q9 (dr 1) (DR Dp cc)) cc) (er (HN rfl) Z.GF km (da2 (dr 3) (eE q9 (eE q9 (dr 1) (DR Dp cc)) cc))))) (DR Dp cc))) (du (vL (rQ (da2 (dr 2) (dr 3)))))))) (qK (O2:=[]) (du (et (dr 1))))))
def Fc:YO Z.HH P w base 2 ae (sQ):=
 fY ["closed","time","start","stop"] λz I S=>(dt (nB (px (dY (xo Z) S (da1 (dr 0)))) (x9 rfl (h9 I (h9 I rK))) (du (rz (zo o_le o_lt (dr 2) (dr 1) (dr 3)) (du (et (dr 3))) n4))) (du (et (dr 1))))
theorem De:YO Z.G6 P w base 1 ae (uC):=
 fY ["lasts","spot","time","rows"] λz I S=>(N8 ["row"] [af] I (px (dr 0)) (λ_ _ _ _ _=>sJ a0) (gf rfl) (λ_ _ _ _ _=>rl) (λ_ _ _ _ _=>(n7 Gm Z.yy dH (da1 (dr 0)))) Fp (dr 2) (eE q9 (dr 1) cc) (eE q9 (dr 1) cc) (du (et (n7 uU Z.rG bE (da1 (eh (qV ["row"] [af] (px (dr 3)) (λ_ _ _ _ _=>sJ a0) (gf rfl) (λ_ _ _ _ _=>rl) (λ_ _ _ _ _=>(n7 uU Z.rG bE (da1 (dr 0)))))))))))
def Fe:YO Z.HI P w base 1 ae (vz):=
 fY ["flight","time","due","price"] λz I S=>(dt (pw I (eE q9 (dr 0) cc)) (dt (pw I (eE q9 (dr 0) cc)) (du (et (en xp (dr 3) (er (HN rfl) Z.GF km (da2 cc (en Dn (dr 1) (dr 2)))))))))
def Hg:YM Z.m_M_R_apart P w mg base 1 ae (tR CR CP n):=
 fM ["self","one","other"] λz I S=>(du (et (eE q9 (eE q9 (G4 Z.vJ (dr 0)) (eE q9 (dr 1) cc)) (eE q9 (dr 2) cc))))
def Hh:YM Z.m_M_P_apart P w mg base 1 ae (tj CR CP n):=
 fM ["self","one","other","rows"] λz I S=>(dt (pw I (de_ite (n3 (o_eq S.units) (eE q9 (dr 1) cc) (eE q9 (dr 2) cc)) (G4 Z.vJ (dr 0)) (G4 Z.Cj (dr 0)))) (du (et (eE q9 (eE q9 (dr 3) (eE q9 (dr 1) cc)) (eE q9 (dr 2) cc)))))
def yg:YO Z.z5 P w base 2 ae (rC CR CP n):=
 fY ["rules","lasts","spot","times","strip","row","kind","last"] λz a b=>let ⟨_,_,S,Y⟩:=Hh Z;let ⟨_,_,I,U⟩:=Hg Z;(dt (yq a (k8 pT)) (dt (nB (DN Z.vu (dr 1)) (x9 rfl (h9 a (h9 a rK))) (du (nB (DN Z.vu (dr 5)) (x9 rfl (h9 a (h9 a rK))) (du (rz (n3 (o_ne b.units) (dr 7) (DR Dp cc)) (du (vL (eh (en qY (dr 7) (de_meth2 Z.kR.cl I.mt U b I.bd Z.kP.cl S.mt Y b S.bd (dr 0) (da2 (rQ (da2 (dr 6) (dr 4))) (dr 2))))))) n4))))) (qK (O2:=[]) (du (et (dr 3))))))
def Ac:YO Z.Bz P w base 3 ae (qG CR CP n):=
 fY ["rules","flights","closed","label","flight","strip","told","spot","time"] λz S I=>(dt (pw S (eE q9 (dr 1) (dr 4))) (dt (pw S (rQ (da2 (eE q9 (dr 6) cc) (dr 5)))) (dt (pw S (dY (Fc Z) I (da2 (dr 2) (er (HN rfl) Z.GF km (da1 (eh (en qY (eh (k8 (da1 (eE q9 (dr 6) cc)))) (dY (yg Z) I (da3 (dr 0) (eE q9 (dr 3) cc) (dr 7)))))))))) (dt (rz (n3 o_gt (dr 8) (eE q9 (dr 6) cc)) (du (et Jw)) n4) (du (et (rQ (da2 (eh (en qY (eE q9 (dr 3) cc) (dY (Fe Z) I (da2 (dr 6) (dr 8))))) (dY (De Z) I (da3 (eE q9 (dr 3) cc) (dr 7) (dr 8)))))))))))
def yU:YO Z.AK P w base 4 ae (rZ CR CP n):=
 fY ["rules","flights","closed","paper","some","found","smaller","flight","label","strip","behind"] λz a b=>let ⟨_,_,S,Y⟩:=sP Z;let ⟨_,_,I,U⟩:=sO Z;(dt (yq a de_newL) (dt (nB (px (dY (vf Z) b (da1 (dr 4)))) (x9 rfl (h9 a (h9 a rK))) (du (nB (px (Nf b.units (dr 3) (dr 6) (eh (k8 pT)))) (vm a) (du (nB (rJ Z.qB (da1 (xV Z.kR.cl I.mt U (b.mono am) I.bd Z.kP.cl S.mt Y (b.mono am) S.bd (dr 0)))) (vm a) (dt (pw a (dY (Ac Z) b (da6 (dr 0) (dr 1) (dr 2) (dr 8) (dr 7) (dr 9)))) (du (rz (n3 o_notN (dr 10) Jw) (du (ds_putT b.units (dr 10) vn)) n4)))))))) (qK (O2:=[]) (du (et (dr 5))))))
def Aa:YR Z.KA P w base 11 (spP K (qX CR CP n) 4):=
 fP ["rules","flights","closed","shift","paper","some"] am λz S I=>(lP (xm (dY (xH Z) I (da3 (dr 0) (dr 1) (dr 3)))) (lP (zW S rfl (.inl rfl) M4) (lP (yC eX rfl (px (dY (yh Z) I (da2 (er tI Z.t7 aY (da1 (dr 1))) (dr 3)))) (ub S rfl (.inl rfl)) (rj (LW (n3 (o_eq I.units) (dr 5) (rQ pT)) (rj (EZ (hU I.units) (pv 4) (dr 5) (IH (nD (dY (Bo Z) I (da1 (dr 0))) rL)) rfl)) (rj (EZ (hU I.units) (pv 4) (dr 5) (dY (Bq Z) I (da1 (dY (yU Z) I (da5 (dr 0) (dr 1) (dr 2) (dr 4) (dr 5))))) rfl))))) (rj (EY (pv 4))))))
def vy:YO Z.G8 P w base 1 ae (qw):=
 fY ["_law_found"] λz I S=>(du (et (Ni (Cn Z.kit Z.la Z.z_int (dr 0)) (de_one (de_not (AJ Z.kit Z.la Z.z_bool (dr 0)))))))
def yW:YO Z.AN P w base 2 ae (qS):=
 fY ["_law_found","_law_gaps_here","_law_row"] λz S I=>(dt (rz (PW.pt (DM (uf (su (uP Z.kit Z.la Z.rG (dr 0)))) (DM (n3 (o_ne I.units) (er tI Z.t7 aY (da1 (dr 0))) cc) (DM (uf (su (dY (vy Z) I (da1 (eE q9 (dr 0) cc))))) (Ck (uf (su (uP Z.kit Z.la Z.rG (eE q9 (dr 0) cc))))))))) (du (et vn)) n4) (dt (rz (n3 (o_ne I.units) (er tI Z.t7 aY (da1 (eE q9 (dr 0) cc))) (er tI Z.t7 aY (da1 (dr 1)))) (du (et vn)) n4) (dt (nB (px (eE q9 (dr 0) cc)) (vm S) (du (rz (PW.pt (DM (uf (su (uP Z.kit Z.la Z.rG (dr 2)))) (DM (n3 (o_ne I.units) (er tI Z.t7 aY (da1 (dr 2))) (er tI Z.t7 aY (da1 (eE q9 (dr 1) cc)))) (Ck (uf (su (er (NA rfl) Z.L2 mY (da1 (eh (qV ["_law_time"] [af] (px (dr 2)) (λ_ _ _ _ _=>sJ dkK) (gf rfl) (λ_ _ _ _ _=>rl) (λ_ _ _ _ _=>(dY (vy Z) I (da1 (dr 0)))))))))))))) (du (et vn)) n4))) (du (et vn)))))
def xI:YO Z.Ga P w base 3 ae (qR):=
 fY ["_law_found","_law_due","_law_gaps_here","_law_some","_law_labels"] λz S I=>(dt (rz (PW.pt (DM (uf (su (HF Z.la Z.z_dict (dr 0)))) (Ck (n3 (o_neA I.units) (dr 0) (dr 1))))) (du (et vn)) n4) (dt (nB (di_items (dr 0)) (x9 rfl (h9 S (h9 S rK))) (dt (rz (PW.pt (DM (uf (su (uP Z.kit Z.la Z.rG (dr 3)))) (Ck (uf (su (AI Z.kit Z.la Z.yy (dr 4))))))) (du (et vn)) n4) (dt (rz (uf (su (er (NA rfl) Z.L2 mY (da1 (eh (qV ["_law_flight"] [af] (px (dr 3)) (λ_ _ _ _ _=>sJ dkK) (gf rfl) (λ_ _ _ _ _=>rl) (λ_ _ _ _ _=>(dY (vy Z) I (da1 (dr 0)))))))))) (du (et vn)) n4) (du (rz (uf (su (er (NA rfl) Z.L2 mY (da1 (eh (qV ["_law_label","_law_gaps_here"] [af,aa 2] (px (dr 4)) (λ_ _ _ _ _=>sJ dkK) (gf rfl) (λ_ _ _ _ _=>rl) (λ_ _ _ _ _=>(dY (yW Z) I (da2 (dr 0) (dr 1)))))))))) (du (et vn)) n4))))) (du (et vn))))
def yV:YO Z.AM P w base 1 ae (lb):=
 fY ["_law_one","_law_other","_law_mine","_law_theirs"] λz I S=>(dt (rz (n3 o_gt (eE q9 (dr 0) cc) (eE q9 (dr 1) cc)) (du (et vn)) n4) (dt (nB (HE Z.z_zip (eE q9 (dr 0) cc) (eE q9 (dr 1) cc)) (x9 rfl (h9 I (h9 I rK))) (du (rz (n3 (o_ne S.units) (eh (qV ["_law_k","_law_mine","_law_theirs"] [af,aa 2,aa 3] (rJ Z.qB (da1 (er tI Z.t7 aY (da1 (dr 2))))) (λ_ _ _ _ _=>sJ dkK) (gf rfl) (λ_ _ _ _ _=>zV (n3 o_gt (eE q9 (dr 1) (dr 0)) (eE q9 (dr 2) (dr 0)))) (λ_ _ _ _ _=>(dr 0)))) (eh (k8 pT))) (du (et vn)) n4))) (du (et vn))))
def Dj:YO Z.Gb P w base 2 ae (uD):=
 fY ["_law_labels","_law_found","_law_label"] λz S I=>(dt (yq S (k8 pT)) (dt (nB (px (dr 0)) (vm S) (du (rz (n3 (o_eq I.units) (eh (qV ["_law_other","_law_label"] [af,aa 2] (px (dr 0)) (λ_ _ _ _ _=>sJ dkK) (gf rfl) (λ_ _ _ _ _=>zV (PW.pt (N5 (n3 (o_ne I.units) (dr 0) (dr 1)) (HB (su (dY (yV Z) I (da2 (dr 0) (dr 1)))))))) (λ_ _ _ _ _=>(dr 0)))) (eh (k8 pT))) (du (vL (dr 2))) n4))) (qK (O2:=[]) (du (et (eh (er (Gk I.units) Z.xw kl (da1 (dr 1)))))))))
def ok_law:YO (law_d Z.d_law) P w base 12 ae (m_law CR CP n):=
 fY ["_law_script","_law_gaps_here","_law_shift","_law_many","_law_closed_here","_law_flights_here","_law_every","_law_due","_law_some","_law_rules_here","_law_handed","_law_found"] λz S I=>(dt (pw S (dY (Fh Z) I (da1 (dr 0)))) (dt (N6 (dY (He Z) I (da2 (dr 0) (dr 1))) (x9 rfl (h9 S (h9 (i:=3) S rK)))) (dt (pw S (dY (Bs Z) I (da1 (dr 0)))) (dt (pw S (dY (Ae Z) I (da4 (dr 0) cc (er tI Z.t7 aY (da1 (eE q9 (dr 1) cc))) (dr 3)))) (dt (pw S (dY (Hf Z) I (da4 (dr 1) (dr 5) (dr 4) (dr 2)))) (dt (yq S Nd) (dt (nB (pt:=.nm 8) (Jv (dr 6)) (vm S) (du (ds_putDL (i:=7) I.units (dr 8) (dY (Dj Z) I (da1 (eE (x_ixK I.units) (dr 6) (dr 8))))))) (qK (O2:=[]) (dt (pw S (dY (Di Z) I (da1 (dr 1)))) (dt (pw S (eh (k8 (da2 (eh (n7 Gm Z.yy dH (da1 (dr 5)))) (eh (n7 Gm Z.yy dH (da1 (dr 4)))))))) (by refine ds_tailP (iF:=11) (iS:=8) (λF0 H0=>?_);refine lP ?_ ?_;exact(zW (i:=11) S rfl (.inl rfl) (pY (Aa Z) I (da4 (dr 9) (eE q9 (dr 10) cc) (eE q9 (dr 10) cc) (dr 2))));refine lP ?_ ?_;exact(LW (PW.pt (DM (uf (su (dY (xI Z) I (da3 (dr 11) (dr 7) (dr 1))))) (Ck (n3 (o_ne I.units) (dr 10) (eh (k8 (da2 (dr 5) (dr 4)))))))) (rj (EY pe_bl)) D5);refine lP ?_ ?_;exact(yC eX rfl (Jv (dr 7)) (ub (i:=8) S rfl (.inl rfl)) (rj (xm (pe_bm gp gB iy Ag (pe_ix (ix_K (hU I.units)) (pv 11) (dr 8) (λ_ _=>rfl)) (nD pe_int rL)))));refine lP ?_ ?_;exact(xm (pe_clrK (pv 11)));refine(?_:DSs K A9 ae _ _ [] _ _ _) F0 H0;exact(du (et (dY (xI Z) I (da3 (Ng (Aa Z) I (da4 (dr 9) (eE q9 (dr 10) cc) (eE q9 (dr 10) cc) (dr 2))) (dr 7) (dr 1))))))))))))))))
end
noncomputable abbrev v9:=Int×Int
variable{cs as:List v9}
noncomputable def stD(p:v9):A0:=.tup [.int p.1,.int p.2]
theorem Em:∀cs:List v9,vd (cs.map stD)=.ok (cs.map λp=>[p.1,p.2])
 |[]=>rfl|p::cs=>by simp[vd,tupD,stD,o4,Em cs]
theorem Lz(cs:List v9):∃S:List v9,sZ [.lst (cs.map stD)]=.ok (.lst (S.map stD))/\S.Perm cs/\S.Pairwise (λp q=>p.1<=q.1):=by
 cases i:cs with
 |nil=>exact⟨[],by simp[sZ,yc,o4,uy],eJ _,dU⟩|cons p ps=>
  rw[<-i];have hi:∃e,o4 (cs.map stD)=.error e:=⟨.stuck,by simp_all[o4,stD,asI]⟩
  obtain⟨e,f⟩:=hi;have U:((cs.map λp=>[p.1,p.2]).all λt=> !t.isEmpty)=ag:=by simp
  have es:sZ [.lst (cs.map stD)]=.ok (.lst ((uy Eg (cs.map λp=>[p.1,p.2])).map j0)):=by simp only[sZ,yc,if_true,f,Em,dm,U]
  have c:=o3 (lt:=Eg) (cs.map λp=>[p.1,p.2]);have d:=qU Ma (cs.map λp=>[p.1,p.2]);generalize uy Eg (cs.map λp=>[p.1,p.2])=L at *
  let I:a8->v9:=λl=>(l.getD 0 0,l.getD 1 0)
  have Y:∀l∈L,∃p:v9,l=[p.1,p.2]:=λl h=>by have:=c.mem_iff.mp h;simp only[bp]at this;obtain⟨p,_,e⟩:=this;exact⟨p,e.symm⟩
  refine⟨L.map I,?_,?_,?_⟩
  .rw[es,aR]
   congr 2
   refine bM λl h=>?_;obtain⟨p,rfl⟩:=Y l h;rfl
  .have:=c.map I;rw[aR]at this;have e2:pB (I∘λp=>[p.1,p.2]) cs=cs:=by
    rw[bM (g:=id)]
    .simp
    .intro p _;rfl
   rwa [e2]at this
  .rw[iR];refine d.imp_of_mem λ{a b} k j h=>?_;obtain⟨p,rfl⟩:=Y a k;obtain⟨q,rfl⟩:=Y b j;show p.1<=q.1;simp[Eg]at h;lia
@[simp]def getI_c0(a:A0)(l:a9):wW (a::l) 0=.ok a:=by simp[wW,atI,ixN,aC]
@[simp] theorem getI_c1(a b:A0)(l:a9):wW (a::b::l) 1=.ok b:=by unfold wW atI ixN;rw[aC ac,aC (by simp<;>lia)];rfl
@[simp] theorem getI_c2(a b c:A0)(l:a9):wW (a::b::c::l) 2=.ok c:=by unfold wW atI ixN;rw[aC ac,aC (by simp<;>lia)];rfl
@[simp] theorem getI_c3(a b c d:A0)(l:a9):wW (a::b::c::d::l) 3=.ok d:=by unfold wW atI ixN;rw[aC ac,aC (by simp<;>lia)];rfl
@[simp] theorem getI_c4(a b c d e:A0)(l:a9):wW (a::b::c::d::e::l) 4=.ok e:=by unfold wW atI ixN;rw[aC ac,aC (by simp<;>lia)];rfl
section
variable(CR CP:av)
noncomputable def x3(r:a8):A0:=.lst (r.map .int)
def gr(rows:List a8):A0:=.lst (rows.map x3)
def B5(k:Nat)(r:a8):Prop:=r.length=k/\∀x∈r,0<=x/\x<=1000000
def wY(k:Nat)(rows:List a8):Prop:=rows.length=k/\∀r∈rows,B5 k r
def K4{lo:Int}(h:(eM lo m)[i]?=aa d):i<m/\d=.int (lo+i):=by unfold eM at h;rw[aV]at h;obtain⟨a,h1,I⟩:=ja.mp h;have hi:=(aD.mp h1).1;rw[eI]at hi;rw[h_ hi]at h1;cases h1;exact⟨hi,I.symm⟩
theorem tZ(h:(eM 0 m)[i]?=aa d):i<m/\d=.int i:=by obtain⟨h1,I⟩:=K4 h;simp_all
def qq(lo:Int)(m:Nat):(eM lo m).length=m:=by simp[eM]
end
section
variable(CR CP:av)
def MK(n:Nat)(x:Int)(I:0<=x)(h1:x<=1000000):wR [.int x]=.ok (.bl ag):=by simp[wR,Jj,Cu,I,h1]
theorem DF(n:Nat)(k:Nat)(r:a8)(a:k<=6)(h:B5 k r):rM [x3 r,.int k]=.ok (.bl ag):=by
 have U:r.length<=16777216:=by have:=h.1;lia
 have I:k<=16777216:=ac
 have e:gj (.nm 0) x6 (fL (wR) (b6 (de 0) ej)) [af] (r.map .int)=.ok ((r.map λ_=>ag).map A0.bl):=by
  have:=rA (p:=.nm 0) (fe:=fL (wR) (b6 (de 0) ej)) (ρ0:=[af]) (λ_=>.bl ag) (r.map .int) (λd Y=>by obtain⟨x,S,rfl⟩:=bp.mp Y;exact⟨[aa (.int x)],ad,by simp[MK n x (h.2 x S).1 (h.2 x S).2]⟩)
  rw[this,aR,aR];rfl
 simp[rM,yG,x3,e,U,I,h.1,-aR]
theorem Nm(n:Nat)(rows:List a8)(Y:rows.length<=1000):tO [gr rows]=.ok (gr rows):=by
 have I:rows.length<=16777216:=ac
 have e:gj (.nm 0) x6 (fL vC (b6 (de 0) ej)) [af] (rows.map x3)=.ok (rows.map x3):=by
  have:=rA (p:=.nm 0) (fe:=fL vC (b6 (de 0) ej)) (ρ0:=[af]) id (rows.map x3) (λd S=>by obtain⟨x,U,rfl⟩:=bp.mp S;simp[x3])
  rw[this,qj]
 simp[tO,xP,gr,e,I]
theorem Ct(n:Nat)(k:Nat)(rows:List a8)(h1:1<=k)(Y:k<=6)(h:wY k rows):ew [gr rows]=.ok (gr rows):=by
 have I:rows.length<=16777216:=by have:=h.1;lia
 have e:gj (.nm 0) x6 (fL (rM) (b6 (de 0) (b6 (de 1) ej))) [af,aa (.int rows.length)] (rows.map x3)=.ok ((rows.map λ_=>ag).map A0.bl):=by
  have:=rA (p:=.nm 0) (fe:=fL (rM) (b6 (de 0) (b6 (de 1) ej))) (ρ0:=[af,aa (.int rows.length)]) (λ_=>.bl ag) (rows.map x3) (λd U=>by obtain⟨x,S,rfl⟩:=bp.mp U;exact⟨[aa (x3 x),aa (.int rows.length)],ad,by simp[h.1,DF n k x Y (h.2 x S)]⟩)
  rw[this,aR,aR];rfl
 have b:(1:Int)<=rows.length:=by have:=h.1;lia
 have a:(rows.length:Int)<=6:=by have:=h.1;lia
 have e3:=Nm n rows ac;simp[gr]at e3;simp[ew,xh,w9,w6,gr,e,e3,I,b,a,-aR]
def ey(rows:List a8):A0->A0
 |.non=>.ins CR [("gaps",gr rows)]|o=>.ins CP [("gaps",gr rows),("beside",o)]
def DJ(rows:List a8)(o:A0)(S:o=.non\/∃I,o=gr I):BH [CR,CP] "gaps" (ey CR CP rows o)=.ok (gr rows):=by
 have h1:(("gaps"==("gaps":br))=ag):=by decide +kernel
 rcases S with rfl|⟨I,rfl⟩
 .show(if ([CR,CP].contains CR)=ag then(match cg ("gaps":br) [("gaps",gr rows)]with|some d=>cG d|none=>stk)else stk)=_;simp
 .show(if ([CR,CP].contains CP)=ag then(match cg ("gaps":br) [("gaps",gr rows),("beside",gr I)]with|some d=>cG d|none=>stk)else stk)=_;simp
end
structure Fli where
 kind:Int
 first:Int
 last:Int
 due:Int
 price:Int
def flD(f:Fli):A0:=.tup [.int f.kind,.int f.first,.int f.last,.int f.due,.int f.price]
structure B6(k:Nat)(f:Fli):Prop where
 k0:0<=f.kind
 k1:f.kind<k
 f0:0<=f.first
 f1:f.first<=f.last
 l1:f.last<=1000000000
 d0:0<=f.due
 d1:f.due<=1000000000
 p0:0<=f.price
 p1:f.price<=1000000000
def w5(fl:List Fli)(i:Int):Fli:=match fl[i.toNat]? with
 |some f=>f|none=>⟨0,0,0,0,0⟩
theorem getFl{fl:List Fli}{i:Int}(S:0<=i)(h1:i<fl.length):wW (fl.map flD) i=.ok (flD (w5 fl i))/\w5 fl i∈fl:=by
 have I:i.toNat<fl.length:=ac
 have e:w5 fl i=fl[i.toNat]:=by unfold w5;rw[cv I]
 have:=xO (ds:=fl.map flD) (by simpa using I);grind
def Cov(cs:List v9)(t:Int):Prop:=∃p∈cs,p.1<=t/\t<p.2
def sM(cs:List v9)(t u:Int):Prop:=t<=u/\¬Cov cs u/\∀v,t<=v->v<u->Cov cs v
def sM.uniq{v:Int}(h:sM cs t u)(k:sM cs t v):u=v:=by
 rcases Int.lt_trichotomy u v with e|e|e
 .exact bu (k.2.2 u h.1 e) h.2.1
 .exact e
 .exact bu (h.2.2 v k.1 e) k.2.1
def Nl(t:Int):¬Cov [] t:=λ⟨_,h,_⟩=>by simp at h
def Jx{p:v9}:Cov (p::cs) t↔(p.1<=t/\t<p.2)\/Cov cs t:=by
 constructor
 .rintro⟨q,h,I⟩;rcases aM.mp h with e|e
  .subst e;exact .inl I
  .exact .inr ⟨q,e,I⟩
 .rintro(h|⟨q,h,I⟩)
  .exact⟨p,ad,h⟩
  .exact⟨q,by simp[h],I⟩
theorem yt{S:List v9}:Cov (as++S) t↔Cov as t\/Cov S t:=by
 constructor
 .rintro⟨q,h,I⟩;rcases aZ.mp h with e|e
  .exact .inl ⟨q,e,I⟩
  .exact .inr ⟨q,e,I⟩
 .rintro(⟨q,h,I⟩|⟨q,h,I⟩)
  .exact⟨q,by simp[h],I⟩
  .exact⟨q,by simp[h],I⟩
def cov_perm{I:List v9}(h:as.Perm I):Cov as t↔Cov I t:=⟨λ⟨p,m,q⟩=>⟨p,h.mem_iff.mp m,q⟩,λ⟨p,m,q⟩=>⟨p,h.mem_iff.mpr m,q⟩⟩
theorem cov_one{p:v9}:Cov [p] t↔p.1<=t/\t<p.2:=by rw[Jx];simp[Nl]
noncomputable def tAt(ts:a8)(i:Nat):Int:=ts.getD i 0
noncomputable def rwAt(rows:List a8)(i:Int):a8:=rows.getD i.toNat []
def at2(rows:List a8)(i j:Int):Int:=(rwAt rows i).getD j.toNat 0
def apS(rows I:List a8)(a b:v9):Int:=if a.2=b.2 then at2 rows a.1 b.1 else at2 I a.1 b.1
theorem getT{ts:a8}(h:i<ts.length):wW (ts.map .int) (i:Int)=.ok (.int (tAt ts i)):=by simp_all[xO,tAt]
theorem wA(g:wY k rows){i:Int}(U:0<=i)(h1:i<k):wW (rows.map x3) i=.ok (x3 (rwAt rows i))/\B5 k (rwAt rows i):=by
 have S:=g.1;have I:i.toNat<rows.length:=ac
 have e:rwAt rows i=rows[i.toNat]:=by simp[rwAt,I]
 refine⟨?_,by rw[e];exact g.2 _ (dh I)⟩
 have:=xO (ds:=rows.map x3) (by simpa using I);rw[show((i.toNat:Nat))=i by lia]at this;rw[this,e];simp
theorem getA(g:wY k rows){i j:Int}(U:0<=i)(h1:i<k)(b:0<=j)(a:j<k):wW ((rwAt rows i).map .int) j=.ok (.int (at2 rows i j))/\0<=at2 rows i j:=by
 have S:=(wA g U h1).2;have Y:=S.1;have I:j.toNat<(rwAt rows i).length:=ac
 have e:at2 rows i j=(rwAt rows i)[j.toNat]:=by simp[at2,I]
 refine⟨?_,by rw[e];exact(S.2 _ (dh I)).1⟩
 simp_all[getI_int]
def lookA1(d:A0):cg ("apart":br) [(("gaps":br),d)]=af:=by rfl
def lookA2(d e:A0):cg ("apart":br) [(("gaps":br),d),(("beside":br),e)]=af:=by rfl
section
variable(CR CP:av)
def NB(rows I:List a8):BH [CP] "beside" (ey CR CP rows (gr I))=.ok (gr I):=by
 have h1:(("beside"==("gaps":br))=ae):=by decide +kernel
 have S:(("beside"==("beside":br))=ag):=by decide +kernel
 show(if ([CP].contains CP)=ag then(match cg ("beside":br) [("gaps",gr rows),("beside",gr I)]with|some d=>cG d|none=>stk)else stk)=_;rw[aC ad,c_,h1];rw[c_,S]
end
def Np{p:Pat}{ft:df->M Bool}{fe:df->M A0}{ρ0:df}(b:Nat->Bool)(f:Nat->A0)(m:Nat)(h:∀j,j<m->∃ρ,rT p (.int j) ρ0=.ok ρ/\ft ρ=.ok (b j)/\(b j=ag->fe ρ=.ok (f j))):gj p ft fe ρ0 (eM 0 m)=.ok (((aX m).filter b).map f):=by
 have key:∀ks:be,(∀j∈ks,j<m)->gj p ft fe ρ0 (ks.map λj:Nat=>A0.int j)=.ok ((ks.filter b).map f):=by
  intro ks
  induction ks with
  |nil=>intro _;rfl|cons j ks S=>
   intro U;obtain⟨ρ,e1,e2,e3⟩:=h j (U j ad);have S:=S λx Y=>U x (by simp[Y]);rw[aO,gj,e1,dm,e2,dm];by_cases I:b j=ag
   .rw[aC I,e3 I,S,List.filter_cons_of_pos I];rfl
   .rw[aA I,S,List.filter_cons_of_neg I]
 have:=key _ λj a=>bA.mp a;rw[<-this]
 congr 1
 exact bM λj _=>by simp
def Cy(I:List v9):Prop:=I.Pairwise (λp q=>p.2<q.1)/\∀p∈I,p.1<p.2
theorem Jc(n:Nat):ixN (n+1) (-1)=aa n:=by grind[ixN]
@[simp]def getI_last(ds:a9)(d:A0):wW (ds++[d]) (-1)=.ok d:=by simp[wW,atI,bB,gQ,Jc]
def vS(S I:List v9):Prop:=Cy S/\(∀t,Cov S t↔Cov I t)/\S.length<=I.length/\∀j∈S,∃d∈I,d.1=j.1
theorem vS.new{S I:List v9}{p:v9}(h:vS S I)(f:p.1<p.2)(U:∀x∈S,x.2<p.1):vS (S++[p]) (I++[p]):=by
 obtain⟨⟨h1,n⟩,l,o,k⟩:=h;refine⟨⟨?_,?_⟩,?_,a7,?_⟩
 .rw[bG];exact⟨h1,ad,λa i b Y=>by simp at Y;subst Y;exact U a i⟩
 .intro x c;rcases aZ.mp c with e|e
  .exact n x e
  .simp at e;subst e;exact f
 .intro t;rw[yt,yt,l]
 .intro j g;rcases aZ.mp g with e|e
  .obtain⟨d,m,z⟩:=k j e;exact⟨d,by simp[m],z⟩
  grind
theorem vS.more{S I:List v9}{q p:v9}(h:vS (S++[q]) I)(s:p.1<p.2)(h1:q.1<=p.1)(t:p.1<=q.2):vS (S++[(q.1,u0 p.2 q.2)]) (I++[p]):=by
 obtain⟨⟨U,r⟩,u,o,c⟩:=h;have k:p.2<=u0 p.2 q.2:=by unfold u0;split<;>lia
 have i:q.2<=u0 p.2 q.2:=by unfold u0;split<;>lia
 have g:u0 p.2 q.2=p.2\/u0 p.2 q.2=q.2:=by unfold u0;split<;>lia
 rw[bG]at U;refine⟨⟨?_,?_⟩,?_,by simp at o ⊢;lia,?_⟩
 .rw[bG];exact⟨U.1,ad,λa n b Y=>by simp at Y;subst Y;exact U.2.2 a n q ad⟩
 .intro x f;rcases aZ.mp f with e|e
  .exact r x (by simp[e])
  .simp at e;subst e;lia
 .grind[yt,cov_one]
 .intro j l;rcases aZ.mp l with e|e
  .obtain⟨d,m,z⟩:=c j (by simp[e]);exact⟨d,by simp[m],z⟩
  .simp at e;subst e;obtain⟨d,m,z⟩:=c q ad;exact⟨d,by simp[m],z⟩
theorem FK{g:df->M A4}{c:Option A0}{t:Int}(r:v9->A0)(b:∀p:v9,g [c,aa (.int t),aa (.int p.1),aa (.int p.2)]=if p.1<=t/\t<p.2 then .ok (.rt (r p))else .ok (.nx [c,aa (.int t),aa (.int p.1),aa (.int p.2)])):
  ∀(I:List v9) (U S:Option A0),(∃p∈I,(p.1<=t/\t<p.2)/\sk (.tp [2,3]) g (I.map stD) [c,aa (.int t),U,S]=.ok (.rt (r p)))\/(¬Cov I t/\∃a Y,sk (.tp [2,3]) g (I.map stD) [c,aa (.int t),U,S]=.ok (.nx [c,aa (.int t),a,Y]))
 |[],U,S=>.inr ⟨Nl t,U,S,rfl⟩|p::I,U,S=>by
  have i:rT (.tp [2,3]) (stD p) [c,aa (.int t),U,S]=.ok [c,aa (.int t),aa (.int p.1),aa (.int p.2)]:=by simp[stD]
  by_cases h:p.1<=t/\t<p.2
  .refine .inl ⟨p,ad,h,?_⟩;rw[aO,sk,i,dm,b,aC h];rfl
  .have e:sk (.tp [2,3]) g ((p::I).map stD) [c,aa (.int t),U,S]=sk (.tp [2,3]) g (I.map stD) [c,aa (.int t),aa (.int p.1),aa (.int p.2)]:=by
    rw[aO,sk,i,dm,b,aA h];rfl
   rcases FK r b I _ _ with⟨q,j,f,d⟩|⟨f,d⟩
   .exact .inl ⟨q,by simp[j],f,by rw[e];exact d⟩
   .refine .inr ⟨λz=>?_,by rw[e];exact d⟩;rcases Jx.mp z with z|z
    .exact h z
    .exact f z
theorem Cy.tri:∀{I:List v9},Cy I->∀p∈I,∀q∈I,p=q\/p.2<q.1\/q.2<p.1
 |[],_,p,S,_,_=>by simp_all|a::I,⟨h1,b⟩,p,S,q,Y=>by
  rw[cZ]at h1;rcases aM.mp S with e|e<;>rcases aM.mp Y with e2|e2
  .exact .inl (e.trans e2.symm)
  .subst e;exact .inr (.inl (h1.1 q e2))
  .subst e2;exact .inr (.inr (h1.1 p e))
  .exact Cy.tri ⟨h1.2,λx U=>b x (by simp[U])⟩ p e q e2
section
variable(CR CP:av)
theorem MD(n:Nat)(cs:List v9)(H:cs.length<64)(C:∀p∈cs,p.1<p.2):∃I:List v9,qJ [.lst (cs.map stD)]=.ok (.lst (I.map stD))/\Cy I/\(∀t,Cov I t↔Cov cs t)/\I.length<=cs.length:=by
 obtain⟨c,e,s,hw⟩:=Lz cs;have z:c.length=cs.length:=s.length_eq;have key:=tV (p:=.tp [2,3]) (g:=qp)
  (λk ρ=>∃I o l,ρ=[aa (.lst (cs.map stD)),aa (.lst (I.map stD)),o,l]/\vS I (c.take k)) (c.map stD) 0 [aa (.lst (cs.map stD)),aa (.lst []),af,af] ⟨[],af,af,rfl,⟨by simp[Cy],λt=>Iff.rfl,ad,ad⟩⟩ (by
  rintro i d ρ A ⟨I,o,l,rfl,S⟩;rw[aV]at A;obtain⟨p,b,rfl⟩:=ja.mp A;obtain⟨hi,D⟩:=aD.mp b;have r:c.take (0+i+1)=c.take (0+i)++[p]:=by rw[dB,pA,b];rfl
  have a:p.1<p.2:=C p (s.mem_iff.mp (bS b));have Y:∀j∈I,j.1<=p.1:=λj v=>by
   obtain⟨d,F,J⟩:=S.2.2.2 j v;obtain⟨m,G,E⟩:=List.mem_take_iff_getElem.mp F;have:=eB.mp hw m i ac hi ac
   lia
  have w:I.length<64:=by
   have:=S.2.2.1;rw[dc]at this
   lia
  refine⟨_,by rfl,?_⟩
  rw[r];rcases List.eq_nil_or_concat I with h|⟨U,q,h⟩
  .subst h;refine⟨_,.inl (by rfl),[p],aa (.int p.1),aa (.int p.2),by rfl,by simpa using S.new a ad⟩
  .rw[List.concat_eq_append]at h;subst h;by_cases y:p.1<=q.2
   .refine⟨_,.inl (by simp[qp,rm,stD,y,uT,tq,Jc];rfl),U++[(q.1,u0 p.2 q.2)],aa (.int p.1),aa (.int p.2),?_,S.more a (Y q ad) y⟩
    simp[stD]
   .have u:∀x∈U++[q],x.2<p.1:=λx B=>by
     rcases aZ.mp B with e|e
     .have h1:=(bG.mp S.1.1).2.2 x e q ad;grind
     simp_all
    simp at w;have f:U.length+1<16777216:=ac
    refine⟨_,.inl (by simp[qp,rm,stD,y,f];rfl),U++[q]++[p],aa (.int p.1),aa (.int p.2),by simp[stD],S.new a u⟩)
 obtain⟨ρ',e2,I,o,l,rfl,S⟩:=key;refine⟨I,?_,S.1,λt=>?_,?_⟩
 .simp[qJ,uH,e,e2]
 .rw[S.2.1 t,dB,az,kU];exact cov_perm s
 .have:=S.2.2.1;simp_all
theorem Ml(n:Nat)(cs:List v9)(t:Int)(d:cs.length<64)(a:∀p∈cs,p.1<p.2):∃u,sQ [.lst (cs.map stD),.int t]=.ok (.int u)/\sM cs t u:=by
 obtain⟨Y,e,f,I,_⟩:=MD n cs d a;rcases FK (g:=vR) (c:=aa (.lst (cs.map stD))) (t:=t) (λp=>.int p.2) (λp=>by by_cases h1:p.1<=t<;>by_cases S:t<p.2<;>simp[vR,xY,h1]) Y af af with⟨p,U,h,e2⟩|⟨h,j,i,e2⟩
 .refine⟨p.2,by simp[sQ,xt,e,e2],ac,λz=>?_,λv h1 S=>(I v).mp ⟨p,U,ac,S⟩⟩
  obtain⟨q,b,k⟩:=(I _).mpr z;rcases f.tri p U q b with e|e|e
  .lia
  .lia
  .lia
 .exact⟨t,by simp[sQ,xt,e,e2],iV _,λz=>h ((I t).mpr z),λv h1 S=>by lia⟩
end
def late(f:Fli)(t:Int):Int:=f.price*u0 0 (t-f.due)
section
variable(CR CP:av)
theorem late_ok(n:Nat)(f:Fli)(t:Int)(U:0<=f.price)(h1:f.price<=1000000000):vz [flD f,.int t]=.ok (.int (late f t)):=by
 have S: -18446744073709551616<f.price:=ac
 have I:f.price<18446744073709551616:=ac
 simp[vz,Aw,flD,S,I,late]
end
theorem okEs_in(n:Nat):∀ts:a8,vX (ts.map .int) (n+1)=ag
 |[]=>by rfl|p::cs=>by simp[vX,A8]
def FQ(ns:a8):eqM (.lst (ns.map .int)) (.lst [])=.ok (.bl ns.isEmpty):=by simp[A8,eqM,vX,eqD]
structure Gp where
 k:Nat
 rows:List a8
 two:Bool
 r2:List a8
variable{g:Gp}
structure Gp.Good(g:Gp):Prop where
 k1:1<=g.k
 k3:g.k<=3
 rows:wY g.k g.rows
 r2:wY g.k g.r2
def Gp.o(g:Gp):A0:=if g.two=ag then gr g.r2 else .non
noncomputable def Gp.s(g:Gp):Nat:=if g.two=ag then 2 else 1
def Gp.D(g:Gp):A0:=.lst (if g.two=ag then [gr g.rows,gr g.r2]else [gr g.rows])
noncomputable def tupI(r:a8):A0:=.tup (r.map .int)
def tk(L:List a8):A0:=.tup (L.map tupI)
def hC(c:Int)(L:List a8):A0:=.tup [.int c,tk L]
def wM(s k:Nat)(L:List a8):Prop:=L.length=s/\∀r∈L,r.length=k
noncomputable def zQ(I:Nat->Int):Nat->a8->a8
 |_,[]=>[]|j,x::xs=>if x= -1 then zQ I (j+1) xs else(x+I j)::zQ I (j+1) xs
def z9(I:Nat->Nat->Int):Nat->List a8->a8
 |_,[]=>[]|i,r::L=>zQ (I i) 0 r++z9 I (i+1) L
theorem D2(I:Nat->Int):∀(j:Nat) (xs:a8),(zQ I j xs).length<=xs.length
 |_,[]=>by simp[zQ]|j,x::xs=>by have:=D2 I (j+1) xs;grind[zQ]
theorem ES(I:Nat->Int):∀(j:Nat) (xs:a8) (x:Int),zQ I j (xs++[x])=zQ I j xs++(if x= -1 then []else [x+I (j+xs.length)])
 |j,[],x=>by rfl|j,y::xs,x=>by have:=ES I (j+1) xs x;rw[oC,zQ,this,zQ,show j+1+xs.length=j+(xs.length+1) by lia];by_cases S:y= -1<;>simp[S]
theorem Gx(I:Nat->Nat->Int):∀(i:Nat) (L:List a8) (r:a8),z9 I i (L++[r])=z9 I i L++zQ (I (i+L.length)) 0 r
 |i,[],r=>by simp[z9]|i,y::L,r=>by have:=Gx I (i+1) L r;rw[oC,z9,this,z9,aW,show i+1+L.length=i+(L.length+1) by lia,bJ]
theorem JD(I:Nat->Nat->Int)(k:Nat):∀(i:Nat) (L:List a8),(∀r∈L,r.length=k)->(z9 I i L).length<=k*L.length
 |i,[],_=>by simp[z9]|i,y::L,h=>by
  have h1:=JD I k (i+1) L λr S=>h r (by simp[S]);have Y:=D2 (I i) 0 y;have U:=h y ad;rw[z9,bB,aW,Nat.mul_succ]
  lia
section
variable(CR CP:av)
def gmeth(n:Nat)(f:CR≠CP)(Y:g.Good){s b:Int}(d:0<=a)(c:a<g.k)(q:0<=b)(p:b<g.k)(e:g.two=ae->s=t)(fo f1 f2:df->M A0)(ρ:df)(v:fo ρ=.ok (ey CR CP g.rows g.o))(h1:f1 ρ=.ok (.tup [.int a,.int s]))(k:f2 ρ=.ok (.tup [.int b,.int t])):
  tu CR CP "apart" (tR CR CP n) (tj CR CP n) fo (b6 f1 (b6 f2 ej)) ρ=.ok (.int (apS g.rows g.r2 (a,s) (b,t))):=by
 obtain⟨m,_⟩:=wA Y.rows d c;obtain⟨l,_⟩:=getA Y.rows d c q p;unfold tu;rw[v,dm];cases h:g.two with
 |false=>
  have S:g.o=.non:=by simp[Gp.o,h]
  have U:=e h;have j:isC CR "apart" (ey CR CP g.rows g.o)=ag:=by rw[S];show((CR==CR)&&(cg ("apart":br) [("gaps",gr g.rows)]).isNone)=ag;rw[lookA1];simp
  have I:=DJ CR CP g.rows g.o (.inl S);rw[aC j];simp[h1,k,tR,xS,I,gr,m,x3,l,apS,U]
 |true=>
  have S:g.o=gr g.r2:=by simp[Gp.o,h]
  have j:isC CR "apart" (ey CR CP g.rows g.o)=ae:=by
   rw[S];show((CP==CR)&&(cg ("apart":br) [("gaps",gr g.rows),("beside",gr g.r2)]).isNone)=ae;have:(CP==CR)=ae:=by simp;exact λz=>f z.symm
   rw[this];rfl
  have i:isC CP "apart" (ey CR CP g.rows g.o)=ag:=by rw[S];show((CP==CP)&&(cg ("apart":br) [("gaps",gr g.rows),("beside",gr g.r2)]).isNone)=ag;rw[lookA2];simp
  have I:=DJ CR CP g.rows g.o (.inr ⟨_,S⟩);have o:BH [CP] "beside" (ey CR CP g.rows g.o)=.ok (gr g.r2):=by rw[S];exact NB CR CP g.rows g.r2
  obtain⟨u,_⟩:=wA Y.r2 d c;obtain⟨r,_⟩:=getA Y.r2 d c q p;rw[aA (by rw[j];simp),aC i];by_cases U:s=t
  .simp[h1,k,tj,wI,I,o,gr,m,x3,l,apS,U]
  .simp[h1,k,tj,wI,I,o,gr,u,x3,r,apS,U]
theorem Ms(n:Nat)(Y:CR≠CP){g:Gp}(l:g.Good)(b t:Int)(o:0<=b)(m:b<g.k)(I c:Option A0)(i:Nat)(U:g.two=ae->(i:Int)=t):∀(S:a8) (j:Nat) (ts:a8) (h f:Option A0),j+S.length<=g.k->ts.length+S.length<=1000 ->
  ∃e d,sk (.tp [6,7]) (qN CR CP n) (ue j (S.map .int)) [aa (ey CR CP g.rows g.o),I,aa (.tup [.int b,.int t]),aa (.lst (ts.map .int)),aa (.int i),c,h,f]=.ok (.nx [aa (ey CR CP g.rows g.o),I,aa (.tup [.int b,.int t]),aa (.lst ((ts++zQ (λj=>apS g.rows g.r2 (j,i) (b,t)) j S).map .int)),aa (.int i),c,e,d])
 |[],j,ts,h,f,_,_=>⟨h,f,by simp[ue,sk,zQ]⟩|x::S,j,ts,h,f,s,r=>by
  simp at s r;by_cases k:x= -1
  .obtain⟨e,d,p⟩:=Ms n Y l b t o m I c i U S (j+1) ts (aa (.int j)) (aa (.int x)) ac ac;refine⟨e,d,?_⟩
   rw[aO,ue,sk];simp only[zQ,aC k];rw[<-p];simp[qN,sv,k]
  .obtain⟨e,d,p⟩:=Ms n Y l b t o m I c i U S (j+1) (ts++[x+apS g.rows g.r2 (j,i) (b,t)]) (aa (.int j)) (aa (.int x)) ac (by simp;lia);refine⟨e,d,?_⟩
   have u:=gmeth CR CP n Y l (a:=j) ac ac o m U (de 0) (fL rH (b6 (de 6) (b6 (de 4) ej))) (de 2) (erase [3] [aa (ey CR CP g.rows g.o),I,aa (.tup [.int b,.int t]),aa (.lst (ts.map .int)),aa (.int i),c,aa (.int j),aa (.int x)]) (by rfl) (by rfl) (by rfl);have q:ts.length<16777216:=ac
   rw[aO,ue,sk];simp only[zQ,aA k];simp_all[bJ,List.singleton_append,erase,wZ,f2,qN,sv,dm]
end
section
variable(CR CP:av)
theorem lg_all(n:Nat)(c:CR≠CP){g:Gp}(o:g.Good)(b t:Int)(q:0<=b)(p:b<g.k)(C:0<=t/\t<g.s)(I:Option A0):∀(L:List a8) (i:Nat) (ts:a8) (a Y U S:Option A0),i+L.length<=g.s->(∀r∈L,r.length=g.k)->ts.length+g.k*L.length<=1000 ->
  ∃u s e d,sk (.tp [4,5]) (qL CR CP n) (ue i (L.map tupI)) [aa (ey CR CP g.rows g.o),I,aa (.tup [.int b,.int t]),aa (.lst (ts.map .int)),a,Y,U,S]=.ok (.nx [aa (ey CR CP g.rows g.o),I,aa (.tup [.int b,.int t]),aa (.lst ((ts++z9 (λi j=>apS g.rows g.r2 (j,i) (b,t)) i L).map .int)),u,s,e,d])
 |[],i,ts,a,Y,U,S,_,_,_=>⟨a,Y,U,S,by simp[ue,sk,z9]⟩|r::L,i,ts,a,Y,U,S,hi,l,E=>by
  have D:=l r ad;simp at hi E;have f:g.two=ae->i=t:=λh=>by
   have G:g.s=1:=by simp[Gp.s,h]
   lia
  obtain⟨e,d,e1⟩:=Ms CR CP n c o b t q p I _ i f r 0 ts U S ac ac;have m:=D2 (λj=>apS g.rows g.r2 (j,i) (b,t)) 0 r;obtain⟨z,y,w,v,A⟩:=lg_all n c o b t q p C I L (i+1) (ts++zQ (λj=>apS g.rows g.r2 (j,i) (b,t)) 0 r) _ _ e d ac (λx B=>l x (by simp[B])) a0;refine⟨z,y,w,v,?_⟩
  rw[z9,<-bJ,<-A,aO,ue,sk];have F:rT (.tp [4,5]) (.tup [.int i,tupI r]) [aa (ey CR CP g.rows g.o),I,aa (.tup [.int b,.int t]),aa (.lst (ts.map .int)),a,Y,U,S]=.ok [aa (ey CR CP g.rows g.o),I,aa (.tup [.int b,.int t]),aa (.lst (ts.map .int)),aa (.int i),aa (tupI r),U,S]:=by simp
  have k:qL CR CP n [aa (ey CR CP g.rows g.o),I,aa (.tup [.int b,.int t]),aa (.lst (ts.map .int)),aa (.int i),aa (tupI r),U,S]=.ok (.nx [aa (ey CR CP g.rows g.o),I,aa (.tup [.int b,.int t]),aa (.lst ((ts++zQ (λj=>apS g.rows g.r2 (j,i) (b,t)) 0 r).map .int)),aa (.int i),aa (tupI r),e,d]):=by rw[<-e1];simp[qL,tupI]
  rw[F,dm,k];rfl
theorem lg_ok(n:Nat)(I:CR≠CP)(S:g.Good)(b t:Int)(c:0<=b)(a:b<g.k)(Y:0<=t/\t<g.s)(U:wM g.s g.k L):rC CR CP n [ey CR CP g.rows g.o,tk L,.tup [.int b,.int t]]=.ok (.lst ((z9 (λi j=>apS g.rows g.r2 (j,i) (b,t)) 0 L).map .int)):=by
 have l:g.s<=2:=by unfold Gp.s;split<;>lia
 have m:=U.1;have o:g.k*L.length<=3*2:=dC S.k3 ac;obtain⟨k,h,f,d,e⟩:=lg_all CR CP n I S b t c a Y (aa (tk L)) L 0 [] af af af af ac U.2 (by simp;lia);rw[mO]at e;simp[tk]at e ⊢;simp[rC,w4,e]
end
noncomputable def Bv(L:List a8)(i:Nat):a8:=L.getD i []
theorem vD{s:Nat}(h:wM s k L)(hi:i<s):Bv L i∈L/\(Bv L i).length=k/\wW (L.map tupI) (i:Int)=.ok (tupI (Bv L i))/\L.take (i+1)=L.take i++[Bv L i]:=by
 have I:i<L.length:=by rw[h.1];exact hi
 have e:Bv L i=L[i]:=by simp[Bv,I]
 have m:Bv L i∈L:=by rw[e];exact dh I
 refine⟨m,h.2 _ m,?_,?_⟩
 .simp_all[xO]
 simp_all
def JT(h:j<r.length):r.take (j+1)=r.take j++[tAt r j]:=by simp[tAt,h]
theorem xT:∀(xs:a8) (x:Int),xs.foldl u0 x=x\/xs.foldl u0 x∈xs
 |[],x=>.inl rfl|y::xs,x=>by
  rw[bD];have I:u0 x y=x\/u0 x y=y:=by unfold u0;split<;>lia
  rcases xT xs _ with h|h
  .rcases I with z|z
   .exact .inl (h.trans z)
   .exact .inr (by rw[h,z];simp)
  simp_all
noncomputable def cnt(cs:List v9)(t:Int):Nat:=cs.countP λp=>aF (t<p.2)
theorem cnt_mono(h:t<=u):cnt cs u<=cnt cs t:=by exact List.countP_mono_left λp _ I=>by lia
theorem cnt_lt:∀{cs:List v9} {p:v9} {t:Int},p∈cs->t<p.2->cnt cs p.2<cnt cs t
 |[],p,t,S,_=>by simp_all|a::cs,p,t,S,I=>by
  have b:=cnt_mono (cs:=cs) (t:=t) (u:=p.2) ac;unfold cnt at *;rcases aM.mp S with e|e
  .subst e;simp[I]
   lia
  .have U:=cnt_lt e I;unfold cnt at U;by_cases h1:p.2<a.2
   .have:t<a.2:=ac
    simp[h1,this];lia
   .by_cases Y:t<a.2<;>simp[h1,Y]<;>lia
noncomputable def JV(cs:List v9)(t:Int):a8:=(cs.filter λp=>aF (p.1<=t)&&aF (t<p.2)).map (·.2)
theorem Co(t:Int):∀cs:List v9,gj (.tp [0,1]) (fB (uL leD ltD (de 0) (de 2) (de 1))) (de 1) [af,af,aa (.int t)] (cs.map stD)=.ok ((JV cs t).map .int)
 |[]=>rfl|p::cs=>by have I:=Co t cs;rw[aO,gj];unfold JV at I ⊢;by_cases h1:p.1<=t<;>by_cases S:t<p.2<;>simp[stD,h1,S,I]
def Cp(L:List a8)(U:∀r∈L,r.length<=1000):gj (.nm 0) x6 (fL vC (b6 (de 0) ej)) [af] (L.map tupI)=.ok (L.map x3):=by
 have h:=rA (p:=.nm 0) (fe:=fL vC (b6 (de 0) ej)) (ρ0:=[af]) (λd=>match d with|.tup ds=>.lst ds|d=>d) (L.map tupI) (λd I=>by obtain⟨r,S,rfl⟩:=bp.mp I;simp[tupI])
 rw[h,aR];rfl
def Gg(L:List a8)(U:∀r∈L,r.length<=1000):gj (.nm 0) x6 (fL u6 (b6 (de 0) ej)) [af] (L.map x3)=.ok (L.map tupI):=by
 have h:=rA (p:=.nm 0) (fe:=fL u6 (b6 (de 0) ej)) (ρ0:=[af]) (λd=>match d with|.lst ds=>.tup ds|d=>d) (L.map x3) (λd I=>by obtain⟨r,S,rfl⟩:=bp.mp I;simp[x3])
 rw[h,aR];rfl
def putL(L:List a8)(i j:Nat)(x:Int):List a8:=L.set i ((Bv L i).set j x)
def zU{s:Nat}(h:wM s k L)(hi:i<s)(x:Int):wM s k (putL L i j x):=by
 refine⟨by unfold putL;rw[aL];exact h.1,λr I=>?_⟩
 rcases iI I with z|z
 .exact h.2 r z
 .rw[z,aL];exact(vD h hi).2.1
theorem ixN_nat(h:i<n):ixN n (i:Int)=aa i:=by simp_all[ixN,aC]
theorem xC{s:Nat}(I:wM s k L)(hi:i<s)(Y:j<k)(x:Int):rowAt (L.map x3) (i:Int)=.ok (i,(Bv L i).map .int)/\BR (L.map x3) (i,(Bv L i).map .int) (j:Int) (.int x)=.ok ((putL L i j x).map x3):=by
 have S:i<L.length:=by rw[I.1];exact hi
 have e:Bv L i=L[i]:=by simp[Bv,S]
 have U:=(vD I hi).2.1;simp_all[rowAt,az,ixN_nat,x3,BR,putL]
def JS(g:Gp)(L:List a8)(f:Fli)(s:Nat):Int:=(z9 (λi j=>apS g.rows g.r2 (j,i) (f.kind,s)) 0 L).foldl u0 f.first
def after(g:Gp)(c:Int)(L:List a8)(f:Fli)(s:Nat)(u:Int):A0:=if f.last<u then .non else hC (c+late f u) (putL L s f.kind.toNat u)
def wM.short{s:Nat}(h:wM s k L)(S:k<=1000):∀r∈L,r.length<=1000:=λr I=>by rw[h.2 r I];exact S
section
variable(CR CP:av)
theorem lasts_ok(n:Nat){s:Nat}(I:wM s k L)(b:s<=10)(c:k<=10)(hi:i<s)(a:j<k)(x:Int):uC [tk L,.tup [.int j,.int i],.int x]=.ok (tk (putL L i j x)):=by
 have S:=zU (j:=j) I hi x;obtain⟨e1,e2⟩:=xC I hi a x;have Y:L.length<=16777216:=by have:=I.1;lia
 have U:(putL L i j x).length<=16777216:=by have:=S.1;lia
 simp[tk];simp[uC,yF,CZ,K3,GX,D1,lstOf,(Cp L (I.short ac)),Y,e1,e2,(Gg (putL L i j x) (S.short ac)),U]
theorem NC(n:Nat)(d:CR≠CP)(r:g.Good)(J:cs.length<=20)(k:∀p∈cs,p.1<p.2){fl:List Fli}(h:∀f∈fl,B6 g.k f)(c:Int)(a:wM g.s g.k L){q s:Nat}(K:q<fl.length)(F:s<g.s)(D:sM cs (JS g L (w5 fl q) s) u):
  qG CR CP n [ey CR CP g.rows g.o,.lst (fl.map flD),.lst (cs.map stD),hC c L,.int q,.int s]=.ok (after g c L (w5 fl q) s u):=by
 obtain⟨o,G⟩:=getFl (fl:=fl) (i:=q) ac ac;have S:=h _ G;have B:=r.k3;have E:g.s<=2:=by unfold Gp.s;split<;>lia
 have m:=lg_ok CR CP n d r (w5 fl q).kind s S.k0 S.k1 ⟨ac,ac⟩ a;have l:=JD (λi j=>apS g.rows g.r2 (j,i) ((w5 fl q).kind,s)) g.k 0 L a.2;have H:g.k*L.length<=3*2:=dC B (by have:=a.1;lia);obtain⟨v,ev,C⟩:=Ml n cs (JS g L (w5 fl q) s) ac k;have b:=C.uniq D;subst b;have y:=late_ok n (w5 fl q) v S.p0 S.p1;obtain⟨Y,U⟩:∃Y:Nat,(w5 fl q).kind=Y:=⟨(w5 fl q).kind.toNat,by have:=S.k0;lia⟩
 have x:=lasts_ok n a ac ac F (j:=Y) (by have:=S.k1;lia) v;rw[<-U]at x;have e:(w5 fl q).kind.toNat=Y:=ac
 unfold JS at ev;generalize t:z9 (λi j=>apS g.rows g.r2 (j,i) ((w5 fl q).kind,s)) 0 L=A at m l ev;have z:maxD [.lst (.int (w5 fl q).first::A.map .int)]=.ok (.int (A.foldl u0 (w5 fl q).first)):=by show(o4 (((w5 fl q).first::A).map .int)).bind maxL=_;rw[sf,dm,maxL]
 have w:1+A.length<=16777216:=ac
 unfold after;simp only[flD]at o y;by_cases I:(w5 fl q).last<v
 .simp[qG,uR,tJ,o,hC,m,vr,w,z,ev,I,-e_maxL]
 .rw[aA I,e];simp[qG,uR,tJ,o,hC,m,vr,w,z,ev,I,y,x,-e_maxL]
end
def labP(p:Int×List a8):A0:=hC p.1 p.2
noncomputable def leR:a8->a8->Bool
 |x::xs,y::ys=>aF (x<=y)&&leR xs ys|_,_=>ag
def leL:List a8->List a8->Bool
 |r::L,t::M=>leR r t&&leL L M|_,_=>ag
def geR(r:a8):Prop:=∀x∈r,-1<=x
def geL(L:List a8):Prop:=∀r∈L,geR r
def nw(p q:Int×List a8):Bool:=aF (p.1<=q.1)&&leL p.2 q.2
structure Lab(g:Gp)(p:Int×List a8):Prop where
 good:wM g.s g.k p.2
 ge:geL p.2
theorem J2:∀r:a8,leR r r=ag
 |[]=>rfl|x::r=>by simp[leR,J2 r]
theorem J3:∀L:List a8,leL L L=ag
 |[]=>rfl|r::L=>by simp[leL,J2 r,J3 L]
def Hi(p:Int×List a8):nw p p=ag:=by simp[nw,J3]
theorem Fq:∀{a b c:a8},a.length=b.length->b.length=c.length->leR a b=ag->leR b c=ag->leR a c=ag
 |[],_,_,_,_,_,_=>by rfl|x::a,[],_,h,_,_,_=>by simp at h|x::a,y::b,[],_,h,_,_=>by rfl|x::a,y::b,z::c,h1,U,S,I=>by simp[leR]at S I ⊢;exact⟨ac,Fq (by simpa using h1) (by simpa using U) S.2 I.2⟩
theorem Fs{k:Nat}:∀{a b c:List a8},a.length=b.length->b.length=c.length->(∀r∈a,r.length=k)->(∀r∈b,r.length=k)->(∀r∈c,r.length=k)->leL a b=ag->leL b c=ag->leL a c=ag
 |[],_,_,_,_,_,_,_,_,_=>by rfl|x::a,[],_,h,_,_,_,_,_,_=>by simp at h|x::a,y::b,[],_,h,_,_,_,_,_=>by rfl|x::a,y::b,z::c,h1,e,d,k2,Y,U,S=>by simp[leL]at U S ⊢;have e1:=d x ad;have e2:=k2 y ad;have e3:=Y z ad;exact⟨Fq ac ac U.1 S.1,Fs (by simpa using h1) (by simpa using e) (λr I=>d r (by simp[I])) (λr I=>k2 r (by simp[I])) (λr I=>Y r (by simp[I])) U.2 S.2⟩
theorem Dr{r:Int×List a8}(U:Lab g p)(I:Lab g q)(S:Lab g r)(h1:nw p q=ag)(Y:nw q r=ag):nw p r=ag:=by simp[nw]at h1 Y ⊢;exact⟨ac,Fs (by rw[U.good.1,I.good.1]) (by rw[I.good.1,S.good.1]) U.good.2 I.good.2 S.good.2 h1.2 Y.2⟩
theorem Fm{b d:Int}(h1:a<=b)(I:c<=d):u0 a c<=u0 b d:=by grind[u0]
theorem Iy(c:Nat->Int):∀(a b:a8) (j:Nat) (x y:Int),a.length=b.length->geR a->leR a b=ag->x<=y->(zQ c j a).foldl u0 x<=(zQ c j b).foldl u0 y
 |[],[],j,x,y,_,_,_,h=>by simp_all[zQ]|[],_::_,_,_,_,h,_,_,_=>by simp at h|_::_,[],_,_,_,h,_,_,_=>by simp at h|u::a,v::b,j,x,y,g,d,I,h=>by
  simp[leR]at I;have i:=d u ad;have Y:=Iy c a b (j+1);have S:=by simpa using g
  have U:geR a:=λz f=>d z (by simp[f]);unfold zQ;by_cases h1:u= -1
  .rw[aC h1];by_cases e:v= -1
   .rw[aC e];exact Y x y S U I.2 h
   .rw[aA e];refine Y x _ S U I.2 (cY h ?_);unfold u0;split<;>lia
  .rw[aA h1,aA ac,];exact Y _ _ S U I.2 (Fm h ac)
theorem JC(U:Nat->Nat->Int){k:Nat}:∀(a b:List a8) (i:Nat) (x y:Int),a.length=b.length->(∀r∈a,r.length=k)->(∀r∈b,r.length=k)->geL a->leL a b=ag->x<=y->(z9 U i a).foldl u0 x<=(z9 U i b).foldl u0 y
 |[],[],i,x,y,_,_,_,_,_,h=>by simp_all[z9]|[],_::_,_,_,_,h,_,_,_,_,_=>by simp at h|_::_,[],_,_,_,h,_,_,_,_,_=>by simp at h|u::a,v::b,i,x,y,d,Y,k2,c,I,h=>by simp[leL]at I;rw[z9,z9,kz,kz];exact JC U a b _ _ _ (by simpa using d) (λr S=>Y r (by simp[S])) (λr S=>k2 r (by simp[S])) (λr S=>c r (by simp[S])) I.2 (Iy (U i) u v 0 x y (by rw[Y u ad,k2 v ad]) (c u ad) I.1 h)
theorem sM.mono{b v:Int}(h:a<=b)(S:sM cs a u)(I:sM cs b v):u<=v:=by
 refine kY λz=>I.2.1 (S.2.2 v ?_ ac);have:=I.1
 lia
theorem Mv:∀(a b:a8) (j:Nat) (x y:Int),a.length=b.length->leR a b=ag->x<=y->leR (a.set j x) (b.set j y)=ag
 |[],[],_,_,_,_,_,_=>rfl|[],_::_,_,_,_,h,_,_=>by rfl|_::_,[],_,_,_,h,_,_=>by simp at h|u::a,v::b,0,x,y,_,h,I=>by simp_all[leR]|u::a,v::b,j+1,x,y,S,h,I=>by simp[leR]at h ⊢;exact⟨h.1,Mv a b j x y (by simpa using S) h.2 I⟩
theorem Mx:∀(a b:List a8) (i:Nat) (r t:a8),a.length=b.length->leL a b=ag->leR r t=ag->leL (a.set i r) (b.set i t)=ag
 |[],[],_,_,_,_,_,_=>rfl|[],_::_,_,_,_,h,_,_=>by rfl|_::_,[],_,_,_,h,_,_=>by simp at h|u::a,v::b,0,x,y,_,h,I=>by simp_all[leL]|u::a,v::b,j+1,x,y,S,h,I=>by simp[leL]at h ⊢;exact⟨h.1,Mx a b j x y (by simpa using S) h.2 I⟩
theorem My:∀(a b:List a8) (i:Nat),a.length=b.length->leL a b=ag->leR (Bv a i) (Bv b i)=ag
 |[],[],_,_,_=>by rfl|[],_::_,_,h,_=>by rfl|_::_,[],_,h,_=>by simp at h|u::a,v::b,0,_,h=>by simp[leL]at h;simpa[Bv] using h.1|u::a,v::b,i+1,I,h=>by simp[leL]at h;have:=My a b i (by simpa using I) h.2;simp_all[Bv]
theorem Mz(f:Fli)(h:t<=u)(I:0<=f.price):late f t<=late f u:=by exact Int.mul_le_mul_of_nonneg_left (Fm (iV _) ac) I
theorem KP(U:Lab g p)(Y:Lab g q)(h:nw p q=ag)(f:Fli)(d:B6 g.k f){s:Nat}(a:s<g.s){v:Int}(c:sM cs (JS g p.2 f s) u)(b:sM cs (JS g q.2 f s) v)(e:¬f.last<v):
  ¬f.last<u/\nw (p.1+late f u,putL p.2 s f.kind.toNat u) (q.1+late f v,putL q.2 s f.kind.toNat v)=ag:=by
 simp[nw]at h;have I:p.2.length=q.2.length:=by rw[U.good.1,Y.good.1]
 have S:=c.mono (JC _ p.2 q.2 0 f.first f.first I U.good.2 Y.good.2 U.ge h.2 (iV _)) b;have i:=Mz f S d.p0;refine⟨ac,?_⟩
 simp[nw,aU,eA];refine⟨ac,?_⟩
 refine Mx _ _ _ _ _ I h.2 (Mv _ _ _ _ _ ?_ (My _ _ _ I h.2) S);rw[(vD U.good a).2.1,(vD Y.good a).2.1]
section
variable(CR CP:av)
theorem nw_row(n:Nat)(d c b a:Option A0):∀(r t:a8) (S I:Option A0),∃Y U,sk (.tp [4,5]) (sD) (Ef (r.map .int) (t.map .int)) [d,c,b,a,S,I]=if leR r t=ag then .ok (.nx [d,c,b,a,Y,U])else .ok (.rt (.bl ae))
 |[],t,S,I=>⟨S,I,by rfl⟩|x::r,[],S,I=>⟨S,I,by rfl⟩|x::r,y::t,S,I=>by
  obtain⟨Y,U,e⟩:=nw_row n d c b a r t (aa (.int x)) (aa (.int y));refine⟨Y,U,?_⟩
  rw[aO,aO,Ef,sk];by_cases h:x<=y
  .have h':¬y<x:=ac
   simp[leR,h,decide_true,pM];rw[<-e];simp[sD,uh,h']
  .have h':y<x:=ac
   simp[leR,h,sD,uh,h']
theorem Mi(n:Nat)(Y U:Option A0):∀(L M:List a8) (b a S I:Option A0),∃f e d c,sk (.tp [2,3]) (sC) (Ef (L.map tupI) (M.map tupI)) [Y,U,b,a,S,I]=if leL L M=ag then .ok (.nx [Y,U,f,e,d,c])else .ok (.rt (.bl ae))
 |[],t,b,a,S,I=>⟨b,a,S,I,by rfl⟩|x::r,[],b,a,S,I=>⟨b,a,S,I,by rfl⟩|r::L,t::M,b,a,S,I=>by
  obtain⟨i,g,m⟩:=nw_row n Y U _ _ r t S I;obtain⟨f,e,d,c,j⟩:=Mi n Y U L M _ _ i g;refine⟨f,e,d,c,?_⟩
  rw[aO,aO,Ef,sk];have l:rT (.tp [2,3]) (.tup [tupI r,tupI t]) [Y,U,b,a,S,I]=.ok [Y,U,aa (tupI r),aa (tupI t),S,I]:=by simp
  have k:sC [Y,U,aa (tupI r),aa (tupI t),S,I]=if leR r t=ag then .ok (.nx [Y,U,aa (tupI r),aa (tupI t),i,g])else .ok (.rt (.bl ae)):=by rw[<-m];simp[sC,tupI]
  rw[l,dm,k];by_cases h:leR r t=ag
  .simp[leL,h,];exact j
  simp_all[leL]
theorem nw_ok(n:Nat)(p q:Int×List a8):qC [labP p,labP q]=.ok (.bl (nw p q)):=by
 obtain⟨a,Y,U,S,e⟩:=Mi n (aa (labP p)) (aa (labP q)) p.2 q.2 af af af af;simp[labP,hC,tk]at e ⊢;by_cases h:p.1<=q.1
 .have h':¬q.1<p.1:=ac
  by_cases I:leL p.2 q.2=ag
  .simp[qC,tU,sA,h',e,nw,h,I]
  .simp[qC,tU,sA,h',e,nw,I]
 .have h':q.1<p.1:=ac
  simp[qC,tU,sA,h',nw,h]
end
theorem Mw:∀{a b:a8},a.length=b.length->(leR a b=ag↔∀j,j<a.length->tAt a j<=tAt b j)
 |[],[],_=>by simp[leR]|[],_::_,h=>by simp at h|_::_,[],h=>by simp at h|u::a,v::b,h=>by
  have U:=Mw (a:=a) (b:=b) (by simpa using h);simp only[leR,aU,eA,U];constructor
  .rintro⟨h1,I⟩ j S;cases j with
   |zero=>simpa[tAt] using h1|succ j=>simpa[tAt] using I j (by simpa using S)
  .intro I;refine⟨by simpa[tAt] using I 0 ad,λj S=>?_⟩
   simpa[tAt] using I (j+1) (by simpa using S)
def lookM1(d:A0):cg ("many_strips":br) [(("gaps":br),d)]=af:=by rfl
def lookM2(d e:A0):cg ("many_strips":br) [(("gaps":br),d),(("beside":br),e)]=af:=by rfl
section
variable(CR CP:av)
def Ht(n:Nat)(S:CR≠CP)(fo:df->M A0)(ρ:df)(a:fo ρ=.ok (ey CR CP g.rows g.o)):tu CR CP "many_strips" (js) (lp) fo ej ρ=.ok (.int g.s):=by
 unfold tu;rw[a,dm];cases h:g.two with
 |false=>
  have I:g.o=.non:=by simp[Gp.o,h]
  have Y:isC CR "many_strips" (ey CR CP g.rows g.o)=ag:=by rw[I];show((CR==CR)&&(cg ("many_strips":br) [("gaps",gr g.rows)]).isNone)=ag;rw[lookM1];simp
  rw[aC Y];simp[js,ud,Gp.s,h]
 |true=>
  have I:g.o=gr g.r2:=by simp[Gp.o,h]
  have Y:isC CR "many_strips" (ey CR CP g.rows g.o)=ae:=by
   rw[I];show((CP==CR)&&(cg ("many_strips":br) [("gaps",gr g.rows),("beside",gr g.r2)]).isNone)=ae;have:(CP==CR)=ae:=by simp;exact λz=>S z.symm
   rw[this];rfl
  have U:isC CP "many_strips" (ey CR CP g.rows g.o)=ag:=by rw[I];show((CP==CP)&&(cg ("many_strips":br) [("gaps",gr g.rows),("beside",gr g.r2)]).isNone)=ag;rw[lookM2];simp
  rw[aA (by rw[Y];simp),aC U];simp[lp,uJ,Gp.s,h]
end
def lookK1(d:A0):cg ("many_kinds":br) [(("gaps":br),d)]=af:=by rfl
def lookK2(d e:A0):cg ("many_kinds":br) [(("gaps":br),d),(("beside":br),e)]=af:=by rfl
section
variable(CR CP:av)
def gkinds(n:Nat)(U:CR≠CP)(b:g.Good)(fo:df->M A0)(ρ:df)(c:fo ρ=.ok (ey CR CP g.rows g.o)):tu CR CP "many_kinds" (hH CR CP n) (hH CR CP n) fo ej ρ=.ok (.int g.k):=by
 have S:=b.rows.1;unfold tu;rw[c,dm];cases h:g.two with
 |false=>
  have I:g.o=.non:=by simp[Gp.o,h]
  have a:isC CR "many_kinds" (ey CR CP g.rows g.o)=ag:=by rw[I];show((CR==CR)&&(cg ("many_kinds":br) [("gaps",gr g.rows)]).isNone)=ag;rw[lookK1];simp
  rw[aC a];simp[hH,sj,(DJ CR CP g.rows g.o (.inl I)),gr,S]
 |true=>
  have I:g.o=gr g.r2:=by simp[Gp.o,h]
  have a:isC CR "many_kinds" (ey CR CP g.rows g.o)=ae:=by
   rw[I];show((CP==CR)&&(cg ("many_kinds":br) [("gaps",gr g.rows),("beside",gr g.r2)]).isNone)=ae;have:(CP==CR)=ae:=by simp;exact λz=>U z.symm
   rw[this];rfl
  have Y:isC CP "many_kinds" (ey CR CP g.rows g.o)=ag:=by rw[I];show((CP==CP)&&(cg ("many_kinds":br) [("gaps",gr g.rows),("beside",gr g.r2)]).isNone)=ag;rw[lookK2];simp
  rw[aC Y];simp[hH,sj,(DJ CR CP g.rows g.o (.inr ⟨_,I⟩)),gr,S]
def L0(g:Gp):List a8:=aK g.s (aK g.k (-1))
def L0_good(g:Gp):wM g.s g.k (L0 g):=⟨by simp[L0],λr I=>by rw[mv I];simp⟩
theorem MY(n:Nat)(U:CR≠CP)(a:g.Good):vA CR CP n [ey CR CP g.rows g.o]=.ok (hC 0 (L0 g)):=by
 have s:=a.k3;have l:g.s<=2:=by unfold Gp.s;split<;>lia
 have ek:=gkinds CR CP n U a (de 0) [aa (ey CR CP g.rows g.o),af] ad;have es:=Ht CR CP n U (g:=g) (de 0) [aa (ey CR CP g.rows g.o),aa (tupI (aK g.k (-1)))] ad;have i: -4611686018427387904<=(g.k:Int):=ac
 have k2:(g.k:Int)<4611686018427387904:=ac
 have k: -4611686018427387904<=(g.s:Int):=ac
 have j:(g.s:Int)<4611686018427387904:=ac
 have b:gj (.nm 0) x6 (f1 IT (fC (.int 1))) [af] (eM 0 g.k)=.ok ((aK g.k (-1)).map A0.int):=by have:=rA (p:=.nm 0) (fe:=f1 IT (fC (.int 1))) (ρ0:=[af]) (λ_=>.int (-1)) (eM 0 g.k) (λd _=>⟨[aa d],ad,ad⟩);rw[this,lz,qq,j_]
 have q:∀d:A0,gj (.nm 0) x6 (de 1) [af,aa d] (eM 0 g.s)=.ok (aK g.s d):=λd=>by have:=rA (p:=.nm 0) (fe:=de 1) (ρ0:=[af,aa d]) (λ_=>d) (eM 0 g.s) (λe _=>⟨[aa e,aa d],ad,ad⟩);rw[this,lz,qq]
 have h:(eM 0 g.k).length<=16777216:=by rw[qq];lia
 have f:(eM 0 g.s).length<=16777216:=by rw[qq];lia
 have r:g.k<=16777216:=ac
 have c:g.s<=16777216:=ac
 have e1:nf 2 1 (vE CR CP n) [ey CR CP g.rows g.o]=.ok (hC 0 (L0 g)):=by
  have I:=q (tupI (aK g.k (-1)));simp only[tupI]at I es;have o:tk (L0 g)=.tup (aK g.s (.tup ((aK g.k (-1)).map A0.int))):=by simp[tk,L0,tupI]
  rw[hC,o];generalize m:(aK g.k (-1)).map A0.int=Y at b I es ⊢;have S:Y.length<=16777216:=by rw[<-m];simp;lia
  simp[vE,ek,i,k2,h,b,S,es,k,j,f,I,c,-j_]
 exact e1
end
def nx(cs:List v9)(t:Int):Int:=open Classical in if h:∃u,sM cs t u then h.choose else 0
def nx_eq(h:sM cs t u):nx cs t=u:=by
 have I:∃u,sM cs t u:=⟨u,h⟩
 unfold nx;rw[dif_pos I];exact I.choose_spec.uniq h
structure V where
 g:Gp
 fl:List Fli
 cs:List v9
structure V.Good(v:V):Prop where
 g:v.g.Good
 fl:∀f∈v.fl,B6 v.g.k f
 many:v.fl.length<=40
 cs:v.cs.length<=20
 st:∀p∈v.cs,p.1<p.2
def V.f(v:V)(i:Nat):Fli:=w5 v.fl i
theorem V.Good.fAt(I:v.Good)(h:i<v.fl.length):wW (v.fl.map flD) (i:Int)=.ok (flD (v.f i))/\B6 v.g.k (v.f i):=by obtain⟨h1,S⟩:=getFl (fl:=v.fl) (i:=i) ac ac;exact⟨h1,I.fl _ S⟩
def V.bt(v:V)(l:LK)(q s:Nat):Int:=nx v.cs (JS v.g l.2 (v.f q) s)
def V.beh(v:V)(l:LK)(q s:Nat):Option LK:=if (v.f q).last<v.bt l q s then af else aa (l.1+late (v.f q) (v.bt l q s),putL l.2 s (v.f q).kind.toNat (v.bt l q s))
def labO:Option LK->A0
 |none=>.non|some l=>Lake.hC l
def Ho(l:LK):Lake.hC l=hC l.1 l.2:=rfl
section
variable(CR CP:av)
def nextV(n:Nat)(I:v.Good)(t:Int):sQ [.lst (v.cs.map stD),.int t]=.ok (.int (nx v.cs t))/\sM v.cs t (nx v.cs t):=by obtain⟨u,e,h⟩:=Ml n v.cs t (iH I.cs am) I.st;rw[nx_eq h];exact⟨e,h⟩
end
def V.Good.nxt(I:v.Good)(t:Int):sM v.cs t (nx v.cs t):=(nextV 0 I t).2
section
variable(CR CP:av)
def behV(n:Nat)(S:CR≠CP)(I:v.Good)(a:Lab v.g l){q s:Nat}(Y:q<v.fl.length)(U:s<v.g.s):
  qG CR CP n [ey CR CP v.g.rows v.g.o,.lst (v.fl.map flD),.lst (v.cs.map stD),Lake.hC l,.int q,.int s]=.ok (labO (v.beh l q s)):=by
 rw[Ho,(NC CR CP n S I.g I.cs I.st I.fl l.1 a.good Y U (I.nxt (JS v.g l.2 (w5 v.fl q) s)))];unfold after V.beh V.bt V.f;by_cases c:(w5 v.fl q).last<nx v.cs (JS v.g l.2 (w5 v.fl q) s)
 .rw[aC c,aC c];rfl
 .rw[aA c,aA c];rfl
end
theorem V.Good.bt_ge(I:v.Good)(l:LK){q:Nat}(s:Nat)(S:q<v.fl.length):0<=v.bt l q s:=by
 have h1:=(I.nxt (JS v.g l.2 (v.f q) s)).1;have Y:(v.f q).first<=JS v.g l.2 _ s:=(Lake.fold_max _ _).2.1;have U:=(I.fAt S).2.f0;unfold V.bt
 lia
def mem_setI{x y:Int}(h:y∈r.set j x):y∈r\/y=x:=iI h
theorem V.Good.ND(b:v.Good){Y:LK}(I:Lab v.g l){q s:Nat}(d:q<v.fl.length)(a:s<v.g.s)(h:v.beh l q s=aa Y):Lab v.g Y:=by
 unfold V.beh at h;split at h
 .cases h
 .cases h;refine⟨zU I.good a _,λr c x S=>?_⟩
  have e:=b.bt_ge l s d;rcases iI c with z|z
  .exact I.ge r z x S
  .rw[z]at S;rcases mem_setI S with U|U
   .exact I.ge _ (vD I.good a).1 x U
   .lia
def V.Good.beh_mono(I:v.Good){p q p':LK}(b:Lab v.g p)(a:Lab v.g q)(h:nw q p=ag){s:Nat}(hi:i<v.fl.length)(Y:s<v.g.s)(e:v.beh p i s=aa p'):∃U,v.beh q i s=aa U/\nw U p'=ag:=by
 unfold V.beh at e;split at e
 .cases e
 .rename_i c;cases e;obtain⟨h1,d⟩:=KP a b h _ (I.fAt hi).2 Y (I.nxt _) (I.nxt _) c;refine⟨_,?_,d⟩
  have S:¬(v.f i).last<v.bt q i s:=h1;unfold V.beh;rw[aA S];rfl
def V.l0(v:V):LK:=(0,L0 v.g)
theorem V.l0_lab(v:V):Lab v.g v.l0:=⟨L0_good v.g,λr S x I=>by rw[mv S]at I;simp_all⟩
abbrev Pap:=List (a8×bv)
variable{P Q R:Pap}
noncomputable def look(P:Pap)(b:a8):bv:=((P.find? λp=>aF (p.1=b)).map (·.2)).getD []
def sr(ls:bv):A0:=.lst (ls.map Lake.hC)
def qP(P:Pap):List (a8×A0):=P.map λp=>(p.1,sr p.2)
theorem Ji(b:a8):∀P:Pap,(tT (qP P) b).getD (.lst [])=sr (look P b)
 |[]=>rfl|p::P=>by
  unfold tT look qP at *;rw[aO,cV,cV];by_cases c:p.1=b
  .simp[c]
  .simp only[c];exact(Ji b P)
theorem zi(b:a8)(P:Pap):(tT (qP P) b).isSome=aF (b∈P.map (·.1)):=by grind[tT,qP,aO,cV,decide_false]
theorem ID(b:a8)(P:Pap)(ls:bv)(h:b∉P.map (·.1)):rY (qP P) b (sr ls)=qP (P++[(b,ls)]):=by unfold rY;rw[zi,aA ac];simp[qP]
def Dy(P Q:Pap)(b:a8):look (P++Q) b=if b∈P.map (·.1)then look P b else look Q b:=by
 unfold look;rw[List.find?_append]
 induction P with
 |nil=>simp|cons p P I=>
  rw[cV];by_cases c:p.1=b
  .simp[c]
  .have:¬b=p.1:=λz=>c z.symm;simp only[c,aO,aM,this,false_or];exact I
def rx(h:b∉P.map (·.1)):look P b=[]:=by
 unfold look;rw[nZ.mpr]
 .rfl
 .intro x I;simp;exact λz=>h (bp.mpr ⟨x,I,z⟩)
def V.add(v:V)(l:LK)(q:Nat)(ks:bv)(s:Nat):bv:=match v.beh l q s with
 |none=>ks|some I=>Lake.putL ks I
def V.Ec(v:V)(q:Nat)(ks:bv)(l:LK):bv:=(aX v.g.s).foldl (v.add l q) ks
def V.JF(v:V)(P:Pap)(ks:bv)(x:a8×Nat):bv:=(look P x.1).foldl (v.Ec x.2) ks
noncomputable def smL(b:a8):List (a8×Nat):=(aX b.length).map λi=>(b.eraseIdx i,(b.getD i 0).toNat)
def V.Gw(v:V)(P:Pap)(b:a8):bv:=(smL b).foldl (v.JF P) []
theorem putL_mem{k:LK}:x∈Lake.putL ks k↔x∈ks\/x=k:=by
 unfold Lake.putL;split
 .rename_i h;constructor
  .exact .inl
  .rintro(z|z)
   .exact z
   .rw[z];simpa using h
 .simp
theorem V.NJ(v:V){l x:LK}{q:Nat}:∀(I:be) (ks:bv),x∈I.foldl (v.add l q) ks↔x∈ks\/∃s∈I,v.beh l q s=aa x
 |[],ks=>by simp|s::I,ks=>by rw[bD,v.NJ I];grind[V.add,putL_mem]
theorem V.zt(v:V){x:LK}{q:Nat}:∀(ls ks:bv),x∈ls.foldl (v.Ec q) ks↔x∈ks\/∃l∈ls,∃s,s<v.g.s/\v.beh l q s=aa x
 |[],ks=>by simp|l::ls,ks=>by
  rw[bD,v.zt ls];unfold V.Ec;rw[v.NJ];constructor
  .rintro((h|⟨s,h1,I⟩)|⟨S,h1,I⟩)
   .exact .inl h
   .exact .inr ⟨l,ad,s,bA.mp h1,I⟩
   .exact .inr ⟨S,by simp[h1],I⟩
  .rintro(h|⟨S,h1,s,I,U⟩)
   .exact .inl (.inl h)
   .rcases aM.mp h1 with z|z
    .exact .inl (.inr ⟨s,bA.mpr I,by rw[<-z];exact U⟩)
    .exact .inr ⟨S,z,s,I,U⟩
theorem V.JE(v:V){P:Pap}{x:LK}:∀(xs:List (a8×Nat)) (ks:bv),x∈xs.foldl (v.JF P) ks↔x∈ks\/∃p∈xs,∃l∈look P p.1,∃s,s<v.g.s/\v.beh l p.2 s=aa x
 |[],ks=>by simp|p::xs,ks=>by
  rw[bD,v.JE xs];unfold V.JF;rw[v.zt];constructor
  .rintro((h|h)|⟨p',h1,I⟩)
   .exact .inl h
   .exact .inr ⟨p,ad,h⟩
   .exact .inr ⟨p',by simp[h1],I⟩
  .rintro(h|⟨p',h1,I⟩)
   .exact .inl (.inl h)
   .rcases aM.mp h1 with z|z
    .exact .inl (.inr (by rw[<-z];exact I))
    .exact .inr ⟨p',z,I⟩
def V.vQ(v:V):x∈v.Gw P b↔∃i,i<b.length/\∃l∈look P (b.eraseIdx i),∃s,s<v.g.s/\v.beh l (b.getD i 0).toNat s=aa x:=by
 unfold V.Gw;rw[v.JE];constructor
 .rintro(h|⟨p,h1,I⟩)
  .cases h
  .obtain⟨i,hi,rfl⟩:=bp.mp h1;exact⟨i,bA.mp hi,I⟩
 .rintro⟨i,hi,h⟩;exact .inr ⟨_,bp.mpr ⟨i,bA.mpr hi,rfl⟩,h⟩
def putL_len(ks:bv)(k:LK):(Lake.putL ks k).length<=ks.length+1:=by unfold Lake.putL;split<;>simp
theorem V.B2(v:V)(l:LK)(q:Nat):∀(I:be) (ks:bv),(I.foldl (v.add l q) ks).length<=ks.length+I.length
 |[],ks=>by simp|s::I,ks=>by
  rw[bD];have h1:=v.B2 l q I (v.add l q ks s);have S:(v.add l q ks s).length<=ks.length+1:=by
   unfold V.add;split
   .lia
   .exact putL_len _ _
  simp
  lia
theorem V.wX(v:V)(q:Nat):∀(ls ks:bv),(ls.foldl (v.Ec q) ks).length<=ks.length+v.g.s*ls.length
 |[],ks=>by simp|l::ls,ks=>by
  rw[bD];have h1:=v.wX q ls (v.Ec q ks l);have I:(v.Ec q ks l).length<=ks.length+v.g.s:=by have:=v.B2 l q (aX v.g.s) ks;rw[eI]at this;exact this
  rw[aW,lu]
  lia
theorem V.Eb(v:V)(P:Pap)(N:Nat):∀(xs:List (a8×Nat)) (ks:bv),(∀p∈xs,(look P p.1).length<=N)->(xs.foldl (v.JF P) ks).length<=ks.length+v.g.s*N*xs.length
 |[],ks,_=>by simp|p::xs,ks,h=>by
  rw[bD];have h1:=v.Eb P N xs (v.JF P ks p) λq I=>h q (by simp[I]);have Y:(v.JF P ks p).length<=ks.length+v.g.s*N:=by
   have U:=v.wX p.2 (look P p.1) ks;have S:=nX v.g.s (h p ad);unfold V.JF
   lia
  rw[aW,lu]
  lia
theorem Gp.s2(g:Gp):1<=g.s/\g.s<=2:=by unfold Gp.s;split<;>lia
def ux(I:bv)(l:LK):bv:=if I.any (λx=>nw x l)=ag then I else I++[l]
def y0(ks:bv):bv:=(uy ltL ks).foldl ux []
theorem DC:∀(ls I:bv) (x:LK),x∈I->x∈ls.foldl ux I
 |[],I,x,h=>h|l::ls,I,x,h=>DC ls _ x (by
   unfold ux;split
   .exact h
   .simp[h])
theorem J8:∀(ls I:bv) (x:LK),x∈ls.foldl ux I->x∈I\/x∈ls
 |[],I,x,h=>.inl h|l::ls,I,x,h=>by
  rcases J8 ls _ x h with z|z
  .unfold ux at z;split at z
   .exact .inl z
   .rcases aZ.mp z with y|y
    .exact .inl y
    .exact .inr (by simp at y;simp[y])
  simp_all
theorem Jb:∀(ls I:bv) (x:LK),x∈ls->∃y∈ls.foldl ux I,nw y x=ag
 |l::ls,I,x,h=>by
  rcases aM.mp h with z|z
  .subst z;by_cases c:I.any (λy=>nw y x)=ag
   .obtain⟨y,S,e⟩:=kX.mp c;exact⟨y,DC ls _ y (by unfold ux;rw[aC c];exact S),e⟩
   .exact⟨x,DC ls _ x (by unfold ux;rw[aA c];simp),Hi x⟩
  .exact Jb ls _ x z
theorem J9:∀(ls I:bv),(ls.foldl ux I).length<=I.length+ls.length
 |[],I=>by simp|l::ls,I=>by
  rw[bD];have h1:=J9 ls (ux I l);have S:(ux I l).length<=I.length+1:=by unfold ux;split<;>simp
  rw[aW]
  lia
theorem tY(h:x∈y0 ks):x∈ks:=by
 rcases J8 _ _ _ h with z|z
 .grind
 .exact(o3 ks).mem_iff.mp z
def JB(h:x∈ks):∃y∈y0 ks,nw y x=ag:=Jb _ _ _ ((o3 ks).mem_iff.mpr h)
theorem best_len(ks:bv):(y0 ks).length<=ks.length:=by have h:=J9 (uy ltL ks) [];rw[(o3 ks).length_eq]at h;simp_all[y0]
section
variable(CR CP:av)
theorem Jf(n:Nat)(I:Option A0)(l:LK):∀(ls:bv) (S:Option A0),(ls.any (λx=>nw x l)=ag/\sk (.nm 2) (lr) (ls.map Lake.hC) [I,aa (Lake.hC l),S]=.ok (.rt (.bl ag)))\/(ls.any (λx=>nw x l)=ae/\∃a,sk (.nm 2) (lr) (ls.map Lake.hC) [I,aa (Lake.hC l),S]=.ok (.nx [I,aa (Lake.hC l),a]))
 |[],S=>.inr ⟨rfl,S,rfl⟩|x::ls,S=>by
  have e:qC [Lake.hC x,Lake.hC l]=.ok _:=nw_ok n x l;rw[aO,sk,Kz,dm];simp only[e_,e9,List.any_cons];by_cases c:nw x l=ag
  .left;rw[c]at e;refine⟨by simp[c],?_⟩
   have U:lr [I,aa (Lake.hC l),aa (Lake.hC x)]=.ok (.rt (.bl ag)):=by simp[lr,tK,e]
   rw[U];rfl
  .have Y:=by simpa using c
   rw[Y]at e;have U:lr [I,aa (Lake.hC l),aa (Lake.hC x)]=.ok (.nx [I,aa (Lake.hC l),aa (Lake.hC x)]):=by simp[lr,tK,e]
   rw[U,Y];exact Jf n I l ls _
def has_ok(n:Nat)(ls:bv)(l:LK):rp [sr ls,Lake.hC l]=.ok (.bl (ls.any λx=>nw x l)):=by
 unfold sr;rcases Jf n (aa (.lst (ls.map Lake.hC))) l ls af with⟨h1,I⟩|⟨h1,S,I⟩
 .simp[rp,uS,h1,I]
 .simp[rp,uS,h1,I]
theorem Gv(n:Nat)(S:Option A0):∀(ls I:bv) (U:Option A0),I.length+ls.length<16777216->∃Y,sk (.nm 2) (qt) (ls.map Lake.hC) [S,aa (sr I),U]=.ok (.nx [S,aa (sr (ls.foldl ux I)),Y])
 |[],I,U,_=>⟨U,rfl⟩|l::ls,I,U,h=>by
  rw[aW]at h;have e:=has_ok n I l;have d:I.length<16777216:=ac
  have g:(ux I l).length<=I.length+1:=by unfold ux;split<;>simp
  obtain⟨Y,b⟩:=Gv n S ls (ux I l) _ ac;refine⟨Y,?_⟩
  rw[aO,sk,Kz,dm,bD,<-b];simp;by_cases c:I.any (λx=>nw x l)=ag
  .rw[c]at e;have a:qt [S,aa (sr I),aa (Lake.hC l)]=.ok (.nx [S,aa (sr (ux I l)),aa (Lake.hC l)]):=by
    unfold ux;rw[aC c];simp[qt,ui,e]
   rw[a,dm]
  .have f:I.any (λx=>nw x l)=ae:=by simpa using c
   rw[f]at e;have a:qt [S,aa (sr I),aa (Lake.hC l)]=.ok (.nx [S,aa (sr (ux I l)),aa (Lake.hC l)]):=by unfold ux;rw[aA c];unfold sr at *;simp[qt,ui,e,d]
   rw[a,dm]
def best_ok(n:Nat)(ks:bv)(h:ks.length<16777216):tP [.dil ks]=.ok (sr (y0 ks)):=by obtain⟨S,e⟩:=Gv n (aa (.dil ks)) (uy ltL ks) [] af (by rw[(o3 ks).length_eq];simpa using h);have I:sr []=.lst []:=rfl;rw[I]at e;have es:zH [.dil ks]=.ok _:=rfl;simp[tP,xQ,es,e,y0]
end
theorem zp{α:Type}{p:Pat}{fe:df->M A0}{ρ0:df}(g f:α->A0):∀(L:List α),(∀x∈L,∃ρ,rT p (g x) ρ0=.ok ρ/\fe ρ=.ok (f x))->gj p x6 fe ρ0 (L.map g)=.ok (L.map f)
 |[],_=>rfl|d::ds,h=>by obtain⟨ρ,e1,e2⟩:=h d ad;rw[aO,gj,e1];simp only[dm,x6,e2,zp g f ds λx I=>h x (by simp[I])];simp
theorem yp:∀(b:a8) (j:Nat),ue j (b.map .int)=(aX b.length).map λi=>A0.tup [.int ((j+i:Nat):Int),.int (b.getD i 0)]
 |[],_=>rfl|x::b,j=>by
  rw[aO,ue,yp b _,aW,ji,aO,aR]
  congr 1
  refine bM λi _=>?_;have:j+1+i=j+(i+1):=ac
  rw[this];rfl
theorem JW(CR CP:av)(n:Nat)(b:a8)(e:b.length<=100):qF [j0 b]=.ok (.lst ((aX b.length).map λi=>A0.tup [j0 (b.eraseIdx i),.int (b.getD i 0)])):=by
 have Y:gj (.tp [0,1]) x6 (fL rH (b6 (f2 vr (fSl ve (de 2) Dc (yT (de 0))) (fSl ve (de 2) (yT (f2 vr (de 0) (fC (.int 1)))) Dc)) (b6 (de 1) ej))) [af,af,aa (j0 b)] (ue 0 (b.map .int))=.ok ((aX b.length).map λi=>A0.tup [j0 (b.eraseIdx i),.int (b.getD i 0)]):=by
  rw[yp];refine zp _ _ _ λi hi=>?_;have hi:=bA.mp hi;refine⟨[aa (.int ((0+i:Nat):Int)),aa (.int (b.getD i 0)),aa (j0 b)],ad,?_⟩
  have d:cX (b.map A0.int).length 0 af=0:=rfl;have c:cX (b.map A0.int).length (b.map A0.int).length (aa ((0+i:Nat):Int))=i:=by
   simp only[cX];rw[aA ac,az]
   lia
  have a:cX (b.map A0.int).length 0 (aa (((0+i:Nat):Int)+1))=i+1:=by
   simp only[cX];rw[aA ac,az]
   lia
  have s1:ve (j0 b) af (aa ((0+i:Nat):Int))=.ok (.tup ((b.take i).map .int)):=by unfold j0 ve;simp only[];rw[d,c,aA (by simp;lia)];rw[cut_take _ ac];simp
  have s2:ve (j0 b) (aa (((0+i:Nat):Int)+1)) af=.ok (.tup ((b.drop (i+1)).map .int)):=by
   unfold j0 ve;simp only[];rw[a,aA ad];rw[cut_drop _ ac];have:(((0+i:Nat):Int)+1).toNat=i+1:=ac
   rw[this];simp
  have U:((b.take i).map A0.int).length+((b.drop (i+1)).map A0.int).length<=16777216:=by simp;lia
  simp only[e_L,e_cons,e_2,e_slF,e_varS,e_var0,e_pNone,e_pSome,e_c,dm,e_asI,s1,vr,s2,fK,U,if_true,e_nil];simp[rH,j0,List.eraseIdx_eq_take_drop_succ,fK]
 have I:(ue 0 (b.map A0.int)).length<=16777216:=by rw[yp];simp;lia
 have S:wx (j0 b)=.ok (b.map .int):=rfl;simp[qF,vZ,S,I,Y]
theorem vw(lo:Int)(m:Nat):eM lo (m+1)=.int lo::eM (lo+1) m:=by
 unfold eM;rw[ji,aO,aR]
 congr 1
 .simp
 .refine bM λk _=>?_;lia
def xg(b:a8):u5 (j0 b)=.ok b:=by simp[j0,u5,sf]
def NM(v:V)(P:Pap):Prop:=∀b,∀l∈look P b,Lab v.g l
def Ds(l:LK):Hj (Lake.hC l) .non=.ok (.bl ag):=rfl
def notN_non:Hj .non .non=.ok (.bl ae):=rfl
section
variable(CR CP:av)
@[reducible] def evB(v:V)(P:Pap)(b:Option A0)(ks:bv)(a Y U S I:Option A0):df:=[aa (ey CR CP v.g.rows v.g.o),aa (.lst (v.fl.map flD)),aa (.lst (v.cs.map stD)),aa (.dic (qP P)),b,aa (.dil ks),a,Y,U,S,I]
theorem BN(n:Nat)(Y:CR≠CP){v:V}(g:v.Good)(P:Pap)(a U:Option A0){l:LK}(k:Lab v.g l){q:Nat}(i:q<v.fl.length):∀(r j:Nat) (ks:bv) (b I:Option A0),j+r=v.g.s->ks.length+r<16777216->∃c S,
  sk (.nm 9) (qr CR CP n) (eM (j:Int) r) (evB CR CP v P a ks U (aa (.int q)) (aa (Lake.hC l)) b I)=.ok (.nx (evB CR CP v P a ((jC j r).foldl (v.add l q) ks) U (aa (.int q)) (aa (Lake.hC l)) c S))
 |0,j,ks,b,I,_,_=>⟨b,I,rfl⟩|r+1,j,ks,b,I,h,u=>by
  have e:=behV CR CP n Y g k i (s:=j) ac;have t:(v.add l q ks j).length<=ks.length+1:=v.B2 l q [j] ks;obtain⟨c,S,f⟩:=BN n Y g P a U k i r (j+1) (v.add l q ks j) _ _ ac ac;refine⟨c,S,?_⟩
  have d:ks.length<16777216:=ac
  have o:qr CR CP n (evB CR CP v P a ks U (aa (.int q)) (aa (Lake.hC l)) (aa (.int j)) I)=.ok (.nx (evB CR CP v P a (v.add l q ks j) U (aa (.int q)) (aa (Lake.hC l)) (aa (.int j)) (aa (labO (v.beh l q j))))):=by
   unfold V.add;cases m:v.beh l q j with
   |none=>rw[m]at e;simp[labO]at e ⊢;simp[qr,sV,e]|some p=>rw[m]at e;simp[labO]at e ⊢;simp[qr,sV,e,Ds,zP,FY,(DB p),isTr,d,-e_notN]
  rw[vw,sk,Kz,dm,kW];simp at o f ⊢;rw[o];exact f
theorem C5(n:Nat)(a:CR≠CP){v:V}(o:v.Good)(P:Pap)(b Y:Option A0){q:Nat}(p:q<v.fl.length):∀(ls:bv) (ks:bv) (d S I:Option A0),(∀l∈ls,Lab v.g l)->ks.length+v.g.s*ls.length<16777216->∃i f U,
  sk (.nm 8) (rg CR CP n) (ls.map Lake.hC) (evB CR CP v P b ks Y (aa (.int q)) d S I)=.ok (.nx (evB CR CP v P b (ls.foldl (v.Ec q) ks) Y (aa (.int q)) i f U))
 |[],ks,d,S,I,_,_=>⟨d,S,I,rfl⟩|l::ls,ks,d,S,I,h,u=>by
  rw[aW,lu]at u;obtain⟨s1,s2⟩:=v.g.s2;have t:(v.Ec q ks l).length<=ks.length+v.g.s:=by have:=v.B2 l q (aX v.g.s) ks;rw[eI]at this;exact this
  obtain⟨k,c,e⟩:=BN CR CP n a o P b Y (h l ad) p v.g.s 0 ks S I ac ac;obtain⟨i,f,U,y⟩:=C5 n a o P b Y p ls (v.Ec q ks l) (aa (Lake.hC l)) k c (λm s=>h m (by simp[s])) ac;refine⟨i,f,U,?_⟩
  have j:=Ht CR CP n a (g:=v.g) (de 0) [aa (ey CR CP v.g.rows v.g.o),aa (.lst (v.fl.map flD)),aa (.lst (v.cs.map stD)),aa (.dic (qP P)),b,af,Y,aa (.int q),aa (Lake.hC l),S,I] ad;have r:(-4611686018427387904:Int)<=(v.g.s:Int):=ac
  have k2:(v.g.s:Int)<4611686018427387904:=ac
  have x:((0:Nat):Int)=0:=rfl;have w:jC 0 v.g.s=aX v.g.s:=by rw[m9]
  rw[x,w]at e;have z:rg CR CP n (evB CR CP v P b ks Y (aa (.int q)) (aa (Lake.hC l)) S I)=.ok (.nx (evB CR CP v P b (v.Ec q ks l) Y (aa (.int q)) (aa (Lake.hC l)) k c)):=by unfold V.Ec;simp only[evB]at e ⊢;simp[rg,j,r,k2,e]
  simp_all[aO,sk,Kz,dm,bD,evB,e_,e9]
def smD(x:a8×Nat):A0:=.tup [j0 x.1,.int x.2]
theorem BP(n:Nat)(g:CR≠CP){v:V}(p:v.Good)(P:Pap)(q:NM v P)(N:Nat)(Y:Option A0):∀(xs:List (a8×Nat)) (ks:bv) (d c U S I:Option A0),(∀x∈xs,x.2<v.fl.length/\(look P x.1).length<=N)->ks.length+v.g.s*N*xs.length<16777216->∃l k j i a,
  sk (.tp [6,7]) (rf CR CP n) (xs.map smD) (evB CR CP v P Y ks d c U S I)=.ok (.nx (evB CR CP v P Y (xs.foldl (v.JF P) ks) l k j i a))
 |[],ks,d,c,U,S,I,_,_=>⟨d,c,U,S,I,rfl⟩|x::xs,ks,d,c,U,S,I,h,u=>by
  rw[aW,lu]at u;obtain⟨h1,A⟩:=h x ad;have B:=nX v.g.s A;have t:(v.JF P ks x).length<=ks.length+v.g.s*N:=by
   have C:=v.wX x.2 (look P x.1) ks;unfold V.JF
   lia
  obtain⟨o,m,f,e⟩:=C5 CR CP n g p P Y (aa (j0 x.1)) h1 (look P x.1) ks U S I (q x.1) ac;obtain⟨l,k,j,i,a,r⟩:=BP n g p P q N Y xs (v.JF P ks x) (aa (j0 x.1)) (aa (.int x.2)) o m f (λy s=>h y (by simp[s])) ac;refine⟨l,k,j,i,a,?_⟩
  have w:=Ji x.1 P;have z:rf CR CP n (evB CR CP v P Y ks (aa (j0 x.1)) (aa (.int x.2)) U S I)=.ok (.nx (evB CR CP v P Y (v.JF P ks x) (aa (j0 x.1)) (aa (.int x.2)) o m f)):=by unfold V.JF;simp only[evB]at e ⊢;simp[rf,isDic,xg,w,sr,e]
  rw[aO,sk,bD];have b:rT (.tp [6,7]) (smD x) (evB CR CP v P Y ks d c U S I)=.ok (evB CR CP v P Y ks (aa (j0 x.1)) (aa (.int x.2)) U S I):=rfl;rw[b,dm,z,dm];exact r
theorem smL_smD(h:∀x∈b,0<=x):((aX b.length).map λi=>A0.tup [j0 (b.eraseIdx i),.int (b.getD i 0)])=(smL b).map smD:=by
 unfold smL;rw[aR];refine bM λi hi=>?_;have hi:=bA.mp hi;have I:0<=b.getD i 0:=by rw[cD,cv hi];exact h _ (dh hi)
 show _=A0.tup [j0 _,.int ((b.getD i 0).toNat)];grind
theorem behs_ok(n:Nat)(S:CR≠CP)(a:v.Good)(P:Pap)(g:NM v P)(N:Nat)(b:a8)(f:∀x∈b,0<=x/\x<v.fl.length)(d:b.length<=40)(o:∀i,i<b.length->(look P (b.eraseIdx i)).length<=N)(m:v.g.s*N*b.length<16777216):
  rZ CR CP n [ey CR CP v.g.rows v.g.o,.lst (v.fl.map flD),.lst (v.cs.map stD),.dic (qP P),j0 b]=.ok (.dil (v.Gw P b)):=by
 have U:=JW CR CP n b ac;rw[smL_smD (λx I=>(f x I).1)]at U;have c:(smL b).length=b.length:=by simp[smL]
 obtain⟨l,k,j,h,Y,e⟩:=BP CR CP n S a P g N (aa (j0 b)) (smL b) [] af af af af af (λx I=>by obtain⟨i,hi,rfl⟩:=bp.mp I;simp_all) a7
 simp[rZ,wC,U,e,V.Gw]
end
def Kd(r:a8):ua (r.map .int)=ag:=by
 induction r with
 |nil=>rfl|cons x r I=>simp[ua,tf,I]
theorem Kb(L:List a8):ua (L.map j0)=ag:=by
 induction L with
 |nil=>rfl|cons x r I=>simp_all[ua,tf,j0,Kd]
def Kc(ls:bv):ua (ls.map Lake.hC)=ag:=by
 induction ls with
 |nil=>rfl|cons x r I=>simp[ua,tf,Lake.hC,Kb,I]
def LZ(ls:bv):tf (sr ls)=ag:=by simp[sr,tf,Kc]
def ne_tup(b:a8):eqM (j0 b) (.tup [])=.ok (.bl b.isEmpty)/\neM (j0 b) (.tup [])=.ok (.bl !b.isEmpty):=by simp[j0,A8,eqM,vX,eqD,neM]
def V.ent(v:V)(P:Pap)(b:a8):bv:=if b=[]then [v.l0]else y0 (v.Gw P b)
def V.pap(v:V)(P:Pap):List a8->Pap
 |[]=>P|b::I=>v.pap (P++[(b,v.ent P b)]) I
theorem sm(h:i<b.length):(b.eraseIdx i).length+1=b.length:=a0
theorem getD_in(h:i<b.length):b.getD i 0∈b:=by simp_all
section
variable(CR CP:av)
theorem BW(n:Nat)(U:CR≠CP){v:V}(S I:Option A0):∀(r:Nat) (j:Int) (c:Int) (a:Option A0),∃b,
  sk (.nm 4) (t6 CR CP n) (eM j r) [aa (ey CR CP v.g.rows v.g.o),S,I,aa (.int c),a]=.ok (.nx [aa (ey CR CP v.g.rows v.g.o),S,I,aa (.int (c*v.g.s^r)),b])
 |0,j,c,a=>⟨a,by simp[eM,sk]⟩|r+1,j,c,a=>by
  obtain⟨s1,s2⟩:=v.g.s2;obtain⟨b,e⟩:=BW n U S I r _ _ _;refine⟨b,?_⟩
  have Y:Dt _ _=.ok (.int (c*v.g.s)):=e_mulR (by simp;lia);have d:t6 CR CP n [aa (ey CR CP v.g.rows v.g.o),S,I,aa (.int c),aa (.int j)]=.ok (.nx [aa (ey CR CP v.g.rows v.g.o),S,I,aa (.int (c*v.g.s)),aa (.int j)]):=by simp[t6,(Ht CR CP n U (g:=v.g) (de 0) [aa (ey CR CP v.g.rows v.g.o),S,I,aa (.int c),aa (.int j)] ad),Y,]
  have ep:c*v.g.s^(r+1)=c*v.g.s*v.g.s^r:=by rw[Int.pow_succ,Int.mul_comm (v.g.s^r),Int.mul_assoc]
  rw[vw,sk,Kz,dm,ep];simp;rw[d];exact e
theorem plans_ok(n:Nat)(I:CR≠CP){s:Nat}(a:m<=64)(S:r0 [.int m,.int s]=.ok (.int c)):uB CR CP n [ey CR CP v.g.rows v.g.o,.int m,.int s]=.ok (.int (c*v.g.s^m)):=by
 obtain⟨U,e⟩:=BW CR CP n I (v:=v) (aa (.int m)) (aa (.int s)) m 0 c af;have Y:(-4611686018427387904)<=(m:Int):=ac
 have k2:(m:Int)<4611686018427387904:=ac
 simp[uB,yE,S,k2,e]
theorem LL(n:Nat)(S:CR≠CP){s:Nat}(Y:m<=64)(a:v.fl.length=m)(U:r0 [.int m,.int s]=.ok (.int c))(b:c*v.g.s^m<=5000):qZ CR CP n [ey CR CP v.g.rows v.g.o,.lst (v.fl.map flD),.int s]=.ok .non:=by
 have ep:=plans_ok CR CP n S (v:=v) Y U;have I:¬5000<c*(v.g.s:Int)^m:=ac
 simp[qZ,vj,ug,a,ep,I]
end
section
variable(CR CP:av)
noncomputable def iv(a:Int):Nat->a8
 |0=>[]|m+1=>a::iv (a+1) m
noncomputable def chs:Nat->a8->List a8
 |0,_=>[[]]|_+1,[]=>[]|k+1,a::I=>(chs k I).map (a::·)++chs (k+1) I
def chs_zero(I:a8):chs 0 I=[[]]:=by cases I<;>rfl
def begs(U I S:Nat):List a8:=(chs (S-(S-I)) (iv ((S-I:Nat):Int) (min U (S+I)-(S-I)))).map (iv 0 (S-I)++·)
end
noncomputable def bnd(st:Nat):Nat->Nat
 |0=>1|k+1=>(k+1)*(st*bnd st k)
def BL(m s:Nat):List a8:=(aX (m+1)).flatMap (begs m s)
structure Beg(m s k:Nat)(b:a8):Prop where
 mem:b∈begs m s k
 len:b.length=k
 bnd:∀x∈b,0<=x/\x<(m:Int)
structure V.Few(v:V)(sh:Nat)(P:Pap):Prop where
 lab:NM v P
 key:∀b∈P.map (·.1),b.length<=v.fl.length/\Beg v.fl.length sh b.length b
 few:∀b,(look P b).length<=bnd v.g.s b.length
def V.Few.nil(v:V)(sh:Nat):v.Few sh []:=⟨λb l h=>(by cases h),λb h=>(by cases h),λb=>(by simp[look])⟩
section
variable{c:List Int}
def V.Few.many(h:v.Few sh P)(S:∀k,k<=v.fl.length->bnd v.g.s k<=100000)(b:a8):(look P b).length<=100000:=by
 by_cases I:b∈P.map (·.1)
 .exact aQ (h.few b) (S _ (h.key b I).1)
 .rw[rx I];simp
theorem V.Few.ents(b:v.Good)(h:v.Few sh P)(f:Beg v.fl.length sh c.length c):(∀l∈v.ent P c,Lab v.g l)/\(v.ent P c).length<=bnd v.g.s c.length:=by
 unfold V.ent;by_cases e:c=[]
 .rw[aC e];exact⟨λl I=>by rw[cj.mp I];exact v.l0_lab,by rw[e];exact aq _⟩
 .rw[aA e];refine⟨λl I=>?_,aQ (best_len _) ?_⟩
  .obtain⟨i,hi,a,e1,s,e2,e3⟩:=v.vQ.mp (tY I);have:=f.bnd _ (getD_in hi);exact b.ND (h.lab _ a e1) ac e2 e3
  .obtain⟨k,S⟩:∃k,c.length=k+1:=⟨c.length-1,by have:=List.length_pos_iff.mpr e;lia⟩
   have h1:=v.Eb P _ (smL c) [] λp d=>by obtain⟨i,hi,rfl⟩:=bp.mp d;have Y:=h.few (c.eraseIdx i);have U:=sm (bA.mp hi);rw[show(c.eraseIdx i).length=k by lia]at Y;exact Y
   have U:(smL c).length=k+1:=by simp[smL,S]
   rw[U,oZ,dB,qh]at h1;rw[S];exact h1
def Dw(I:c∉P.map (·.1)):look (P++[(c,ls)]) c=ls:=by rw[Dy,aA I];simp[look]
def zh(I:b≠c):look (P++[(c,ls)]) b=look P b:=by
 rw[Dy];split
 .rfl
 .rename_i S;rw[rx S,rx];simpa using I
def V.Few.next(a:v.Good)(h:v.Few sh P)(U:c∉P.map (·.1))(I:c.length<=v.fl.length)(Y:Beg v.fl.length sh c.length c):v.Few sh (P++[(c,v.ent P c)]):=by
 obtain⟨e1,e2⟩:=h.ents a Y;refine⟨λb l I=>?_,λb S=>?_,λb=>?_⟩
 .by_cases e:b=c
  .rw[e,Dw U]at I;exact e1 l I
  .rw[zh e]at I;exact h.lab b l I
 .rw[g_,aZ]at S;rcases S with z|z
  .exact h.key b z
  .have:=by simpa using z
   rw[this];exact⟨I,Y⟩
 .by_cases e:b=c
  .rw[e,Dw U];exact e2
  .rw[zh e];exact h.few b
theorem V.Few.room(h:v.Few sh P)(S:∀k,k<=v.fl.length->bnd v.g.s k<=100000)(I:c.length<=8):v.g.s*100000*c.length<16777216/\(v.Gw P c).length<16777216:=by
 obtain⟨s1,s2⟩:=v.g.s2;have h1:v.g.s*100000*c.length<=2*100000*8:=dC ac I;have U:=v.Eb P 100000 (smL c) [] λp _=>h.many S p.1;have Y:(smL c).length=c.length:=by simp[smL]
 unfold V.Gw;simp at U
 lia
end
theorem foldl_congr{α β:Type}{f g:β->α->β}:∀(l:List α) (b:β),(∀x∈l,∀b,f b x=g b x)->l.foldl f b=l.foldl g b
 |[],_,_=>rfl|x::l,b,h=>by rw[bD,h x ad];exact foldl_congr l _ λy I=>h y (by simp[I])
theorem V.KO(v:V)(h:∀c:a8,c.length<b.length->look P c=look Q c):v.Gw P b=v.Gw Q b:=by refine foldl_congr _ _ λx I ks=>?_;obtain⟨i,hi,rfl⟩:=bp.mp I;unfold V.JF;rw[h _ (by have:=sm (bA.mp hi);lia)]
def V.N3(v:V)(h:∀c:a8,c.length<b.length->look P c=look Q c):v.ent P b=v.ent Q b:=by unfold V.ent;rw[v.KO h]
def V.D9(v:V)(P:Pap)(b:a8)(B:List a8):v.pap P (b::B)=v.pap (P++[(b,v.ent P b)]) B:=rfl
theorem V.IL(v:V):∀(B:List a8) (P:Pap),(v.pap P B).map (·.1)=P.map (·.1)++B
 |[],P=>by simp[V.pap]|b::B,P=>by rw[v.D9,v.IL B];simp
theorem V.Dv(v:V){c:a8}:∀(B:List a8) (P:Pap),c∉B->look (v.pap P B) c=look P c
 |[],P,_=>rfl|b::B,P,h=>by simp at h;rw[v.D9,v.Dv B _ h.2,zh h.1]
theorem V.IJ(v:V):∀(B:List a8) (P:Pap),(P.map (·.1)++B).Nodup->B.Pairwise (λa b=>a.length<=b.length)->∀b∈B,look (v.pap P B) b=v.ent (v.pap P B) b
 |b::B,P,S,I,c,g=>by
  rw[cZ]at I;have f:(P++[(b,v.ent P b)]).map (·.1)++B=P.map (·.1)++b::B:=by simp
  have Y:=by have:=(dK.mp S).2.1;rw[dN]at this;exact this.1
  have U:=λz=>(dK.mp S).2.2 b z b ad rfl;rcases aM.mp g with e|e
  .subst e;rw[v.D9,v.Dv B _ Y,Dw U];refine v.N3 λd h=>?_;rw[v.Dv B _ (λz=>by have:=I.1 d z;lia),zh (λz=>by lia)]
  .exact v.IJ B _ (by rw[f];exact S) I.2 c e
theorem Fi(n:Nat):∀L:List a8,vX (L.map j0) (n+2)=ag
 |[]=>rfl|r::L=>by simp[vX,A8,j0,Fi n L]
theorem Cd(b:a8):∀P:Pap,b∈P.map (·.1)->tT (qP P) b=aa (sr (look P b))
 |[],h=>by cases h|p::P,h=>by
  unfold tT qP look;by_cases e:p.1=b
  .simp[e]
  .have I:b∈P.map (·.1):=by
    rcases aM.mp h with z|z
    .exact bu z.symm e
    .exact z
   have:=Cd b P I;grind[tT,qP,look]
theorem Gn{α:Type}(t:α->Bool):∀l:List α,tE (l.map λx=>A0.bl (t x))=.ok (l.map t)
 |[]=>rfl|a::l=>by rw[aO,tE,Gn t l];rfl
theorem all_map{α:Type}(t:α->Bool)(l:List α):allD [.lst (l.map λx=>A0.bl (t x))]=.ok (.bl (l.all t)):=by simp[e_all,Gn,dm,List.all_map]
theorem Jy{α:Type}{p:Pat}{ft:df->M Bool}{fe:df->M A0}{ρ0:df}(g f:α->A0)(t:α->Bool):∀(L:List α),(∀x∈L,∃ρ,rT p (g x) ρ0=.ok ρ/\ft ρ=.ok (t x)/\(t x=ag->fe ρ=.ok (f x)))->gj p ft fe ρ0 (L.map g)=.ok ((L.filter t).map f)
 |[],_=>rfl|x::L,h=>by obtain⟨ρ,h1,Y,U⟩:=h x ad;have S:=Jy g f t L λy I=>h y (by simp[I]);grind[aO,gj,dm]
theorem lex_le:∀{a b:a8},a.length=b.length->leR a b=ag->Ba (λx y=>aF (x<y)) a b=ae->a=b
 |[],[],_,_,_=>rfl|[],_::_,h,_,_=>by simp at h|_::_,[],h,_,_=>by simp at h|x::a,y::b,h,h1,I=>by
  simp[leR,aU]at h1;simp[Ba]at I;by_cases e:x=y
  .rw[aC e]at I;rw[e,lex_le (by simpa using h) h1.2 I]
  .lia
theorem Mu{k:Nat}:∀{a b:List a8},a.length=b.length->(∀r∈a,r.length=k)->(∀r∈b,r.length=k)->leL a b=ag->ltR a b=ae->a=b
 |[],[],_,_,_,_,_=>rfl|[],_::_,h,_,_,_,_=>by simp at h|_::_,[],h,_,_,_,_=>by simp at h|x::a,y::b,h,Y,U,h1,I=>by
  simp[leL,aU]at h1;simp[Ba]at I;by_cases e:x=y
  .rw[aC e]at I;rw[e,Mu (by simpa using h) (λr S=>Y r (by simp[S])) (λr S=>U r (by simp[S])) h1.2 I]
  .rw[aA e]at I;exact bu (lex_le ((Y x ad).trans (U y ad).symm) h1.1 I) e
theorem nw_eq(U:Lab g x)(S:Lab g y)(h:nw y x=ag)(I:ltL y x=ae):y=x:=by
 simp[nw,aU]at h;unfold ltL at I;by_cases e:y.1=x.1
 .rw[aC e]at I;exact kx e (Mu (S.good.1.trans U.good.1.symm) S.good.2 U.good.2 h.2 I)
 .lia
theorem Ap:∀(ls I:bv),I.Pairwise (λx y=>ltL y x=ae/\nw x y=ae)->(∀x∈I,∀y∈ls,ltL y x=ae)->ls.Pairwise (λx y=>ltL y x=ae)->(ls.foldl ux I).Pairwise (λx y=>ltL y x=ae/\nw x y=ae)
 |[],_,h,_,_=>h|l::ls,I,h,a,Y=>by
  rw[cZ]at Y;rw[bD];unfold ux;split
  .exact Ap ls I h (λx U y S=>a x U y (by simp[S])) Y.2
  .rename_i b;refine Ap ls _ (bG.mpr ⟨h,ad,λx U y S=>?_⟩) (λx U y S=>?_) Y.2
   .rw[cj.mp S];refine⟨a x U l ad,?_⟩
    cases e:nw x l with
    |false=>rfl|true=>exact bu (kX.mpr ⟨x,U,e⟩) b
   .rcases aZ.mp U with z|z
    .exact a x z y (by simp[S])
    .rw[cj.mp z];exact Y.1 y S
def AW(ks:bv):(y0 ks).Pairwise (λx y=>ltL y x=ae/\nw x y=ae):=Ap _ [] .nil (λx I=>nomatch I) (qU Mb ks)
def LA{l:bv}(h:l.Pairwise (λx y=>ltL y x=ae)):uy ltL l=l:=vx Mb (o3 l) (qU Mb l) h
section
variable(CR CP:av)
theorem vM(n:Nat)(ns:a8)(k:Int)(d:0<=k)(h1:k<1000000):∃x,hP [.lst (ns.map .int),.int k]=.ok (.int x):=by
 by_cases Y:k<ns.length
 .exact⟨_,by simp[hP,vF,tX,Y,getI_int d Y];rfl⟩
 .have I:=FQ ns;by_cases e:0<ns.length
  .have U:(0:Int)<ns.length:=ac
   have S:ns.isEmpty=ae:=by cases ns with|nil=>simp_all|cons a b=>rfl
   have c: -18446744073709551616<k:=ac
   have k2:k<18446744073709551616:=ac
   rw[S]at I;exact⟨_,by simp[hP,vF,tX,Y,vP,I,getI_int (gA _ ac) (fD _ U),Ky U,c,k2];rfl⟩
  .have S:ns.isEmpty=ag:=by cases ns with|nil=>rfl|cons a b=>simp_all
   rw[S]at I;exact⟨0,by simp[hP,vF,tX,Y,vP,I]⟩
def Hd(p:Int->Prop)(xs:a8){k:Int}(I:0<=k)(h1:k<xs.length)(h:∀x∈xs,p x):∃x,p x/\wW (xs.map .int) k=.ok (.int x):=⟨_,h _ (dh _),getI_int I h1⟩
theorem gap_v(c:Int):∃v m:Int,0<=v/\v<=1000000/\0<m/\wW [.int 40,.int 1000001] (c/4%2)=.ok (.int m)/\wW [.int 0,.int (c/4%10),.int (c/4%10),.int (c/4%m)] (c%4)=.ok (.int v):=by
 obtain⟨m,⟨I,U⟩,a⟩:=Hd (λm=>0<m/\m<=1000001) [40,1000001] (k:=c/4%2) ac (by show _<2;lia) λx S=>by simp at S;lia
 have d:0<=c/4%m:=gA _ ac;have b:c/4%m<m:=fD _ I;obtain⟨v,⟨Y,h1⟩,ev⟩:=Hd (λv=>0<=v/\v<=1000000) [0,c/4%10,c/4%10,c/4%m] (k:=c%4) ac (by show _<4;lia) λx S=>by simp at S;lia
 exact⟨v,m,Y,h1,I,a,ev⟩
theorem gapr_row(n:Nat)(ns:a8)(b:Nat)(k I:Nat)(rows:a9)(U S:Option A0)(F:b<=100)(u:k<=3)(D:I<k):
  ∃(r:a8) (a Y:Option A0),B5 k r/\sk (.nm 6) (rh) (eM 0 k) [aa (.lst (ns.map .int)),aa (.int b),aa (.int k),aa (.lst rows),aa (.int I),aa (.lst []),U,S]=.ok (.nx [aa (.lst (ns.map .int)),aa (.int b),aa (.int k),aa (.lst rows),aa (.int I),aa (x3 r),a,Y]):=by
 obtain⟨ρ',e,r,a,Y,rfl,h1,A⟩:=tV (p:=.nm 6) (g:=rh)
  (λi ρ=>∃(r:a8) (U S:Option A0),ρ=[aa (.lst (ns.map .int)),aa (.int b),aa (.int k),aa (.lst rows),aa (.int I),aa (x3 r),U,S]/\r.length=i/\∀x∈r,0<=x/\x<=1000000) (eM 0 k) 0 _ ⟨[],U,S,rfl,rfl,ad⟩ (by
  rintro i d ρ w ⟨r,U,S,rfl,s,j⟩;obtain⟨hi,rfl⟩:=tZ w;have E:=by
   have:k*I<=3*3:=dC u ac
   exact_mod_cast this
  obtain⟨c,C⟩:=vM n ns (b+k*I+i) ac ac;obtain⟨v,m,h,f,l,B,ev⟩:=gap_v c;have o: -18446744073709551616<(k:Int):=ac
  have k2:(k:Int)<18446744073709551616:=ac
  have t:r.length<16777216:=ac
  refine⟨[aa (.lst (ns.map .int)),aa (.int b),aa (.int k),aa (.lst rows),aa (.int I),aa (x3 r),aa (.int i),S],ad,[aa (.lst (ns.map .int)),aa (.int b),aa (.int k),aa (.lst rows),aa (.int I),aa (x3 (r++[v])),aa (.int i),aa (.int c)],.inl ?_,_,_,_,rfl,by simp;lia,λy q=>?_⟩
  .simp[rh,o,k2,C,B,Ky l,ev,t,x3]
  .rcases aZ.mp q with z|z
   .exact j y z
   .simp at z;subst z;exact⟨h,f⟩)
 rw[dB,qq]at h1;exact⟨r,a,Y,⟨h1,A⟩,e⟩
theorem MV(n:Nat)(ns:a8)(b k:Nat)(o:b<=100)(l:k<=3):∃rows,wY k rows/\qT [.lst (ns.map .int),.int b,.int k]=.ok (gr rows):=by
 have v: -4611686018427387904<=(k:Int):=ac
 have k2:(k:Int)<4611686018427387904:=ac
 obtain⟨ρ',e,rows,u,t,c,a,rfl,h1,q⟩:=tV (p:=.nm 4) (g:=sY)
  (λi ρ=>∃(rows:List _) (Y U S I:Option A0),ρ=[aa _,aa _,aa _,aa (gr rows),Y,U,S,I]/\rows.length=i/\∀r∈rows,B5 k r) _ 0 [aa _,aa _,aa _,aa (.lst []),af,af,af,af] ⟨[],af,af,af,af,rfl,rfl,ad⟩ (by
  rintro i d ρ m ⟨rows,Y,U,S,I,rfl,h,f⟩;obtain⟨hi,rfl⟩:=tZ m;obtain⟨r,c,a,x,s⟩:=gapr_row n ns b k i (rows.map x3) S I o l hi;have j:rows.length<16777216:=ac
  refine⟨[aa (.lst (ns.map .int)),aa (.int b),aa (.int k),aa (gr rows),aa (.int i),U,S,I],ad,[aa (.lst (ns.map .int)),aa (.int b),aa (.int k),aa (gr (rows++[r])),aa (.int i),aa (x3 r),c,a],.inl ?_,_,_,_,_,_,rfl,by simp;lia,λy w=>?_⟩
  .simp[sY,k2,gr,s,j]
  grind)
 rw[dB,qq]at h1;exact⟨rows,⟨h1,q⟩,by simp[qT,wG,k2,e]⟩
theorem gps_ok(n:Nat)(ns:a8):∃g:Gp,g.Good/\sR [.lst (ns.map .int)]=.ok g.D:=by
 obtain⟨c,e⟩:=vM n ns 0 ac ac;obtain⟨k,b⟩:∃k:Nat,1+c%3=k:=⟨(1+c%3).toNat,ac⟩
 obtain⟨rows,d,Y⟩:=MV n ns 3 k ac ac;have i:k*k<=3*3:=dC ac ac;obtain⟨a,I,S⟩:=MV n ns (3+k*k) k ac ac;have U:((3+k*k:Nat))=3+(k:Int)*k:=by simp
 rw[U]at S;simp at Y;have f: -18446744073709551616<(k:Int):=ac
 have k2:(k:Int)<18446744073709551616:=ac
 by_cases h:c/3%3=1
 .exact⟨⟨k,rows,ag,a⟩,⟨ac,ac,d,I⟩,by simp[sR,xu,vO,e,b,Y,h,f,k2,S,Gp.D]⟩
 .exact⟨⟨k,rows,ae,a⟩,⟨ac,ac,d,I⟩,by simp[sR,xu,vO,e,b,Y,h,Gp.D]⟩
theorem MR(n:Nat)(I:g.Good):qQ CR CP n [g.D]=.ok (ey CR CP g.rows g.o):=by
 have S:=I.k1;have a:=I.k3;have e1:=Ct n g.k g.rows S ac I.rows;cases h:g.two with
 |false=>simp[qQ,wD,uV,Gp.D,Gp.o,h,newR,e1,ey]|true=>
  have U:twoL (gr g.rows) (gr g.r2)=ag:=by simp[twoL,gr,I.rows.1,I.r2.1]
  have Y:newP CP (ew) [gr g.rows,gr g.r2]=.ok (.ins CP [("gaps",gr g.rows),("beside",gr g.r2)]):=by simp[newP,e1,(Ct n g.k g.r2 S ac I.r2),U]
  have e3:ey CR CP g.rows (gr g.r2)=.ins CP [("gaps",gr g.rows),("beside",gr g.r2)]:=rfl;simp[qQ,wD,uV,Gp.D,Gp.o,h,Y,e3]
theorem Ku(n:Nat)(ns:a8):∃cs:List v9,cs.length<=20/\(∀p∈cs,p.1<p.2)/\se [.lst (ns.map .int)]=.ok (.lst (cs.map stD)):=by
 obtain⟨c,C⟩:=vM n ns 1 ac ac;obtain⟨D,f⟩:=vM n ns 2 ac ac;obtain⟨m,⟨b,J⟩,j⟩:=Hd (λm=>0<=m/\m<=20) [c%4,c%4,20] (k:=c/4%8/3) ac (by show _<3;lia) λx s=>by simp at s;lia
 obtain⟨I,rfl⟩:=Int.eq_ofNat_of_zero_le b;simp at j;have Y: -4611686018427387904<=(I:Int):=ac
 have k2:(I:Int)<4611686018427387904:=ac
 obtain⟨ρ',e,cs,G,F,E,rfl,h1,B⟩:=tV (p:=.nm 4) (g:=um)
  (λi ρ=>∃(cs:List v9) (h U S:Option A0),ρ=[aa (.lst (ns.map .int)),aa (.int c),aa (.int I),aa (.lst (cs.map stD)),h,U,S]/\cs.length=i/\∀p∈cs,p.1<p.2) (eM 0 I) 0 [aa (.lst (ns.map .int)),aa (.int c),aa (.int I),aa (.lst []),af,af,af] ⟨[],af,af,af,rfl,rfl,ad⟩ (by
  rintro i d ρ A ⟨cs,h,U,S,rfl,v,a⟩;obtain⟨hi,rfl⟩:=tZ A;have w:cs.length<16777216:=ac
  have H:(i:Int)*i<=400:=by
   have:i*i<=20*20:=dC ac ac
   exact_mod_cast this
  have l:(0:Int)<(i:Int)*i+1:=ac
  have p1:(i:Int)*i+1<18446744073709551616:=ac
  have Y: -18446744073709551616<(i:Int):=ac
  have k2:(i:Int)<18446744073709551616:=ac
  have q: -18446744073709551616<17*(i:Int):=ac
  have o:17*(i:Int)<18446744073709551616:=ac
  obtain⟨t,u⟩:∃t,t=D/((i:Int)*i+1)+17*(i:Int)*(c/32%3):=⟨_,rfl⟩
  refine⟨[aa (.lst (ns.map .int)),aa (.int c),aa (.int I),aa (.lst (cs.map stD)),aa (.int i),U,S],ad,[aa (.lst (ns.map .int)),aa (.int c),aa (.int I),aa (.lst ((cs++[(t%50,t%50+1+t/50%9)]).map stD)),aa (.int i),aa (.int t),aa (.int (t%50))],.inl ?_,_,_,_,_,rfl,by simp;lia,λy r=>?_⟩
  .simp[um,f,Y,k2,q,o,e_fdiv l p1,<-u,w,stD]
  .rcases aZ.mp r with z|z
   .exact a y z
   .simp at z;subst z;lia)
 rw[dB,qq]at h1;exact⟨cs,ac,B,by simp[se,xR,C,j,Y,k2,e]⟩
theorem Hu(n:Nat)(ns:a8)(k:Nat)(O:1<=k)(I:Nat)(hm:I<=40):∃fl:List Fli,fl.length=I/\(∀f∈fl,B6 k f)/\rq [.lst (ns.map .int),.int 21,.int k,.int I]=.ok (.lst (fl.map flD)):=by
 have J: -4611686018427387904<=(I:Int):=ac
 have k2:(I:Int)<4611686018427387904:=ac
 have A:(0:Int)<k:=ac
 obtain⟨ρ',e,fl,y5,y6,y7,Z,X,F,E,D,rfl,h1,Q⟩:=tV (p:=.nm 5) (g:=tL)
  (λi ρ=>∃(fl:List Fli) (t r q o l a Y U:Option A0),ρ=[aa (.lst (ns.map .int)),aa (.int 21),aa (.int k),aa (.int I),aa (.lst (fl.map flD)),t,r,q,o,l,a,Y,U]/\fl.length=i/\∀f∈fl,B6 k f) (eM 0 I) 0 [aa (.lst (ns.map .int)),aa (.int 21),aa (.int k),aa (.int I),aa (.lst []),af,af,af,af,af,af,af,af] ⟨[],af,af,af,af,af,af,af,af,rfl,rfl,ad⟩ (by
  rintro i d ρ P ⟨fl,t,r,q,o,l,a,Y,U,rfl,L,s⟩;obtain⟨hi,rfl⟩:=tZ P;have N:fl.length<16777216:=ac
  obtain⟨c,T⟩:=vM n ns (21+3*(i:Int)) ac ac;obtain⟨w,R⟩:=vM n ns (21+3*(i:Int)+1) ac ac;obtain⟨v,ev⟩:=vM n ns (21+3*(i:Int)+2) ac ac;obtain⟨S,⟨C,a1⟩,e1⟩:=Hd (λm=>0<m/\m<=900000000) [20,20,60,900000000] (k:=c/3%4) ac (by show _<(4:Int);lia) λx h=>by simp at h;lia
  obtain⟨b,⟨B,b1⟩,e2⟩:=Hd (λm=>0<m/\m<=10000000) [5,30,80,1000000,10000000] (k:=w%5) ac (by show _<(5:Int);lia) λx h=>by simp at h;lia
  obtain⟨j,⟨d0,W⟩,e3⟩:=Hd (λm=>0<=m/\m<=1000000000) [v/2%40,v/2%1000000001] (k:=v%2) ac (by show _<(2:Int);lia) λx h=>by simp at h;lia
  obtain⟨u,⟨H,p1⟩,e4⟩:=Hd (λm=>0<=m/\m<=1000000000) [v/80%5,v/80%5,v/80%1000000001] (k:=v/8%3) ac (by show _<(3:Int);lia) λx h=>by simp at h;lia
  simp only[pB]at e1 e2 e3 e4;have f0:0<=c/3%S:=gA _ ac;have f1:c/3%S<S:=fD _ C;have w0:0<=w/5%b:=gA _ ac;have w1:w/5%b<b:=fD _ B;have G:0<=c%(k:Int):=gA _ ac;have q1:c%(k:Int)<k:=fD _ A;refine⟨[aa (.lst (ns.map .int)),aa (.int 21),aa (.int k),aa (.int I),aa (.lst (fl.map flD)),aa (.int i),r,q,o,l,a,Y,U],ad,[aa (.lst (ns.map .int)),aa (.int 21),aa (.int k),aa (.int I),aa (.lst ((fl++[(⟨c%k,c/3%S,c/3%S+w/5%b,j,u⟩:Fli)]).map flD)),aa (.int i),aa (.int c),aa (.int w),aa (.int v),aa (.int (c/3%S)),aa (.int (c/3%S+w/5%b)),aa (.int j),aa (.int u)],.inl ?_,_,_,_,_,_,_,_,_,_,rfl,by simp;lia,λy K=>?_⟩
  .simp[tL,T,R,ev,e1,Ky C,e2,Ky B,e3,e4,Ky A,N,flD]
  .rcases aZ.mp K with z|z
   .exact s y z
   .simp at z;subst z;exact⟨G,q1,f0,by show c/3%S<=c/3%S+w/5%b;lia,by show c/3%S+w/5%b<=1000000000;lia,d0,W,H,p1⟩)
 rw[dB,qq]at h1;exact⟨fl,h1,Q,by simp[rq,xi,J,k2,e]⟩
def Ks(n:Nat)(I:g.Good){s b:Int}(U:0<=a)(S:a<g.k)(e:0<=b)(d:b<g.k)(Y:g.two=ae->s=t):ti [g.D,.tup [.int a,.int s],.tup [.int b,.int t]]=.ok (.int (apS g.rows g.r2 (a,s) (b,t))):=by
 obtain⟨k,_⟩:=wA I.rows U S;obtain⟨j,_⟩:=getA I.rows U S e d;obtain⟨i,_⟩:=wA I.r2 U S;obtain⟨f,_⟩:=getA I.r2 U S e d;by_cases c:s=t
 .cases h:g.two<;>simp[ti,wH,v8,Gp.D,h,c,gr,k,x3,j,apS]
 .cases h:g.two with
  |false=>exact bu (Y h) c|true=>simp[ti,wH,v8,Gp.D,h,c,gr,i,x3,f,apS]
theorem lb_row(n:Nat)(z:g.Good)(B:wM g.s g.k L)(c b t f:Int)(D:0<=b)(C:b<g.k)(E:0<=t/\t<g.s)(i:Nat)(hi:i<g.s)(r q o m l k U I S:Option A0):
  ∃Y,sk (.nm 13) (qW) (eM 0 g.k) [aa g.D,r,q,aa (hC c L),o,aa (.int t),aa (.int b),m,l,k,U,aa (.int f),aa (.int i),I,S]=.ok (.nx [aa g.D,r,q,aa (hC c L),o,aa (.int t),aa (.int b),m,l,k,U,aa (.int ((zQ (λj=>apS g.rows g.r2 (j,i) (b,t)) 0 (Bv L i)).foldl u0 f)),aa (.int i),Y,S]):=by
 obtain⟨G,y,x,_⟩:=vD B hi;have u:g.two=ae->i=t:=λh=>by
  have F:g.s=1:=by simp[Gp.s,h]
  lia
 obtain⟨ρ',e,Y,rfl⟩:=tV (p:=.nm 13) (g:=qW)
  (λj ρ=>∃(I:Option A0),ρ=[aa g.D,r,q,aa (hC c L),o,aa (.int t),aa (.int b),m,l,k,U,aa (.int ((zQ (λj=>apS g.rows g.r2 (j,i) (b,t)) 0 ((Bv L i).take j)).foldl u0 f)),aa (.int i),I,S]) (eM 0 g.k) 0 [aa g.D,r,q,aa (hC c L),o,aa (.int t),aa (.int b),m,l,k,U,aa (.int f),aa (.int i),I,S] ⟨I,by rfl⟩ (by
  rintro j d ρ A ⟨I,rfl⟩;obtain⟨H,rfl⟩:=tZ A;rw[dB];have w:=getT (ts:=Bv L i) (i:=j) ac;have ea:=Ks n z (a:=j) ac ac D C u;have s:((Bv L i).take j).length=j:=by rw[dc];lia
  rw[JT ac,ES,s,];by_cases v:tAt (Bv L i) j= -1
  .simp[qW,uk,hC,tk,x,tupI,w,v]
  .simp[qW,uk,hC,tk,x,tupI,w,v,ea])
 rw[qq,dz ac]at e;exact⟨Y,e⟩
def MW:∃ds,g.D=.lst ds/\ds.length=g.s:=by unfold Gp.D Gp.s;cases g.two<;>exact⟨_,rfl,rfl⟩
theorem lb_all(n:Nat)(w:g.Good)(u:wM g.s g.k L)(c b t k:Int)(C:0<=b)(B:b<g.k)(y:0<=t/\t<g.s)(s r q o m l U Y I S:Option A0):
  ∃f a,sk (.nm 12) (sF) (eM 0 g.s) [aa g.D,s,r,aa (hC c L),q,aa (.int t),aa (.int b),o,m,l,U,aa (.int k),Y,I,S]=.ok (.nx [aa g.D,s,r,aa (hC c L),q,aa (.int t),aa (.int b),o,m,l,U,aa (.int ((z9 (λi j=>apS g.rows g.r2 (j,i) (b,t)) 0 L).foldl u0 k)),f,a,S]):=by
 have D:=w.k3;have E: -4611686018427387904<=(g.k:Int):=ac
 have k2:(g.k:Int)<4611686018427387904:=ac
 obtain⟨ρ',e,f,a,rfl⟩:=tV (p:=.nm 12) (g:=sF)
  (λi ρ=>∃(Y I:Option A0),ρ=[aa g.D,s,r,aa (hC c L),q,aa (.int t),aa (.int b),o,m,l,U,aa (.int ((z9 (λi j=>apS g.rows g.r2 (j,i) (b,t)) 0 (L.take i)).foldl u0 k)),Y,I,S]) _ 0 [aa g.D,s,r,aa (hC c L),q,aa (.int t),aa (.int b),o,m,l,U,aa (.int k),Y,I,S] ⟨Y,I,by rfl⟩ (by
  rintro i d ρ z ⟨Y,I,rfl⟩;obtain⟨hi,rfl⟩:=tZ z;rw[dB];obtain⟨_,_,_,x⟩:=vD u hi;have v:(L.take i).length=i:=by rw[dc,u.1];lia
  obtain⟨a,A⟩:=lb_row n w u c b t ((z9 (λi j=>apS g.rows g.r2 (j,i) (b,t)) 0 _).foldl u0 k) C B y i hi s r q o m l U I S;refine⟨[aa g.D,s,r,aa (hC c L),q,aa (.int t),aa (.int b),o,m,l,U,aa (.int ((z9 (λi j=>apS g.rows g.r2 (j,i) (b,t)) 0 (L.take i)).foldl u0 k)),aa (.int i),I,S],ad,[aa g.D,s,r,aa _,q,aa _,aa _,o,m,l,U,aa (.int ((z9 (λi j=>apS g.rows g.r2 (j,i) (b,t)) 0 _).foldl u0 k)),aa (.int i),a,S],.inl ?_,_,_,rfl⟩
  rw[x,Gx,v,dB,kz];rw[<-A];cases h:g.two<;>simp[sF,Gp.D,h,gr,w.rows.1,k2])
 rw[dB,qq,dz (by rw[u.1];simp)]at e;exact⟨f,a,e⟩
theorem open2(n:Nat)(cs:List v9)(q:cs.length<=20):∀(m:Nat) (t:Int) (S:Option A0),cnt cs t+1<m->∃u,sM cs t u/\vU (tN) (sE) m [aa (.lst (cs.map stD)),aa (.int t),S]=.ok (.rt (.int u))
 |0,t,S,h=>by lia|m+1,t,S,h=>by
  have e:=Co t cs;have d:cs.length<=16777216:=ac
  have k:tN [aa (.lst (cs.map stD)),aa (.int t),S]=.ok ag:=by simp[tN]
  have I:=FQ (JV cs t);cases g:JV cs t with
  |nil=>
   rw[g]at I e;refine⟨t,⟨iV _,λ⟨p,i,h1,w⟩=>?_,λv a b=>by lia⟩,?_⟩
   .have:p.2∈JV cs t:=by
     exact bp.mpr ⟨p,bq.mpr ⟨i,a7⟩,rfl⟩
    simp_all
   .rw[vU,k,dm];simp at e I;have r:sE [aa (.lst (cs.map stD)),aa (.int t),S]=.ok (.rt (.int t)):=by simp[sE,d,e,vN,I]
    rw[r];rfl
  |cons x xs=>
   rw[g]at I e;obtain⟨u,j⟩:∃u,u=xs.foldl u0 x:=⟨_,rfl⟩
   have c:u∈JV cs t:=by
    rw[g,j];rcases xT xs x with z|z
    .simp_all
    .simp[z]
   obtain⟨p,i,l⟩:=bp.mp c;obtain⟨Y,U⟩:=bq.mp i;simp at U;have o:=cnt_lt Y U.2;obtain⟨v,f,ev⟩:=open2 n cs q m u (aa (.lst ((x::xs).map .int))) ac;refine⟨v,⟨?_,f.2.1,λy a b=>?_⟩,?_⟩
   .have:=f.1
    lia
   .by_cases s:y<u
    .exact⟨p,Y,ac,ac⟩
    .exact f.2.2 y ac b
   .rw[vU,k,dm,aC rfl];have A:maxD [.lst ((x::xs).map .int)]=.ok (.int u):=by
     show(o4 ((x::xs).map .int)).bind maxL=_;rw[sf,dm,maxL,j]
    simp_all[aO,sE,vN]
theorem open2_ok(n:Nat)(U:64<=n)(cs:List v9)(S:cs.length<=20)(t:Int):∃u,sM cs t u/\vB CR CP n [.lst (cs.map stD),.int t]=.ok (.int u):=by have Y:cnt cs t<=cs.length:=List.countP_le_length;obtain⟨u,I,e⟩:=open2 n cs S n t af ac;exact⟨u,I,by simp[vB,Ay,e]⟩
def g0(I:g.Good):∃ds,g.D=.lst ds/\ds.length=g.s/\wW ds 0=.ok (gr g.rows)/\g.rows.length=g.k:=by unfold Gp.D Gp.s;cases g.two<;>exact⟨_,rfl,rfl,ad,I.rows.1⟩
theorem Kn(n:Nat)(C:64<=n)(v:g.Good)(k:cs.length<=20){fl:List Fli}(h:∀f∈fl,B6 g.k f)(c:Int)(a:wM g.s g.k L){q s:Nat}(K:q<fl.length)(r:s<g.s):
  ∃u,sM cs (JS g L (w5 fl q) s) u/\r1 CR CP n [g.D,.lst (fl.map flD),.lst (cs.map stD),hC c L,.int q,.int s]=.ok (after g c L (w5 fl q) s u):=by
 obtain⟨m,D⟩:=getFl (fl:=fl) (i:=q) ac ac;have U:=h _ D;have J:=v.k3;have B:g.s<=2:=by unfold Gp.s;split<;>lia
 obtain⟨x,w,d⟩:=lb_all n v a c (w5 fl q).kind s (w5 fl q).first U.k0 U.k1 ⟨ac,ac⟩ (aa (.lst (fl.map flD))) (aa (.lst (cs.map stD))) (aa (.int q)) (aa (.int (w5 fl q).first)) (aa (.int (w5 fl q).last)) (aa (.int (w5 fl q).due)) (aa (.int (w5 fl q).price)) af af af;obtain⟨u,A,l⟩:=open2_ok CR CP n C cs k (JS g L (w5 fl q) s);refine⟨u,A,?_⟩
 obtain⟨I,Y⟩:∃I:Nat,(w5 fl q).kind=I:=⟨(w5 fl q).kind.toNat,by have:=U.k0;lia⟩
 have e:(w5 fl q).kind.toNat=I:=ac
 have h1:=Cp L (a.short ac);have t:=zU (j:=I) a r u;have F:=Gg (putL L s I u) (t.short ac);obtain⟨e1,e2⟩:=xC a r (j:=I) (by have:=U.k1;lia) u;rw[<-Y]at e2;have z:L.length<=16777216:=by have:=a.1;lia
 have y:(putL L s I u).length<=16777216:=by have:=t.1;lia
 have H: -18446744073709551616<(w5 fl q).price:=by have:=U.p0;lia
 have G:(w5 fl q).price<18446744073709551616:=by have:=U.p1;lia
 have p: -4611686018427387904<=(g.s:Int):=ac
 have o:(g.s:Int)<4611686018427387904:=ac
 obtain⟨ds,E,b⟩:=MW (g:=g);unfold JS at l;unfold after;simp only[flD,E,hC]at m d ⊢;by_cases S:(w5 fl q).last<u
 .simp[r1,vG,m,b,p,o,d,l,uj,S]
 .rw[aA S,e];simp only[tk];simp only[tk]at d;simp[r1,vG,m,b,p,o,d,l,uj,S,CZ,K3,GX,D1,lstOf,asI,h1,z,e1,e2,F,y,H,G,late]
theorem IX(n:Nat){k:Nat}(D:k<=1000)(e d:Option A0):∀(L M:List a8) (c Y:Option A0),(∀r∈L,r.length=k)->(∀r∈M,r.length=k)->∃s q,sk (.tp [2,3]) (qu) (Ef (L.map tupI) (M.map tupI)) [e,d,c,Y]=if leL L M=ag then .ok (.nx [e,d,s,q])else .ok (.rt (.bl ae))
 |[],t,c,Y,_,_=>⟨c,Y,by rw[mO,Ef.eq_def];simp[sk,leL]⟩|x::r,[],c,Y,_,_=>⟨c,Y,by rw[mO,aO,Ef.eq_def];simp[sk,leL]⟩|r::L,t::M,c,Y,h1,B=>by
  obtain⟨s,q,C⟩:=IX n D e d L M (aa (tupI r)) (aa (tupI t)) (λx v=>h1 x (by simp[v])) (λx v=>B x (by simp[v]));refine⟨s,q,?_⟩
  have J:=h1 r ad;have H:=B t ad;have w: -4611686018427387904<=(r.length:Int):=ac
  have k2:(r.length:Int)<4611686018427387904:=ac
  have g:(eM 0 r.length).length<=16777216:=by rw[qq];lia
  have f:=Np (p:=.nm 0) (ft:=fB (f2 gtD (f2 ixD (de 1) (de 0)) (f2 ixD (de 2) (de 0)))) (fe:=de 0) (ρ0:=[af,aa (tupI r),aa (tupI t)]) (λj=>aF (tAt t j<tAt r j)) (λj=>.int j) r.length (λj o=>by have e1:=getT (ts:=r) (i:=j) o;have e2:=getT (ts:=t) (i:=j) ac;simp[tupI,e1,e2])
  rw[aO,aO,Ef,sk];have F:rT (.tp [2,3]) (.tup [tupI r,tupI t]) [e,d,c,Y]=.ok [e,d,aa (tupI r),aa (tupI t)]:=by simp
  have E:qu [e,d,aa (tupI r),aa (tupI t)]=if leR r t=ag then .ok (.nx [e,d,aa (tupI r),aa (tupI t)])else .ok (.rt (.bl ae)):=by
   have S:=Mw (a:=r) (b:=t) ac;generalize A:(aX r.length).filter (λj=>aF (tAt t j<tAt r j))=U at f;have G:(U.map λj:Nat=>A0.int j)=(U.map λj:Nat=>(j:Int)).map A0.int:=by rw[aR];rfl
   rw[G]at f;have I:x5 [tupI r]=.ok (.int r.length):=by simp[tupI]
   by_cases h:leR r t=ag
   .rw[aC h];have l:U=[]:=by
     rw[<-A];refine jj.mpr λj o=>?_;have:=S.mp h j (bA.mp o)
     lia
    rw[l]at f;simp[qu,sW,I,w,k2,g,f,neM,A8,vX,eqD,z3]
   .rw[aA h];cases U with
    |nil=>
     refine bu (S.mpr λj o=>?_) h;have y:j∉(aX r.length).filter (λj=>aF (tAt t j<tAt r j)):=by rw[A];simp
     rw[bq]at y;refine kY λz=>y ⟨bA.mpr o,ac⟩
    |cons u U=>
     have m:neM (.lst (((u::U).map λj:Nat=>(j:Int)).map A0.int)) (.lst [])=.ok (.bl ag):=by
      have h:A8 (.lst (((u::U).map λj:Nat=>(j:Int)).map A0.int)) 40=ag:=by simp[A8,okEs_in,-aR,-aO]
      unfold neM;rw[h];simp[A8,vX,eqD,z3]
     generalize ((u::U).map λj:Nat=>(j:Int)).map A0.int=K at f m;simp[qu,sW,I,w,k2,g,f,m]
  rw[F,dm,E];by_cases h:leR r t=ag
  .simp only[leL,h,if_true,pM];exact C
  .simp only[leL,h,Bool.false_and];simp
theorem lnw_ok(n:Nat)(Y:g.Good)(U:wM g.s g.k p.2)(S:wM g.s g.k q.2):lb [labP p,labP q]=.ok (.bl (nw p q)):=by
 have c:=Y.k3;obtain⟨b,a,e⟩:=IX n ac (aa (labP p)) (aa (labP q)) p.2 q.2 af af U.2 S.2;simp[labP,hC,tk]at e ⊢;by_cases h:p.1<=q.1
 .have h':¬q.1<p.1:=ac
  by_cases I:leL p.2 q.2=ag
  .simp[lb,si,rb,h',e,nw,h,I]
  .simp[lb,si,rb,h',e,nw,I]
 .have h':q.1<p.1:=ac
  simp[lb,si,rb,h',nw,h]
end
def Il(l:a8):a8:=uy ltZ l
def lD(o:a8):A0:=.lst (o.map .int)
def near(I:Nat)(p f:Int):Bool:=aF (-(I:Int)<=f-p)&&aF (f-p<=I)
def lvl(I:Nat)(P:Nat->a8->Int->Bool):Nat->List a8
 |0=>[[]]|s+1=>(lvl I P s).flatMap λo=>((iv 0 I).filter (P s o)).map λf=>o++[f]
def Ft(S I:Nat):Nat->List a8:=lvl S λs o f=>aF (f∉o)&&near I s f
theorem Fj:∀{l m:a8},l.Nodup->(∀x∈l,x∈m)->l.length<=m.length
 |[],m,_,_=>bz _|a::l,m,h,S=>by
  rw[dN]at h;have U:=S a ad;have:=Fj h.2 λx I=>(List.mem_erase_of_ne (show x≠a from λe=>h.1 (e▸I))).mpr (S x (by simp[I]));rw[List.length_erase_of_mem U]at this;have:=List.length_pos_of_mem U;simp
  lia
theorem Nk(l:a9)(a:Nat)(h:a<=l.length):ve (.lst l) af (aa (a:Int))=.ok (.lst (l.take a)):=by show cG _=_;unfold cutL cX;dsimp only;rw[aA ac,f_,mZ,cS,pz h]
noncomputable def tabN:Nat->be
 |0=>[1,1,1,1,1,1,1,1,1]|1=>[1,1,2,3,5,8,13,21,34]|2=>[1,1,2,6,14,31,73]|_=>[1,1,2,6,24,78]
noncomputable def lim1:Nat->Nat
 |0=>8|1=>8|2=>6|_=>5
noncomputable def lim2:Nat->Nat
 |0=>6|_=>4
def keyO(k:Nat)(o:a8):SK:=(Il (o.take k),o.getD (k-1) 0)
def Et(k:Nat)(T:List (SK×a8))(I:List a8):List (SK×a8):=I.foldl (λT o=>putS T (keyO k o) (Il (o.take (k-1)))) T
def StepT(m s k:Nat)(T:List (SK×a8)):Prop:=(T.map (·.1)).Nodup/\T.length<=20000/\(∀e∈T,e.1.1∈begs m s (k+1)/\e.2∈begs m s k/\∃j,j<k+1/\e.2=e.1.1.eraseIdx j/\e.1.2=e.1.1.getD j 0)/\∀S∈begs m s (k+1),(∃e∈T,e.1.1=S)/\∀j,j<k+1->S.eraseIdx j∈begs m s k->T.contains ((S,S.getD j 0),S.eraseIdx j)=ag
noncomputable instance (m s k:Nat) (T:List (SK×List Int)):oo (StepT m s k T):=by unfold StepT;infer_instance
def Tab(m s:Nat):Prop:=((∀o∈Ft m s m,o.length=m)/\(Ft m s m).length<=100)/\(BL m s).Nodup/\(BL m s).Pairwise (λa b=>a.length<=b.length)/\(BL m s).length<=11000/\(∀k,k<m+1->∀b∈begs m s k,b.length=k/\∀x∈b,0<=x/\x<(m:Int))/\∀k,k<m->StepT m s k (Et (k+1) [] (Ft m s m))
noncomputable instance (m s:Nat):oo (Tab m s):=by unfold Tab;infer_instance
def tabs:∀s,s<4->∀m,m<9->m<=lim1 s->Tab m s:=by decide +kernel
def bnds:∀k,k<9->bnd 1 k<=100000/\(k<7->bnd 2 k<=100000):=by decide +kernel
def nums:∀s,s<4->∀m,m<9->(m<=lim1 s->(tabN s).getD m 0<=5000)/\(m<=lim2 s->(tabN s).getD m 0*2^m<=5000):=by decide +kernel
section
variable(CR CP:av)
def runF(n s m:Nat):List (M A0):=[r0 [.int m,.int s],rD [.int m,.int s],tQ [.int m,.int s]]
def runG(s m:Nat):List (M A0):=[.ok (.int ((tabN s).getD m 0:Nat)),.ok (.lst ((BL m s).map j0)),.ok (.lst ((Ft m s m).map lD))]
theorem runs(n:Nat):∀s m:Nat,s<4->m<=lim1 s->runF n s m=runG s m
 |0,0,_,_|0,1,_,_|0,2,_,_|0,3,_,_|0,4,_,_|0,5,_,_|0,6,_,_|0,7,_,_|0,8,_,_|1,0,_,_|1,1,_,_|1,2,_,_|1,3,_,_|1,4,_,_|1,5,_,_|1,6,_,_|1,7,_,_|1,8,_,_|2,0,_,_|2,1,_,_|2,2,_,_|2,3,_,_|2,4,_,_|2,5,_,_|2,6,_,_|3,0,_,_|3,1,_,_|3,2,_,_|3,3,_,_|3,4,_,_|3,5,_,_=>by kernel_rfl|0,m+9,_,h|1,m+9,_,h|2,m+7,_,h|3,m+6,_,h=>by simp only[lim1]at h;lia|s+4,_,h,_=>by lia
end
structure Cap(CR CP:av)(n st s m:Nat):Prop where
 m8:m<=8
 bd:∀k,k<=m->bnd st k<=100000
 run:∃c:Int,r0 [.int m,.int s]=.ok (.int c)/\c*st^m<=5000
 beg:rD [.int m,.int s]=.ok (.lst ((BL m s).map j0))
 ord:tQ [.int m,.int s]=.ok (.lst ((Ft m s m).map lD))
 tab:Tab m s
theorem cap(CR CP:av)(n:Nat){st s:Nat}(b:s<=3)(h:st=1/\m<=lim1 s\/st=2/\m<=lim2 s):Cap CR CP n st s m:=by
 have c:lim2 s<=lim1 s/\lim1 s<=8/\lim2 s<=6:=by rcases(show s=0\/s=1\/s=2\/s=3 by lia)with e|e|e|e<;>subst e<;>decide
 have I:=runs n s m ac ac;unfold runF runG at I;simp only[kn,and_true]at I;have S:=tabs s ac m ac ac;obtain⟨a,U⟩:=nums s ac m ac;rcases h with⟨rfl,h⟩|⟨rfl,h⟩
 .exact⟨ac,λk Y=>(bnds k ac).1,⟨_,I.1,ac⟩,I.2.1,I.2.2,S⟩
 .exact⟨ac,λk Y=>(bnds k ac).2 ac,⟨_,I.1,by exact_mod_cast U h⟩,I.2.1,I.2.2,S⟩
theorem Tab.beg{s:Nat}(h:Tab m s)(S:k<=m)(I:b∈begs m s k):Beg m s k b:=
 have:=h.2.2.2.2.1 k ac b I
 ⟨I,this.1,this.2⟩
theorem Tab.mem{m s:Nat}{b:a8}(h:Tab m s):b∈BL m s↔∃k,k<=m/\Beg m s k b:=by
 unfold BL;rw[List.mem_flatMap];constructor
 .rintro⟨k,I,S⟩;have I:=bA.mp I;exact⟨k,ac,h.beg ac S⟩
 .rintro⟨k,I,S⟩;exact⟨k,bA.mpr ac,S.mem⟩
def NF(m s:Nat):begs m s 0=[[]]:=by simp[begs,chs_zero,iv]
def Beg.zero(m s:Nat):Beg m s 0 []:=⟨by simp[NF],rfl,λx h=>(by cases h)⟩
section
variable(CR CP:av)
theorem few_ok(n:Nat)(ns:a8)(g:Gp):∃s m:Nat,s<=3/\(g.s=1/\m<=lim1 s\/g.s=2/\m<=lim2 s)/\vh [.lst (ns.map .int),g.D]=.ok (.tup [.int s,.int m]):=by
 obtain⟨a,e1⟩:=vM n ns 1 ac ac;obtain⟨S,i⟩:=vM n ns 0 ac ac;obtain⟨s,b⟩:∃s:Nat,a/96%4=s:=⟨(a/96%4).toNat,ac⟩
 obtain⟨ds,k,j⟩:=MW (g:=g);obtain⟨s1,s2⟩:=g.s2;have f:x5 [g.D]=.ok (.int g.s):=by
  have:ds.length<=16777216:=ac
  rw[k,<-j];simp[this]
 obtain⟨M,o,I⟩:∃M:Nat,(g.s=1/\M<=lim1 s\/g.s=2/\M<=lim2 s)/\(wW [.lst [.int 8,.int 8,.int 6,.int 5],.lst [.int 6,.int 4,.int 3,.int 3]] (g.s-1)).bind (λd=>ixD d (.int s))=.ok (.int M):=by
  rcases(show g.s=1\/g.s=2 by lia)with h|h<;>rw[h]<;>rcases(show s=0\/s=1\/s=2\/s=3 by lia)with e|e|e|e<;>subst e
  .exact⟨8,am,rfl⟩
  .exact⟨8,am,rfl⟩
  .exact⟨6,am,rfl⟩
  .exact⟨5,am,rfl⟩
  .exact⟨6,am,rfl⟩
  .exact⟨4,am,rfl⟩
  .exact⟨3,am,rfl⟩
  .exact⟨3,am,rfl⟩
 have Y:0<(M:Int)+1:=ac
 have l:0<=S/9%(M+1):=gA _ ac;have q1:S/9%(M+1)<M+1:=fD _ Y;obtain⟨m,c⟩:∃m:Nat,S/9%(M+1)=m:=⟨(S/9%(M+1)).toNat,ac⟩
 refine⟨s,m,ac,ac,?_⟩
 cases U:wW [.lst [.int 8,.int 8,.int 6,.int 5],.lst [.int 6,.int 4,.int 3,.int 3]] (g.s-1)with
 |error x=>rw[U]at I;cases I|ok d=>rw[U]at I;simp[vh,Ce,e1,i,b,f,U,I,Ky Y,c]
end
theorem xJ(n:Nat):∀ls:bv,vX (ls.map Lake.hC) (n+4)=ag
 |[]=>rfl|l::ls=>by simp[vX,A8,Lake.hC,Fi,xJ n ls]
theorem FT:∀a b:a8,z3 (a.map .int) (b.map .int)=aF (a=b)
 |[],[]=>rfl|[],_::_=>by simp[z3]|_::_,[]=>by simp[z3]|x::a,y::b=>by simp[z3,];rfl
theorem FR:∀L M:List a8,z3 (L.map j0) (M.map j0)=aF (L=M)
 |[],[]=>rfl|[],_::_=>by simp[z3]|_::_,[]=>by simp[z3]|x::L,y::M=>by simp[z3,eqD,j0,<-FR L M]
theorem HA(x y:LK):eqD (Lake.hC x) (Lake.hC y)=aF (x=y):=by
 have:=FR x.2 y.2;obtain⟨a,L⟩:=x;obtain⟨b,M⟩:=y
 simp_all[eqD,z3,Lake.hC]
 rfl
def Mf(x:LK):A8 (Lake.hC x) 40=ag:=by have:=xJ 36 [x];simpa[vX] using this
def Mj(x:LK)(ls:bv):IQ (Lake.hC x) (.lst (ls.map Lake.hC))=.ok (.bl (!decide (x∈ls))):=by
 have e:((ls.map Lake.hC).any λd=>eqD d (Lake.hC x))=aF (x∈ls):=by
  rw[List.any_map,hG,kX,eA];constructor
  .rintro⟨y,I,h⟩;have h:=(HA y x).symm.trans h;rw[eA]at h;exact h▸I
  .intro h;exact⟨x,h,(HA x x).trans ad⟩
 show(if (A8 _ 40&&vX _ 40)=ag then _ else _)=_;rw[Mf,(xJ 36 ls),e];rfl
def Ey(xs:a8):sZ [.lst (xs.map .int)]=.ok (.lst ((Il xs).map .int)):=by have e:=sf xs;simp[sZ,yc];rfl
noncomputable def setP(P:Pap)(b:a8)(ls:bv):Pap:=P.map λp=>if p.1=b then(p.1,ls)else p
def LC(P:Pap)(b:a8)(ls:bv):(setP P b ls).map (·.1)=P.map (·.1):=by unfold setP;rw[aR];refine bM λp _=>?_;show(if p.1=b then(p.1,ls)else p).1=p.1;split<;>rfl
def vi(p:a8×bv)(P:Pap)(c:a8):look (p::P) c=if p.1=c then p.2 else look P c:=by unfold look;by_cases h:p.1=c<;>simp[h]
def Mp(P:Pap)(b:a8)(ls:bv)(c:a8):look (setP P b ls) c=if c=b/\b∈P.map (·.1)then ls else look P c:=by
 induction P with
 |nil=>simp[setP]|cons p P S=>
  have e:setP (p::P) b ls=(if p.1=b then(p.1,ls)else p)::setP P b ls:=rfl;rw[e,vi,vi,S];by_cases h:p.1=c
  .rw[aC (by split<;>exact h),aC h];by_cases I:p.1=b
   .rw[aC I,aC ⟨h.symm.trans I,by simp[I]⟩]
   .rw[aA I,aA λz=>I (h.trans z.1)]
  .rw[aA (by split<;>exact h),aA h];by_cases I:c=b
   .have U:¬b=p.1:=λz=>h (z.symm.trans I.symm);have:(b∈pB (·.1) (p::P))=(b∈P.map (·.1)):=by simp[U]
    simp only[this]
   .rw[aA λz=>I z.1,aA λz=>I z.1]
theorem put_setP(P:Pap)(b:a8)(ls:bv)(h:b∈P.map (·.1)):rY (qP P) b (sr ls)=qP (setP P b ls):=by unfold rY;rw[zi,aC ac];unfold qP setP;rw[aR,aR];refine bM λp _=>?_;lia
def LQ(P:Pap)(b:a8)(ls:bv):Pap:=if b∈P.map (·.1)then setP P b ls else P++[(b,ls)]
def Jt(P:Pap)(b:a8)(ls:bv):rY (qP P) b (sr ls)=qP (LQ P b ls):=by
 unfold LQ;split
 .rename_i h;exact put_setP P b ls h
 .rename_i h;exact ID b P ls h
def Fo(P:Pap)(b:a8)(ls:bv)(c:a8):look (LQ P b ls) c=if c=b then ls else look P c:=by
 unfold LQ;split
 .rename_i h;rw[Mp];by_cases e:c=b<;>simp[h]
 .rename_i h;rw[Dy];by_cases e:c=b
  .subst e;rw[aA h,aC rfl,vi,aC rfl]
  .split
   .rfl
   .rename_i I;rw[vi,aA (bO e),rx I];rfl
def Fy(P:Pap)(b:a8)(ls:bv):(LQ P b ls).map (·.1)=if b∈P.map (·.1)then P.map (·.1)else P.map (·.1)++[b]:=by
 unfold LQ;split
 .exact LC P b ls
 .simp
def V.uw(v:V)(P:Pap)(e:SK×a8):Pap:=LQ P e.1.1 ((look P e.2).foldl (v.Ec e.1.2.toNat) (look P e.1.1))
structure V.Stp(v:V)(P:Pap)(e:SK×a8):Prop where
 labs:NM v P
 f0:0<=e.1.2
 f1:e.1.2<v.fl.length
 ne:e.2≠e.1.1
 there:e.2∈P.map (·.1)
 few:(look P e.1.1).length+v.g.s*(look P e.2).length<16777216
 len:P.length<16777216
inductive V.Stps(v:V):Pap->List (SK×List Int)->Prop
 |nil {P:Pap}:V.Stps v P []
 |cons {P:Pap} {e:SK×List Int} {T:List (SK×List Int)} (h:v.Stp P e) (t:V.Stps v (v.uw P e) T):V.Stps v P (e::T)
section
variable(CR CP:av)
theorem Mt(n:Nat)(Y:g.Good):uE [g.D]=.ok (Lake.hC (0,L0 g)):=by
 have o:=Y.k3;have c:g.s<=2:=by unfold Gp.s;split<;>lia
 obtain⟨ds,i,U,S,I⟩:=g0 Y;have m:(g.k:Int)<9223372036854775808:=ac
 have q:(-9223372036854775808)<=(g.k:Int):=ac
 have l:g.k<=16777216:=ac
 have h:∀k,(aK k [A0.int (-1)]).flatten=(aK k (-1)).map A0.int:=λk=>by
  induction k with
  |zero=>rfl|succ k b=>rw[nJ,List.flatten_cons,b];rfl
 have a:gj (.nm 0) x6 (fL u6 (b6 (f2 repD (fL nA (b6 (f1 IT (fC (.int 1))) ej)) (fL x5 (b6 (f2 ixD (de 1) (fC (.int 0))) ej))) ej)) [af,aa (.lst ds)] ds=.ok (ds.map λ_=>tupI (aK g.k (-1))):=by
  refine rA _ ds λd p=>⟨[aa d,aa (.lst ds)],ad,?_⟩
  simp[S,gr,I,m,l,tupI]
 show _=cG (hC 0 (aK g.s _));have f:ds.length<=16777216:=ac
 have j:(ds.map λ_=>tupI (aK g.k (-1)))=(aK g.s (aK g.k (-1))).map tupI:=by rw[lz,U,j_]
 rw[i];rw[j]at a;have e:g.s<=16777216:=ac
 simp[uE,yJ,f,a,hC,tk]
def lbeh(n:Nat)(a:64<=n)(I:v.Good)(b:Lab v.g l){q s:Nat}(Y:q<v.fl.length)(U:s<v.g.s):
  r1 CR CP n [v.g.D,.lst (v.fl.map flD),.lst (v.cs.map stD),Lake.hC l,.int q,.int s]=.ok (labO (v.beh l q s)):=by
 obtain⟨u,S,e⟩:=Kn CR CP n a I.g I.cs I.fl l.1 b.good Y U;rw[Ho,e];have d:v.bt l q s=u:=nx_eq S;unfold after V.beh;rw[d];unfold V.f;by_cases c:(w5 v.fl q).last<u
 .rw[aC c,aC c];rfl
 .rw[aA c,aA c];rfl
@[reducible] def evA(v:V)(sh d:A0)(c b a Y U S I:Option A0):df:=[aa v.g.D,aa (.lst (v.fl.map flD)),aa (.lst (v.cs.map stD)),aa sh,aa d,af,c,af,b,a,Y,af,U,S,I]
def D_len(v:V):x5 [v.g.D]=.ok (.int v.g.s):=by obtain⟨ds,S,I⟩:=MW;rw[S];simp[I]
theorem Eo(n:Nat)(m:64<=n){v:V}(i:v.Good)(sh e:A0)(d c U:Option A0)(S:A0){l:LK}(o:Lab v.g l){q:Nat}(k:q<v.fl.length):∀(r j:Nat) (L:bv) (Y I:Option A0),j+r=v.g.s->L.length+r<16777216->∃b a,
  qo (wk 13 14 11 (gy CR CP n) (gi)) (eM (j:Int) r) (evA v sh e d c (aa (.tup [S,.int q])) U (aa (Lake.hC l)) Y I,L.map Lake.hC)=.ok (evA v sh e d c (aa (.tup [S,.int q])) U (aa (Lake.hC l)) b a,((jC j r).foldl (v.add l q) L).map Lake.hC)
 |0,j,L,Y,I,_,_=>⟨Y,I,rfl⟩|r+1,j,L,Y,I,h,y=>by
  have u:(v.add l q L j).length<=L.length+1:=v.B2 l q [j] L;obtain⟨b,a,p⟩:=Eo n m i sh e d c U S o k r (j+1) (v.add l q L j) _ _ ac ac;refine⟨b,a,?_⟩
  have w:wk 13 14 11 (gy CR CP n) (gi) (evA v sh e d c (aa (.tup [S,.int q])) U (aa (Lake.hC l)) Y I,L.map Lake.hC) (.int j)=.ok (evA v sh e d c (aa (.tup [S,.int q])) U (aa (Lake.hC l)) (aa (.int j)) (aa (labO (v.beh l q j))),(v.add l q L j).map Lake.hC):=by
   have e1:gy CR CP n (evA v sh e d c (aa (.tup [S,.int q])) U (aa (Lake.hC l)) (aa (.int j)) I)=.ok (labO (v.beh l q j)):=by simp[gy,(lbeh CR CP n m i o k (s:=j) ac)]
   unfold wk celC;simp at e1 ⊢;rw[e1];unfold V.add;cases z:v.beh l q j with
   |none=>simp[gi,labO]|some x=>
    have f:=Mj x L;have t:L.length<16777216:=ac
    unfold Lake.putL;by_cases g:x∈L
    .simp[gi,labO,Ds,f,g]
    .simp[gi,labO,Ds,f,g,t,-e_notN]
  rw[vw,kW];show(wk 13 14 11 _ _ _ _).bind _=_;rw[w];exact p
theorem J4(n:Nat)(o:64<=n){v:V}(k:v.Good)(sh f:A0)(e d Y:Option A0)(S:A0){q:Nat}(m:q<v.fl.length):∀(ls L:bv) (a U I:Option A0),(∀l∈ls,Lab v.g l)->L.length+v.g.s*ls.length<16777216->∃g c b,
  qo (labC 12 13 14 11 (lk) (gy CR CP n) (gi)) (ls.map Lake.hC) (evA v sh f e d (aa (.tup [S,.int q])) Y a U I,L.map Lake.hC)=.ok (evA v sh f e d (aa (.tup [S,.int q])) Y g c b,(ls.foldl (v.Ec q) L).map Lake.hC)
 |[],L,a,U,I,_,_=>⟨a,U,I,rfl⟩|l::ls,L,a,U,I,p,s=>by
  have e3:=v.wX q [l] L;simp at e3 s;obtain⟨c,b,h1⟩:=Eo CR CP n o k sh f e d Y S (p l ad) m v.g.s 0 L U I ac ac;obtain⟨j,i,h,u⟩:=J4 n o k sh f e d Y S m ls (v.Ec q L l) _ c b (λx r=>p x (by simp[r])) ac;refine⟨j,i,h,?_⟩
  have hi:lk (evA v sh f e d (aa (.tup [S,.int q])) Y (aa (Lake.hC l)) U I)=.ok (eM 0 v.g.s):=by
   have:=D_len v;have w:ye [.int v.g.s]=.ok (eM 0 v.g.s):=by rw[e_rng1 (by simp[ih];lia),cS]
   simp[lk,this,w]
  have t:labC 12 13 14 11 (lk) (gy CR CP n) (gi) (evA v sh f e d (aa (.tup [S,.int q])) Y a U I,L.map Lake.hC) (Lake.hC l)=.ok (evA v sh f e d (aa (.tup [S,.int q])) Y (aa (Lake.hC l)) c b,(v.Ec q L l).map Lake.hC):=by unfold labC;simp at hi h1 ⊢;rw[hi];refine h1.trans ?_;unfold V.Ec;rw[m9]
  show(labC 12 13 14 11 _ _ _ _ _).bind _=_;rw[t,];exact u
theorem item_run(n:Nat)(B:64<=n)(z:v.Good)(sh m:A0)(g d:Option A0){e:SK×a8}(h:v.Stp P e)(w o Y U I:Option A0):∃y r k j i,
  DD 9 10 11 12 13 14 (pe) (oq) (lk) (gy CR CP n) (gi) (evA v sh m g d w o Y U I,qP P) (itD e)=.ok (evA v sh m g d y r k j i,qP (v.uw P e)):=by
 obtain⟨⟨S,f⟩,A⟩:=e;obtain⟨h1,J,H,F,E,D,C⟩:=h;obtain⟨q,rfl⟩:∃q:Nat,f=q:=⟨f.toNat,ac⟩
 obtain⟨k,j,i,p⟩:=J4 CR CP n B z sh m g d _ _ (q:=q) ac _ _ Y U I (λl p=>h1 A l p) D;refine⟨aa (.tup [j0 S,.int q]),aa (j0 A),k,j,i,?_⟩
 have G:DD 9 10 11 12 13 14 _ _ _ _ _ (evA v sh m g d w o Y U I,qP P) (itD ((S,q),A))=Bf 11 12 13 14 (pe) (oq) (lk) (gy CR CP n) (gi) (evA v sh m g d (aa (.tup [j0 S,.int q])) (aa (j0 A)) Y U I) _:=rfl;rw[G];have s:∀a b c,pe (evA v sh m g d (aa (.tup [j0 S,.int q])) (aa (j0 A)) a b c)=.ok (j0 S):=λa b c=>by simp[pe]
 have x:oq (evA v sh m g d (aa (.tup [j0 S,.int q])) (aa (j0 A)) Y U I)=.ok (j0 A):=by simp[oq]
 have t:lstO (tT (qP P) S)=(look P S).map Lake.hC:=by
  by_cases u:S∈P.map (·.1)
  .rw[Cd S P u];rfl
  .have e1:=zi S P;rw[cq u,Option.isSome_eq_false_iff,Option.isNone_iff_eq_none]at e1;rw[e1,rx u];rfl
 unfold Bf Lake.stepK;simp at s x p ⊢;rw[s,dm,xg,dm,x,dm,xg,dm,aA F,Cd A P E];show(qo _ _ _).bind _=_;rw[t,p,dm];unfold Lx;rw[s,dm,xg,dm,aC ⟨rfl,by unfold qP;rw[az];exact C⟩];have:=Jt P S ((look P A).foldl (v.Ec q) (look P S));unfold sr at this;rw[this];rfl
def MJ(n:Nat)(s:64<=n)(r:v.Good)(sh o:A0)(i g:Option A0)(h:v.Stps P T):∀(f Y U S I:Option A0),∃p m l k j,
  qo (DD 9 10 11 12 13 14 (pe) (oq) (lk) (gy CR CP n) (gi)) (T.map itD) (evA v sh o i g f Y U S I,qP P)=.ok (evA v sh o i g p m l k j,qP (T.foldl v.uw P)):=by
 induction h with
 |nil=>intro f Y U S I;exact⟨f,Y,U,S,I,rfl⟩|cons h t q=>
  intro f Y U S I;obtain⟨a,b,c,d,e,h1⟩:=item_run CR CP n s r sh o i g h f Y U S I;obtain⟨a',b',y,x,w,u⟩:=q a b c d e;refine⟨a',b',y,x,w,?_⟩
  show(DD 9 10 11 12 13 14 _ _ _ _ _ _ _).bind _=_;rw[h1,];exact u
theorem M8(n:Nat)(sh c:A0)(q:1<=k)(g b Y U S I:Option A0)(T:List (SK×a8)){o:a8}(h:k<=o.length)(j:o.length<=41)(i:T.length<16777216):
  ordC 8 (qz) (qA) (evA v sh c (aa (.int k)) g b Y U S I,T) (lD o)=.ok (evA v sh c (aa (.int k)) (aa (lD o)) b Y U S I,putS T (keyO k o) (Il (o.take (k-1)))):=by
 have f:=Nk (o.map .int) k (by simpa using h);have e:=Nk (o.map .int) (k-1) (by simp;lia);rw[<-mr]at f e;have a:(k-1)=((k-1:Nat):Int):=ac
 have p:(Il (o.take k)).length<=16777216:=by unfold Il;rw[(o3 _).length_eq,dc];lia
 have m:(Il (o.take (k-1))).length<=16777216:=by unfold Il;rw[(o3 _).length_eq,dc];lia
 have l:wW _ ((k-1:Nat))=.ok (.int (o.getD _ 0)):=getT ac;have d:qz (evA v sh c (aa (.int k)) (aa (lD o)) b Y U S I)=.ok (j0 (Il (o.take (k-1)))):=by simp[qz,lD,a,e,(Ey (o.take (k-1))),j0,-mr]
 have e5:qA (evA v sh c (aa (.int k)) (aa (lD o)) b Y U S I)=.ok (.tup [j0 (Il (o.take k)),.int (o.getD (k-1) 0)]):=by simp[qA,lD,a,f,(Ey (o.take k)),l,j0,-mr]
 unfold ordC;simp only[e_,e9]at e5 d ⊢;rw[d,dm,xg,dm,e5,dm];have:skD (.tup [j0 (Il (o.take k)),.int (o.getD (k-1) 0)])=.ok (keyO k o):=by show(o4 ((Il (o.take k)).map .int)).bind _=_;rw[sf];rfl
 rw[this,dm,aC (by exact i)]
end
def V.grow(v:V)(P:Pap)(L:bv)(e:SK×a8):bv:=(look P e.2).foldl (v.Ec e.1.2.toNat) L
theorem wu(v:V)(P:Pap)(e:SK×a8)(b:a8):look (v.uw P e) b=if b=e.1.1 then v.grow P (look P b) e else look P b:=by simp_all[V.uw,V.grow,Fo]
def Fw(v:V)(P:Pap)(e:SK×a8):(v.uw P e).map (·.1)=if e.1.1∈P.map (·.1)then P.map (·.1)else P.map (·.1)++[e.1.1]:=Fy _ _ _
noncomputable def atB(b:a8)(T:List (SK×a8)):List (SK×a8):=T.filter λe=>aF (e.1.1=b)
def E7(b:a8)(e:SK×a8)(T:List (SK×a8)):atB b (e::T)=if e.1.1=b then e::atB b T else atB b T:=by unfold atB;by_cases h:e.1.1=b<;>simp[h]
theorem FF(v:V):∀(T:List (SK×a8)) (P:Pap),(∀e∈T,∀U∈T,e.2≠U.1.1)->∀b,look (T.foldl v.uw P) b=(atB b T).foldl (v.grow P) (look P b)
 |[],_,_,_=>rfl|e::T,P,h,b=>by
  rw[bD,FF v T _ (λx I y S=>h x (by simp[I]) y (by simp[S])) b,E7];have e1:∀L,(atB b T).foldl (v.grow (v.uw P e)) L=(atB b T).foldl (v.grow P) L:=λL=>foldl_congr _ _ λx I M=>by unfold V.grow;rw[wu,aA (h x (by simp[(bq.mp I).1]) e ad)]
  rw[e1,wu];grind
theorem FG(v:V):∀(T:List (SK×a8)) (P:Pap),(P.map (·.1)).Nodup->((T.foldl v.uw P).map (·.1)).Nodup/\(∀b,b∈(T.foldl v.uw P).map (·.1)↔b∈P.map (·.1)\/∃e∈T,e.1.1=b)/\(∀x,(P.map (·.1)).head? =aa x->((T.foldl v.uw P).map (·.1)).head? =aa x)/\(T.foldl v.uw P).length<=P.length+T.length
 |[],P,h=>⟨h,λb=>by simp,λx h=>h,aq _⟩|e::T,P,h=>by
  have U:=Fw v P e;have h':((v.uw P e).map (·.1)).Nodup:=by
   rw[U];split
   .exact h
   .rename_i c;rw[dK];exact⟨h,ad,λa f b Y q=>by simp at Y;subst Y;exact c (q▸f)⟩
  obtain⟨h1,i,g,k⟩:=FG v T _ h';have j:(v.uw P e).length<=P.length+1:=by have:=dI gC U;rw[az]at this;rw[this];split<;>simp
  refine⟨h1,λb=>?_,λx S=>g x ?_,?_⟩
  .rw[bD,i,U];constructor
   .rintro(q|⟨y,I,q⟩)
    .split at q
     .exact .inl q
     .rcases aZ.mp q with q|q
      .exact .inl q
      .simp at q;exact .inr ⟨e,ad,q.symm⟩
    .exact .inr ⟨y,by simp[I],q⟩
   .rintro(q|⟨y,I,q⟩)
    .left;split
     .exact q
     .exact cf _ q
    .rcases aM.mp I with rfl|I
     .left;split
      .rename_i c;exact q▸c
      .rw[q];simp
     .exact .inr ⟨y,I,q⟩
  .rw[U];split
   .exact S
   .cases d:P.map (·.1)with
    |nil=>rw[d]at S;cases S|cons a as=>rw[d]at S;simpa using S
  .rw[bD,aW];lia
theorem Jg(v:V){P:Pap}{x:LK}:∀(F:List (SK×a8)) (L:bv),x∈F.foldl (v.grow P) L↔x∈L\/∃e∈F,∃l∈look P e.2,∃s,s<v.g.s/\v.beh l e.1.2.toNat s=aa x
 |[],L=>by simp|e::F,L=>by
  rw[bD,Jg v F];unfold V.grow;rw[v.zt];constructor
  .rintro((h|h)|⟨y,I,h⟩)
   .exact .inl h
   .exact .inr ⟨e,ad,h⟩
   .exact .inr ⟨y,by simp[I],h⟩
  .rintro(h|⟨y,I,h⟩)
   .exact .inl (.inl h)
   .rcases aM.mp I with rfl|I
    .exact .inl (.inr h)
    .exact .inr ⟨y,I,h⟩
theorem Jh(v:V){P:Pap}{N:Nat}:∀(F:List (SK×a8)) (L:bv),(∀e∈F,(look P e.2).length<=N)->(F.foldl (v.grow P) L).length<=L.length+F.length*(v.g.s*N)
 |[],L,_=>by simp|e::F,L,h=>by
  have h1:=Jh v F (v.grow P L e) λx I=>h x (by simp[I]);have U:(v.grow P L e).length<=L.length+v.g.s*(look P e.2).length:=v.wX _ _ _;have S:v.g.s*(look P e.2).length<=v.g.s*N:=dC (aq _) (h e ad);rw[bD,aW,nI]
  lia
def putL_nd(h:ks.Nodup)(k:LK):(Lake.putL ks k).Nodup:=by
 unfold Lake.putL;split
 .exact h
 .rename_i c;rw[dK];exact⟨h,ad,λa S b I q=>by simp at I;subst I;exact c (q▸S)⟩
theorem NK(v:V)(q:Nat):∀(ls ks:bv),ks.Nodup->(ls.foldl (v.Ec q) ks).Nodup
 |[],_,h=>h|l::ls,ks,h=>by
  refine NK v q ls _ ?_;have:∀(I:be) (ks:bv),ks.Nodup->(I.foldl (v.add l q) ks).Nodup:=λI=>by
   induction I with
   |nil=>intro ks h;exact h|cons s I S=>
    intro ks h;refine S _ ?_;unfold V.add;split
    .exact h
    .exact putL_nd h _
  exact this _ _ h
theorem MS(v:V){P:Pap}:∀(F:List (SK×a8)) (L:bv),L.Nodup->(F.foldl (v.grow P) L).Nodup
 |[],_,h=>h|e::F,L,h=>by exact MS v F _ (NK v _ _ _ h)
def atB_len(h:(T.map (·.1)).Nodup)(Y:∀e∈T,e.1.1=b->e.1.2∈b):(atB b T).length<=b.length:=by
 have h1:((atB b T).map (·.1.2)).Nodup:=by
  have a:(atB b T).Pairwise λx y=>x.1≠y.1:=(iR.mp h).sublist List.filter_sublist;refine iR.mpr (a.imp_of_mem λ{x y} I S n e=>n ?_);have ex:=by simpa using (bq.mp I).2
  have c:=by simpa using (bq.mp S).2
  exact kx (ex.trans c.symm) e
 have:=Fj h1 λx I=>by obtain⟨e,U,rfl⟩:=bp.mp I;have:=bq.mp U;exact Y e this.1 (by simpa using this.2)
 simpa using this
theorem V.Good.stps{v:V}(d:v.Good){N M:Nat}:∀(T:List (SK×a8)) (P:Pap),NM v P->(∀e∈T,0<=e.1.2/\e.1.2<v.fl.length/\e.2∈P.map (·.1)/\(look P e.2).length<=N)->(∀e∈T,∀A∈T,e.2≠A.1.1) ->
  (∀e∈T,(look P e.1.1).length+(atB e.1.1 T).length*(v.g.s*N)<=M)->M<16777216->P.length+T.length<=16777216->v.Stps P T/\NM v (T.foldl v.uw P)
 |[],P,S,_,_,_,_,_=>⟨.nil,S⟩|e::T,P,S,h1,a,i,r,f=>by
  obtain⟨f0,f1,f2,f3⟩:=h1 e ad;have B:=i e ad;rw[E7,aC rfl,aW,nI,Nat.one_mul]at B;have C:v.g.s*(look P e.2).length<=v.g.s*N:=dC (aq _) f3;have sp:v.Stp P e:=⟨S,f0,f1,a e ad e ad,f2,ac,by simp only[aW]at f;lia⟩
  have Y:NM v (v.uw P e):=λb l U=>by
   rw[wu]at U;split at U
   .rcases(v.zt _ _).mp U with z|⟨D,m,s,k,j⟩
    .exact S b l z
    .exact d.ND (S _ _ m) ac k j
   .exact S b l U
  have h:=Fw v P e;have g:(v.uw P e).length<=P.length+1:=by have:=dI gC h;rw[az]at this;rw[this];split<;>simp
  obtain⟨o,n⟩:=d.stps (N:=N) (M:=M) T (v.uw P e) Y (λx I=>by
   obtain⟨w,u,g2,t⟩:=h1 x (by simp[I]);refine⟨w,u,?_,?_⟩
   .rw[h];split
    .exact g2
    .exact cf _ g2
   .rw[wu,aA (a x (by simp[I]) e ad)];exact t) (λx I y p=>a x (by simp[I]) y (by simp[p])) (λx I=>by
   have c:=i x (by simp[I]);rw[E7]at c;rw[wu];by_cases q:e.1.1=x.1.1
   .have:(v.grow P (look P x.1.1) e).length<=(look P x.1.1).length+v.g.s*(look P e.2).length:=v.wX _ _ _
    lia
   .rw[aA q]at c;rw[aA (bO q)];exact c) r (by simp only[aW]at f;lia)
  exact⟨.cons sp o,n⟩
structure V.Gz(v:V)(sh k:Nat)(P:Pap):Prop where
 nd:(P.map (·.1)).Nodup
 keys:∀b,b∈P.map (·.1)↔∃j,j<=k/\Beg v.fl.length sh j b
 labs:NM v P
 zero:look P []=[v.l0]
 mem:∀b,b∈P.map (·.1)->b≠[]->∀x,x∈look P b↔x∈v.Gw P b
 few:∀b,(look P b).length<=bnd v.g.s b.length
 ndl:∀b,(look P b).Nodup
 head:(P.map (·.1)).head? =aa []
 len:P.length<=1+k*20000
theorem V.all0(v:V)(sh:Nat):v.Gz sh 0 [([],[v.l0])]:=by
 have I:∀b,look [([],[v.l0])] b=if b=[]then [v.l0]else []:=λb=>by
  rw[vi];by_cases h:b=[]
  .rw[aC h,aC (by simpa using h.symm)]
  .rw[aA h,aA (by simpa using bO h)];rfl
 refine⟨ad,λb=>?_,λb l h=>?_,by rw[I,aC rfl],λb h1 U=>bu (by simpa using h1) U,λb=>?_,λb=>?_,rfl,ad⟩
 .constructor
  .intro h;have:=by simpa using h
   subst this;exact⟨0,aq _,Beg.zero _ _⟩
  .rintro⟨j,Y,S⟩;have:=S.len;have:b=[]:=eS.mp ac;simp[this]
 .rw[I]at h;split at h
  .have:=by simpa using h
   subst this;exact v.l0_lab
  .cases h
 .rw[I];split
  .rename_i h;subst h;simp[bnd]
  .simp
 .rw[I];split<;>simp
theorem V.Good.next(X:v.Good)(h:v.Gz sh k P)(hk:k+1<=v.fl.length)(g:bnd v.g.s (k+1)<16777216)(y:Tab v.fl.length sh)(D:k<=500):
  v.Stps P (Et (k+1) [] (Ft v.fl.length sh v.fl.length))/\v.Gz sh (k+1) ((Et (k+1) [] (Ft v.fl.length sh v.fl.length)).foldl v.uw P):=by
 obtain⟨O,tl,Q,G⟩:=y.2.2.2.2.2 k ac;generalize Et (k+1) [] (Ft v.fl.length sh v.fl.length)=T at *;have I:∀e∈T,Beg v.fl.length sh (k+1) e.1.1/\∃j,j<e.1.1.length/\e.2=e.1.1.eraseIdx j/\e.1.2=e.1.1.getD j 0/\Beg v.fl.length sh k e.2:=λe I=>by obtain⟨h1,d,j,S,E,Y⟩:=Q e I;have L:=y.beg hk h1;exact⟨L,j,by rw[L.len];exact S,E,Y,y.beg ac d⟩
 have m:∀e∈T,∀F∈T,e.2≠F.1.1:=λe h1 F d q=>by
  obtain⟨_,_,_,_,_,a⟩:=I e h1;have b:=(I F d).1;have:=a.len;have:=b.len
  lia
 have n:∀e∈T,e.1.2∈e.1.1:=λe h1=>by obtain⟨_,j,S,_,q,_⟩:=I e h1;rw[q];exact getD_in S
 have t:∀b,(atB b T).length<=b.length:=λb=>atB_len O λe h1 q=>q▸n e h1;have f:∀b,b.length=k+1->look P b=[]:=λb g=>rx λz=>by
  obtain⟨j,S,q⟩:=(h.keys b).mp z;have:=q.len
  lia
 have H:∀e∈T,(look P e.2).length<=bnd v.g.s k:=λe h1=>by obtain⟨_,_,_,_,_,a⟩:=I e h1;have:=h.few e.2;rw[a.len]at this;exact this
 obtain⟨s1,s2⟩:=X.stps (N:=bnd v.g.s k) (M:=bnd v.g.s (k+1)) T P h.labs (λe h1=>by
  have q:=(I e h1).1.bnd _ (n e h1);obtain⟨_,_,_,_,_,a⟩:=I e h1;exact⟨q.1,q.2,(h.keys _).mpr ⟨k,aq _,a⟩,H e h1⟩) m (λe h1=>by
  have J:=(I e h1).1.len;rw[f _ J];have:=t e.1.1;rw[J]at this;have:=dC this (aq (v.g.s*bnd v.g.s k));simpa[bnd] using this) g (by
  have:=h.len;have:k*20000<=500*20000:=dC D (aq _)
  lia)
 have fl:=FF v T P m;obtain⟨W,k2,R,k4⟩:=FG v T P h.nd;have U:∀b,b.length≠k+1->look (T.foldl v.uw P) b=look P b:=λb g=>by
  rw[fl];have:atB b T=[]:=jj.mpr λe h1 q=>g (by
   have:=(I e h1).1.len;have q:e.1.1=b:=by simpa using q
   rw[<-q];exact this)
  rw[this];rfl
 have u:∀b,Beg v.fl.length sh (k+1) b->∃e∈T,e.1.1=b:=λb g=>(G b g.mem).1;refine⟨s1,W,λb=>?_,s2,by rw[U [] ad];exact h.zero,λb h1 d x=>?_,λb=>?_,λb=>?_,R _ h.head,?_⟩
 .rw[k2];constructor
  .rintro(q|⟨e,h1,rfl⟩)
   .obtain⟨j,S,q⟩:=(h.keys b).mp q;exact⟨j,ac,q⟩
   .exact⟨k+1,aq _,(I e h1).1⟩
  .rintro⟨j,S,q⟩;by_cases c:j=k+1
   .subst c;exact .inr (u b q)
   .exact .inl ((h.keys b).mpr ⟨j,ac,q⟩)
 .rw[v.vQ];by_cases c:b.length=k+1
  .have p:∀i,i<b.length->look (T.foldl v.uw P) (b.eraseIdx i)=look P (b.eraseIdx i):=λi hi=>U _ (by have:=sm hi;lia);have A:Beg v.fl.length sh (k+1) b:=by
    rcases(k2 b).mp h1 with q|⟨e,w,rfl⟩
    .obtain⟨j,S,q⟩:=(h.keys b).mp q;have:=q.len
     lia
    .exact(I e w).1
   rw[fl,f b c,Jg];constructor
   .rintro(q|⟨e,E,l,Y,s,C,B⟩)
    .cases q
    .obtain⟨h7,h8⟩:=bq.mp E;have q:e.1.1=b:=by simpa using h8
     obtain⟨_,j,S,ea,K,_⟩:=I e h7;rw[q]at S ea K;exact⟨j,S,l,by rw[p j S,<-ea];exact Y,s,C,by rw[<-K];exact B⟩
   .rintro⟨i,hi,l,Y,s,C,B⟩;rw[p i hi]at Y;have hA:Beg v.fl.length sh k (b.eraseIdx i):=by
     have:b.eraseIdx i∈P.map (·.1):=by
      by_cases z:b.eraseIdx i∈P.map (·.1)
      .exact z
      .rw[rx z]at Y;cases Y
     obtain⟨j,S,q⟩:=(h.keys _).mp this;have:=q.len;have:=sm hi;have:j=k:=ac
     exact this▸q
    have Z:((b,b.getD i 0),b.eraseIdx i)∈T:=List.contains_iff_mem.mp ((G b A.mem).2 i ac hA.mem);exact .inr ⟨((b,b.getD i 0),b.eraseIdx i),bq.mpr ⟨Z,ad⟩,l,Y,s,C,B⟩
  .rw[U b c];have o:b∈P.map (·.1):=by
    rcases(k2 b).mp h1 with q|⟨e,w,rfl⟩
    .exact q
    .exact bu (I e w).1.len c
   rw[h.mem b o d x,v.vQ];obtain⟨j,S,q⟩:=(h.keys b).mp o;have hlb:=q.len;have p:∀i,i<b.length->look (T.foldl v.uw P) (b.eraseIdx i)=look P (b.eraseIdx i):=λi hi=>U _ (by have:=sm hi;lia);constructor<;>rintro⟨i,hi,r⟩
   .exact⟨i,hi,by rw[p i hi];exact r⟩
   .exact⟨i,hi,by rw[p i hi]at r;exact r⟩
 .by_cases c:b.length=k+1
  .rw[fl,f b c];have h1:=Jh v (P:=P) (N:=bnd v.g.s k) (atB b T) [] λe h1=>H e (bq.mp h1).1;have d:=t b;rw[c]at d ⊢;have:=dC d (aq (v.g.s*bnd v.g.s k));simp only[oZ,dB]at h1;exact aQ h1 this
  .rw[U b c];exact h.few b
 .rw[fl];exact MS v _ _ (h.ndl b)
 .have:=h.len;rw[nI]
  lia
section
variable(CR CP:av)
theorem BY(n:Nat){v:V}(sh d:A0){k:Nat}(g:1<=k)(c Y U S I:Option A0):∀(a:List a8) (T:List (SK×a8)) (b:Option A0),(∀o∈a,k<=o.length/\o.length<=41)->T.length+a.length<16777216->∃e,
  qo (ordC 8 (qz) (qA)) (a.map lD) (evA v sh d (aa (.int k)) b c Y U S I,T)=.ok (evA v sh d (aa (.int k)) e c Y U S I,Et k T a)
 |[],T,b,_,_=>⟨b,rfl⟩|o::a,T,b,h,l=>by
  have f:=h o ad;simp at l;have m:(putS T (keyO k o) (Il (o.take (k-1)))).length<=T.length+1:=by unfold putS;split<;>simp
  obtain⟨e,i⟩:=BY n sh d g c Y U S I a (putS T (keyO k o) (Il (o.take (k-1)))) _ (λx j=>h x (by simp[j])) ac;refine⟨e,?_⟩
  show(ordC 8 _ _ _ _).bind _=_;rw[M8 n sh d g b c Y U S I T f.1 f.2 ac];exact i
theorem size_run(n:Nat)(C:64<=n)(t:v.Good)(s:Cap CR CP n v.g.s sh v.fl.length)(I:A0)(u:k+1<=v.fl.length)(h:v.Gz sh k P)(y j g f Y U S:Option A0):∃x,v.Gz sh (k+1) x/\∃A i z q p m l,
  zI 7 8 6 9 10 11 12 13 14 (rN) (qz) (qA) (pe) (oq) (lk) (gy CR CP n) (gi) (evA v I (.lst ((Ft v.fl.length sh v.fl.length).map lD)) y j g f Y U S,qP P) (.int ((k+1:Nat):Int))=.ok (evA v I (.lst ((Ft v.fl.length sh v.fl.length).map lD)) A i z q p m l,qP x):=by
 have r:=s.tab;have D:=s.m8;obtain⟨h1,E⟩:=t.next h u (by have:=s.bd _ u;lia) r ac
 obtain⟨i,e1⟩:=BY n I _ (k:=k+1) ac g f Y U S _ [] j (λo B=>by
  have:=r.1.1 o B
  lia) (by have:=r.1.2;simp;lia)
 obtain⟨a,b,c,d,e,e2⟩:=MJ CR CP n C t I _ _ i h1 g f Y U S;refine⟨_,E,aa (.int ((k+1:Nat))),i,a,b,c,d,e,?_⟩
 have w:rN (evA v I (.lst ((Ft v.fl.length sh v.fl.length).map lD)) (aa (.int ((k+1:Nat)))) j g f Y U S)=.ok ((Ft v.fl.length sh v.fl.length).map lD):=by simp[rN]
 unfold zI;simp at w e1 e2 ⊢;rw[w,dm,e1];exact e2
theorem EA(n:Nat)(o:64<=n){v:V}(m:v.Good){sh:Nat}(p:Cap CR CP n v.g.s sh v.fl.length)(f:A0):∀(r k:Nat) (P:Pap) (j i g Y U S I:Option A0),k+r=v.fl.length->v.Gz sh k P->∃l,v.Gz sh v.fl.length l/\∃ρ,
  qo (zI 7 8 6 9 10 11 12 13 14 (rN) (qz) (qA) (pe) (oq) (lk) (gy CR CP n) (gi)) (eM ((k+1:Nat):Int) r) (evA v f (.lst ((Ft v.fl.length sh v.fl.length).map lD)) j i g Y U S I,qP P)=.ok (ρ,qP l)
 |0,k,P,j,i,g,Y,U,S,I,e,h=>⟨P,by rw[<-e];exact h,_,rfl⟩|r+1,k,P,j,i,g,Y,U,S,I,e,h=>by
  obtain⟨l,h',a,b,c,d,x,y,z,e1⟩:=size_run CR CP n o m p f ac h j i g Y U S I;obtain⟨Q,q,ρ,e2⟩:=EA n o m p f r _ l a b c d x y z ac h';refine⟨Q,q,ρ,?_⟩
  rw[vw];show(zI 7 8 6 9 10 11 12 13 14 _ _ _ _ _ _ _ _ _ _).bind _=_;rw[e1];exact e2
theorem lall_ok(n:Nat)(a:64<=n)(S:v.Good)(I:Cap CR CP n v.g.s sh v.fl.length):∃P,v.Gz sh v.fl.length P/\u1 CR CP n [v.g.D,.lst (v.fl.map flD),.lst (v.cs.map stD),.int sh]=.ok (.dic (qP P)):=by
 have b:=I.m8;obtain⟨P,c,ρ,e⟩:=EA CR CP n a S I _ v.fl.length 0 [([],[v.l0])] af af af af af af af ac (v.all0 sh);refine⟨P,c,?_⟩
 have Y:u5 (.tup [])=.ok []:=rfl;have U:uG (evA v (.int sh) (.lst ((Ft v.fl.length sh v.fl.length).map lD)) af af af af af af af)=.ok (eM ((0+1:Nat)) v.fl.length):=by
  have e2:GB [.int 1,.int (v.fl.length+1)]=.ok (eM 1 v.fl.length):=by
   have e3:((v.fl.length:Int)+1-1).toNat=v.fl.length:=ac
   rw[e_rng2 am (by simp[ih];lia),e3]
  simp[uG,e2]
 have d:EO 5 7 8 6 9 10 11 12 13 14 (uO) (uN) (uG) (rN) (qz) (qA) (pe) (oq) (lk) (gy CR CP n) (gi) (evA v (.int sh) (.lst ((Ft v.fl.length sh v.fl.length).map lD)) af af af af af af af)=.ok (.rt (.dic (qP P))):=by
  have e1:uO (evA v (.int sh) (.lst ((Ft v.fl.length sh v.fl.length).map lD)) af af af af af af af)=.ok (.tup []):=by simp[uO]
  have e2:uN (evA v (.int sh) (.lst ((Ft v.fl.length sh v.fl.length).map lD)) af af af af af af af)=.ok (Lake.hC (0,L0 v.g)):=by simp[uN,(Mt n S.g)]
  unfold EO;rw[e1,dm,Y,dm,e2,dm];simp at U e ⊢;rw[U,dm];have e3:([([],A0.lst [Lake.hC (0,L0 v.g)])])=qP [([],[v.l0])]:=rfl;rw[e3,e,dm]
 simp[u1,Cf,I.ord,d]
end
theorem J5:∀ls:bv,yj (ls.map Lake.hC)=.ok ls
 |[]=>rfl|l::ls=>by rw[aO,yj,DB,J5 ls];rfl
def Kx(ls:bv):eqM (.lst (ls.map Lake.hC)) (.lst [])=.ok (.bl ls.isEmpty)/\neM (.lst (ls.map Lake.hC)) (.lst [])=.ok (.bl !ls.isEmpty):=by
 have h:A8 (.lst (ls.map Lake.hC)) 40=ag:=by exact xJ _ ls
 have I:A8 (.lst []) 40=ag:=rfl;have e:eqD (.lst (ls.map Lake.hC)) (.lst [])=ls.isEmpty:=by cases ls<;>simp[eqD]
 unfold eqM neM;rw[h,e];exact⟨rfl,rfl⟩
def neM_lab(x y:LK):neM (Lake.hC x) (Lake.hC y)=.ok (.bl (!decide (x=y))):=by simp[neM,Mf,HA]
def vY(ls:bv)(l:LK):Bool:=(ls.filter λo=> !decide (o=l)&&nw o l).isEmpty
def xc(ls:bv):bv:=uy ltL (ls.filter (vY ls))
section
variable(CR CP:av)
def Kl(n:Nat)(U:g.Good)(S:Lab g l)(h:∀x∈ls,Lab g x):gj (.nm 0) (fAnd (fB (f2 neM (de 0) (de 1))) (yL (fL (lb) (b6 (de 0) (b6 (de 1) ej))))) (de 0) [af,aa (Lake.hC l)] (ls.map Lake.hC)=.ok ((ls.filter λo=> !decide (o=l)&&nw o l).map Lake.hC):=
 Jy Lake.hC _ _ _ λo I=>⟨[aa (Lake.hC o),aa (Lake.hC l)],ad,by
  have e1:=neM_lab o l;have e2:=lnw_ok n U (h o I).good S.good;have e2:lb [Lake.hC o,Lake.hC l]=.ok _:=e2;by_cases c:o=l
  .subst c;simp[e1]
  .simp[e1,e2,c],λ_=>by simp⟩
theorem J1(n:Nat){g:Gp}(f:g.Good){I:bv}(j:∀x∈I,Lab g x)(b:I.length<=16777216):∀(ls S:bv) (Y:Option A0),(∀x∈ls,Lab g x)->S.length+ls.length<16777216->∃a,
  sk (.nm 2) (qH) (ls.map Lake.hC) [aa (sr I),aa (sr S),Y]=.ok (.nx [aa (sr I),aa (sr (S++ls.filter (vY I))),a])
 |[],S,Y,_,_=>⟨Y,by simp[sk]⟩|l::ls,S,Y,h,p=>by
  simp at p;have i:=Kl n f (h l ad) j;have U:=(Kx (I.filter λo=> !decide (o=l)&&nw o l)).1;have q:qH [aa (sr I),aa (sr S),aa (Lake.hC l)]=.ok (.nx [aa (sr I),aa (sr (if vY I l=ag then S++[l]else S)),aa (Lake.hC l)]):=by
   have e:S.length<16777216:=ac
   have d:vY I l=(I.filter λo=> !decide _&&nw o l).isEmpty:=rfl;rw[<-d]at U;unfold sr;cases c:vY I l with
   |true=>rw[c]at U;simp[qH,v7,i,U,b,e]|false=>rw[c]at U;simp[qH,v7,i,U,b]
  obtain⟨a,k⟩:=J1 n f j b ls (if vY I l=ag then S++[l]else S) _ (λx m=>h x (by simp[m])) (by cases vY I l<;>simp<;>lia);refine⟨a,?_⟩
  show(qH [aa _,aa _,aa _]).bind _=_;rw[q,List.filter_cons];refine k.trans ?_;cases vY I l<;>simp
theorem least_ok(n:Nat)(U:g.Good)(h:∀x∈ls,Lab g x)(S:ls.length<16777216):uD [sr ls]=.ok (sr (xc ls)):=by
 obtain⟨a,e⟩:=J1 n U h ac ls [] af h (by simpa using S);have Y:sr []=.lst []:=rfl;rw[Y]at e;have es:zH [sr (ls.filter (vY ls))]=.ok (sr (xc ls)):=by show(yj _).bind _=_;rw[J5];rfl
 have I:wx (sr ls)=.ok _:=rfl;simp[uD,yI,I,e,es]
end
def yb{f g:df->M A4}{ρ':df}(h:f ρ=.ok (.nx ρ')):kd f g ρ=g ρ':=by unfold kd;rw[h];rfl
theorem okT_head{K:List a8}(h:K.head? =aa []):okT K=ag:=by simp_all[okT]
structure V.Nice(v:V)(N:Nat)(P:Pap):Prop where
 nd:(P.map (·.1)).Nodup
 ok:okT (P.map (·.1))=ag
 labs:NM v P
 few:∀b,(look P b).length<=N
 len:P.length<16777216
def ixk(P:Pap)(h:b∈P.map (·.1)):ixKD (.dic (qP P)) (j0 b)=.ok (sr (look P b)):=by rw[e_ixKD,xg,dm,Cd b P h]
def put_at(i:Nat){fk fv:df->M A0}{A:Pap}(h1:ρ[i]?=aa (aa (.dic (qP A))))(U:fk ρ=.ok (j0 b))(S:fv ρ=.ok (sr ls))(I:A.length<16777216):yB i fk fv ρ=.ok (.nx (ρ.set i (aa (.dic (qP (LQ A b ls)))))):=by unfold yB AF;rw[S,h1];show(fk ρ).bind _=_;rw[U,dm,xg,dm,LZ,(dA (by rw[fK];unfold qP;rw[az];exact I)),Jt];rfl
def EC{a b:List a8}(S:a.Nodup)(I:b.Nodup)(h:∀x,x∈a↔x∈b):a.Perm b:=(lY S I).mpr h
theorem Dx:∀{P:Pap} {p:a8×bv},p∈P->(P.map (·.1)).Nodup->look P p.1=p.2
 |q::P,p,h,I=>by
  rw[aO,dN]at I;rw[vi];rcases aM.mp h with z|z
  .simp_all
  .rw[aA λe=>I.1 (by rw[e];exact bp.mpr ⟨p,z,rfl⟩)];exact Dx z I.2
def V.Gz.perm(h:v.Gz sh v.fl.length P)(I:Tab v.fl.length sh):(P.map (·.1)).Perm (BL v.fl.length sh):=
 EC h.nd I.2.1 λb=>by rw[h.keys b,I.mem]
theorem V.Gz.nice{CR:av}(h:v.Gz sh v.fl.length P)(I:Cap CR CP n v.g.s sh v.fl.length):v.Nice 100000 P:=by
 refine⟨h.nd,okT_head h.head,h.labs,λb=>?_,by have:=h.len;have:=I.m8;lia⟩
 by_cases c:b∈P.map (·.1)
 .obtain⟨j,S,q⟩:=(h.keys b).mp c;have h1:=h.few b;rw[q.len]at h1;exact aQ h1 (I.bd j S)
 .rw[rx c];simp
theorem nw_anti(S:Lab g x)(I:Lab g y)(h1:nw x y=ag)(Y:nw y x=ag):x=y:=by
 cases c:ltL y x with
 |false=>exact(nw_eq S I Y c).symm|true=>
  cases U:ltL x y with
  |false=>exact nw_eq I S h1 U|true=>have:=Mb.tr _ _ _ c U;simp_all[Mb.irr]
def KN(c:∀x∈B,Lab g x){z:LK}(Y:x∈y0 B)(U:z∈y0 B)(h:nw z x=ag):z=x:=by
 obtain⟨i,hi,S⟩:=gk Y;obtain⟨j,b,I⟩:=gk U;have a:=eB.mp (AW B);rcases kJ i j with q|q|q
 .have:=(a i j hi b q).1;rw[S,I]at this;exact nw_eq (c x (tY Y)) (c z (tY U)) h this
 .subst q;exact I.symm.trans S
 .have:=(a j i b hi q).2;rw[S,I,h]at this;cases this
def Km{A:bv}(b:∀x∈A,Lab g x)(l:A.Nodup)(U:∀x∈B,x∈A)(m:∀x∈A,∃y∈B,nw y x=ag):xc A=y0 B:=by
 have f:=λx I=>b x (U x I);have d:∀x∈A,∃z∈y0 B,nw z x=ag:=λx I=>by obtain⟨y,k,e⟩:=m x I;obtain⟨z,S,e2⟩:=JB k;exact⟨z,S,Dr (f z (tY S)) (f y k) (b x I) e2 e⟩
 have i:(A.filter (vY A)).Perm _:=(lY (l.filter _) ((AW B).imp λ{x y} q e=>by rw[e,Hi]at q;exact bu q.2 ad)).mpr λx=>by
  rw[bq];unfold vY;rw[List.isEmpty_iff,jj];constructor
  .rintro⟨I,h⟩;obtain⟨z,S,e⟩:=d x I;by_cases c:z=x
   .exact c▸S
   .exact bu (by simp[c,e]) (h z (U z (tY S)))
  .intro I;have a:=U x (tY I);refine⟨a,λo j q=>?_⟩
   simp at q;obtain⟨z,S,e⟩:=d o j;have Y:=f z (tY S);have:=KN f I S (Dr Y (b o j) (b x a) e q.2);subst this;exact q.1 (nw_anti (b o j) Y q.2 e)
 rw[<-LA ((AW B).imp λq=>q.1)];exact vx Mb ((o3 _).trans (i.trans (o3 _).symm)) (qU Mb _) (qU Mb _)
theorem V.Gz.dom(u:v.Good)(h:v.Gz sh v.fl.length P)(A:NM v Q)(g:∀b,b∈Q.map (·.1)↔b∈P.map (·.1))(U:∀b,b∈Q.map (·.1)->look Q b=v.ent Q b):∀(k:Nat) (b:a8),b.length=k->(∀y∈look Q b,y∈look P b)/\(∀x∈look P b,∃y∈look Q b,nw y x=ag)/\(b≠[]->(∀x∈v.Gw Q b,x∈look P b\/b∉P.map (·.1))/\∀x∈look P b,∃y∈v.Gw Q b,nw y x=ag)
 |0,b,d=>by
  have d:=eS.mp d;subst d;have G:=(h.keys []).mpr ⟨0,bz _,by
   obtain⟨j,F,q⟩:=(h.keys []).mp (List.mem_of_mem_head? h.head);have:=q.len;have:=by simpa using this.symm
   exact this▸q⟩
  have e:look Q []=[v.l0]:=by rw[U [] ((g []).mpr G)];unfold V.ent;rw[aC rfl]
  rw[e,h.zero];exact⟨λy a=>a,λx S=>⟨x,S,Hi x⟩,λz=>bu rfl z⟩
 |k+1,b,d=>by
  have c:b≠[]:=λz=>by subst z;cases d
  by_cases I:b∈P.map (·.1)
  .have C:look Q b=y0 (v.Gw Q b):=by rw[U b ((g b).mpr I)];unfold V.ent;rw[aA c]
   have w:=h.mem b I c;obtain⟨j,F,n⟩:=(h.keys b).mp I;have r:=λi (hi:i<b.length)=>V.Gz.dom u h A g U k (b.eraseIdx i) (by have:=sm hi;lia);have Y:∀x∈v.Gw Q b,x∈look P b:=λx S=>by obtain⟨i,hi,l,h1,s,m,o⟩:=v.vQ.mp S;exact(w x).mpr (v.vQ.mpr ⟨i,hi,l,(r i hi).1 l h1,s,m,o⟩)
   have f:∀x∈look P b,∃y∈v.Gw Q b,nw y x=ag:=λx S=>by obtain⟨i,hi,l,h1,s,m,o⟩:=v.vQ.mp ((w x).mp S);obtain⟨p,B,g2⟩:=(r i hi).2.1 l h1;have H:=n.bnd _ (getD_in hi);obtain⟨y,E,D⟩:=u.beh_mono (h.labs _ l h1) (A _ p B) g2 ac m o;exact⟨y,v.vQ.mpr ⟨i,hi,p,B,s,m,E⟩,D⟩
   refine⟨λy a=>Y y (tY (C▸a)),λx S=>?_,λ_=>⟨λx S=>.inl (Y x S),f⟩⟩
   obtain⟨y,a,e⟩:=f x S;obtain⟨z,t,e2⟩:=JB a;exact⟨z,C▸t,Dr (h.labs b z (Y z (tY t))) (h.labs b y (Y y a)) (h.labs b x S) e2 e⟩
  .rw[rx I,rx λz=>I ((g b).mp z)];exact⟨λy a=>a,λx S=>(by cases S),λ_=>⟨λx S=>.inr I,λx S=>(by cases S)⟩⟩
def V.Gz.least(c:v.Good)(h:v.Gz sh v.fl.length P)(d:NM v Q)(S:∀b,b∈Q.map (·.1)↔b∈P.map (·.1))(I:∀b,b∈Q.map (·.1)->look Q b=v.ent Q b)(U:b∈P.map (·.1)):xc (look P b)=look Q b:=by
 rw[I b ((S b).mpr U)];unfold V.ent;by_cases e:b=[]
 .rw[e,h.zero];simp[xc,vY,uy,insL]
 .rw[aA e];obtain⟨_,_,Y⟩:=h.dom c d S I b.length b rfl;exact Km (h.labs b) (h.ndl b) (λx a=>((Y e).1 x a).resolve_right λz=>z U) (Y e).2
section
variable(CR CP:av)
def I9(n:Nat)(x:Int):qw [.int x]=.ok (.bl ag):=by rfl
theorem islab_ok(n:Nat)(b:g.Good)(c:Int)(f:wM g.s g.k L):qS [hC c L,g.D]=.ok (.bl ag):=by
 have o:=b.k3;obtain⟨ds,h,Y,U,S⟩:=g0 b;have hw:=I9 n;obtain⟨ρ',e,m,rfl⟩:=tV (p:=.nm 2) (g:=sX)
  (λi ρ=>∃(a:Option A0),ρ=[aa _,aa g.D,a]) (L.map tupI) 0 [aa (hC c L),aa g.D,af] ⟨af,rfl⟩ (by
  rintro i d ρ I ⟨a,rfl⟩;rw[aV]at I;obtain⟨r,j,rfl⟩:=ja.mp I;have l:gj (.nm 0) x6 (fL (qw) (b6 (de 0) ej)) [af] (r.map .int)=.ok ((r.map λ_=>ag).map A0.bl):=by
   have:=rA (p:=.nm 0) (fe:=fL (qw) (b6 (de 0) ej)) (ρ0:=[af]) (λ_=>.bl ag) (r.map .int) (λd I=>by obtain⟨x,q,rfl⟩:=bp.mp I;exact⟨[aa (.int x)],ad,by simp[hw]⟩)
   rw[this,aR,aR];rfl
  have k:g.k<=16777216:=ac
  rw[h];simp[sX,vo,tupI,U,gr,S,(f.2 r (bS j)),l,k,-aR])
 rw[h]at e ⊢;simp[hC,tk]at e ⊢;simp[qS,wF,vq,hw,vp,f.1,Y,e]
@[reducible] def evP(v:V)(U S I:Option A0):df:=[aa (ey CR CP v.g.rows v.g.o),aa (.lst (v.fl.map flD)),aa (.lst (v.cs.map stD)),U,S,I]
theorem FH:∀L:List a8,tq (L.map j0)=ag
 |[]=>rfl|r::L=>by
  have:∀l:a8,tq (l.map .int)=ag:=λl=>by
   induction l with
   |nil=>rfl|cons x l I=>simp[tq,uT,I]
  simp[tq,uT,j0,this,FH L]
theorem FJ:∀ls:bv,tq (ls.map Lake.hC)=ag
 |[]=>rfl|l::ls=>by simp[tq,uT,Lake.hC,FH,FJ ls]
theorem BX(n:Nat)(Y:CR≠CP){v:V}(l:v.Good){sh:Nat}(y:v.fl.length<=8)(w:∀k,k<=v.fl.length->bnd v.g.s k<=100000)(S:Option A0):∀(B:List a8) (P:Pap) (f:Option A0),v.Few sh P->(P.map (·.1)++B).Nodup->(∀b∈B,b.length<=v.fl.length/\Beg v.fl.length sh b.length b)->(P.map (·.1)++B).length<16777216->v.Few sh (v.pap P B)/\∃o,
  qo (Bc 4 5 (qv) (tw) (rP CR CP n) (rO CR CP n)) (B.map j0) (evP CR CP v S af f,qP P)=.ok (evP CR CP v S af o,qP (v.pap P B))
 |[],P,f,h,_,_,_=>⟨h,f,rfl⟩|b::B,P,f,h,H,J,F=>by
  have a:=λz=>(dK.mp H).2.2 b z b ad rfl;obtain⟨j,d⟩:=J b ad;have t:∀x∈b,0<=x/\x<v.fl.length:=λx C=>⟨(d.bnd x C).1,(d.bnd x C).2⟩
  have O:=h.next l a j d
  have G:(P++[(b,v.ent P b)]).map (·.1)++B=P.map (·.1)++b::B:=by simp
  obtain⟨Q,o,N⟩:=BX n Y l y w S B (P++[(b,v.ent P b)]) (aa (j0 b)) O (by rw[G];exact H) (λc R=>J c (by simp[R])) (by rw[G];exact F);refine⟨Q,o,?_⟩
  have r:(qP P).length<ay:=by
   rw[fK];simp only[bB,az]at F;simp only[qP,az]
   lia
  have I:Hl (qP P) b ((v.ent P b).map Lake.hC)=.ok (qP (P++[(b,v.ent P b)])):=by unfold Hl;rw[zi,cq a,aA ad,aC r];exact dI cG (ID b P (v.ent P b) a)
  have D:=(ne_tup b).1;have e4:tw (evP CR CP v S af (aa (j0 b)))=.ok (j0 b):=rfl;have u:Bc 4 5 (qv) (tw) (rP CR CP n) (rO CR CP n) (evP CR CP v S af f,qP P) (j0 b)=.ok (evP CR CP v S af (aa (j0 b)),qP (P++[(b,v.ent P b)])):=by
   unfold Bc;simp only[evP,e_,e9]at e4 ⊢;by_cases e:b=[]
   .have p:=MY CR CP n Y l.g;have q:v.ent P b=[v.l0]:=by unfold V.ent;rw[aC e]
    have U:eqM (j0 b) (.tup [])=.ok (.bl ag):=by rw[D,e];rfl
    have A:qv (evP CR CP v S af (aa (j0 b)))=.ok ag:=by simp[qv,U]
    have e5:rP CR CP n (evP CR CP v S af (aa (j0 b)))=.ok (Lake.hC v.l0):=by simp[rP,p];rfl
    rw[A,dm,aC rfl,e5,dm,dm,e4,dm,xg,dm];rw[q]at I ⊢;exact dI (λm=>kM m λE=>cG (evP CR CP v S af (aa (j0 b)),E)) I
   .have q:v.ent P b=y0 (v.Gw P b):=by unfold V.ent;rw[aA e]
    have U:eqM (j0 b) (.tup [])=.ok (.bl ae):=by
     rw[D];cases b with
     |nil=>exact bu rfl e|cons x b=>rfl
    obtain⟨L,K⟩:=h.room w (c:=b) ac;have s:=behs_ok CR CP n Y l P h.lab 100000 b t ac (λi _=>h.many w _) L;have g:=best_ok n (v.Gw P b) K;rw[<-q]at g;have A:qv (evP CR CP v S af (aa (j0 b)))=.ok ae:=by simp[qv,U]
    have T:rO CR CP n (evP CR CP v S (aa (.dic (qP P))) (aa (j0 b)))=.ok (sr (v.ent P b)):=by simp[rO,s,g]
    rw[A,dm,aA ad,T,dm];show((if tq ((v.ent P b).map Lake.hC)=ag then _ else _:M a9).bind _)=_;rw[aC (FJ _),dm,e4,dm,xg,dm,I];rfl
  show(Bc 4 5 _ _ _ _ _ _).bind _=_;rw[u,dm];exact N
theorem paper_ok(n:Nat)(S:CR≠CP)(Y:v.Good){s:Nat}(I:Cap CR CP n v.g.s s v.fl.length):v.Few s (v.pap [] (BL v.fl.length s))/\qX CR CP n [ey CR CP v.g.rows v.g.o,.lst (v.fl.map flD),.lst (v.cs.map stD),.int s]=.ok (qP (v.pap [] (BL v.fl.length s))):=by
 have m:=I.m8;obtain⟨c,d,f⟩:=I.run;have p:=I.tab.2.2.2.1;obtain⟨a,l,e⟩:=BX CR CP n S Y ac I.bd _ _ [] af (V.Few.nil v s) (by simpa using I.tab.2.1) (λb h=>by obtain⟨k,o,g⟩:=I.tab.mem.mp h;exact⟨by rw[g.len];lia,by rw[g.len];exact g⟩) (by simp;lia)
 refine⟨a,?_⟩
 have h1:=LL CR CP n S ac rfl d f;have U:uM CR CP n (evP CR CP v (aa (.int s)) af af)=.ok .non:=by simp[uM,h1]
 have k2:uF (evP CR CP v (aa (.int s)) af af)=.ok ((BL v.fl.length s).map j0):=by simp[uF,I.beg]
 have j:qX CR CP n [ey CR CP v.g.rows v.g.o,.lst (v.fl.map flD),.lst (v.cs.map stD),.int s]=papD 4 5 (uM CR CP n) (uF) (qv) (tw) (rP CR CP n) (rO CR CP n) (evP CR CP v (aa (.int s)) af af):=by rfl
 have i:qP []=[]:=rfl;rw[i]at e;rw[j];unfold papD;simp at U k2 e ⊢;rw[U,dm,k2,dm,e,dm]
def LG(U:(Q.map (·.1)).Nodup)(Y:Q.length=R.length)(a:∀b,b∈Q.map (·.1)->b∈R.map (·.1)/\look R b=look Q b):GP (qP Q) (qP R)=ag:=by
 unfold GP;rw[aU,eA];refine⟨by unfold qP;rw[az,az,Y],eT.mpr λp S=>?_⟩
 obtain⟨q,I,rfl⟩:=bp.mp S;obtain⟨h1,c⟩:=a q.1 (bp.mpr ⟨q,I,rfl⟩);rw[Cd q.1 R h1,c,Dx I U];have h:A8 (sr q.2) 40=ag:=by unfold sr;exact xJ _ q.2
 show(A8 _ 40&&A8 _ 40&&eqD _ _)=ag;rw[h,zl h];rfl
def all_true{α:Type}(l:List α):allD [.lst (l.map λ_=>A0.bl ag)]=.ok (.bl ag):=by refine(all_map (λ_=>ag) l).trans ?_;simp
@[reducible] def evR(Q R:Pap)(g:Gp)(S I:Option A0):df:=[aa (.dic (qP Q)),aa (.dic (qP R)),aa g.D,S,I]
def right_ok(n:Nat)(z:g.Good)(m:(Q.map (·.1)).Nodup)(w:Q.length=R.length)(y:∀b,b∈Q.map (·.1)->b∈R.map (·.1)/\look R b=look Q b)(d:∀b,∀l∈look Q b,Lab g l)(f:∀b,(look Q b).length<=16777216)(A:∀b∈Q.map (·.1),b.length<=16777216):qR [.dic (qP Q),.dic (qP R),g.D]=.ok (.bl ag):=by
 have e1:uZ (evR Q R g af af)=.ok (.nx (evR Q R g af af)):=by
  have:neKA (.dic (qP Q)) (.dic (qP R))=.ok (.bl ae):=by rw[e_neKA,aC (LG m w y)]
  simp[uZ,this,-e_neKA]
 have s:∀(S:Pap) (U I:Option A0),(∀p∈S,p∈Q)->∃a Y,sk (.tp [3,4]) (rB) (S.map λp=>A0.tup [j0 p.1,sr p.2]) (evR Q R g U I)=.ok (.nx (evR Q R g a Y)):=λS=>by
  induction S with
  |nil=>exact λU I _=>⟨U,I,rfl⟩|cons p S t=>
   intro U I h;obtain⟨a,Y,e⟩:=t (aa (j0 p.1)) (aa (sr p.2)) λq v=>h q (by simp[v]);refine⟨a,Y,?_⟩
   have i:=h p ad;have c:=Dx i m;have j:p.1∈Q.map (·.1):=bp.mpr ⟨p,i,rfl⟩;have q1:p.1.length<=16777216:=A _ j;have q2:p.2.length<=16777216:=c▸f p.1;have E:gj (.nm 0) x6 (fL (qw) (b6 (de 0) ej)) [af] (p.1.map .int)=.ok (p.1.map λ_=>A0.bl ag):=
    zp A0.int _ _ λx _=>⟨[aa (.int x)],ad,by simp[I9 n]⟩
   have D:gj (.nm 0) x6 (fL (qS) (b6 (de 0) (b6 (de 1) ej))) [af,aa g.D] (p.2.map Lake.hC)=.ok (p.2.map λ_=>A0.bl ag):=
    zp Lake.hC _ _ λx u=>⟨[aa (Lake.hC x),aa g.D],ad,by have:=islab_ok n z x.1 (d p.1 x (c▸u)).good;rw[<-Ho]at this;simp[this]⟩
   have G:=all_true p.1;have F:=all_true p.2;have B:rB (evR Q R g (aa (j0 p.1)) (aa (sr p.2)))=.ok (.nx (evR Q R g (aa (j0 p.1)) (aa (sr p.2)))):=by
    have s2:uY (evR Q R g (aa (j0 p.1)) (aa (sr p.2)))=.ok (.nx (evR Q R g (aa (j0 p.1)) (aa (sr p.2)))):=by simp[uY,j0,sr]
    have r:uX (evR Q R g (aa (j0 p.1)) (aa (sr p.2)))=.ok (.nx (evR Q R g (aa (j0 p.1)) (aa (sr p.2)))):=by simp[uX,j0,E,G,q1]
    have o:uW (evR Q R g (aa (j0 p.1)) (aa (sr p.2)))=.ok (.nx (evR Q R g (aa (j0 p.1)) (aa (sr p.2)))):=by simp[uW,sr,D,F,q2]
    unfold rB;rw[yb s2,yb r];exact o
   rw[aO,sk];show(kM (rT (.tp [3,4]) (A0.tup [j0 p.1,sr p.2]) _) _)=_;have k:rT (.tp [3,4]) (A0.tup [j0 p.1,sr p.2]) (evR Q R g U I)=.ok (evR Q R g (aa (j0 p.1)) (aa (sr p.2))):=by simp[rT,nO]
   rw[k,dm,B,dm];exact e
 obtain⟨a,Y,e2⟩:=s Q af af λp i=>i;have s2:we [] (vK (de 0)) (.tp [3,4]) (rB) (evR Q R g af af)=.ok (.nx (evR Q R g a Y)):=by
  have e3:vK (de 0) (erase [] (evR Q R g af af))=.ok (Q.map λp=>A0.tup [j0 p.1,sr p.2]):=by
   have:Ar (.dic (qP Q))=.ok (Q.map λp=>A0.tup [j0 p.1,sr p.2]):=by rw[FW];unfold qP;rw[aR];rfl
   simp[this,-FW]
  rw[e_for,e3,dm];exact e2
 have C:uI (evR Q R g af af)=.ok (.rt (.bl ag)):=by unfold uI;rw[yb e1,yb s2];rfl
 show(uI (evR Q R g af af)).bind _=_;rw[C];rfl
end
theorem Hv(E:List (a8×A0)){k j:a8}(d:A0)(h:j≠k)(I:(tT E k).isSome=ag):tT (rY E k d) j=tT E j:=by
 unfold rY;rw[aC I];clear I;unfold tT
 induction E with
 |nil=>rfl|cons p E S=>grind
section
variable(CR CP:av)
@[reducible] def evL(ns:a8)(g:Gp)(s m:Nat)(cs:List v9)(fl:List Fli)(P R:Pap)(Y U S I:Option A0):df:=[aa (.lst (ns.map .int)),aa g.D,aa (.int s),aa (.int m),aa (.lst (cs.map stD)),aa (.lst (fl.map flD)),aa (.dic (qP P)),aa (.dic (qP R)),Y,U,S,I]
theorem C4(n:Nat){v:V}(l:v.Good){P:Pap}{N:Nat}(Y:v.Nice N P)(u:N<=1000000)(ns:a8)(g:Gp)(s m:Nat)(cs:List v9)(fl:List Fli)(U S I:Option A0):∀(ks:List a8) (R:Pap) (d:Option A0),P.map (·.1)=R.map (·.1)++ks->(∀b,b∈R.map (·.1)->look R b=xc (look P b))->∃a f,a.map (·.1)=P.map (·.1)/\(∀b,b∈P.map (·.1)->look a b=xc (look P b)) /\
  sk (.nm 8) (AZ) (ks.map j0) (evL ns g s m cs fl P R d U S I)=.ok (.nx (evL ns g s m cs fl P a f U S I))
 |[],R,d,h,h1=>by rw[b8]at h;exact⟨R,d,h.symm,λb j=>h1 b (by rw[<-h];exact j),by simp[sk]⟩|b::ks,R,d,h,h1=>by
  have j:b∈P.map (·.1):=by rw[h];simp
  have i:b∉R.map (·.1):=λz=>by have:=Y.nd;rw[h,dK]at this;exact this.2.2 b z b ad rfl
  have t:=least_ok n l.g (ls:=look P b) (Y.labs b) (by have:=Y.few b;lia);have k:R.length<16777216:=by
   have y:=Y.len;have:=dI gC h;rw[az,bB,az]at this
   lia
  have o:(LQ R b (xc (look P b))).map (·.1)=R.map (·.1)++[b]:=by rw[Fy,aA i]
  obtain⟨a,f,x,g2,q⟩:=C4 n l Y u ns g s m cs fl U S I ks (LQ R b (xc (look P b))) (aa (j0 b)) (by rw[o,h];simp) (λc p=>by
   rw[Fo];split
   .rename_i e;rw[e]
   .rename_i e;rw[o,aZ]at p;exact h1 c (p.resolve_right λz=>e (by simpa using z)))
  refine⟨a,f,x,g2,?_⟩
  have w:AZ (evL ns g s m cs fl P R (aa (j0 b)) U S I)=.ok (.nx (evL ns g s m cs fl P (LQ R b (xc (look P b))) (aa (j0 b)) U S I)):=by have r:=ixk P j;exact put_at 7 ad ad (by simp[r,t,-e_ixKD]) k
  rw[aO,sk,Kz,dm];show(AZ (evL ns g s m cs fl P R (aa (j0 b)) U S I)).bind _=_;rw[w,dm];exact q
theorem zeros(n:Nat)(ns:a8)(g:Gp)(s m:Nat)(cs:List v9)(fl:List Fli)(P R:Pap)(U S I:Option A0){Q:Pap}(i:∀b,(look Q b).length<ay):∀(ks:List a8) (E:List (a8×A0)) (Y:Option A0),ks.Nodup->(∀k∈ks,tT E k=aa (sr (look Q k)))->∃a d,
  qo (CA 8 (AB)) (ks.map j0) (evL ns g s m cs fl P R Y U S I,E)=.ok (evL ns g s m cs fl P R a U S I,d)
 |[],E,Y,_,_=>⟨Y,E,rfl⟩|k::ks,E,Y,c,h=>by
  rw[dN]at c;have e:=h k ad;obtain⟨a,d,l⟩:=zeros n ns g s m cs fl P R U S I i ks (rY E k (.lst ((look Q k).map Lake.hC++[.int 0]))) (aa (j0 k)) c.2 λj f=>by exact(Hv E _ (λz:j=k=>c.1 (z▸f)) (by rw[e];rfl)).trans (h j (by simp[f]))
  refine⟨a,d,?_⟩
  have o:CA 8 (AB) (evL ns g s m cs fl P R Y U S I,E) (j0 k)=.ok (evL ns g s m cs fl P R (aa (j0 k)) U S I,rY E k (.lst ((look Q k).map Lake.hC++[.int 0]))):=by
   have e5:AB (evL ns g s m cs fl P R (aa (j0 k)) U S I)=.ok (j0 k):=rfl;unfold CA;simp only[evL,e_,e9]at e5 ⊢;rw[e5,dm,xg,dm,e];have:((look Q k).map Lake.hC).length<ay:=by rw[az];exact i k
   show(if ((look Q k).map Lake.hC).length<ay then _ else _)=_;rw[aC this]
  rw[aO];show(CA 8 _ _ _).bind _=_;rw[o,dm];exact l
theorem law_true(J:CR≠CP):∀ns:a8,ns.length<=63->∃n,m_law CR CP n [.lst (ns.map .int)]=.ok (.bl ag):=by
 intro ns hns;refine⟨64,?_⟩
 obtain⟨g,t,eg⟩:=gps_ok 64 ns;obtain⟨s,m,p,e,ef⟩:=few_ok 64 ns g;obtain⟨cs,T,O,ec⟩:=Ku 64 ns;have hm8:m<=8:=(cap CR CP 64 p e).m8;obtain⟨fl,L,K,el⟩:=Hu 64 ns g.k t.k1 m ac
 let v:V:=⟨g,fl,cs⟩
 have B:v.Good:=⟨t,K,by show fl.length<=40;lia,T,O⟩
 have Y:Cap CR CP 64 v.g.s s v.fl.length:=by show Cap CR CP 64 g.s s fl.length;rw[L];exact cap CR CP 64 p e
 obtain⟨P,C,ep⟩:=lall_ok CR CP 64 (aq _) B Y;have z:=C.nice Y;have S:=MR CR CP 64 t;obtain⟨D,E⟩:=paper_ok CR CP 64 J B Y;generalize hQ:v.pap [] (BL v.fl.length s)=Q at *;have a:Q.map (·.1)=BL v.fl.length s:=by rw[<-hQ,v.IL];rfl
 have X:(Q.map (·.1)).Nodup:=by rw[a];exact Y.tab.2.1
 have o:∀b,b∈Q.map (·.1)->look Q b=v.ent Q b:=λb j=>by rw[a]at j;rw[<-hQ];exact v.IJ (BL v.fl.length s) [] (by simpa using Y.tab.2.1) Y.tab.2.2.1 b j
 have f:∀b,b∈Q.map (·.1)↔b∈P.map (·.1):=λb=>by rw[a];exact(C.perm Y.tab).mem_iff.symm
 have d:∀b,(look Q b).length<=100000:=λb=>D.many Y.bd b;obtain⟨R,U,A,r2,el2⟩:=C4 64 B z ac ns g s m cs fl af af af (P.map (·.1)) [] af rfl (λb h=>by cases h);have W:∀b,b∈Q.map (·.1)->b∈R.map (·.1)/\look R b=look Q b:=λb j=>by have i:=(f b).mp j;exact⟨by rw[A];exact i,by rw[r2 b i];exact C.least B D.lab f o i⟩
 have r:Q.length=R.length:=by
  have h1:=dI gC a;have Z:=dI gC A;have h3:=(C.perm Y.tab).length_eq;simp only[az]at h1 Z h3
  lia
 have I:=right_ok 64 t X r W D.lab (λb=>by have:=d b;lia) λb j=>by have:=(D.key b j).1;have:=Y.m8;lia
 obtain⟨y,E',ez⟩:=zeros 64 ns g s m cs fl P R (aa (ey CR CP g.rows g.o)) (aa (.lst [.lst (fl.map flD),.lst (cs.map stD)])) af (Q:=Q) (λb=>by rw[fK];have:=d b;lia) (R.map (·.1)) (qP Q) U (by rw[A];exact z.nd) λk hk=>Cd k Q ((f k).mpr (by rw[<-A];exact hk));obtain⟨ds,hD,hDl,N,H⟩:=g0 t;have s1:g7 [] 1 (fL (sR) (b6 (de 0) ej)) [aa (.lst (ns.map .int)),af,af,af,af,af,af,af,af,af,af,af]=.ok (.nx [aa (.lst (ns.map .int)),aa g.D,af,af,af,af,af,af,af,af,af,af]):=by simp[eg]
 have s2:EN [] (.tp [2,3]) (fL (vh) (b6 (de 0) (b6 (de 1) ej))) [aa (.lst (ns.map .int)),aa g.D,af,af,af,af,af,af,af,af,af,af]=.ok (.nx [aa (.lst (ns.map .int)),aa g.D,aa (.int s),aa (.int m),af,af,af,af,af,af,af,af]):=by simp[ef]
 have s3:g7 [] 4 (fL (se) (b6 (de 0) ej)) [aa (.lst (ns.map .int)),aa g.D,aa (.int s),aa (.int m),af,af,af,af,af,af,af,af]=.ok (.nx [aa (.lst (ns.map .int)),aa g.D,aa (.int s),aa (.int m),aa (.lst (cs.map stD)),af,af,af,af,af,af,af]):=by simp[ec]
 have s4:g7 [] 5 (fL (rq) (b6 (de 0) (b6 (fC (.int 21)) (b6 (fL x5 (b6 (f2 ixD (de 1) (fC (.int 0))) ej)) (b6 (de 3) ej))))) [aa (.lst (ns.map .int)),aa g.D,aa (.int s),aa (.int m),aa (.lst (cs.map stD)),af,af,af,af,af,af,af]=.ok (.nx [aa (.lst (ns.map .int)),aa g.D,aa (.int s),aa (.int m),aa (.lst (cs.map stD)),aa (.lst (fl.map flD)),af,af,af,af,af,af]):=by
  rw[hD];have:x5 [gr g.rows]=.ok (.int g.k):=by simp[gr,H]
  simp[N,this,el]
 have s5:g7 [] 6 (fL (u1 CR CP 64) (b6 (de 1) (b6 (de 5) (b6 (de 4) (b6 (de 2) ej))))) [aa (.lst (ns.map .int)),aa g.D,aa (.int s),aa (.int m),aa (.lst (cs.map stD)),aa (.lst (fl.map flD)),af,af,af,af,af,af]=.ok (.nx [aa (.lst (ns.map .int)),aa g.D,aa (.int s),aa (.int m),aa (.lst (cs.map stD)),aa (.lst (fl.map flD)),aa (.dic (qP P)),af,af,af,af,af]):=by have ep:u1 CR CP 64 [g.D,.lst (fl.map flD),.lst (cs.map stD),.int s]=.ok (.dic (qP P)):=ep;simp[ep]
 have s6:g7 [] 7 (fC (.dic [])) [aa (.lst (ns.map .int)),aa g.D,aa (.int s),aa (.int m),aa (.lst (cs.map stD)),aa (.lst (fl.map flD)),aa (.dic (qP P)),af,af,af,af,af]=.ok (.nx (evL ns g s m cs fl P [] af af af af)):=rfl;have s7:we [7] (xj (de 6)) (.nm 8) (AZ) (evL ns g s m cs fl P [] af af af af)=.ok (.nx (evL ns g s m cs fl P R U af af af)):=by
  have e1:xj (de 6) (erase [7] (evL ns g s m cs fl P [] af af af af))=.ok ((P.map (·.1)).map j0):=by
   have:C6 (.dic (qP P))=.ok ((P.map (·.1)).map j0):=by rw[zm];unfold qP;rw[aR,aR];rfl
   simp[this,-zm]
  rw[e_for,e1,dm];exact el2
 have s8:g7 [] 9 (fL (qQ CR CP 64) (b6 (de 1) ej)) (evL ns g s m cs fl P R U af af af)=.ok (.nx (evL ns g s m cs fl P R U (aa (ey CR CP g.rows g.o)) af af)):=by have S:qQ CR CP 64 [g.D]=.ok (ey CR CP g.rows g.o):=S;simp[S]
 have u:vC [.lst (fl.map flD)]=.ok (.lst (fl.map flD)):=by
  have:(fl.map flD).length<=16777216:=by simp;lia
  rw[az]at this;simp[this]
 have w:vC [.lst (cs.map stD)]=.ok (.lst (cs.map stD)):=by
  have:cs.length<=16777216:=ac
  simp[this]
 have s9:g7 [] 10 (fL nA (b6 (fL vC (b6 (de 5) ej)) (b6 (fL vC (b6 (de 4) ej)) ej))) (evL ns g s m cs fl P R U (aa (ey CR CP g.rows g.o)) af af)=.ok (.nx (evL ns g s m cs fl P R U (aa (ey CR CP g.rows g.o)) (aa (.lst [.lst (fl.map flD),.lst (cs.map stD)])) af)):=by unfold evL;generalize fl.map flD=fm at *;generalize cs.map stD=cm at *;simp only[e_setB,e_L,e_cons,erase,evL]at u w ⊢;simp[u,w]
 have E:qX CR CP 64 [ey CR CP g.rows g.o,.lst (fl.map flD),.lst (cs.map stD),.int s]=.ok (qP Q):=E;have I:qR [.dic (qP Q),.dic (qP R),g.D]=.ok (.bl ag):=I;have q:neM (.lst [.lst (fl.map flD),.lst (cs.map stD)]) (.lst [.lst (fl.map flD),.lst (cs.map stD)])=.ok (.bl ae):=by
  have h1:∀(l:List Fli) (n:Nat),vX (l.map flD) (n+3)=ag:=λl n=>by
   induction l with
   |nil=>rfl|cons x l G=>simp[vX,A8,flD,G]
  have Z:∀(l:List v9) (n:Nat),vX (l.map stD) (n+3)=ag:=λl n=>by
   induction l with
   |nil=>rfl|cons x l G=>simp[vX,A8,stD,G]
  have h:A8 (.lst [.lst (fl.map flD),.lst (cs.map stD)]) 40=ag:=by simp[A8,vX,h1,Z]
  unfold neM;rw[h,zl h];rfl
 have c:∀z8:Option A0,qI (fL (qR) (b6 (fCP (qX CR CP 64) 4 (b6 (de 9) (b6 (f2 ixD (de 10) (fC (.int 0))) (b6 (f2 ixD (de 10) (fC (.int 1))) (b6 (de 2) ej))))) (b6 (de 7) (b6 (de 1) ej)))) (evL ns g s m cs fl P R z8 (aa (ey CR CP g.rows g.o)) (aa (.lst [.lst (fl.map flD),.lst (cs.map stD)])) af)=.ok (.rt (.bl ag)):=λz8=>by unfold evL;generalize fl.map flD=fm at *;generalize cs.map stD=cm at *;simp[fCP,E,I]
 have F:zO 11 8 4 (qX CR CP 64) (Ed) (CD) (DH) (AB) (qI (fL (qR) (b6 (fCP (qX CR CP 64) 4 (b6 (de 9) (b6 (f2 ixD (de 10) (fC (.int 0))) (b6 (f2 ixD (de 10) (fC (.int 1))) (b6 (de 2) ej))))) (b6 (de 7) (b6 (de 1) ej))))) (evL ns g s m cs fl P R U (aa (ey CR CP g.rows g.o)) (aa (.lst [.lst (fl.map flD),.lst (cs.map stD)])) af)=.ok (.rt (.bl ag)):=by
  have a2:Ed (evL ns g s m cs fl P R U (aa (ey CR CP g.rows g.o)) (aa (.lst [.lst (fl.map flD),.lst (cs.map stD)])) af)=.ok [ey CR CP g.rows g.o,.lst (fl.map flD),.lst (cs.map stD),.int s]:=by unfold evL;generalize fl.map flD=fm at *;generalize cs.map stD=cm at *;simp[Ed]
  have t3:CD (evL ns g s m cs fl P R U (aa (ey CR CP g.rows g.o)) (aa (.lst [.lst (fl.map flD),.lst (cs.map stD)])) (aa (.dic (qP Q))))=.ok ae:=by unfold evL;generalize fl.map flD=fm at *;generalize cs.map stD=cm at *;simp[CD,I,q]
  have i4:DH (evL ns g s m cs fl P R U (aa (ey CR CP g.rows g.o)) (aa (.lst [.lst (fl.map flD),.lst (cs.map stD)])) af)=.ok ((R.map (·.1)).map j0):=by
   have:C6 (.dic (qP R))=.ok ((R.map (·.1)).map j0):=by rw[zm];unfold qP;rw[aR,aR];rfl
   simp[DH,this,-zm]
  unfold zO;have c:=c y;simp only[evL,e_,e9]at a2 t3 i4 ez c ⊢;rw[a2,dm,aC (by rfl),E,dm,t3,dm,aA ad,i4,dm,ez,dm];exact c
 have gl:g_law CR CP 64 [aa (.lst (ns.map .int)),af,af,af,af,af,af,af,af,af,af,af]=.ok (.rt (.bl ag)):=by unfold g_law;rw[yb s1,yb s2,yb s3,yb s4,yb s5,yb s6,yb s7,yb s8,yb s9];exact F
 show(g_law CR CP 64 [aa (.lst (ns.map .int)),af,af,af,af,af,af,af,af,af,af,af]).bind _=_;rw[gl];rfl
end
def fin_mk{P:bL}{K:Fg}{h:bF}{fa CR:av}(_:K.In h)(_:h.Ns cz mg)(I:mg "law"=aa (.ref fa))(Z:Zs K mg CR CP):
  ∃fd:dX,(∀(s:ao) (v:aj),kv s fd ⟨[v],[]⟩ [("_law_script",v)])/\∀base:bF,K.In base->base.Ns cz mg->vT P w K mg base CX0 12 fa fd ["_law_script"] (spLaw K):=by
 obtain⟨f,fd,D,S⟩:=Z.d_law;have e:=I.symm.trans D.mg;cases e;refine⟨fd,S,λbase _ _=>law_ok (ro:=ae) (λn=>?_) (law_true CR CP Z.ne)⟩
 obtain⟨a,U,Y⟩:=ok_law (P:=P) (w:=w) (base:=base) Z;cases(D.mg.symm.trans Y.d.mg);rw[D.fn.uniq Y.d.fn];exact Y.o
def walk{l:kh}{q:bL}{I:List br}{g:(br->Option aj)->bF->Prop}{U:c8->bF->Prop}{d:DefRec}{K:Params->Fg}(Y:l.most=aa 63)(S:d.params.defaults=[])(c:∀(w:c8) (h:bF),U w h->(K w.params).In h)(F:∀(w:c8) (mg:br->Option aj) (fa:av) (h:bF),(K w.params).In h->h.Ns cz mg->mg d.name=aa (.ref fa) ->
   ∃fd:dX,(∀(s:ao) (u:aj),kv s fd ⟨[u],[]⟩ [("_law_script",u)])/\∀base:bF,(K w.params).In base->base.Ns cz mg->vT l.prog w (K w.params) mg base CX0 12 fa fd ["_law_script"] (spLaw (K w.params))):
  nC q I g U l.row.toRowW d [] (λf vs=>i0 f vs):=
 Lake.walk_of Y am S ⟨rfl,am,am⟩ c F (λ_ _ a ns b _ e=>⟨a,ns,rfl,e,b,λ_=>rfl⟩) λ_ _ _ _ _ z=>z
end Tactic
end
open PySem PySem.W PyProof.Rows
structure PySem.W.Fast:Prop where (tw9315096537169040545
tw3739706294376506030
tw10873357063316431295
tw5689015055384359092
tw9487747574455900151
tw17394669374731818474
tw17637955587881893200
tw409521862932463471
tw5278893841676817619
tw3729920432542436218
tw9853890870822785083
tw11927589653652667406
tw3438313760525606838
tw3326858283765590386
tw8369022203284163025
tw12744027855102790513
tw17953867587072967536
tw1298946393582553413
tw4323945112516154417
tw18324315219271754901
tw17716904501911574874
tw10601932129573700173
tw17847137102816980566
tw5722911401961134616
tw4123695268617005030
tw9440109181573508747
tw2606018226690418675
tw10869512010778100605
tw2830978389018925544
tw5148032329296546533
tw8368989396274637805
tw3898349477745875156
tw13988755442695181807
tw7068610670208033641
tw12171377683335065776
tw10483428007790564966
tw13378610338674158259
tw18199120316328818560
tw16206780713318270424
tw8336132519563923647
tw17409578487924862595
tw695221457428389161
tw14184385507587428494
tw11952763151837378524
tw14902052114837039521
tw10991607237559259081
tw4869872720379687528
tw11618181122722364470
tw1452983193393827585
tw14112267077616869180
tw735103227333823299
tw15475407723055892198
tw5049644764787235452
tw12737919627134575245
tw7652418885057829508
tw13185009580434434077
tw10875837323549093597
tw12798553004071265067
tw8231606226413866455
tw18305545737044077974
tw1710596274954950284
tw2821779291777169931
tw5606316138492138650
tw8051260303019546118
tw526708265232662278
tw12647236514011969918
tw12493938485455093893
tw15520914632264568618
tw12829739386824487606
tw7440819995859754058
tw4706556182444261735
tw18144133481289273155
tw15926763014297032992
tw2064343783727641365
tw13668106182493606278
tw10528730263255518739
tw14304336327572332136
tw17999841996373209367
tw2674765186030228734
tw11957771806194024093
tw6305633293312476575
tw1418603389360193564
tw380886838393418107
tw9879689081544479990
tw182479682388803149
tw14477878222416950131
tw10139583470439589607
tw11686639006013897457
tw18060739846359377699
tw10424247627899929316
tw17772521884870887176
tw10061572203780666785
tw13118640673115004778
tw13080833764162249399
tw2321082346163180647
tw406289801200645824
tw16962258279633135887
tw6725904549560049660
tw17068133770965507277
tw11340054042566548812
tw12762435451873866344
tw2565209350398019196
tw12210990002667767643
tw10656215317148144344
tw13835680581839362424
tw12142284282692540783
tw4143712807296716616
tw12791966903099863876
tw13706065526085138367
tw18239946796476578118
tw15669746045802613624
tw13291668012969616808
tw16913995159051018496
tw16918628736352140582
tw220928840371650712
tw16765163480729392520
tw8893165656792074914
tw8456019308121163822
tw3746993151220835701
tw16270426671794279409
tw8713231761984717161
tw5033595888112318113
tw11071098840273677377
tw17987079221082306267
tw1217430632213674997
tw15966851941257483254
tw13817391662029944269
tw17064671936748535943
tw6172650651589278502
tw15063212324206812861
tw7435945175329946541
tw18108474258601682749
tw1627380254885977851
tw3237609739186406053
tw1325283541635863973
tw14370143555237618889
tw18336408406267965436
tw4030405895545084903
tw6374884733531845562
tw3060002161834237852
tw9825238020651912210
tw3556598172860224776
tw4339634898496597844
tw1594948005140829439
tw12902910220323188511
tw2345810918260922245
tw11066023362176151804
tw10412407380059262177
tw3232904271886146618
tw1443143759587712258
tw14186229904488918806
tw9958200814603641654
tw5982222280463191084
tw11945121978677107454
tw15300337958274319718
tw8170452487462053105
tw4951863259778627424
tw8660189243309465669
tw17584739551894302390
tw6405847370943927070
tw14659374345296983379
tw10217868391121799001
tw17799658643433946843
tw7310142290554444599
tw13104372615599921364
tw11697832756226526559
tw15370199528563406484
tw4151850194010699369
tw12241945458647466421
tw9910297450819674468
tw6435958934058073815
tw11922677825887694061
tw12663728643240767249
tw14860225304610785301
tw15784818014534544246
tw16174673686846717428
tw12683173498528817631
tw8247487902886085004
tw4917524007414004498
tw3733629279995676917
tw9328368291255733817
tw7982331807863514148
tw4446498006955194145
tw5274945058678384762
tw15135334660645773376
tw12861301455944275478
tw6160310562227415272
tw10063437979749164194
tw423427647029544041
tw1672906237568453992
tw14005776999884335639
tw2558367305000052426
tw4810757508067219936
tw11144665610736587002
tw17615339570172582978
tw12855048859178137048
tw2417760556796386015
tw10830307659958014418
tw9371793569372593963
tw7215065747304905500
tw963577193483944549
tw15726926036770179278
tw14166348301417080257
tw1344814727786566295
tw4870333088378796413
tw11543756449736775539
tw9610613367327100825
tw12152377878723308470
tw3924836226691330889
tw18108845575475348444
tw2195131628627135110
tw10979477643321829878
tw12085259930157528591
tw15841920421134245175
tw13458782877149670008
tw15796778980019976504
tw15692016968148686917
tw14078764804050941948
tw11956410012980841960
tw18365471740133616528
tw12382267690810599727
tw8386813552350424938
tw15860554584812661978
tw466013462637266631
tw2045809143711447504
tw16046826829887708713
tw707100383685402055
tw8704297654016784800
tw4987037295998729393
tw11200061018807042266
tw4496250582698143233
tw18347347891337334128
tw15290388728452869268
tw1189481643358518067
tw3705439373278885192
tw13555476269186409842
tw1317003804024847222
tw5180629331207676278
tw6986713137566128264
tw6318047883721714623
tw7267211798205766306
tw15607623418817025808
tw17761895154190188383
tw11800223306660177448
tw6887360108978444298
tw4239963426888457981
tw14365599652588673304
tw1823989173580189928
tw3849831558299233922
tw10064638775778115296
tw4321860553576797045
tw15223366925039539543
tw6271116229159813596
tw1032953482013140545
tw972672997266779754
tw6411549879302389390
tw4642846359697453760
tw1390189196104636968
tw2979007245293504257
tw7406664208456087705:True)
set_option maxRecDepth 100000 in
set_option maxHeartbeats 0 in
theorem PySem.Challenge.cw_wakeorder_k53_papers_told_holds : PySem.Challenge.rw_wakeorder_k53_papers_told.Holds := by
 w_on;o_law;k_head;(case hw=>w_witness2)
 k_fill
 refine Tactic.walk (l:=PySem.Challenge.rw_wakeorder_k53_papers_told) rfl rfl (fun w h Y=>PySem.W.kIn_of Y) ?F
 case F=>
  intro w mg fa h KX G hmg;refine' Tactic.fin_mk KX G hmg ?z
  case z=>
   constructor
   all_goals first|exact Lake.dF KX G|exact PySem.W.mg_none_of KX G (by k_is)|exact ⟨_,PySem.W.mg_of KX G (by k_is)⟩|exact PySem.W.mg_of KX G (by k_is)|exact Lake.mF|exact Lake.kF KX G|exact Lake.tF KX G|exact Lake.iF|exact Lake.xF KX G|exact Lake.xM KX G Lake.mF|exact Lake.lF KX G|exact Lake.rS Lake.mF|k_is|kernel_rfl|exact ⟨PySem.W.mg_of KX G (by k_is),by k_is,by k_is⟩|exact ⟨by k_is,Lake.iF⟩|exact ⟨⟨_,_,_,rfl,by first|k_is|kernel_rfl,by first|k_is|kernel_rfl,by first|k_is|kernel_rfl⟩⟩|exact ⟨⟨_,_,_,_,rfl,by first|k_is|kernel_rfl,by first|k_is|kernel_rfl,by first|k_is|kernel_rfl,by first|k_is|kernel_rfl⟩⟩|decide +kernel|(constructor<;>first|k_is|kernel_rfl|rfl|decide +kernel)|(simp only [List.mem_cons,List.not_mem_nil,or_false,forall_eq_or_imp,forall_eq];repeat' constructor)<;>first|k_is|kernel_rfl
