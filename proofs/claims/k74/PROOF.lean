import PyProof.Rows.All
import PyProof.StrBlockI
import PyProof.StrBlock2
import PyProof.Draws
import PyProof.EnumMake
import PyProof.Rows.StrNews
import KE.KIntText
import PyProof.PureStr
import PyProof.MeetsStr2
import PyProof.Rows.StrItems
import PyProof.StrLawsChain
import PyProof.StrLawsTight
import PyProof.StrLawsIn
import PyProof.StrWalks
import PyProof.FactsAll.str_7
import PyProof.FactsAll.list_1
import PyProof.FitsReplace
import PyProof.FactsAll.str_5
import PyProof.FString
import PyProof.StrLawsJoin
import PyProof.MeetsStr
import KE.KDictSum
import PyProof.Rows.RuleC_int
import PyProof.FactsAll.tuple_1
import KE.KEqDict
import PyProof.Rows.TupTab
import PyProof.AttrMissSeq
import KE.KDictOf
import KE.KPairComp
import PyProof.DictWalks
import PyProof.DictValues
import PyProof.DictItems
import PyProof.Rows.SetFrom
import KE.KRevIter
import PyProof.InstStoreFacts
import PyProof.ExcInit
import PyProof.IsiBase
import PyProof.ExcAttrAll.ValueError
import OpenK.KDescr
import KE.KIsAll
import PyProof.Rows.CatchOwn
import PyProof.RulesTry
import PyProof.RulesAs
import PyProof.RulesDel
import OpenK.KOwn
import PyProof.ExcBaseAll.ValueError
import PyProof.StationsW
import Wide.All
import OpenK.AllK
import Wide.FinOn
import Lean
import PyProof.EqAt
import PyProof.EqKinds
import PyProof.NeKinds
import PyProof.TupleCall
import PySem.Challenge.RW_wakeorder_k74_names_and_numbers
open Option renaming some→a_, none→c_, isSome_iff_exists→Gg, isSome_map→G9, map_some→Ih, map_eq_some_iff→J_, isSome_some→KY, any_eq_true→KZ, getD_none→Lw, toList→Mc
open Bool renaming false→b_, true→d_, and_eq_true→n_, false_ne_true→Fc, and_false→Gm, eq_iff_iff→Hy, or_eq_true→Ir, false_eq_true→IU, not_eq_true'→Jh, not_true→Kb, or_true→Kt, or_false→Mx, and_true→My, true_or→MW
open PySem renaming Addr→e_, sizeLine→g_, starEach→i_, wpAny_bind→k_, Value→l_, Str→p_, Shared→z_, wpAny_pure→A_, wpAny→Cb, model→Eg, boot_len→Ej, sizeLine_eq→Er, compareOp→Es, eval→Eu, mainGlobals→EG, backTo→EN, wpAny_mono→EV, Heap→EY, wpAny_truthy_bool→Fb, Expr→Fe, Stmt→Fh, sysModules→Fj, Program→Fp, mem_of_lookup→Fq, World→Fu, keywordEach→Fz, cellsFrom→FA, cLine→FK, binaryOp→FN, wpAny_Call_Name_kw→FP, attributeBase→FR, swapsWith→FV, assignEach→FW, bootBuiltins→F8, FuncData→Gf, foldedSetIterable→Gi, codeAny_mono→Gj, behindInMarks→Gn, backToKw→GB, Around→GH, intText?→GS, NameKind→GW, strValues→GX, codeAny_call_builtin→G0, Keyword→G2, wpAny_holding→Ha, tupleKind_room_in1→Hf, wpAny_field→Hg, wpAny_pyIter_list→Hr, wpAny_loadPart_at→Hs, codeAny→Ht, Paired→Hu, call→Hw, Within→Hz, wpAny_standAt→HB, sliceBounds→HE, wpAny_passesOwn→HJ, wpAny_execs_nil→HK, holding→HU, assign→HZ, wpAny_dictEntries→Ij, ExcAttrBase→Ik, Obj→Io, tupleKind→Iv, wpAny_call→IC, ExcBaseFacts→ID, letOwnedTupleGo→IF, atKey→IG, wpAny_setField→IV, excClassObj→IW, bindArgs→IX, setFlight→Jb, lastMarks→Jc, getItem→Jd, BindsTo→Jf, Model→Jl, typeIs_str→Jp, rawInt→Jq, call_meets→Jr, wpAny_newObj_type→JA, valueAt→JB, standAt→JC, intKind→JD, concat_meets→JE, callerA→JF, Scope→JI, plainObj_wpAny_Assign_Attribute→JK, wpAny_execs_cons→JO, wpAny_call_entry→JP, noFill_tuple_add→JQ, getMethod→JR, checkBuiltinCall→JS, IsPart→JW, Env→JY, subscripted→J1, pushCells_keeps→Kc, wpAny_richCompare_same_room→Km, ofString_length→Kn, wpAny_loadPart→Kv, reduceHash→Kw, newFunctionEnv→Kx, intText_digits→Ky, callWith→Kz, wpAny_comprehension_free→K5, swapsWithSole→K6, swappedStores→K7, seq_tuple_add→K8, numAt→Lk, noteFrame→Ll, meetsH_dict_get_default→Lm, bindL→Ln, bindC→Lo, DictEntry→Lv, wpAny_Assign_Subscript→LB, seqIndex_neg→LC, isTrue→LF, getAttr→LG, call_meetsIn→LH, Result→LM, wpAny_notOrdered_dict→LR, wpAny_isTrue_Compare1→LS, unbindBehindTheSuite→L7, seqIndex_of→L8, numAt_eq→L9, int_text_length_le10→L_, evalEach→Ma, wpAny_isSubtype_exc→Me, Tok→Mh, wpAny_setItem_heap→Mj, wpAny_Name→Ml, wpAny_List_spliced→Mm, typeLookup→Mn, isInstance→Mo, builtinsNs→Mp, wpAny_pyIter_enum→Mz, wpAny_assign_Name→MA, wpAny_Call_method→MB, wpAny_Assign_Name→MC, unaryOp→MD, storedH→ME, spliced→MF, slot_list_getitem→MG, setItem→MH, setAttr→MI, leaving→MJ, hashInt→MK, Sem→MO, OwnTail→MP, wpAny_pyIter_zip→MX, wpAny_lookBehind→MY, wpAny_isInstance→MZ, wpAny_Dict_empty→M0, pastItsLine_dict→M1, getAttrBy→M3, Pos→M4
open PySem.Str renaming ofString→h_, join→FE, empty→Gr
open List renaming getElem?_set_ne→o_, length_map→t_, mem_cons→v_, lookup_cons→w_, getElem?_set_self→x_, getElem?_eq_some_iff→A1, size_toArray→B_, mem_cons_of_mem→C_, map_cons→Eh, map_map→El, length_set→En, length_cons→Ex, length_append→Ey, getElem?_eq_getElem→Ez, mem_cons_self→EB, lookup→EM, not_mem_nil→EO, mem_of_getElem?→ER, exists_cons_of_length_eq_add_one→EU, mem_append_right→EW, mem_map→EX, getElem?_map→E_, find?_cons→Ff, range→Fm, mem_filter→Fn, map_append→Fo, replicate→Fv, mem_append→Fw, mem_singleton→Fy, length_replicate→FH, all_eq_true→FL, map_congr_left→FU, getElem_mem→FY, getElem?_append_left→Gb, drop_eq_getElem_cons→Gd, length_take→Gk, mem_filterMap→Gz, map_nil→GA, append_nil→GK, getElem?_append_right→GY, nodup_cons→G4, length_eq_zero_iff→G7, getElem?_cons_succ→G8, findIdx?_eq_some_iff_getElem→G_, append_assoc→Hd, getElem?_eq_none→Hl, all_map→HD, map→Ib, getElem?_replicate→Ic, nodup_nil→Iz, mem_append_left→IA, drop_zero→IB, map_eq_nil_iff→IH, getElem_of_mem→II, filterMap_cons→IJ, all_cons→IP, take_add_one→Jg, any_eq_true→Jo, length→Jv, of_mem_zip→Jw, nil_append→Jx, length_nil→Jy, any_cons→Ka, getElem?_set_self'→Kh, filter_cons_of_pos→Ki, filter_cons_of_neg→Kj, range_succ_eq_map→Kr, drop_eq_nil_of_le→Ks, length_singleton→KO, getElem?_toArray→KP, length_eraseIdx→K0, getElem_toArray→K1, getElem?_range→Lh, set_cons_zero→Lx, set_cons_succ→Ly, contains_cons→Lz, nodup_append→LO, mem_range'_1→LP, getElem?_inj→LQ, take_length→LW, length_drop→LX, getElem_map→LY, filter_cons→LZ, ext_getElem→L0, drop_length→L4, foldl_cons→Md, forIn_nil→Mi, range'→Ng, map_id→Nh
open Decidable renaming decide→r_, byContradiction→EF
open PySem.Heap renaming get?_push_of_some→s_, lt_size→y_, get?_push_size→Ei, get?_update_other→EC, size_push→FC, get?_update_self→GQ, size_update→Hq, SameBut→HC
open Nat renaming le_refl→u_, lt_of_lt_of_le→Em, ne_of_lt→EA, le_trans→EJ, le_succ→EK, lt_irrefl→Fi, zero_le→FX, lt_succ_self→GZ, le_of_lt→HF, le_add_right→Ii, ne_of_gt→Ip, lt_trans→Iq, not_lt→JZ, pow_le_pow_right→Lf, log2_lt→Lg, lt_succ_of_lt→LV, mul_le_mul→Mv, add_assoc→MV, le_of_eq→Nf
open PySem.Value renaming ref→D_, str→FJ, type→GU, none→GV, int→Hj, builtin→Hm, bool→JH, isInt→KG, float→KH, isStrOf→Mg, bytes→MN
open Except renaming ok→Eo, error→Gv, bind→Mw
open PySem.W renaming findIn→Ep, kitOne→ES, emptyDict→Fd, instObj→F_, cellsFrom_some→Gp, InstAt→Gw, kia_one→Gy, mroIn→GC, keepIn→GD, hasDictIn→GO, looks_findIn→G5, lookIn→HL, plainGet_of→Iw, methodObj→IK, kitx_list→IL, OpenLaw→IY, specialIn→Je, fnOf→Ji, callWith_K→Js, plainGet→JG, handedIn→JT, codeIn→JU, clsIn→JV, methodCall_KW→J5, looks_clsIn→Kd, any_some→Ke, callWith_K0→Ko, typeIn→KA, kitx_tuple→KC, isNs_of_in→KD, kitx_none→KQ, kitx_dict→KR, kitx_bool→KS, kitx_str→K_, kitx_int→La, WalkO→Lb, readsIn→Lp, plainOver→Lq, findCls→Lr, notCls→LI, makesIn→LJ, keq_eq→LL, nsIn→Mb, findObj_own→Mf, Frag→Mr, takesIn→ML, set_plain→MM
open Option.some renaming inj→Ew, injEq→J9
open PySem.Builtin.Str renaming occurrences→ED, partsBetween→Jj, strKind→JN
open PySem.F renaming plainAttrs_list→EE, slot_list_append→EL, type_list_append→ET, slot_str_split→Gs, slot_str_join→GF, slot_dict_get→GG, attrBase_ValueError→GI, type_str_split→G6, type_str_join→Hb, slot_dict_eq→Hk, args_tuple_add_2→HM, entry_tuple_add→HV, args_dict_get_3→HW, slot_tuple_add→H_, entry_dict_get→Ia, slot_str_startswith→Jm, excBase_ValueError→Jt, slot_list_index→JL, plainAttrs_dict→JM, args_dict_eq_2→JX, type_dict_get→J6, sub_dict_dict→J7, entry_dict_eq→J8, slot_list_extend→KL, typeOf_object_class→Lu, entry_bexc_ga→MS
open Ne renaming symm→EI
open False renaming elim→EZ
open True renaming intro→Fl
open Array renaming length_toList→Fs, getElem?_eq_some_iff→HG, append_assoc→IQ, toList→Ja, getElem?_eq_none→Kl, toList_append→K2, find?_toList→Li
open Nat.succ renaming inj→Ft
open PySem.Txt renaming startswith→FD, split→Gq, mul→KI
open Pure renaming pure→FF
open PySem.NameKind renaming cell→FG
open PySem.NumText renaming digitsVal→FO
open Except.ok renaming inj→FT
open PySem.Builtin.Tuple renaming tupleHashOf→FZ, tupleItemsOf→M9, tupleExact→M_
open LawfulBEq renaming eq_of_beq→Ga
open PyProof.Rows renaming boot_list→Gh, slot_tuple_getitem→Gu, envOfC→GR, boot_int→G3, callWith_type1→Hi, pendingOf→HA, boot_isinstance→HN, boot_str→HS, AllBare→Im, boot_all→I_, IntsAre→Kq, SortSt→KN, subscriptTail→Le, subscriptTail_builtinR→LN, chain_link→Mt, Subscript_→Mu, IsTup→MU
open PySem.Calls renaming spliced_cons→Gx, spliced_nil→HR, callWith_builtin→Ig, evalArgs_plain→Iy, Name_function_global→JJ
open PySem.Builtin.Slice renaming slicePlaces→GJ, sliceAdjust→Hv, sliceApplied→IM, slicePartIndex→Nb, sliceFields→Nc
open PySem.Builtin.Dict renaming dictSlotArgs→GP, samePairs→Jn, showsAll→Ju
open Sum renaming inr→He, inl→IE
open PySem.Obj renaming isFreed_of_fields→Ho, mapFields→IS, mapSeq→IZ, data_mapFields→I9
open PySem.Builtin.List renaming listTooLong→Hx
open PySem.AutoSeq1 renaming wpAny_loadPart'→HI
open Int renaming emod_lt_of_pos→HP, emod_nonneg→Iu, le_trans→Jk, le_refl→Jz
open PySem.Paired renaming length→HQ, snoc→Kp
open List.cons renaming injEq→HX
open ForInStep renaming yield→HY
open PySem.SeqAt renaming EqAt→Ie, ne_of_list_tuple→Kf, RcNeAt→Kg, RcAt→Ld
open PySem.EntryCells renaming newEntry→Il
open PySem.Code renaming quiet_builtin→IT
open Function renaming comp_apply→Kk
open PySem.Heap.Ns1 renaming of_empty→KJ
open PySem.StrLaws renaming found_one→KU
open PySem.PassesOwn renaming never→KW
open PySem.Within renaming cons→K9
open PySem.W.Looks renaming here→Lc
open PySem.SetTable renaming grown→Ls
open PySem.Builtin.ObjectAttr renaming storeInOwnDict→LU
open PySem.Challenge renaming pw_wakeorder_k74_names_and_numbers→Ms
open PySem.Meets renaming of_wp→MQ
open PySem.Heap.IsSliceOf renaming new→MR
open PySem.CmpOp renaming NotIn→MT
open PySem.EqMixed renaming ne_str_int→M5, ne_str_bool→M6, ne_int_str→M7, ne_bool_str→M8
open PySem.Builtin.Range renaming rangeSize→Nd
open List.Pairwise renaming nil→Ni
abbrev f_:=@if_pos
abbrev j_:=@decide_eq_false
abbrev m_:=@if_neg
abbrev q_:=@decide_eq_true
abbrev Ek:=@absurd
abbrev Et:=@decide_eq_true_eq
abbrev FQ:=@beq_eq_false_iff_ne
abbrev Ge:=@beq_iff_eq
abbrev GL:=@of_decide_eq_true
abbrev GN:=@congrArg
abbrev G1:=@or_false
abbrev J0:=@if_true
abbrev Ku:=@not_or
abbrev K3:=@if_false
abbrev K4:=@decide_false
abbrev LA:=@beq_self_eq_true
set_option Elab.async false
set_option linter.all false
set_option maxRecDepth 100000
set_option maxHeartbeats 4000000
open PySem.W (plainGet isFn plainOver takerIn makesIn typeIn keepIn specialIn takesIn kitOne kia_one callWith_K fnOf codeIn nsIn mg_of kitAny)
abbrev Fg:=Mr
abbrev Pn:=List (e_×Io)
abbrev Vp:=l_->z_->Prop
abbrev Mq:=p_->Option l_
noncomputable section
theorem Jq0(_:True:=by rfl):True:=trivial
local macro_rules|`(~~~$t)=>`(autoParam $t Jq0._auto_1)
theorem Jq1(_:True:=by decide):True:=trivial
local macro_rules|`($t⁻¹)=>`(autoParam $t Jq1._auto_1)
theorem Jq2_(_:True:=by k_is):True:=trivial
def Jq2:Lean.Syntax:=Jq2_._auto_1
theorem Jq3_(_:True:=by first|exact .inl rfl|exact .inr rfl|assumption):True:=trivial
def Jq3:Lean.Syntax:=Jq3_._auto_1
theorem Jq4_(_:True:=by intro _;rfl):True:=trivial
def Jq4:Lean.Syntax:=Jq4_._auto_1
theorem Jq5_(_:True:=by first|exact Or.inl rfl|exact Or.inr (Or.inl rfl)|exact Or.inr (Or.inr rfl)):True:=trivial
def Jq5:Lean.Syntax:=Jq5_._auto_1
namespace L2
open PySem PySem.Spec PyProof.Rows
variable {κ:Type} {a b dx C:e_} {u:l_} {P prog:Fp} {w:Fu} {h h':EY} {x name m qual:p_} {e tg:Fe} {pins:Pn} {s s':z_} {g':Array GenState} {ch fp:List e_} {N ps:List p_} {i n:Nat} {A:GH} {E:Vp} {Q:Unit->z_->Prop} {pos pos' p:M4} {op op':CmpOp} {K:Fg} {es:List Fe} {g:Int->Int->Int} {body:List Fh} {f:l_->l_->MO l_} {us:List l_} {mA mg:Mq} {pl:MO Bool} {kw:List (p_×l_)} {outer:List JY} {fd:Gf} {scope:JI}
noncomputable abbrev Key:=Sum Int p_
noncomputable def AO:Key->l_->Bool
 |.inl k,v=>KG k v
 |.inr x,v=>Mg x v
noncomputable def keyH (w:Fu):Key->Int
 |.inl k=>MK k
 |.inr x=>hashStr w x
theorem cu:∀{k:Key} {v:l_},AO k v=d_->(∃i t,k=IE i/\v=Hj i t)\/(∃x t,k=He x/\v=FJ x t)
 |.inl i,v,h=>by
  obtain ⟨t,e⟩:=Value.isInt_shape (k:=i) (v:=v) h;exact .inl ⟨i,t,rfl,e⟩
 |.inr x,v,h=>by
  obtain ⟨t,e⟩:=Value.isStrOf_shape (x:=x) (v:=v) h;exact .inr ⟨x,t,rfl,e⟩
theorem CU (i:Int) (t:Mh):AO (.inl i) (.int i t)=d_:=by simp [AO,KG]
theorem CT (x:p_) (t:Mh):AO (.inr x) (.str x t)=d_:=by simp [AO,Mg]
theorem key_ll (a b:Int):r_ ((IE a:Key)=IE b)=(a==b):=by
 by_cases e:a=b
 ·subst e;simp
 ·have h:¬(IE a:Key)=IE b:=fun q=>e (Sum.inl.inj q);rw [j_ h];exact (FQ.mpr e).symm
theorem key_rr (a b:p_):r_ ((He a:Key)=He b)=r_ (a=b):=by
 by_cases e:a=b
 ·subst e;simp
 ·have h:¬(He a:Key)=He b:=fun q=>e (Sum.inr.inj q);rw [j_ h,j_ e]
theorem key_lr (a:Int) (b:p_):r_ ((IE a:Key)=He b)=b_:=j_ (fun q=>nomatch q)
theorem key_rl (a:p_) (b:Int):r_ ((He a:Key)=IE b)=b_:=j_ (fun q=>nomatch q)
def cG (prog:Fp) (w:Fu):PySem.KeyKind prog w Key where
 is:=AO
 hash:=keyH w
 inj:=fun v a b Y I=>by
  rcases cu Y with ⟨i,t,rfl,rfl⟩|⟨x,t,rfl,rfl⟩
  ·rcases cu I with ⟨j,u,rfl,e⟩|⟨y,u,rfl,e⟩
   ·injection e with e1 _;rw [e1]
   ·exact nomatch e
  ·rcases cu I with ⟨j,u,rfl,e⟩|⟨y,u,rfl,e⟩
   ·exact nomatch e
   ·injection e with e1 _;rw [e1]
 byValue:=fun k v h=>by
  rcases cu h with ⟨i,t,rfl,rfl⟩|⟨x,t,rfl,rfl⟩<;>rfl
 pyHash:=fun hv h=>by
  rcases cu hv with ⟨i,t,rfl,rfl⟩|⟨x,t,rfl,rfl⟩
  ·exact wpAny_pyHash_int h
  ·exact wpAny_pyHash_str h
 eqBool:=fun J hv h=>by
  rcases cu J with ⟨i,t,rfl,rfl⟩|⟨x,t,rfl,rfl⟩
  ·rcases cu hv with ⟨j,u,rfl,rfl⟩|⟨y,u,rfl,rfl⟩
   ·rw [key_ll] at h;exact wpAny_eqBool_int h
   ·rw [key_lr] at h;exact SeqAt.EqAt.int_str i t y u _ _ _ _ h
  ·rcases cu hv with ⟨j,u,rfl,rfl⟩|⟨y,u,rfl,rfl⟩
   ·rw [key_rl] at h;exact SeqAt.EqAt.str_int x t j u _ _ _ _ h
   ·rw [key_rr] at h;exact wpAny_eqBool_str h
 «strs»:=fun k x t v h=>by
  rcases cu h with ⟨i,u,rfl,e⟩|⟨y,u,rfl,e⟩
  ·exact nomatch e
  ·injection e with e1 _
   subst e1;cases v<;>rfl
theorem xT (prog:Fp) (w:Fu) (i:Int) (t:Mh):(cG prog w).is (.inl i) (.int i t)=d_:=CU i t
theorem xS (prog:Fp) (w:Fu) (x:p_) (t:Mh):(cG prog w).is (.inr x) (.str x t)=d_:=CT x t
inductive V where
 |non|bl (b:Bool)|int (i:Int)|str (x:p_)|byt (b:Array UInt8)|flt (b:UInt64)|ref (a:e_)|ty (n:String)
 deriving DecidableEq
variable {v y:V} {vs:List V}
def RelV:V->l_->Prop
 |.non,u=>u=GV
 |.bl b,u=>u=JH b
 |.int i,u=>∃t,u=Hj i t
 |.str x,u=>∃t,u=FJ x t
 |.byt b,u=>∃t,u=MN b t
 |.flt b,u=>∃t,u=KH b t
 |.ref a,u=>u=D_ a
 |.ty n,u=>u=GU n
abbrev Vals:List V->List l_->Prop:=Hu RelV
theorem Vals.length {xs:List V} {us:List l_} (r:Vals xs us):xs.length=us.length:=HQ r
theorem Vals.get:∀{xs:List V} {us:List l_} {i:Nat} {x:V},Vals xs us->xs[i]? =a_ x->∃u,us[i]? =a_ u/\RelV x u
 |_,_,_,_,.nil,e=>by simp at e
 |_,_,0,_,.cons r _,e=>by simp at e;subst e;exact ⟨_,rfl,r⟩
 |_,_,i+1,x,.cons _ t,e=>by
  obtain ⟨u,h1,h2⟩:=Vals.get (i:=i) (x:=x) t (by simpa using e);exact ⟨u,by simpa using h1,h2⟩
theorem Vals.set {x:V} {u:l_} (r:RelV x u):∀{xs:List V} {us:List l_} (i:Nat),Vals xs us->Vals (xs.set i x) (us.set i u)
 |_,_,_,.nil=>.nil
 |_,_,0,.cons _ t=>.cons r t
 |_,_,i+1,.cons q t=>.cons q (Vals.set r i t)
theorem Vals.append:∀{xs ys:List V} {us ws:List l_},Vals xs us->Vals ys ws->Vals (xs++ys) (us++ws)
 |_,_,_,_,.nil,s=>s
 |_,_,_,_,.cons r t,s=>.cons r (Vals.append t s)
theorem Vals.take:∀{xs:List V} {us:List l_} (n:Nat),Vals xs us->Vals (xs.take n) (us.take n)
 |_,_,0,_=>.nil
 |_,_,_+1,.nil=>.nil
 |_,_,n+1,.cons r t=>.cons r (Vals.take n t)
theorem Vals.drop:∀{xs:List V} {us:List l_} (n:Nat),Vals xs us->Vals (xs.drop n) (us.drop n)
 |_,_,0,r=>r
 |_,_,_+1,.nil=>.nil
 |_,_,n+1,.cons _ t=>Vals.drop n t
def oA:Option V->Option l_->Prop
 |some v,a_ u=>RelV v u
 |none,c_=>True
 |_,_=>False
def KV:List (κ×V)->List (κ×l_)->Prop:=Hu fun (p:κ×V) (q:κ×l_)=>p.1=q.1/\RelV p.2 q.2
noncomputable def kV:Key->V
 |.inl i=>.int i
 |.inr x=>.str x
inductive HO where
  |lst (xs:List V)
  |tup (xs:List V)
  |dK (kvs:List (Key×V))|dT (kvs:List (List Key×V))
  |set (S:Int->Bool) (n:Nat)
  |ins (C dx:e_) (fs:List (p_×V))
  |own (x:e_)
  |xd (fs:List (p_×V))
  |met (f x:e_)
  |rng (lo hi:Int)
  |frz (o:Io) (u:HO)
  |tbl (ps:Array l_)
  |ext (φ:EY->Prop)
variable {o:HO}
noncomputable abbrev Hp:=e_->Option HO
variable {H H':Hp}
noncomputable def upd (H:Hp) (a:e_) (o:HO):Hp:=fun b=>if b=a then a_ o else H b
theorem ao:upd H a o a=a_ o:=by unfold upd;rw [f_ rfl]
theorem aq (h:b≠a):upd H a o b=H b:=by unfold upd;rw [m_ h]
theorem ne_of {u:HO} (h:H a=a_ o) (h':H b=a_ u) (d:o≠u):a≠b:=by
 intro e;subst e;rw [h] at h';exact d (Ew h')
theorem aL (h:H a=a_ o) (h':H b=c_):a≠b:=by
 intro e;subst e;rw [h] at h';cases h'
section
variable (P:Fp) (w:Fu)
def cA (H:Hp) (h:EY) (a:e_):HO->Prop
 |.lst xs=>xs.length<=g_/\∃(its:List l_) (n:Nat),Vals xs its/\h.get? a=a_ {cls:=.type "list",data:=.seq its.toArray n}
 |.tup xs=>xs.length<=g_/\∃its:List l_,Vals xs its/\MU h a its.toArray
 |.dK kvs=>kvs.length<=g_/\(a==Fj)=b_/\∃vs,KV kvs vs/\h.DictOf (cG P w) a vs
 |.dT kvs=>kvs.length<=g_/\(a==Fj)=b_/\∃xs:List (List Key×e_×l_),
   Hu (fun (p:List Key×V) (q:List Key×e_×l_)=>p.1=q.1/\H q.2.1=a_ (.tup (p.1.map kV))/\RelV p.2 q.2.2) kvs xs /\
   ∃o es ep,h.get? a=a_ o/\o.ExactDict/\o.data=.dict es ep/\es.toList=xs.map (entryOfKey (Iv (cG P w)))/\(xs.map (·.1)).Nodup
 |.set S n=>h.SetOf (JD P w) a S n
 |.ins C dx fs=>H dx=a_ (.own a)/\fs.length<=1000/\dx≠a/\h.get? a=a_ (F_ C dx) /\
   ∃mA,h.Ns1 dx mA/\(∀f,oA (fs.lookup f) (mA f))/\Hz mA (fs.map (·.1))
 |.own _=>∃o,h.get? a=a_ o
 |.xd fs=>∃mA,h.Ns1 a mA/\∀f,oA (fs.lookup f) (mA f)
 |.rng lo hi=>∃t u v,h.get? a=a_ {cls:=.type "range",data:=.fields #[.int lo t,.int hi u,.int 1 v]}
 |.frz o u=>h.get? a=a_ o/\cA H h a u
 |.tbl ps=>h.get? a=a_ {cls:=.none,data:=.fields ps}
 |.met f x=>h.get? a=a_ (IK (.ref f) (.ref x))
 |.ext I=>I h/\(∃o,h.get? a=a_ o)/\∀h1 h2:EY,I h1->(∀o,h1.get? a=a_ o->h2.get? a=a_ o)->I h2
def HOk (H:Hp) (h:EY):Prop:=∀a o,H a=a_ o->cA P w H h a o
end
section
theorem cA.lt (x:cA P w H h a o):a<h.objs.size:=by
 cases o with
 |lst xs=>obtain ⟨_,_,_,_,e⟩:=x;exact y_ e
 |tup xs=>obtain ⟨_,_,_,p⟩:=x;exact p.lt
 |dK kvs=>obtain ⟨_,_,_,_,o,_,_,e,_⟩:=x;exact y_ e
 |dT kvs=>obtain ⟨_,_,_,_,o,_,_,e,_⟩:=x;exact y_ e
 |set S n=>obtain ⟨o,_,_,_,e,_⟩:=x;exact y_ e
 |ins C dx fs=>obtain ⟨_,_,_,e,_⟩:=x;exact y_ e
 |own y=>obtain ⟨_,e⟩:=x;exact y_ e
 |xd fs=>obtain ⟨_,⟨_,_,_,e,_⟩,_⟩:=x;exact y_ e
 |rng lo hi=>obtain ⟨_,_,_,e⟩:=x;exact y_ e
 |frz J u=>obtain ⟨e,_⟩:=x;exact y_ e
 |tbl ps=>exact y_ (show h.get? a=a_ _ from x)
 |met f y=>exact y_ (show h.get? a=a_ _ from x)
 |ext I=>obtain ⟨_,⟨_,e⟩,_⟩:=x;exact y_ e
theorem Paired.mapP {α Y:Type} {F G:α->Y->Prop}:∀{J:List α} {I:List Y},Hu F J I->(∀a b,F a b->G a b)->Hu G J I
 |_,_,.nil,_=>.nil
 |_,_,.cons r t,f=>.cons (f _ _ r) (Paired.mapP t f)
theorem cA.wW (x:cA P w H h a o) (k:∀b u,(b=a\/H b=a_ (.own a))->h.get? b=a_ u->h'.get? b=a_ u)
  (i:∀b,H b=a_ (.own a)->H' b=a_ (.own a)) (g:∀b xs,H b=a_ (.tup xs)->H' b=a_ (.tup xs)):cA P w H' h' a o:=by
 induction o with
 |lst xs=>obtain ⟨z,its,n,r,e⟩:=x;exact ⟨z,its,n,r,k _ _ (.inl rfl) e⟩
 |tup xs=>obtain ⟨z,its,r,I,e,c⟩:=x;exact ⟨z,its,r,I,k _ _ (.inl rfl) e,c⟩
 |dK kvs=>obtain ⟨z,y,vs,r,I,es,ep,e,c⟩:=x;exact ⟨z,y,vs,r,I,es,ep,k _ _ (.inl rfl) e,c⟩
 |dT kvs=>
  obtain ⟨z,y,xs,r,I,es,ep,e,c⟩:=x;exact ⟨z,y,xs,Paired.mapP r fun p q z=>⟨z.1,g _ _ z.2.1,z.2.2⟩,I,es,ep,k _ _ (.inl rfl) e,c⟩
 |set S n=>obtain ⟨I,es,ep,t,e,c⟩:=x;exact ⟨I,es,ep,t,k _ _ (.inl rfl) e,c⟩
 |ins C dx fs=>
  obtain ⟨d,z,J,e,mA,⟨od,es,ep,e2,c⟩,r⟩:=x;exact ⟨i _ d,z,J,k _ _ (.inl rfl) e,mA,⟨od,es,ep,k _ _ (.inr d) e2,c⟩,r⟩
 |own y=>obtain ⟨I,e⟩:=x;exact ⟨I,k _ _ (.inl rfl) e⟩
 |xd fs=>obtain ⟨mA,⟨od,es,ep,e,c⟩,r⟩:=x;exact ⟨mA,⟨od,es,ep,k _ _ (.inl rfl) e,c⟩,r⟩
 |rng lo hi=>obtain ⟨t,u,v,e⟩:=x;exact ⟨t,u,v,k _ _ (.inl rfl) e⟩
 |frz I u Y=>obtain ⟨e,q⟩:=x;exact ⟨k _ _ (.inl rfl) e,Y q⟩
 |tbl ps=>
  have e:h.get? a=a_ {cls:=.none,data:=.fields ps}:=x;show h'.get? a=a_ {cls:=.none,data:=.fields ps};exact k a _ (.inl rfl) e
 |met f y=>
  have e:h.get? a=a_ (IK (.ref f) (.ref y)):=x;show h'.get? a=a_ (IK (.ref f) (.ref y));exact k a _ (.inl rfl) e
 |ext j=>obtain ⟨p,⟨o,e⟩,st⟩:=x;exact ⟨st _ _ p fun o q=>k _ _ (.inl rfl) q,⟨o,k _ _ (.inl rfl) e⟩,st⟩
theorem HOk.lt (x:HOk P w H h) (e:H a=a_ o):a<h.objs.size:=(x a o e).lt
theorem HOk.fresh (x:HOk P w H h) (e:h.objs.size<=a):H a=c_:=by
 cases q:H a with
 |none=>rfl
 |some u=>exact Ek (Em (x.lt q) e) (Fi _)
theorem HOk.kept (x:HOk P w H h) (k:∀b u,h.get? b=a_ u->h'.get? b=a_ u):HOk P w H h':=fun a o e=>
 (x a o e).wW (fun b u _ q=>k b u q) (fun _ q=>q) fun _ _ q=>q
theorem HOk.laid (x:HOk P w H h) (k:∀b u,h.get? b=a_ u->h'.get? b=a_ u) (d:h.objs.size<=a) (I:cA P w (upd H a o) h' a o):HOk P w (upd H a o) h':=fun b u e=>by
 have J:=x.fresh d;by_cases Y:b=a
 ·subst Y;rw [ao] at e;cases e;exact I
 ·rw [aq Y] at e;exact (x b u e).wW (fun c v _ q=>k c v q) (fun c q=>by rw [aq (aL q J)];exact q) fun c xs q=>by rw [aq (aL q J)];exact q
end
def Rd (H:Hp) (a:e_) (u:HO):Prop:=H a=a_ u\/∃o,H a=a_ (.frz o u)
theorem Rd.ok {u:HO} (r:Rd H a u) (x:HOk P w H h):cA P w H h a u:=by
 rcases r with r|⟨o,r⟩
 ·exact x a u r
 ·obtain ⟨_,q⟩:=x a _ r;exact q
def Mut:Option HO->Prop
 |some (.lst _)=>True
 |some (.dK _)=>True
 |some (.dT _)=>True
 |some (.set _ _)=>True
 |some (.ins _ _ _)=>True
 |some (.ext _)=>True
 |_=>False
section
variable {x e:e_} {o':HO}
theorem HOk.write (m:HOk P w H h) (a:Mut (H x)) (l:e=x\/H e=a_ (.own x)) (k:∀b u,b≠e->h.get? b=a_ u->h'.get? b=a_ u) (i:∃u,h'.get? e=a_ u)
  (g:cA P w (upd H x o') h' x o'):HOk P w (upd H x o') h':=fun b u q=>by
 have J:∀c y,H c=a_ (.own y)->c≠x:=fun c y r z=>by subst z;rw [r] at a;exact a
 have Y:∀c xs,H c=a_ (.tup xs)->c≠x:=fun c xs r z=>by subst z;rw [r] at a;exact a
 by_cases f:b=x
 ·subst f;rw [ao] at q;cases q;exact g
 ·rw [aq f] at q;by_cases I:b=e
  ·have j:H b=a_ (.own x):=by
    rcases l with z|z
    ·exact Ek (I.trans z) f
    ·rw [I];exact z
   rw [q] at j;cases j;obtain ⟨v,hv⟩:=i;exact ⟨v,by rw [I];exact hv⟩
  ·refine (m b u q).wW (fun c v d r=>k c v ?_ r) (fun c r=>by rw [aq (J c b r)];exact r) fun c xs r=>by rw [aq (Y c xs r)];exact r
   rcases d with rfl|d
   ·exact I
   ·rintro rfl;rcases l with z|z
    ·exact J c b d z
    ·rw [d] at z;cases z;exact f rfl
end
structure Un (fs ex:List e_) (H H':Hp) (h h':EY):Prop where
 keep:∀b o,h.get? b=a_ o->H b=c_->b∉fs->b∉ex->h'.get? b=a_ o
 slot:∀b o,h.get? b=a_ o->H b=c_->b∈fs->b∉ex->∃sl,h'.get? b=a_ {o with slots:=sl}
 free:∀b o,h.get? b=a_ o->H b=c_->b∉ex->H' b=c_
 there:∀b o,h.get? b=a_ o->b∉ex->∃o',h'.get? b=a_ o'
 tups:∀b xs,H b=a_ (.tup xs)->H' b=a_ (.tup xs)
 frzs:∀b o u,H b=a_ (.frz o u)->H' b=a_ (.frz o u)
 tbls:∀b ps,H b=a_ (.tbl ps)->∃more,H' b=a_ (.tbl (ps++more))
section
variable {fs ex:List e_} {H1 H2:Hp} {h1 h2:EY} {x e:e_} 
theorem Un.any (u:Un fs ex H H1 h h1) {I:Io} (q:h.get? b=a_ I) (n:H b=c_) (J:b∉ex):∃a,h1.get? b=a_ {I with slots:=a}:=by
 by_cases Y:b∈fs
 ·exact u.slot b I q n Y J
 ·exact ⟨I.slots,u.keep b I q n Y J⟩
theorem Un.trans (a:Un fs ex H H1 h h1) (b:Un fs ex H1 H2 h1 h2):Un fs ex H H2 h h2 where
 keep:=fun c I q n Y J=>b.keep c I (a.keep c I q n Y J) (a.free c I q n J) Y J
 slot:=fun c I q n Y J=>by
  obtain ⟨f,e1⟩:=a.slot c I q n Y J;obtain ⟨d,e2⟩:=b.slot c _ e1 (a.free c I q n J) Y J;exact ⟨d,e2⟩
 free:=fun c I q n J=>by
  obtain ⟨o',e1⟩:=a.there c I q J;exact b.free c o' e1 (a.free c I q n J) J
 there:=fun c I q J=>by
  obtain ⟨o',e1⟩:=a.there c I q J;exact b.there c o' e1 J
 tups:=fun c xs q=>b.tups c xs (a.tups c xs q)
 frzs:=fun c I xs q=>b.frzs c I xs (a.frzs c I xs q)
 tbls:=fun c ps q=>by
  obtain ⟨m1,e1⟩:=a.tbls c ps q;obtain ⟨e,e2⟩:=b.tbls c _ e1;exact ⟨m1++e,by rw [e2,IQ]⟩
theorem Un.kept (k:∀b u,h.get? b=a_ u->h'.get? b=a_ u):Un fs ex H H h h':=
 ⟨fun b I q _ _ _=>k b I q,fun b I q _ _ _=>⟨I.slots,k b I q⟩,fun _ _ _ n _=>n,fun b I q _=>⟨I,k b I q⟩,fun _ _ q=>q,fun _ _ _ q=>q,fun _ ps q=>⟨#[],by rw [q];simp⟩⟩
theorem Un.refl:Un fs ex H H h h:=Un.kept fun _ _ q=>q
theorem Un.laid (k:∀b u,h.get? b=a_ u->h'.get? b=a_ u) (J:h.objs.size<=a) (I:H a=c_):Un fs ex H (upd H a o) h h' where
 keep:=fun b u q _ _ _=>k b u q
 slot:=fun b u q _ _ _=>⟨u.slots,k b u q⟩
 free:=fun b u q n _=>by rw [aq (EA (Em (y_ q) J))];exact n
 there:=fun b u q _=>⟨u,k b u q⟩
 tups:=fun b xs q=>by rw [aq (aL q I)];exact q
 frzs:=fun b u xs q=>by rw [aq (aL q I)];exact q
 tbls:=fun b ps q=>⟨#[],by rw [aq (aL q I),q];simp⟩
theorem Un.write (J:Mut (H x)) (f:e=x\/H e=a_ (.own x)) (k:∀b u,b≠e->h.get? b=a_ u->h'.get? b=a_ u) (a:∃u,h'.get? e=a_ u):Un fs ex H (upd H x o) h h':=by
 have c:∀b,H b=c_->b≠x:=fun b n z=>by subst z;rw [n] at J;exact J
 have d:∀b,H b=c_->b≠e:=fun b n z=>by
  subst z;rcases f with r|r
  ·exact c b n r
  ·rw [n] at r;cases r
 have Y:∀b u,H b=a_ u->¬Mut (a_ u)->b≠x:=fun b u q nm z=>by subst z;rw [q] at J;exact nm J
 refine ⟨fun b u q n _ _=>k b u (d b n) q,fun b u q n _ _=>⟨u.slots,k b u (d b n) q⟩,fun b u q n _=>by rw [aq (c b n)];exact n,fun b u q _=>?_,
  fun b xs q=>by rw [aq (Y b _ q fun z=>z)];exact q,fun b u xs q=>by rw [aq (Y b _ q fun z=>z)];exact q,fun b ps q=>⟨#[],by rw [aq (Y b _ q fun z=>z),q];simp⟩⟩
 by_cases I:b=e
 ·subst I;exact a
 ·exact ⟨u,k b u I q⟩
end
noncomputable def trk (h:EY) (H:Hp):List e_:=(Fm h.objs.size).filter fun a=>(H a).isSome
def hidT (h:EY) (H:Hp):EY:=PySem.W.hideAll h (trk h H)
theorem D4 (h:EY) (H:Hp):(hidT h H).objs.size=h.objs.size:=PySem.W.hideAll_size _ _
theorem hidT_get {o:Io} (e:h.get? b=a_ o) (n:H b=c_):(hidT h H).get? b=a_ o:=
 PySem.W.hideAll_get _ e fun I=>by
  have q:(H b).isSome=d_:=(Fn.mp I).2;rw [n] at q;simp at q
theorem of_hidT {o:Io} (e:(hidT h H).get? b=a_ o):h.get? b=a_ o/\H b=c_:=by
 have I:h.get? b=a_ o:=PySem.W.of_hideAll (trk h H) e;refine ⟨I,?_⟩
 cases q:H b with
 |none=>rfl
 |some x=>
  have J:b∈trk h H:=Fn.mpr ⟨List.mem_range.mpr (y_ I),by simp [q]⟩;have z:(hidT h H).get? b=c_:=PySem.W.hideAll_none (trk h H) J;rw [z] at e;cases e
structure Mod (K:Fg) (mg:Mq) (base:EY):Prop where
 kin:K.In base
 glob:base.Ns EG mg
 blt:∃mb,base.Ns Mp mb/\∀x:p_,x≠"__name__"->mb x=F8 x
 nolimit:base.NoLimit
structure Cx where
 prog:Fp
 w:Fu
 K:Fg
 mg:Mq
 base:EY
 A:GH
 N:List p_
 s₀:z_
 H₀:Hp
 env:JY
 outer:List JY
 stack:List JY
 ex:List e_
 fn:p_->Bool
 calm:Bool
 pn:Pn
 xe:Vp
variable {X:Cx}
noncomputable def frs (l:List JY):List e_:=l.filterMap (·.frame)
abbrev Cx.fs (X:Cx):List e_:=frs X.outer
def Vis (sc:JI) (x:p_):Prop:=sc.names.lookup x=a_ .local\/sc.names.lookup x=a_ .cell\/sc.names.lookup x=a_ .free
def Loc (sc:JI) (x:p_):Prop:=sc.names.lookup x=a_ .local\/sc.names.lookup x=a_ .cell
def Look (env:JY) (h:EY) (m:Mq) (x:p_) (u:l_):Prop:=
 (env.kindOf x=a_ .local/\m x=a_ u)\/((env.kindOf x=a_ .cell\/env.kindOf x=a_ .free)/\∃c,env.cells.lookup x=a_ c/\h.IsCell c (a_ u))
structure Cx.Ok (X:Cx):Prop where
 mod:Mod X.K X.mg X.base
 kind:X.env.scope.kind=.function
 glob:X.env.globals=EG
 blt:X.env.builtins=Mp
 above:X.s₀.heap.objs.size<=X.env.locals
 inj:∀x y c,X.env.cells.lookup x=a_ c->X.env.cells.lookup y=a_ c->x=y
 has:∀x,(X.env.kindOf x=a_ .cell\/X.env.kindOf x=a_ .free)->∃c,X.env.cells.lookup x=a_ c
 cab:∀x c,X.fn x=d_->X.env.cells.lookup x=a_ c->X.s₀.heap.objs.size<=c
 hd:X.calm=d_->X.A.handled=c_
 frames:X.A.frames=a_ X.stack
 stk:X.stack=X.outer\/(X.stack=X.env::X.outer/\X.env.frame=a_ X.env.locals)
 exf:∀b∈X.ex,b≠X.env.locals/\∀x c,X.env.cells.lookup x=a_ c->c≠b
 bs:∀b o,X.base.get? b=a_ o->X.s₀.heap.get? b=a_ o/\X.H₀ b=c_
 bsz:X.base.objs.size<=X.s₀.heap.objs.size
 noex:∀b o,X.base.get? b=a_ o->b∉X.ex
 exfs:∀b∈X.ex,b∉X.fs
 vO:X.s₀.heap.FunFrames X.base X.outer
 frf:∀b∈X.fs,X.H₀ b=c_
structure Inv (X:Cx) (pins:Pn) (σ:List (Option V)) (H:Hp) (s:z_):Prop where
 ok:X.Ok
 os:s.os=X.s₀.os
 bare:Im s.gens
 base:Un X.fs X.ex X.H₀ H X.s₀.heap s.heap
 loc:∃m,s.heap.Ns X.env.locals m/\∀(i:Nat) (x:p_) (v:V),X.N[i]? =a_ x->σ[i]? =a_ (a_ v)->Vis X.env.scope x->∃u,RelV v u/\Look X.env s.heap m x u
 cell:∀x c,X.env.cells.lookup x=a_ c->∃v,s.heap.IsCell c v
 free:H X.env.locals=c_
 freeC:∀x c,X.env.cells.lookup x=a_ c->H c=c_
 pin:∀p∈X.pn++pins,s.heap.get? p.1=a_ p.2/\H p.1=c_/\p.1≠X.env.locals/\p.1∉X.fs/\∀v,p.2.data≠.cell v
 hok:HOk X.prog X.w H s.heap
 len:σ.length=X.N.length
section
variable {σ:List (Option V)} 
theorem Cx.Ok.nofr (I:X.Ok) {o:Io} (e:X.base.get? b=a_ o):b∉X.fs:=fun J=>by
 have:=(I.vO.mem J).1;rw [e] at this;cases this
theorem Inv.bs (I:Inv X pins σ H s):∀b o,X.base.get? b=a_ o->s.heap.get? b=a_ o/\H b=c_:=fun b o e=>
 ⟨I.base.keep b o (I.ok.bs b o e).1 (I.ok.bs b o e).2 (I.ok.nofr e) (I.ok.noex b o e),I.base.free b o (I.ok.bs b o e).1 (I.ok.bs b o e).2 (I.ok.noex b o e)⟩
theorem Inv.bk (I:Inv X pins σ H s):∀b o,X.base.get? b=a_ o->s.heap.get? b=a_ o:=fun b o e=>(I.bs b o e).1
theorem Inv.mod (I:Inv X pins σ H s):Mod X.K X.mg X.base:=I.ok.mod
theorem Inv.kIn (I:Inv X pins σ H s):X.K.In s.heap:=I.ok.mod.kin.keeps I.bk
theorem Inv.lt (I:Inv X pins σ H s):X.env.locals<s.heap.objs.size:=let ⟨_,J,_⟩:=I.loc;J.lt
theorem Inv.sz (I:Inv X pins σ H s):X.s₀.heap.objs.size<=s.heap.objs.size:=EJ I.ok.above (HF I.lt)
theorem Inv.nofs (I:Inv X pins σ H s) (h:s.heap.objs.size<=a):a∉X.fs:=fun Y=>by
 obtain ⟨_,o,J,_⟩:=I.ok.vO.mem Y;exact Ek (Em (y_ J) (EJ I.sz h)) (Fi _)
theorem Inv.cne (I:Inv X pins σ H s):∀x c,X.env.cells.lookup x=a_ c->c≠X.env.locals:=fun x c e z=>by
 obtain ⟨v,o,a,hd⟩:=I.cell x c e;obtain ⟨m,⟨o',es,ep,J,Y,_⟩,_⟩:=I.loc;rw [z,J] at a;cases a;rw [Y] at hd;cases hd
theorem Inv.vO (I:Inv X pins σ H s):s.heap.FunFrames X.base X.outer:=by
 have c:∀(l:List JY),(∀b∈frs l,b∈X.fs)->X.s₀.heap.FunFrames X.base l->s.heap.FunFrames X.base l:=by
  intro l
  induction l with
  |nil=>intro _ _;trivial
  |cons env r f=>
   intro d j;obtain ⟨k,⟨L,o,J,i,h,hd⟩,g⟩:=j;have a:L∈X.fs:=d L (by unfold frs;rw [IJ,J];exact EB);obtain ⟨m,e⟩:=I.base.slot L o h (I.ok.frf L a) a fun z=>I.ok.exfs L z a;exact ⟨k,⟨L,_,J,i,e,hd⟩,f (fun b Y=>d b (by unfold frs;rw [IJ,J];exact C_ _ Y)) g⟩
 exact c X.outer (fun _ Y=>Y) I.ok.vO
theorem Inv.stack (I:Inv X pins σ H s):s.heap.FunFrames X.base X.stack:=by
 rcases I.ok.stk with e|⟨e,Y⟩
 ·rw [e];exact I.vO
 ·rw [e];obtain ⟨m,J,_⟩:=I.loc;refine .cons (by rw [I.ok.kind];decide) Y J ?_ I.vO;exact Heap.get?_none_of_le (EJ I.ok.bsz I.ok.above)
theorem Inv.qY (I:Inv X pins σ H s):∀b∈frs X.stack,b∈X.env.locals::X.fs:=fun b J=>by
 rcases I.ok.stk with e|⟨e,Y⟩
 ·rw [e] at J;exact C_ _ J
 ·rw [e] at J;unfold frs at J;rw [IJ,Y] at J;exact J
theorem Inv.BN (I:Inv X pins σ H s):∀b∈frs X.stack,H b=c_:=fun b J=>by
 rcases v_.mp (I.qY b J) with e|J
 ·rw [e];exact I.free
 ·obtain ⟨_,o,Y,_⟩:=I.ok.vO.mem J;exact I.base.free b o Y (I.ok.frf b J) fun z=>I.ok.exfs b z J
theorem Inv.step {t':Nat} {d':Drawn} (I:Inv X pins σ H s)
  (g:∀b∈ch,(b∈X.ex\/X.s₀.heap.objs.size<=b)/\b≠X.env.locals/\(∀x c,X.env.cells.lookup x=a_ c->c≠b)/\∀p∈X.pn++pins,p.1≠b)
  (f:∀b o,b≠X.env.locals->b∉X.fs->b∉ch->s.heap.get? b=a_ o->H b=c_->h'.get? b=a_ o)
  (t:∀b o,b≠X.env.locals->b∈X.fs->b∉ch->s.heap.get? b=a_ o->H b=c_->∃K,h'.get? b=a_ {o with slots:=K}) (Y:∀b o,b∉ch->s.heap.get? b=a_ o->H b=c_->H' b=c_)
  (w:∀b o,b∉ch->s.heap.get? b=a_ o->∃o',h'.get? b=a_ o')
  (B:∀b xs,H b=a_ (.tup xs)->H' b=a_ (.tup xs)) (F:∀b o u,H b=a_ (.frz o u)->H' b=a_ (.frz o u)) (C:∀b ps,H b=a_ (.tbl ps)->∃E,H' b=a_ (.tbl (ps++E)))
  (ns:∀m,s.heap.Ns X.env.locals m->h'.Ns X.env.locals m) (L:HOk X.prog X.w H' h') (U:Im g') :
  Inv X pins σ H' {s with heap:=h',gens:=g',drawn:=d',toks:=t'}:=by
 have D:∀b o,X.s₀.heap.get? b=a_ o->b≠X.env.locals:=fun b o e=>EA (Em (y_ e) I.ok.above);have j:∀b o,X.s₀.heap.get? b=a_ o->b∉X.ex->b∉ch:=fun b o e J y=>by
  rcases (g b y).1 with z|z
  ·exact J z
  ·exact Ek (Em (y_ e) z) (Fi _)
 have h:∀x c,X.env.cells.lookup x=a_ c->∀v,s.heap.IsCell c v->h'.IsCell c v:=fun x c e v ⟨o,A,hd⟩=>by
  have a:c∉ch:=fun z=>(g c z).2.2.1 x c e rfl;by_cases Q:c∈X.fs
  ·obtain ⟨K,q⟩:=t c o (I.cne x c e) Q a A (I.freeC x c e);exact ⟨_,q,hd⟩
  ·exact ⟨o,f c o (I.cne x c e) Q a A (I.freeC x c e),hd⟩
 refine ⟨I.ok,I.os,U,⟨fun b o e n y J=>?_,fun b o e n y J=>?_,fun b o e n J=>?_,fun b o e J=>?_,fun b xs e=>B b xs (I.base.tups b xs e),fun b o xs e=>F b o xs (I.base.frzs b o xs e),fun b ps e=>?_⟩,?_,fun x c e=>?_,?_,fun x c e=>?_,fun p P=>?_,L,I.len⟩
 ·exact f b o (D b o e) y (j b o e J) (I.base.keep b o e n y J) (I.base.free b o e n J)
 ·obtain ⟨K,e1⟩:=I.base.slot b o e n y J;obtain ⟨G,e2⟩:=t b _ (D b o e) y (j b o e J) e1 (I.base.free b o e n J);exact ⟨G,e2⟩
 ·obtain ⟨o',e1⟩:=I.base.there b o e J;exact Y b o' (j b o e J) e1 (I.base.free b o e n J)
 ·obtain ⟨o',e1⟩:=I.base.there b o e J;exact w b o' (j b o e J) e1
 ·obtain ⟨m1,e1⟩:=I.base.tbls b ps e;obtain ⟨R,e2⟩:=C b _ e1;exact ⟨m1++R,by rw [e2,IQ]⟩
 ·obtain ⟨m,S,T⟩:=I.loc;refine ⟨m,ns m S,fun i x v e1 e2 e3=>?_⟩
  obtain ⟨u,r,l⟩:=T i x v e1 e2 e3;refine ⟨u,r,?_⟩
  rcases l with l|⟨k,c,e,z⟩
  ·exact .inl l
  ·exact .inr ⟨k,c,e,h x c e _ z⟩
 ·obtain ⟨v,z⟩:=I.cell x c e;exact ⟨v,h x c e v z⟩
 ·obtain ⟨m,⟨o,_,_,A,_⟩,_⟩:=I.loc;exact Y _ o (fun z=>(g _ z).2.1 rfl) A I.free
 ·obtain ⟨v,o,A,hd⟩:=I.cell x c e;exact Y c o (fun z=>(g c z).2.2.1 x c e rfl) A (I.freeC x c e)
 ·obtain ⟨e,n,O,N,d⟩:=I.pin p P;have a:p.1∉ch:=fun z=>(g p.1 z).2.2.2 p P rfl;exact ⟨f p.1 p.2 O N a e n,Y p.1 p.2 a e n,O,N,d⟩
theorem Inv.un {t':Nat} (I:Inv X pins σ H s) (u:Un X.fs [] H H' s.heap h') (Y:HOk X.prog X.w H' h'):Inv X pins σ H' {s with heap:=h',toks:=t'}:=by
 obtain ⟨m,⟨o,es,ep,d,r⟩,_⟩:=id I.loc;obtain ⟨h,g⟩:=u.any d I.free (by simp);exact I.step (g':=s.gens) (d':=s.drawn) (ch:=[]) (fun _ z=>nomatch z) (fun b o _ a _ e n=>u.keep b o e n a (by simp)) (fun b o _ a _ e n=>u.slot b o e n a (by simp)) (fun b o _ e n=>u.free b o e n (by simp)) (fun b o _ e=>u.there b o e (by simp)) u.tups u.frzs u.tbls (fun i f=>by
  obtain ⟨o',c,ep',J,r'⟩:=f;rw [d] at J;cases J;exact ⟨_,c,ep',g,r'⟩) Y I.bare
theorem Inv.call {t':Nat} {d':Drawn} (I:Inv X pins σ H s) (u:Un (frs X.stack) ch H H' s.heap h') (d:HOk X.prog X.w H' h') (j:Im g')
  (a:∀b∈ch,(b∈X.ex\/X.s₀.heap.objs.size<=b)/\b≠X.env.locals/\(∀x c,X.env.cells.lookup x=a_ c->c≠b)/\∀p∈X.pn++pins,p.1≠b) :
  Inv X pins σ H' {s with heap:=h',gens:=g',drawn:=d',toks:=t'}:=by
 obtain ⟨m,⟨o,es,ep,h,r⟩,_⟩:=id I.loc;obtain ⟨l,f⟩:=u.any h I.free fun z=>(a _ z).2.1 rfl;exact I.step (ch:=ch) a (fun b o f k J e n=>u.keep b o e n (fun z=>(v_.mp (I.qY b z)).elim f k) J) (fun b o _ _ J e n=>u.any e n J) (fun b o J e n=>u.free b o e n J) (fun b o J e=>u.there b o e J) u.tups u.frzs u.tbls (fun q i=>by
  obtain ⟨o',g,ep',Y,r'⟩:=i;rw [h] at Y;cases Y;exact ⟨_,g,ep',f,r'⟩) d j
theorem Inv.turned {t':Nat} {it:e_} (I:Inv X pins σ H s) (k:∀b o,b≠it->s.heap.get? b=a_ o->h'.get? b=a_ o) (f:H it=c_) (a:it≠X.env.locals)
  (h1:it∈X.ex\/X.s₀.heap.objs.size<=it) (h2:∀x c,X.env.cells.lookup x=a_ c->c≠it) (i:∀p∈X.pn++pins,p.1≠it):Inv X pins σ H {s with heap:=h',toks:=t'}:=by
 have Y:∀b u,H b=a_ u->b≠it:=fun b u e z=>by rw [z,f] at e;cases e
 refine I.step (g':=s.gens) (d':=s.drawn) (ch:=[it]) (fun b h=>?_) (fun b o _ _ J e _=>k b o (fun z=>J (by simp [z])) e) (fun b o _ _ J e _=>⟨o.slots,k b o (fun z=>J (by simp [z])) e⟩) (fun _ _ _ _ n=>n)
  (fun b o J e=>⟨o,k b o (fun z=>J (by simp [z])) e⟩) (fun _ _ e=>e) (fun _ _ _ e=>e) (fun b ps e=>⟨#[],by rw [e];simp⟩) (fun m g=>?_) (fun b u e=>?_) I.bare
 ·have e:b=it:=by simpa using h
  subst e;exact ⟨h1,a,h2,i⟩
 ·obtain ⟨o,es,ep,d,r⟩:=g;exact ⟨o,es,ep,k _ o (EI a) d,r⟩
 ·refine (I.hok b u e).wW (fun c v J q=>k c v ?_ q) (fun _ q=>q) fun _ _ q=>q;rcases J with z|z
  ·rw [z];exact Y b u e
  ·exact Y c _ z
theorem Inv.tok (I:Inv X pins σ H s) (t:Nat):Inv X pins σ H {s with toks:=t}:=I.un (h':=s.heap) (t':=t) Un.refl I.hok
theorem Inv.kept {t':Nat} (I:Inv X pins σ H s) (k:∀b u,s.heap.get? b=a_ u->h'.get? b=a_ u):Inv X pins σ H {s with heap:=h',toks:=t'}:=I.un (Un.kept k) (I.hok.kept k)
theorem Inv.laid {a:e_} {o:HO} {t':Nat} (I:Inv X pins σ H s) (k:∀b u,s.heap.get? b=a_ u->h'.get? b=a_ u) (Y:s.heap.objs.size<=a) (J:cA X.prog X.w (upd H a o) h' a o) :
  Inv X pins σ (upd H a o) {s with heap:=h',toks:=t'}:=I.un (Un.laid k Y (I.hok.fresh Y)) (I.hok.laid k Y J)
theorem Inv.write {x e:e_} {o:HO} {t':Nat} (I:Inv X pins σ H s) (a:Mut (H x)) (c:e=x\/H e=a_ (.own x)) (k:∀b u,b≠e->s.heap.get? b=a_ u->h'.get? b=a_ u) (J:∃u,h'.get? e=a_ u)
  (Y:cA X.prog X.w (upd H x o) h' x o):Inv X pins σ (upd H x o) {s with heap:=h',toks:=t'}:=I.un (Un.write a c k J) (I.hok.write a c k J Y)
theorem Inv.weak {σ':List (Option V)} (I:Inv X pins σ H s) (a:σ'.length=σ.length) (w:∀(i:Nat) v,σ'[i]? =a_ (a_ v)->σ[i]? =a_ (a_ v)):Inv X pins σ' H s:=
 ⟨I.ok,I.os,I.bare,I.base,let ⟨m,Y,J⟩:=I.loc;⟨m,Y,fun i x v e1 e2 e3=>J i x v e1 (w i v e2) e3⟩,I.cell,I.free,I.freeC,I.pin,I.hok,a.trans I.len⟩
theorem Inv.sP {pins':Pn} (I:Inv X pins σ H s) (h:∀p∈pins',s.heap.get? p.1=a_ p.2/\H p.1=c_/\p.1≠X.env.locals/\p.1∉X.fs/\∀v,p.2.data≠.cell v):Inv X pins' σ H s:=
 ⟨I.ok,I.os,I.bare,I.base,I.loc,I.cell,I.free,I.freeC,fun p J=>(Fw.mp J).elim (fun z=>I.pin p (IA _ z)) (h p),I.hok,I.len⟩
theorem tm (I:N.Nodup) {j:Nat} (a:N[i]? =a_ x) (b:N[j]? =a_ x):i=j:=by
 obtain ⟨h1,e1⟩:=A1.mp a;obtain ⟨h2,e2⟩:=A1.mp b;exact (List.getElem_inj I).mp (e1.trans e2.symm)
theorem uH {M:Jl} (I:Inv X pins σ H s) (hN:X.N.Nodup) (hi:X.N[i]? =a_ x) (g:Loc X.env.scope x) (r:RelV v u)
  (h:∀s',Inv X pins (σ.set i (a_ v)) H s'->(∃a,HC a s.heap s'.heap/\(a=X.env.locals\/X.env.cells.lookup x=a_ a))->Q () s') (hf:autoParam (X.fn x=d_\/X.env.scope.names.lookup x=a_ .local) Jq3):Cb M A (storeName X.env x u) Q E s:=by
 obtain ⟨m,hn,hl⟩:=id I.loc;have L:(X.env.scope.kind==.class||(X.env.scope.kind==.module&&X.env.locals != X.env.globals))=b_:=by rw [I.ok.kind];rfl
 have w:i<σ.length:=by rw [I.len];exact (A1.mp hi).1
 have F:=I.cne;have Y:∀{a:e_} {h':EY},(∃o,s.heap.get? a=a_ o/\H a=c_)->HC a s.heap h'->HOk X.prog X.w H h':=fun {a h'} ha J b ob e=>by
  obtain ⟨_,_,l⟩:=ha;refine (I.hok b ob e).wW (fun c P f q=>(J.2 c ?_).trans q) (fun _ q=>q) fun _ _ q=>q;rintro rfl;rcases f with rfl|f
  ·rw [l] at e;cases e
  ·rw [l] at f;cases f
 rcases g with t|t
 ·refine wpAny_storeName_local t hn (fun h' hn' J=>?_) L;obtain ⟨oL,_,_,hoL,_⟩:=id hn;refine h _ ⟨I.ok,I.os,I.bare,⟨fun b o e n D g=>?_,fun b o e n D g=>?_,I.base.free,fun b o e g=>?_,I.base.tups,I.base.frzs,I.base.tbls⟩,⟨_,hn',fun j y T e1 e2 e3=>?_⟩,fun y c e=>?_,I.free,I.freeC,fun p hp=>?_,Y ⟨oL,hoL,I.free⟩ J,by simpa using I.len⟩ ⟨_,J,.inl rfl⟩
  ·exact (J.2 b (EA (Em (y_ e) I.ok.above))).trans (I.base.keep b o e n D g)
  ·obtain ⟨W,e1⟩:=I.base.slot b o e n D g;exact ⟨W,(J.2 b (EA (Em (y_ e) I.ok.above))).trans e1⟩
  ·obtain ⟨o',e1⟩:=I.base.there b o e g;exact ⟨o',(J.2 b (EA (Em (y_ e) I.ok.above))).trans e1⟩
  ·by_cases B:j=i
   ·subst B;rw [hi] at e1;cases e1;rw [x_ w] at e2;cases e2;exact ⟨u,r,.inl ⟨t,by simp⟩⟩
   ·rw [o_ (EI B)] at e2;obtain ⟨U,r',q⟩:=hl j y T e1 e2 e3;refine ⟨U,r',?_⟩
    rcases q with ⟨k,e⟩|⟨k,c,e,z⟩
    ·refine .inl ⟨k,?_⟩;have:y≠x:=fun e=>B (tm hN e1 (e▸hi));simp [this,e]
    ·exact .inr ⟨k,c,e,z.sameBut J (F y c e)⟩
  ·obtain ⟨P,z⟩:=I.cell y c e;exact ⟨P,z.sameBut J (F y c e)⟩
  ·obtain ⟨e,n,R,Z,d⟩:=I.pin p hp;exact ⟨(J.2 p.1 R).trans e,n,R,Z,d⟩
 ·have C:X.fn x=d_:=by
   rcases hf with z|z
   ·exact z
   ·rw [z] at t;cases t
  obtain ⟨c,f⟩:=I.ok.has x (.inl t);obtain ⟨P,z⟩:=I.cell x c f;refine wpAny_storeName_cell I.ok.kind t f z (fun h' O J=>?_);obtain ⟨oc,K,G⟩:=id z;refine h {s with heap:=h'} ⟨I.ok,I.os,I.bare,⟨fun b o e n D g=>?_,fun b o e n D g=>?_,I.base.free,fun b o e g=>?_,I.base.tups,I.base.frzs,I.base.tbls⟩,⟨m,hn.sameBut J (EI (F x c f)),fun j y T e1 e2 e3=>?_⟩,fun y S e=>?_,I.free,I.freeC,fun p hp=>?_,Y ⟨oc,K,I.freeC x c f⟩ J,by simpa using I.len⟩ ⟨c,J,.inr f⟩
  ·exact (J.2 b (EA (Em (y_ e) (I.ok.cab x c C f)))).trans (I.base.keep b o e n D g)
  ·obtain ⟨W,e1⟩:=I.base.slot b o e n D g;exact ⟨W,(J.2 b (EA (Em (y_ e) (I.ok.cab x c C f)))).trans e1⟩
  ·obtain ⟨o',e1⟩:=I.base.there b o e g;exact ⟨o',(J.2 b (EA (Em (y_ e) (I.ok.cab x c C f)))).trans e1⟩
  ·by_cases B:j=i
   ·subst B;rw [hi] at e1;cases e1;rw [x_ w] at e2;cases e2;exact ⟨u,r,.inr ⟨.inl t,c,f,O⟩⟩
   ·rw [o_ (EI B)] at e2;obtain ⟨U,r',q⟩:=hl j y T e1 e2 e3;refine ⟨U,r',?_⟩
    rcases q with q|⟨k,S,e,z'⟩
    ·exact .inl q
    ·refine .inr ⟨k,S,e,z'.sameBut J ?_⟩;rintro rfl;exact B (tm hN e1 (I.ok.inj _ _ _ e f▸hi))
  ·by_cases N:S=c
   ·subst N;exact ⟨_,O⟩
   ·obtain ⟨w2,z2⟩:=I.cell y S e;exact ⟨w2,z2.sameBut J N⟩
  ·obtain ⟨e,n,R,Z,d⟩:=I.pin p hp;refine ⟨(J.2 p.1 ?_).trans e,n,R,Z,d⟩
   intro q;rw [q,K] at e;have q':oc=p.2:=Ew e;exact d P (by rw [<- q'];exact G)
theorem lE {M:Jl} (I:Inv X pins σ H s) (a:X.N.Nodup) (hi:X.N[i]? =a_ x) (J:Loc X.env.scope x) (r:RelV v u)
  (h:∀s',Inv X pins (σ.set i (a_ v)) H s'->Q () s') (Y:autoParam (X.fn x=d_\/X.env.scope.names.lookup x=a_ .local) Jq3):Cb M A (storeName X.env x u) Q E s:=
 uH I a hi J r (fun s' b _=>h s' b) Y
theorem Inv.call' (I:Inv X pins σ H s) (a:s'.os=s.os) (u:Un (frs X.stack) ch H H' s.heap s'.heap) (J:HOk X.prog X.w H' s'.heap) (d:Im s'.gens)
  (Y:∀b∈ch,(b∈X.ex\/X.s₀.heap.objs.size<=b)/\b≠X.env.locals/\(∀x c,X.env.cells.lookup x=a_ c->c≠b)/\∀p∈X.pn++pins,p.1≠b):Inv X pins σ H' s':=by
 obtain ⟨h',g',d',t',o'⟩:=s';have e:o'=s.os:=a;subst e;exact I.call (g':=g') (t':=t') (d':=d') u J d Y
end
abbrev XK:=l_->Option e_->Hp->Prop
noncomputable abbrev St:=List (Option V)
variable {σ:St}
abbrev VK:=V->Hp->Prop
abbrev TE:=St->Hp->VK->Prop
variable {ta tb te:TE}
abbrev TT:=St->Hp->(Bool->Hp->Prop)->Prop
abbrev TA:=St->Hp->(List V->Hp->Prop)->Prop
structure Ends where
 nx:St->Hp->Prop
 rt:VK
 bk:St->Hp->Prop:=fun _ _=>False
 ct:St->Hp->Prop:=fun _ _=>False
abbrev TS:=Ends->St->Hp->Prop
def EP (X:Cx) (pins:Pn) (σ:St) (Q:VK) (u:l_) (s':z_):Prop:=∃v H',Inv X pins σ H' s'/\RelV v u/\Q v H'
def TP (X:Cx) (pins:Pn) (σ:St) (Q:Bool->Hp->Prop) (b:Bool) (s':z_):Prop:=∃H',Inv X pins σ H' s'/\Q b H'
def AP (X:Cx) (pins:Pn) (σ:St) (Q:List V->Hp->Prop) (us:List l_) (s':z_):Prop:=∃vs H',Inv X pins σ H' s'/\Vals vs us/\Q vs H'
def SP (X:Cx) (pins:Pn) (D:Ends) (f:Flow) (s':z_):Prop:=
 match f with
 |.next=>∃σ' H',Inv X pins σ' H' s'/\D.nx σ' H'
 |.brk=>∃σ' H',Inv X pins σ' H' s'/\D.bk σ' H'
 |.cont=>∃σ' H',Inv X pins σ' H' s'/\D.ct σ' H'
 |.ret u=>∃v σ' H',Inv X pins σ' H' s'/\RelV v u/\D.rt v H'
def PE (X:Cx) (e:Fe) (t:TE):Prop:=
 ∀(pins:Pn) (s:z_) (σ:St) (H:Hp) (Q:VK),Inv X pins σ H s->t σ H Q->Cb (Eg X.prog X.w) X.A (Eu e X.env) (EP X pins σ Q) X.xe s
def PT (X:Cx) (e:Fe) (t:TT):Prop:=
 ∀(pins:Pn) (s:z_) (σ:St) (H:Hp) (Q:Bool->Hp->Prop),Inv X pins σ H s->t σ H Q->Cb (Eg X.prog X.w) X.A (LF e X.env (Eu e X.env)) (TP X pins σ Q) X.xe s
def PW (X:Cx) (e:Fe) (t:TT):Prop:=
 ∀(I:MO l_) (pins:Pn) (s:z_) (σ:St) (H:Hp) (Q:Bool->Hp->Prop),Inv X pins σ H s->t σ H Q->Cb (Eg X.prog X.w) X.A (LF e X.env I) (TP X pins σ Q) X.xe s
theorem PW.pt {t:TT} (h:PW X e t):PT X e t:=h _
def PA (X:Cx) (es:List Fe) (t:TA):Prop:=
 ∀(pos:M4) (pins:Pn) (s:z_) (σ:St) (H:Hp) (Q:List V->Hp->Prop),Inv X pins σ H s->t σ H Q->Cb (Eg X.prog X.w) X.A (MF (EN pos (i_ es X.env))) (AP X pins σ Q) X.xe s
def PS (X:Cx) (st:Fh) (t:TS):Prop:=
 ∀(pins:Pn) (s:z_) (σ:St) (H:Hp) (D:Ends),Inv X pins σ H s->t D σ H->Cb (Eg X.prog X.w) X.A (exec st X.env) (SP X pins D) X.xe s
def PSs (X:Cx) (st:List Fh) (t:TS):Prop:=
 ∀(pins:Pn) (s:z_) (σ:St) (H:Hp) (D:Ends),Inv X pins σ H s->t D σ H->Cb (Eg X.prog X.w) X.A (execs st X.env) (SP X pins D) X.xe s
theorem thn {α:Type} {t:MO α} {Q I:α->z_->Prop} {M:Jl} (h:Cb M A t Q E s) (J:∀a s,Q a s->I a s):Cb M A t I E s:=EV h J fun _ _ x=>x
section
noncomputable def bJ (i:Nat):TE:=fun σ H Q=>∃v,σ[i]? =a_ (a_ v)/\Q v H
noncomputable def tC (v:V):TE:=fun _ H Q=>Q v H
theorem pe_var (k:X.N[i]? =a_ x) (hv:Vis X.env.scope x) (hd:((x==("__debug__":p_))=b_)⁻¹) (b:((x==("__classdict__":p_))=b_)⁻¹):PE X (.Name x pos) (bJ i):=by
 intro pins s σ H Q I h;obtain ⟨v,e,h⟩:=h;obtain ⟨m,f,j⟩:=I.loc;obtain ⟨u,r,l⟩:=j i x v k e hv;have a:EP X pins σ Q u s:=⟨v,H,I,r,h⟩
 rcases l with ⟨Y,g⟩|⟨Y,c,d,J⟩
 ·exact Ml (wpAny_loadName_local I.ok.kind Y f g a) hd
 ·rcases Y with Y|Y
  ·exact Ml (wpAny_loadName_cell I.ok.kind Y d J a) hd
  ·exact Ml (wpAny_loadName_free I.ok.kind Y d J a b) hd
theorem zu {i j pos}:PE X (.Constant (.int i) j pos) (tC (.int i)):=fun _ _ _ H _ I h=>wpAny_Constant_int ⟨.int i,H,I.tok _,⟨_,rfl⟩,h⟩
theorem iT {b j pos}:PE X (.Constant (.bool b) j pos) (tC (.bl b)):=fun _ _ _ H _ I h=>Constant_bool ⟨.bl b,H,I,rfl,h⟩
theorem pe_non {j pos}:PE X (.Constant .none j pos) (tC .non):=fun _ _ _ H _ I h=>Constant_none ⟨.non,H,I,rfl,h⟩
theorem rn {x j pos}:PE X (.Constant (.str x) j pos) (tC (.str x)):=fun _ _ _ H _ I h=>Calls.Constant_str ⟨.str x,H,I.tok _,⟨_,rfl⟩,h⟩
def Gl (X:Cx) (x:p_):Prop:=X.env.kindOf x=a_ .globalImplicit
theorem iW {Q:Vp} (I:Inv X pins σ H s) (Y:Gl X x) (J:X.mg x=a_ u) (h:Q u s)
  (hd:((x==("__debug__":p_))=b_)⁻¹):Cb (Eg X.prog X.w) X.A (Eu (.Name x pos) X.env) Q E s:=
 JJ I.ok.kind Y (Calls.loadGlobal_global (by rw [I.ok.glob];exact I.mod.glob.keeps I.bk) J h) hd
theorem rA {Q:Vp} (I:Inv X pins σ H s) (a:Gl X x) (Y:X.mg x=c_) (hv:F8 x=a_ u) (h:Q u s)
  (J:(x≠"__name__")⁻¹) (hd:((x==("__debug__":p_))=b_)⁻¹):Cb (Eg X.prog X.w) X.A (Eu (.Name x pos) X.env) Q E s:=by
 obtain ⟨b,h1,h2⟩:=I.mod.blt;exact JJ I.ok.kind a (Calls.loadGlobal_builtin (by rw [I.ok.glob];exact I.mod.glob.keeps I.bk) Y (by rw [I.ok.blt];exact h1.keeps I.bk) ((h2 x J).trans hv) h) hd
theorem sR (Y:Gl X x) (J:X.mg x=a_ u) (r:RelV v u) (hd:((x==("__debug__":p_))=b_)⁻¹):PE X (.Name x pos) (tC v):=
 fun _ _ _ H _ I h=>iW I Y J ⟨v,H,I,r,h⟩ hd
theorem pe_bltn (a:Gl X x) (Y:X.mg x=c_) (hv:F8 x=a_ u) (r:RelV v u) (J:(x≠"__name__")⁻¹) (hd:((x==("__debug__":p_))=b_)⁻¹):PE X (.Name x pos) (tC v):=
 fun _ _ _ H _ I h=>rA I a Y hv ⟨v,H,I,r,h⟩ J hd
variable {a b:Fe} 
def PC (X:Cx) (op:CmpOp) (a b:Fe) (t:TE):Prop:=
 ∀(pins:Pn) (s:z_) (σ:St) (H:Hp) (Q:VK),Inv X pins σ H s->t σ H Q ->
  Cb (Eg X.prog X.w) X.A (Eu a X.env) (fun v J=>Cb (Eg X.prog X.w) X.A (Eu b X.env) (fun u I=>Cb (Eg X.prog X.w) X.A (Es op v u) (EP X pins σ Q) X.xe I) X.xe J) X.xe s
theorem nobehind (b:Fe) (h:op≠.In) (h2:op≠.NotIn):Gn op b=b_:=by
 have e1:(op==CmpOp.In)=b_:=by cases op<;>first|rfl|exact Ek rfl h
 have e2:(op==MT)=b_:=by cases op<;>first|rfl|exact Ek rfl h2
 cases b<;>simp [Gn,e1,e2]
noncomputable def tIsN (ta:TE):TE:=fun σ H Q=>ta σ H fun x H1=>Q (.bl (r_ (x=.non))) H1
theorem RelV.none_iff {x:V} {v:l_} (r:RelV x v):(v==GV)=r_ (x=.non):=by
 cases x with
 |non=>cases r;rfl
 |bl _=>cases r;rfl
 |int _=>obtain ⟨t,rfl⟩:=r;rfl
 |str _=>obtain ⟨t,rfl⟩:=r;rfl
 |byt _=>obtain ⟨t,rfl⟩:=r;rfl
 |flt _=>obtain ⟨t,rfl⟩:=r;rfl
 |ref _=>cases r;rfl
 |ty _=>cases r;rfl
theorem pc_isN {j pos'} (b:PE X a ta):PC X .Is a (.Constant .none j pos') (tIsN ta):=by
 intro pins s σ H Q I h;refine thn (b pins s σ H _ I h) fun v d ⟨x,H1,c,J,Y⟩=>?_;exact Constant_none (is_none_gen ⟨.bl _,H1,c,by rw [J.none_iff];rfl,Y⟩)
noncomputable def tB (t:TE):TT:=fun σ H Q=>t σ H fun x H1=>∃c,x=.bl c/\Q c H1
theorem pt_cmp {t:TE} (h:PC X op a b t) (h1:Gn op b=b_:=by first|exact nobehind _ (by decide) (by decide)|rfl):PT X (.Compare a [op] [b] pos) (tB t):=by
 intro pins s σ H Q I hw;refine LS (thn (h pins s σ H _ I hw) fun v i h1=>thn h1 fun u g h2=>thn h2 fun c f ⟨x,H1,e,J,Y⟩=>?_) h1;obtain ⟨d,rfl,q⟩:=Y;cases J;exact Fb ⟨H1,e,q⟩
variable {tA tB':TT} {rest:List Fe}
noncomputable def tAnd (t u:TT):TT:=fun σ H Q=>t σ H fun c H1=>if c=d_ then u σ H1 Q else Q b_ H1
noncomputable def tOr (t u:TT):TT:=fun σ H Q=>t σ H fun c H1=>if c=d_ then Q d_ H1 else u σ H1 Q
noncomputable def tNot (t:TT):TT:=fun σ H Q=>t σ H fun c H1=>Q (!c) H1
theorem Cf (J:PT X a tA):PW X (.BoolOp .And [a] pos) tA:=by
 intro Y pins s σ H Q I h;refine isTrue_and (thn (J pins s σ H Q I h) fun c b e=>?_);cases c with
 |true=>exact isTrue_and_nil e
 |false=>exact e
theorem pw_or1 (J:PT X a tA):PW X (.BoolOp .Or [a] pos) tA:=by
 intro Y pins s σ H Q I h;refine isTrue_or (thn (J pins s σ H Q I h) fun c b e=>?_);cases c with
 |false=>exact isTrue_or_nil e
 |true=>exact e
theorem Cg (g:PT X a tA) (f:PW X (.BoolOp .And (b::rest) pos) tB'):PW X (.BoolOp .And (a::b::rest) pos) (tAnd tA tB'):=by
 intro d pins s σ H Q I h;refine isTrue_and (thn (g pins s σ H _ I h) fun c e ⟨H1,Y,J⟩=>?_);cases c with
 |true=>exact f d pins e σ H1 Q Y J
 |false=>exact ⟨H1,Y,J⟩
theorem pw_or (g:PT X a tA) (f:PW X (.BoolOp .Or (b::rest) pos) tB'):PW X (.BoolOp .Or (a::b::rest) pos) (tOr tA tB'):=by
 intro d pins s σ H Q I h;refine isTrue_or (thn (g pins s σ H _ I h) fun c e ⟨H1,Y,J⟩=>?_);cases c with
 |true=>exact ⟨H1,Y,J⟩
 |false=>exact f d pins e σ H1 Q Y J
theorem zm (J:PT X a tA):PT X (.UnaryOp .Not a pos) (tNot tA):=by
 intro pins s σ H Q I h;exact isTrue_not (J pins s σ H (fun c H1=>Q (!c) H1) I h)
noncomputable def tAndV (ta tb:TE):TE:=fun σ H Q=>ta σ H fun x H1=>∃c,x=.bl c/\if c=d_ then tb σ H1 Q else Q (.bl b_) H1
noncomputable def tOrV (ta tb:TE):TE:=fun σ H Q=>ta σ H fun x H1=>∃c,x=.bl c/\if c=d_ then Q (.bl d_) H1 else tb σ H1 Q
noncomputable def tNotV (ta:TE):TE:=fun σ H Q=>ta σ H fun x H1=>∃c,x=.bl c/\Q (.bl (!c)) H1
theorem pe_one {op} {t:TE} (h:PE X a t):PE X (.BoolOp op [a] pos) t:=fun pins s σ H Q I hw=>BoolOp_one (h pins s σ H Q I hw)
theorem pe_and (g:PE X a ta) (f:PE X (.BoolOp .And (b::rest) pos) tb):PE X (.BoolOp .And (a::b::rest) pos) (tAndV ta tb):=by
 intro pins s σ H Q I h;refine BoolOp_and (thn (g pins s σ H _ I h) fun v d ⟨x,H1,Y,e,J⟩=>?_);obtain ⟨c,rfl,J⟩:=J;cases e;refine Fb ?_;cases c with
 |true=>exact f pins d σ H1 Q Y J
 |false=>exact ⟨.bl b_,H1,Y,rfl,J⟩
theorem pe_or (g:PE X a ta) (f:PE X (.BoolOp .Or (b::rest) pos) tb):PE X (.BoolOp .Or (a::b::rest) pos) (tOrV ta tb):=by
 intro pins s σ H Q I h;refine BoolOp_or (thn (g pins s σ H _ I h) fun v d ⟨x,H1,Y,e,J⟩=>?_);obtain ⟨c,rfl,J⟩:=J;cases e;refine Fb ?_;cases c with
 |false=>exact f pins d σ H1 Q Y J
 |true=>exact ⟨.bl d_,H1,Y,rfl,J⟩
theorem pe_not (b:PE X a ta):PE X (.UnaryOp .Not a pos) (tNotV ta):=by
 intro pins s σ H Q I h;refine UnaryOp_ (thn (b pins s σ H _ I h) fun v e ⟨x,H1,d,Y,J⟩=>?_);obtain ⟨c,rfl,J⟩:=J;cases Y;exact not_of (Fb ⟨.bl (!c),H1,d,rfl,J⟩)
noncomputable def tIf (t:TT) (ta tb:TE):TE:=fun σ H Q=>t σ H fun c H1=>if c=d_ then ta σ H1 Q else tb σ H1 Q
theorem pe_ifExp {c:Fe} (f:PT X c tA) (i:PE X a ta) (g:PE X b tb):PE X (.IfExp c a b pos) (tIf tA ta tb):=by
 intro pins s σ H Q I h;refine wpAny_IfExp (thn (f pins s σ H _ I h) fun d J ⟨H1,e,Y⟩=>?_);cases d with
 |true=>exact i pins J σ H1 Q e Y
 |false=>exact g pins J σ H1 Q e Y
end
def SqL (K:Fg) (H:Hp) (a:e_) (xs:List V):Prop:=
 Rd H a (.lst xs) \/
  ∃(o:Io) (its:Array l_) (n:Nat),K.lookup a=a_ o/\o.cls=.type "list"/\o.dict=c_/\o.data=.seq its n/\its.size<=g_/\Vals xs its.toList
def SqT (K:Fg) (H:Hp) (a:e_) (xs:List V):Prop:=
 Rd H a (.tup xs) \/
  ∃(o:Io) (its:Array l_) (n:Nat),K.lookup a=a_ o/\o.cls=.type "tuple"/\o.data=.seq its n/\its.size<=g_/\Vals xs its.toList
def absV:l_->Option V
 |.none=>a_ .non
 |.bool b=>a_ (.bl b)
 |.int i _=>a_ (.int i)
 |.str x _=>a_ (.str x)
 |.bytes b _=>a_ (.byt b)
 |.float b _=>a_ (.flt b)
 |.ref a=>a_ (.ref a)
 |.type n=>a_ (.ty n)
 |_=>c_
theorem RelV.abs {x:V} (r:RelV x u):absV u=a_ x:=by
 cases x with
 |non=>cases r;rfl
 |bl _=>cases r;rfl
 |int _=>obtain ⟨t,rfl⟩:=r;rfl
 |str _=>obtain ⟨t,rfl⟩:=r;rfl
 |byt _=>obtain ⟨t,rfl⟩:=r;rfl
 |flt _=>obtain ⟨t,rfl⟩:=r;rfl
 |ref _=>cases r;rfl
 |ty _=>cases r;rfl
theorem RelV.inj {x y:V} {u:l_} (r:RelV x u) (q:RelV y u):x=y:=Ew (r.abs.symm.trans q.abs)
theorem Vals.inj:∀{xs ys:List V} {us:List l_},Vals xs us->Vals ys us->xs=ys
 |_,_,_,.nil,.nil=>rfl
 |_,_,_,.cons r t,.cons r' t'=>by rw [r.inj r',Vals.inj t t']
section
variable {xs ys:List V}
theorem SqL.of (h:H a=a_ (.lst xs)):SqL K H a xs:=.inl (.inl h)
theorem SqT.of (h:H a=a_ (.tup xs)):SqT K H a xs:=.inl (.inl h)
theorem Inv.list (I:Inv X pins σ H s) (h:SqL X.K H a xs):∃its:List l_,Vals xs its/\PlainL s.heap a its.toArray/\xs.length<=g_:=by
 rcases h with h|⟨o,its,n,Y,b,hd,J,c,r⟩
 ·obtain ⟨z,its,n,r,e⟩:=h.ok I.hok;exact ⟨its,r,⟨_,n,e,rfl,rfl,rfl⟩,z⟩
 ·refine ⟨its.toList,r,⟨o,n,I.kIn a o Y,b,hd,by simpa using J⟩,?_⟩
  have e:=r.length;simp only [Fs] at e;omega
theorem Inv.tuple (I:Inv X pins σ H s) (h:SqT X.K H a xs):∃its:List l_,Vals xs its/\MU s.heap a its.toArray/\xs.length<=g_:=by
 rcases h with h|⟨o,its,n,Y,b,J,c,r⟩
 ·obtain ⟨z,its,r,p⟩:=h.ok I.hok;exact ⟨its,r,p,z⟩
 ·refine ⟨its.toList,r,⟨o,I.kIn a o Y,b,n,by simpa using J⟩,?_⟩
  have e:=r.length;simp only [Fs] at e;omega
theorem Inv.oo (I:Inv X pins σ H s) (h:SqL X.K H a xs) (h':SqL X.K H a ys):xs=ys:=by
 obtain ⟨its,r,⟨o,n,e,_,_,d⟩,_⟩:=I.list h;obtain ⟨its',r',⟨o',Y,J,_,_,d'⟩,_⟩:=I.list h';rw [e] at J;cases J;rw [d] at d';injection d' with d1 _
 have:its=its':=by simpa using GN Ja d1
 subst this;exact r.inj r'
theorem Inv.By (I:Inv X pins σ H s) (h:SqT X.K H a xs) (h':SqT X.K H a ys):xs=ys:=by
 obtain ⟨its,r,⟨o,e,_,n,d⟩,_⟩:=I.tuple h;obtain ⟨its',r',⟨o',J,_,Y,d'⟩,_⟩:=I.tuple h';rw [e] at J;cases J;rw [d] at d';injection d' with d1 _
 have:its=its':=by simpa using GN Ja d1
 subst this;exact r.inj r'
end
noncomputable abbrev Cx.ux (X:Cx) (E:Vp):Cx:={X with xe:=E}
abbrev Cx.nox (X:Cx):Cx:=X.ux fun _ _=>False
theorem Cx.Ok.ux {X:Cx} (I:X.Ok) (E:Vp):(X.ux E).Ok:=
 ⟨I.mod,I.kind,I.glob,I.blt,I.above,I.inj,I.has,I.cab,I.hd,I.frames,I.stk,I.exf,I.bs,I.bsz,I.noex,I.exfs,I.vO,I.frf⟩
theorem Cx.Ok.kb (I:(X.ux E).Ok):X.Ok:=
 ⟨I.mod,I.kind,I.glob,I.blt,I.above,I.inj,I.has,I.cab,I.hd,I.frames,I.stk,I.exf,I.bs,I.bsz,I.noex,I.exfs,I.vO,I.frf⟩
section
theorem Inv.ux (I:Inv X pins σ H s) (E:Vp):Inv (X.ux E) pins σ H s:=⟨I.ok.ux E,I.os,I.bare,I.base,I.loc,I.cell,I.free,I.freeC,I.pin,I.hok,I.len⟩
theorem Inv.kb (I:Inv (X.ux E) pins σ H s):Inv X pins σ H s:=⟨I.ok.kb,I.os,I.bare,I.base,I.loc,I.cell,I.free,I.freeC,I.pin,I.hok,I.len⟩
theorem SP.kb {D:Ends} {f:Flow} {s':z_} (h:SP (X.ux E) pins D f s'):SP X pins D f s':=by
 cases f with
 |next=>obtain ⟨σ',H',I,q⟩:=h;exact ⟨σ',H',I.kb,q⟩
 |brk=>obtain ⟨σ',H',I,q⟩:=h;exact ⟨σ',H',I.kb,q⟩
 |cont=>obtain ⟨σ',H',I,q⟩:=h;exact ⟨σ',H',I.kb,q⟩
 |ret u=>obtain ⟨v,σ',H',I,r,q⟩:=h;exact ⟨v,σ',H',I.kb,r,q⟩
theorem PSs.nox {st:List Fh} {t:TS} (h:PSs X.nox st t):PSs X st t:=fun pins s σ H D I hw=>
 EV (h pins s σ H D (I.ux _) hw) (fun _ _ q=>q.kb) fun _ _ z=>EZ z
end
section
variable {st:Fh} {rest:List Fh} {t u:TS} 
def gq:TS:=fun D σ H=>D.nx σ H
def dC (t u:TS):TS:=fun D σ H=>t {D with nx:=u D} σ H
theorem bx:PSs X [] gq:=fun _ _ σ H _ I h=>HK ⟨σ,H,I,h⟩
theorem aw (h1:PS X st t) (h2:PSs X rest u):PSs X (st::rest) (dC t u):=by
 intro pins s σ H D I h;refine JO (thn (h1 pins s σ H {D with nx:=u D} I h) fun f J q=>?_);cases f with
 |next=>
  obtain ⟨σ',H',Y,q⟩:=q;exact h2 pins J σ' H' D Y q
 |ret v=>exact q
 |brk=>exact q
 |cont=>exact q
theorem aV (h1:PS X st t):PSs X [st] t:=by
 intro pins s σ H D I h;refine JO (thn (h1 pins s σ H D I h) fun f J q=>?_);cases f with
 |next=>exact HK q
 |ret v=>exact q
 |brk=>exact q
 |cont=>exact q
theorem Inv.quiet (I:Inv X pins σ H s):interactive X.env=b_:=by simp [interactive,I.ok.kind]
def qB (te:TE):TS:=fun D σ H=>te σ H fun _ H1=>D.nx σ H1
theorem gO (a:PE X e te) (Y: ~~~(FV e c_ pos.line X.env=FF b_)):PS X (.Expr e pos) (qB te):=by
 intro pins s σ H D I h;exact wpAny_Expr_any (thn (a pins s σ H _ I h) fun v c ⟨x,H1,b,d,J⟩=>⟨σ,H1,b,J⟩) I.quiet Y
def qA (te:TE):TS:=fun D σ H=>te σ H D.rt
theorem bS (a:PE X e te):PS X (.Return (a_ e) pos) (qA te):=by
 intro pins s σ H D I h;exact wpAny_Return_some (thn (a pins s σ H _ I h) fun v c ⟨x,H1,b,J,Y⟩=>⟨x,σ,H1,b,J,Y⟩)
def mx (c:TT) (t u:TS):TS:=fun D σ H=>c σ H fun b H1=>if b=d_ then t D σ H1 else u D σ H1
theorem gA {c:Fe} {a b:List Fh} {tc:TT} (f:PT X c tc) (i:PSs X a t) (g:PSs X b u):PS X (.If c a b pos) (mx tc t u):=by
 intro pins s σ H D I h;refine wpAny_If (thn (f pins s σ H _ I h) fun d J ⟨H1,e,Y⟩=>?_);cases d with
 |true=>exact i pins J σ H1 D e Y
 |false=>exact g pins J σ H1 D e Y
noncomputable def tNever:TS:=fun _ _ _=>False
theorem vh {sts:List Fh}:PSs X sts tNever:=fun _ _ _ _ _ _ h=>h.elim
end
abbrev TG:=V->St->Hp->(St->Hp->Prop)->Prop
abbrev TGs:=List V->St->Hp->(St->Hp->Prop)->Prop
def PG (X:Cx) (I:Fe) (t:TG):Prop:=
 ∀(pins:Pn) (s:z_) (σ:St) (H:Hp) (v:V) (u:l_) (Q:St->Hp->Prop),Inv X pins σ H s->RelV v u->t v σ H Q ->
  Cb (Eg X.prog X.w) X.A (HZ I X.env u) (fun _ s'=>∃σ' H',Inv X pins σ' H' s'/\Q σ' H') X.xe s
def PGs (X:Cx) (ts:List Fe) (t:TGs):Prop:=
 ∀(pins:Pn) (s:z_) (σ:St) (H:Hp) (vs:List V) (us:List l_) (Q:St->Hp->Prop),Inv X pins σ H s->Vals vs us->t vs σ H Q ->
  Cb (Eg X.prog X.w) X.A (assignInOrder ((FW ts X.env).map (·.2)) us) (fun _ s'=>∃σ' H',Inv X pins σ' H' s'/\Q σ' H') X.xe s
abbrev TSet:=V->V->V->Hp->(Hp->Prop)->Prop
def PSet (X:Cx) (t:TSet):Prop:=
 ∀(pins:Pn) (s:z_) (σ:St) (H:Hp) (o i v:V) (I J u:l_) (Q:Hp->Prop),Inv X pins σ H s->RelV o I->RelV i J->RelV v u->t o i v H Q ->
  Cb (Eg X.prog X.w) X.A (MH I J u) (fun _ s'=>∃H',Inv X pins σ H' s'/\Q H') X.xe s
section
noncomputable def bX (i:Nat):TG:=fun v σ H Q=>Q (σ.set i (a_ v)) H
theorem cQ (a:X.N.Nodup) (hi:X.N[i]? =a_ x) (J:Loc X.env.scope x) (Y:autoParam (X.fn x=d_\/X.env.scope.names.lookup x=a_ .local) Jq3):PG X (.Name x pos) (bX i):=by
 intro pins s σ H v u Q I r h;exact MA (lE I a hi J r (fun s' b=>⟨_,H,b,h⟩) Y)
noncomputable def gNil:TGs:=fun vs σ H Q=>vs=[]/\Q σ H
noncomputable def jZ (t:TG) (u:TGs):TGs:=fun vs σ H Q=>∃v r,vs=v::r/\t v σ H fun σ' H'=>u r σ' H' Q
theorem sQ:PGs X [] gNil:=by
 intro pins s σ H vs us Q I r h;obtain ⟨e,h⟩:=h;subst e;cases r;exact assignInOrder_nil ⟨σ,H,I,h⟩
theorem cL {t:TG} {u:TGs} (h1:PG X e t) (h2:PGs X es u)
  (c: ~~~((FW (e::es) X.env).map (·.2)=HZ e X.env::(FW es X.env).map (·.2))):PGs X (e::es) (jZ t u):=by
 intro pins s σ H vs us Q I r h;obtain ⟨v,f,e1,h⟩:=h;subst e1;cases r with
 |cons r a=>
  rw [c];refine assignInOrder_cons (thn (h1 pins s σ H _ _ _ I r h) fun _ Y ⟨J,H1,d,b⟩=>?_);exact h2 pins Y J H1 _ _ Q d a b
def gTup (K:Fg) (n:Nat) (t:TGs):TG:=fun v σ H Q=>∃a xs,v=.ref a/\SqT K H a xs/\xs.length=n/\t xs σ H Q
theorem zt {k:Nat} {t:TGs} (j:X.calm=d_) (h:PGs X es t)
  (g: ~~~((FW es X.env).length=n)) (J: ~~~((FW es X.env).findIdx? (·.1)=c_)):PG X (.Tuple es k pos) (gTup X.K n t):=by
 intro pins s σ H v u Q I r hw;obtain ⟨a,xs,e1,f,i,hw⟩:=hw;subst e1;cases r;obtain ⟨its,Y,d,m⟩:=I.tuple f;refine assign_Tuple_tuple (I.ok.hd j) d (by simp [g,<- i,Y.length]) J fun h' c=>?_;have l:Inv X pins σ H {s with heap:=h'}:=I.kept (t':=s.toks) fun b o e=>c b o (EA (y_ e)) e;exact h pins _ σ H xs _ Q l (by simpa using Y) hw
noncomputable def gSub (to I:TE) (t:TSet):TG:=fun v σ H Q=>to σ H fun o H1=>I σ H1 fun i H2=>t o i v H2 fun J=>Q σ J
theorem pg_sub {o i:Fe} {to a:TE} {t:TSet} (k:PE X o to) (hi:PE X i a) (j:PSet X t)
  (l:autoParam (∀v,HZ (.Subscript o i pos) X.env v=(do
   let J <- HU [v] (Eu o X.env)
   let Y <- HU [v,J] (Eu i X.env)
   JC pos
   HU [v,J,Y] (MH J Y v)
   release [v,J,Y] [])) Jq4):PG X (.Subscript o i pos) (gSub to a t):=by
 intro pins s σ H v u Q I r h;rw [l];refine k_ (Ha (thn (k pins s σ H _ I h) fun J c ⟨x,H1,p,d,g⟩=>?_));refine k_ (Ha (thn (hi pins c σ H1 _ p g) fun Y b ⟨y,H2,n,r2,f⟩=>?_));refine k_ (HB (k_ (Ha (thn (j pins b σ H2 x y v J Y u _ n d r2 r f) fun _ w ⟨q,m,e⟩=>?_))));exact wpAny_release ⟨σ,q,m,e⟩
def qq (te:TE) (g:TG):TS:=fun D σ H=>te σ H fun x H1=>g x σ H1 D.nx
theorem zp {g:TG} (d:PE X e te) (c:PG X tg g) (b: ~~~(K6 [tg] e pos.line X.env=FF b_)) (hw: ~~~(K7 [tg] e X.env=FF c_))
  (h1: ~~~((FW [tg] X.env).map (·.2)=[HZ tg X.env])):PS X (.Assign [tg] e pos) (qq te g):=by
 intro pins s σ H D I h;refine wpAny_Assign_stores (thn (d pins s σ H _ I h) fun v J ⟨x,H1,f,Y,a⟩=>?_) b hw;rw [h1];exact thn (c pins J σ H1 x v _ f Y a) fun _ i q=>q
theorem jh (f:X.N.Nodup) (hi:X.N[i]? =a_ x) (a:Loc X.env.scope x) (d:PE X e te) (b: ~~~(FV e (a_ (.Name x pos')) pos.line X.env=FF b_)) (c:autoParam (X.fn x=d_\/X.env.scope.names.lookup x=a_ .local) Jq3) :
  PS X (.Assign [.Name x pos'] e pos) (qq te (bX i)):=by
 intro pins s σ H D I h;refine MC (thn (d pins s σ H _ I h) fun v l ⟨y,H1,j,J,Y⟩=>?_) b;exact lE j f hi a J (fun k g=>⟨_,H1,g,Y⟩) c
end
structure It where
 go:Nat->Hp->Prop
 yld:Nat->Hp->V->Hp->Prop
 stop:Nat->Hp->Prop
def Bq (X:Cx) (pins:Pn) (H:Hp) (b:e_):Prop:=
 H b=c_/\b≠X.env.locals/\b∉X.fs/\(b∈X.ex\/X.s₀.heap.objs.size<=b)/\(∀x c,X.env.cells.lookup x=a_ c->c≠b)/\∀p∈X.pn++pins,p.1≠b
theorem Inv.fpOk (I:Inv X pins σ H s) (J:s.heap.objs.size<=b) (a:H' b=c_):Bq X pins H' b:=by
 refine ⟨a,Ip (Em I.lt J),I.nofs J,.inr (EJ I.sz J),fun x c e z=>?_,fun p Y z=>?_⟩
 ·obtain ⟨v,q⟩:=I.cell x c e;exact Ek (Em q.lt (by rw [z];exact J)) (Fi _)
 ·exact Ek (Em (y_ (I.pin p Y).1) (by rw [z];exact J)) (Fi _)
structure Turn (P:Fp) (w:Fu) (K:Fg) (tg:Fe) (J:It) (fp:List e_) (it:e_) (tn:Nat->EY->Prop):Prop where
 mem:it∈fp
 obj:∀i h,tn i h->∀b∈fp,∃o,h.get? b=a_ o/\∀v,o.data≠.cell v
 keep:∀i h h',tn i h->(∀b∈fp,∀o,h.get? b=a_ o->h'.get? b=a_ o)->tn i h'
 item:∀(X:Cx),X.prog=P->X.w=w->X.K=K->X.calm=d_->∀(i:Nat) (pins:Pn) (s:z_) (σ:St) (H:Hp) (E:Vp),Inv X pins σ H s->(∀b∈fp,Bq X pins H b)->tn i s.heap->J.go i H ->
  Cb (Eg P w) X.A (pyNext (.ref it)) (fun r s1=>∃u,r=a_ u /\
   Cb (Eg P w) X.A (IF tg (.ref it) u) (fun _ s2=>∃x H',Inv X pins σ H' s2/\RelV x u/\J.yld i H x H'/\tn (i+1) s2.heap/\∀b∈fp,H' b=c_) E s1) E s
 done:∀(X:Cx),X.prog=P->X.w=w->X.K=K->X.calm=d_->∀(i:Nat) (pins:Pn) (s:z_) (σ:St) (H:Hp) (E:Vp),Inv X pins σ H s->(∀b∈fp,Bq X pins H b)->tn i s.heap->J.stop i H ->
  Cb (Eg P w) X.A (pyNext (.ref it)) (fun r s1=>r=c_/\Inv X pins σ H s1) E s
 self:∀(A:GH) (i:Nat) (s:z_) (Q:Vp) (E:Vp),tn i s.heap->Q (.ref it) s->Cb (Eg P w) A (pyIter (.ref it)) Q E s
abbrev TI:=St->Hp->(It->Hp->Prop)->Prop
def PIE (X:Cx) (pins:Pn) (σ:St) (tg:Fe) (R:It->Hp->Prop) (I:l_) (a:z_):Prop:=
 ∃(it:e_) (fp:List e_) (Y:Nat->EY->Prop) (J:It) (H':Hp),I=.ref it/\Inv X pins σ H' a/\Turn X.prog X.w X.K tg J fp it Y/\Y 0 a.heap/\(∀b∈fp,Bq X pins H' b)/\R J H'
def PI (X:Cx) (tg iter:Fe) (wi:TI):Prop:=
 ∀(pins:Pn) (s:z_) (σ:St) (H:Hp) (R:It->Hp->Prop),Inv X pins σ H s->wi σ H R ->
  Cb (Eg X.prog X.w) X.A (Eu iter X.env) (fun v I=>Cb (Eg X.prog X.w) X.A (pyIter v) (PIE X pins σ tg R) X.xe I) X.xe s
theorem go_of {M : Jl} {A : GH} {E : l_ -> z_ -> Prop} {s : z_} {tg : Fe} {it : e_} {u : l_} {o : Io} {n : String} {vs : Array l_} {Q : Unit -> z_ -> Prop} (J : s.heap.get? it = a_ o) (a : o.cls = .type n) (hd : o.data = .fields vs)
    (Y : ["enumerate", "zip", "dict_itemiterator", "dict_reverseitemiterator", "odict_iterator", "itertools.zip_longest", "itertools.pairwise"].contains n = b_) (I : Q () s) : Cb M A (IF tg (.ref it) u) Q E s := by
  unfold IF;cases tg <;> first
    | exact A_ I
    | (cases u <;> first
        | exact A_ I
        | (refine k_ (wpAny_load J ?_)
           rw [a, hd];show Cb M A (if (["enumerate", "zip", "dict_itemiterator", "dict_reverseitemiterator", "odict_iterator", "itertools.zip_longest", "itertools.pairwise"].contains n && vs[0]? == a_ (Jq _)) = d_ then _ else _) Q E s;rw [m_ (by intro h; rw [Y, Bool.false_and] at h; cases h)];exact A_ I))
def Itl (K:Fg) (a:e_):It:=
 ⟨fun i H=>∃xs x,SqL K H a xs/\xs[i]? =a_ x,fun i H x H'=>H'=H/\∀xs,SqL K H a xs->xs[i]? =a_ x,fun i H=>∃xs,SqL K H a xs/\xs.length<=i⟩
def Itt (K:Fg) (a:e_):It:=
 ⟨fun i H=>∃xs x,SqT K H a xs/\xs[i]? =a_ x,fun i H x H'=>H'=H/\∀xs,SqT K H a xs->xs[i]? =a_ x,fun i H=>∃xs,SqT K H a xs/\xs.length<=i⟩
noncomputable def Itr (lo:Int) (n:Nat):It:=⟨fun i _=>i<n,fun i H x H'=>H'=H/\x=.int (lo+i),fun i _=>n<=i⟩
theorem uB (a it:e_):Turn P w K tg (Itl K a) [it] it (fun i h=>h.IsListIter it a i) where
 mem:=by simp
 obj:=fun i h st b J=>by
  have e:b=it:=by simpa using J
  subst e;obtain ⟨o,e,c,d⟩:=st;exact ⟨o,e,fun v z=>by rw [d] at z;cases z⟩
 keep:=fun i h h' st k=>st.at fun o e=>k it (by simp) o e
 item:=by
  intro X n hw q r i pins s σ H E I g st m;subst n hw q;obtain ⟨xs,x,f,l⟩:=m;obtain ⟨its,j,p,A⟩:=I.list f;obtain ⟨u,C,y⟩:=j.get l;obtain ⟨f0,f1,f2,f3,f4,f5⟩:=g it (by simp);refine wpAny_pyNext_list_item st p.isList (x:=u) (by simpa using C) fun h' Y t=>?_;have F:Inv X pins σ H {s with heap:=h'}:=I.turned (t':=s.toks) (fun b o J e=>(t.2 b J).trans e) f0 f1 f3 f4 f5;obtain ⟨o,e,c,d⟩:=id Y;exact ⟨u,rfl,go_of (s:={s with heap:=h'}) e c d (by decide) ⟨x,H,F,y,⟨rfl,fun ys B=>by rw [I.oo B f];exact l⟩,Y,fun b J=>(g b J).1⟩⟩
 done:=by
  intro X n hw q r i pins s σ H E I g st m;subst n hw q;obtain ⟨xs,f,l⟩:=m;obtain ⟨its,j,p,A⟩:=I.list f;obtain ⟨f0,f1,f2,f3,f4,f5⟩:=g it (by simp);have G:=j.length;exact wpAny_pyNext_list_end (I.ok.hd r) st p.isList (by simp;omega) fun h' D=>⟨rfl,I.turned (t':=s.toks) (fun b o J e=>D b o J e) f0 f1 f3 f4 f5⟩
 self:=fun _ _ _ _ _ st h=>wpAny_pyIter_listiter st h
theorem A7 (a it:e_):Turn P w K tg (Itt K a) [it] it (fun i h=>h.IsTupleIter it a i) where
 mem:=by simp
 obj:=fun i h st b J=>by
  have e:b=it:=by simpa using J
  subst e;obtain ⟨o,e,c,d⟩:=st;exact ⟨o,e,fun v z=>by rw [d] at z;cases z⟩
 keep:=fun i h h' st k=>st.at fun o e=>k it (by simp) o e
 item:=by
  intro X n hw q r i pins s σ H E I g st m;subst n hw q;obtain ⟨xs,x,f,l⟩:=m;obtain ⟨its,j,p,A⟩:=I.tuple f;obtain ⟨u,C,y⟩:=j.get l;obtain ⟨f0,f1,f2,f3,f4,f5⟩:=g it (by simp);refine wpAny_pyNext_tuple_item st (show s.heap.IsTuple a its.toArray from p) (x:=u) (by simpa using C) fun h' Y t=>?_;have F:Inv X pins σ H {s with heap:=h'}:=I.turned (t':=s.toks) (fun b o J e=>(t.2 b J).trans e) f0 f1 f3 f4 f5;obtain ⟨o,e,c,d⟩:=id Y;exact ⟨u,rfl,go_of (s:={s with heap:=h'}) e c d (by decide) ⟨x,H,F,y,⟨rfl,fun ys B=>by rw [I.By B f];exact l⟩,Y,fun b J=>(g b J).1⟩⟩
 done:=by
  intro X n hw q r i pins s σ H E I g st m;subst n hw q;obtain ⟨xs,f,l⟩:=m;obtain ⟨its,j,p,A⟩:=I.tuple f;obtain ⟨f0,f1,f2,f3,f4,f5⟩:=g it (by simp);have G:=j.length;exact wpAny_pyNext_tuple_end (I.ok.hd r) st (show s.heap.IsTuple a its.toArray from p) (by simp;omega) fun h' D=>⟨rfl,I.turned (t':=s.toks) (fun b o J e=>D b o J e) f0 f1 f3 f4 f5⟩
 self:=fun _ _ _ _ _ st h=>wpAny_pyIter_tupleiter st h
theorem A8 (it:e_) (lo:Int) (n:Nat):Turn P w K tg (Itr lo n) [it] it (fun i h=>IsRangeIter h it (lo+(i:Nat)*1) ((n:Int)-(i:Nat)) 1) where
 mem:=by simp
 obj:=fun i h st b J=>by
  have e:b=it:=by simpa using J
  subst e;exact ⟨_,st,fun v z=>by
   have j:Data.fields _=Data.cell v:=z;cases j⟩
 keep:=fun i h h' st k=>k it (by simp) _ st
 item:=by
  intro X f hw g d i pins s σ H E I a st c;subst f hw g;obtain ⟨f0,f1,f2,f3,f4,f5⟩:=a it (by simp);have W:=Walks.range (prog:=X.prog) (w:=X.w) (I.ok.hd d) it lo 1 n;refine W.item i s _ _ c st fun v h' tk hv Y l=>?_;obtain ⟨t,rfl⟩:=hv;have p:Inv X pins σ H {s with heap:=h',toks:=tk}:=I.turned (fun b o J e=>l b o (by simpa using J) e) f0 f1 f3 f4 f5;refine ⟨_,rfl,go_of (s:={s with heap:=h',toks:=tk}) (n:="range_iterator") Y rfl rfl (by decide) ⟨.int (lo+i),H,p,⟨t,?_⟩,⟨rfl,rfl⟩,Y,fun b J=>(a b J).1⟩⟩
  rw [Int.mul_one]
 done:=by
  intro X f hw g d i pins s σ H E I a st c;subst f hw g;obtain ⟨f0,f1,f2,f3,f4,f5⟩:=a it (by simp);exact wpAny_pyNext_range_end (I.ok.hd d) st (by have:n<=i:=c;omega) fun h' m=>⟨rfl,I.turned (t':=s.toks) (fun b o J e=>m b o J e) f0 f1 f3 f4 f5⟩
 self:=fun _ _ _ _ _ st h=>wpAny_pyIter_rangeiter st h
section
def iList (K:Fg) (tl:TE):TI:=fun σ H R=>tl σ H fun x H1=>∃a,x=.ref a/\(∃xs,SqL K H1 a xs)/\R (Itl K a) H1
theorem xD {l:Fe} {tl:TE} (g:PE X l tl):PI X tg l (iList X.K tl):=by
 intro pins s σ H R I h;refine thn (g pins s σ H _ I h) fun v J ⟨x,H1,Y,c,d⟩=>?_;obtain ⟨a,e,⟨xs,f⟩,q⟩:=d;subst e;cases c;obtain ⟨its,j,p,k⟩:=Y.list f;refine Hr p.isList ?_;refine ⟨J.heap.objs.size,[J.heap.objs.size],_,_,H1,rfl,Y.kept (t':=J.toks) fun b o e=>s_ _ e,uB a _,⟨_,Ei _ rfl,rfl,rfl⟩,fun b i=>?_,q⟩
 have e:b=J.heap.objs.size:=by simpa using i
 subst e;exact Y.fpOk (u_ _) (Y.hok.fresh (u_ _))
theorem range_it {R:It->Hp->Prop} {lo hi:Int} {t u v:Mh} {tk:Nat} (I:Inv X pins σ H s) (h1: -(2^62)<=lo) (h2:lo<2^62) (c: -(2^62)<=hi) (a:hi<2^62)
  (q:R (Itr lo (hi-lo).toNat) H):Cb (Eg X.prog X.w) X.A (pyIter (.ref s.heap.objs.size)) (PIE X pins σ tg R) E {s with heap:=s.heap.push {cls:=.type "range",data:=.fields #[.int lo t,.int hi u,.int 1 v]},toks:=tk}:=by
 refine wpAny_pyIter_range (IsRange.new ..) (small_one h1 h2 c a) ?_;have J:Inv X pins σ H {s with heap:=s.heap.push {cls:=.type "range",data:=.fields #[.int lo t,.int hi u,.int 1 v]},toks:=tk}:=I.kept fun b o e=>s_ _ e;refine ⟨(s.heap.push {cls:=.type "range",data:=.fields #[.int lo t,.int hi u,.int 1 v]}).objs.size,[(s.heap.push {cls:=.type "range",data:=.fields #[.int lo t,.int hi u,.int 1 v]}).objs.size],_,_,H,rfl,
  J.kept (t':=tk) fun b o e=>s_ _ e,A8 _ lo (hi-lo).toNat,?_,fun b Y=>?_,q⟩
 ·have e1:lo+((0:Nat):Int)*1=lo:=by simp
  have e2:(((hi-lo).toNat:Nat):Int)-((0:Nat):Int)=Nd lo hi 1:=by rw [rangeSize_one];split<;>omega
  show IsRangeIter _ _ (lo+((0:Nat):Int)*1) ((((hi-lo).toNat:Nat):Int)-((0:Nat):Int)) 1;rw [e1,e2];exact Ei _ rfl
 ·have e:b=(s.heap.push {cls:=.type "range",data:=.fields #[.int lo t,.int hi u,.int 1 v]}).objs.size:=by simpa using Y
  subst e;exact J.fpOk (u_ _) (J.hok.fresh (u_ _))
def iRng1 (ta:TA):TI:=fun σ H R=>ta σ H fun vs H1=>∃j:Int,vs=[.int j]/\ -(2^62)<=j/\j<2^62/\R (Itr 0 j.toNat) H1
theorem vk {a:Fe} {ta:TA} (g:Gl X "range") (f:X.mg "range"=c_) (i:PA X [a] ta) (d: ~~~(i_ [a] X.env=[(b_,Eu a X.env)])):PI X tg (.Call (.Name "range" p) [a] [] pos) (iRng1 ta):=by
 intro pins s σ H R I h;refine Call_ (rA I g f boot_range (Hi (thn (i pos pins s σ H _ I h) fun us l ⟨vs,H1,k,b,J⟩=>?_) d rfl));obtain ⟨j,e,J,c,q⟩:=J;subst e;cases b with
 |cons r Y=>
  cases Y;obtain ⟨t,rfl⟩:=r;exact call_range_1 (range_it k (by omega) (by omega) J c (by simpa using q))
def tFor (wi:TI) (g:TG) (tb:TS):TS:=fun D σ H=>wi σ H fun J H1=>∃W:Nat->Nat->St->Hp->Prop,(∃m,W 0 m σ H1)/\∀i m σ H,W i m σ H ->
 (J.stop i H/\D.nx σ H)\/(J.go i H/\∃N:St->Hp->Prop,(∀σ' H',N σ' H'->∃Y,Y<m/\W (i+1) Y σ' H')/\∀x H',J.yld i H x H'->g x σ H' fun I H2=>tb {D with nx:=N,ct:=N,bk:=D.nx} I H2)
noncomputable def vj (fp:List e_) (h:EY):Pn:=fp.filterMap fun b=>(h.get? b).map fun o=>(b,o)
theorem jR {o:Io} (I:b∈fp) (e:h.get? b=a_ o):(b,o)∈vj fp h:=Gz.mpr ⟨b,I,by rw [e];rfl⟩
theorem Cr {p:e_×Io} (I:p∈vj fp h):p.1∈fp/\h.get? p.1=a_ p.2:=by
 obtain ⟨b,J,e⟩:=Gz.mp I;cases q:h.get? b with
 |none=>rw [q] at e;cases e
 |some o=>
  rw [q] at e;have Y:(b,o)=p:=Ew e;subst Y;exact ⟨J,q⟩
theorem Inv.pinned (I:Inv X pins σ H s) (f:∀b∈fp,Bq X pins H b) (c:∀b∈fp,∃o,s.heap.get? b=a_ o/\∀v,o.data≠.cell v):Inv X (pins++vj fp s.heap) σ H s:=
 I.sP fun p a=>(Fw.mp a).elim (fun z=>I.pin p (EW _ z)) fun z=>by
  obtain ⟨J,e⟩:=Cr z;obtain ⟨f0,f1,f2,_⟩:=f p.1 J;obtain ⟨o,Y,d⟩:=c p.1 J;rw [e] at Y;cases Y;exact ⟨e,f0,f1,f2,d⟩
theorem Inv.sd {pl:Pn} (I:Inv X (pins++pl) σ H s):Inv X pins σ H s:=I.sP fun p J=>I.pin p (EW _ (IA _ J))
theorem zo {iter:Fe} {wi:TI} {g:TG} {tb:TS} (C:PassesOwn (Eg X.prog X.w) X.A X.env X.xe) (Z:X.calm=d_) (hi:PI X tg iter wi) (hg:PG X tg g) (j:PSs X body tb)
  (hs:autoParam (∀x,Gi iter X.env x=FF x) Jq4):PS X (.For tg iter body [] pos) (tFor wi g tb):=by
 intro pins s σ H D I h;refine wpAny_For (thn (hi pins s σ H _ I h) fun v s1 h1=>thn h1 fun itv s2 h2=>?_) hs;obtain ⟨it,fp,R,J,H2,e,I2,T,K,f2,W,⟨m0,w0⟩,w⟩:=h2;subst e;have c:∀{H':Hp},(∀b∈fp,H' b=c_)->∀b∈fp,Bq X pins H' b:=fun hn b j=>⟨hn b j,(f2 b j).2⟩
 refine codeAny_forLoop_any (fun n s'=>∃i σ' H',Inv X pins σ' H' s'/\R i s'.heap/\(∀b∈fp,H' b=c_)/\W i n σ' H') ?_ m0 ⟨0,σ,H2,I2,K,fun b j=>(f2 b j).1,w0⟩;rintro n U ⟨i,a,F,I3,A,E,w3⟩;rcases w i n a F w3 with ⟨y,qn⟩|⟨go,N,hN,z⟩
 ·refine HJ C (thn (T.done X rfl rfl rfl Z i pins U a F X.xe I3 (c E) A y) fun r s4 ⟨O,I4⟩=>?_);subst O;exact HK ⟨a,F,I4,qn⟩
 ·refine HJ C (thn (T.item X rfl rfl rfl Z i pins U a F X.xe I3 (c E) A go) fun r s4 ⟨u,O,h4⟩=>?_);subst O;refine HJ C (thn h4 fun _ S ⟨x,H5,I5,r5,y5,t,P⟩=>?_);have Q:=I5.pinned (c P) (T.obj _ _ t);refine HJ C (thn (hg _ S a H5 x u _ Q r5 (z x H5 y5)) fun _ s6 ⟨G,H6,I6,q6⟩=>?_);refine HJ C (thn (j _ s6 G H6 _ I6 q6) fun f L q=>?_);have k:∀{Y:St} {p:Hp},Inv X (pins++vj fp S.heap) Y p L->N Y p->∃m,m<n/\∃i σ' H',Inv X pins σ' H' L/\R i L.heap/\(∀b∈fp,H' b=c_)/\W i m σ' H':=fun {Y p} l B=>by
   obtain ⟨m',hm,w7⟩:=hN Y p B;refine ⟨m',hm,i+1,Y,p,l.sd,T.keep _ _ _ t fun b j o e=>(l.pin (b,o) (EW _ (EW _ (jR j e)))).1,fun b j=>?_,w7⟩
   obtain ⟨o,e,d⟩:=T.obj _ _ t b j;exact (l.pin (b,o) (EW _ (EW _ (jR j e)))).2.1
  cases f with
  |next=>obtain ⟨Y,p,l,B⟩:=q;exact k l B
  |cont=>obtain ⟨Y,p,l,B⟩:=q;exact k l B
  |brk=>obtain ⟨Y,p,l,q⟩:=q;exact ⟨Y,p,l.sd,q⟩
  |ret v=>obtain ⟨x7,Y,p,l,r7,q⟩:=q;exact ⟨x7,Y,p,l.sd,r7,q⟩
end
abbrev R2:=V->V->Hp->VK->Prop
variable {r r':R2}
def OpR (X:Cx) (f:l_->l_->MO l_) (r:R2):Prop:=
 ∀(pins:Pn) (s:z_) (σ:St) (H:Hp) (x y:V) (v u:l_) (Q:VK),Inv X pins σ H s->RelV x v->RelV y u->r x y H Q ->
  Cb (Eg X.prog X.w) X.A (f v u) (EP X pins σ Q) X.xe s
def UnR (X:Cx) (f:l_->MO l_) (r:V->Hp->VK->Prop):Prop:=
 ∀(pins:Pn) (s:z_) (σ:St) (H:Hp) (x:V) (v:l_) (Q:VK),Inv X pins σ H s->RelV x v->r x H Q ->
  Cb (Eg X.prog X.w) X.A (f v) (EP X pins σ Q) X.xe s
def dQ (X:Cx) (f:l_) (r:List V->Hp->VK->Prop):Prop:=
 ∀(pins:Pn) (s:z_) (σ:St) (H:Hp) (xs:List V) (us:List l_) (Q:VK),Inv X pins σ H s->Vals xs us->r xs H Q ->
  Cb (Eg X.prog X.w) X.A (Hw f us) (EP X pins σ Q) X.xe s
def TruR (X:Cx) (r:V->Hp->(Bool->Hp->Prop)->Prop):Prop:=
 ∀(pins:Pn) (s:z_) (σ:St) (H:Hp) (x:V) (v:l_) (Q:Bool->Hp->Prop),Inv X pins σ H s->RelV x v->r x H Q ->
  Cb (Eg X.prog X.w) X.A (truthy v) (TP X pins σ Q) X.xe s
noncomputable def tOp (r:R2) (ta tb:TE):TE:=fun σ H Q=>ta σ H fun x H1=>tb σ H1 fun y H2=>r x y H2 Q
noncomputable def tUn (r:V->Hp->VK->Prop) (ta:TE):TE:=fun σ H Q=>ta σ H fun x H1=>r x H1 Q
def rI (C:Int->Int->Prop) (g:Int->Int->V):R2:=fun x y H Q=>∃i j,x=.int i/\y=.int j/\C i j/\Q (g i j) H
def rI0 (g:Int->Int->V):R2:=fun x y H Q=>∃i j,x=.int i/\y=.int j/\Q (g i j) H
def rU (g:Int->V):V->Hp->VK->Prop:=fun x H Q=>∃i,x=.int i/\Q (g i) H
section
variable {a b:Fe} 
theorem binT (l:PE X a ta) (k:PE X b tb) {R:V->V->Hp->Prop} (I:Inv X pins σ H s)
  (h:ta σ H fun x H1=>tb σ H1 fun y H2=>R x y H2) {Q:Vp} 
  (j:∀v u c x y H2,Inv X pins σ H2 c->RelV x v->RelV y u->R x y H2->Cb (Eg X.prog X.w) X.A (f v u) Q X.xe c) :
  Cb (Eg X.prog X.w) X.A (Eu a X.env) (fun v Y=>Cb (Eg X.prog X.w) X.A (Eu b X.env) (fun u J=>Cb (Eg X.prog X.w) X.A (f v u) Q X.xe J) X.xe Y) X.xe s:=by
 refine thn (l pins s σ H _ I h) fun v d ⟨x,H1,n,e,i⟩=>?_;refine thn (k pins d σ H1 _ n i) fun u c ⟨y,H2,m,r2,g⟩=>?_;exact j v u c x y H2 m e r2 g
theorem pe_op {op:Operator} (d:OpR X (FN op) r) (f:PE X a ta) (e:PE X b tb):PE X (.BinOp a op b pos) (tOp r ta tb):=by
 intro pins s σ H Q I h;exact wpAny_BinOp (binT f e I h fun v u J x y H2 g c Y q=>d pins J σ H2 x y v u Q g c Y q)
theorem pe_un {op:UnaryOp} {r:V->Hp->VK->Prop} (c:UnR X (MD op) r) (d:PE X a ta):PE X (.UnaryOp op a pos) (tUn r ta):=by
 intro pins s σ H Q I h;exact UnaryOp_ (thn (d pins s σ H _ I h) fun v J ⟨x,H1,e,Y,b⟩=>c pins J σ H1 x v Q e Y b)
theorem opI {C:Int->Int->Prop} 
  (J:∀(i j:Int) (t u:Mh) (s:z_) (Q:Vp) (E:Vp),C i j->Q (.int (g i j) s.toks) {s with toks:=s.toks+1}->Cb (Eg X.prog X.w) X.A (f (.int i t) (.int j u)) Q E s) :
  OpR X f (rI C fun i j=>.int (g i j)):=by
 intro pins s σ H x y v u Q I a Y h;obtain ⟨i,j,rfl,rfl,b,q⟩:=h;obtain ⟨t,rfl⟩:=a;obtain ⟨t',rfl⟩:=Y;exact J i j t t' s _ _ b ⟨.int (g i j),H,I.tok _,⟨_,rfl⟩,q⟩
theorem opI0 
  (J:∀(i j:Int) (t u:Mh) (s:z_) (Q:Vp) (E:Vp),Q (.int (g i j) s.toks) {s with toks:=s.toks+1}->Cb (Eg X.prog X.w) X.A (f (.int i t) (.int j u)) Q E s) :
  OpR X f (rI0 fun i j=>.int (g i j)):=by
 intro pins s σ H x y v u Q I a Y h;obtain ⟨i,j,rfl,rfl,q⟩:=h;obtain ⟨t,rfl⟩:=a;obtain ⟨t',rfl⟩:=Y;exact J i j t t' s _ _ ⟨.int (g i j),H,I.tok _,⟨_,rfl⟩,q⟩
theorem opB0 {g:Int->Int->Bool}
  (J:∀(i j:Int) (t u:Mh) (s:z_) (Q:Vp) (E:Vp),Q (.bool (g i j)) s->Cb (Eg X.prog X.w) X.A (f (.int i t) (.int j u)) Q E s) :
  OpR X f (rI0 fun i j=>.bl (g i j)):=by
 intro pins s σ H x y v u Q I a Y h;obtain ⟨i,j,rfl,rfl,q⟩:=h;obtain ⟨t,rfl⟩:=a;obtain ⟨t',rfl⟩:=Y;exact J i j t t' s _ _ ⟨.bl (g i j),H,I,rfl,q⟩
def CPow (i j:Int):Prop:=0<=j/\j<=1000000/\i.natAbs<2^64
def CMul (i j:Int):Prop:=(-(2^64)<i/\i<2^64)\/(-(2^64)<j/\j<2^64)
theorem CMul.ok {i j:Int} (h:CMul i j):IntMulOk i j:=by
 rcases h with ⟨h1,h2⟩|⟨h1,h2⟩
 ·exact .of_left (intBits_le_64 h1 h2)
 ·exact .of_right (intBits_le_64 h1 h2)
theorem op_add:OpR X (FN .Add) (rI0 fun i j=>.int (i+j)):=opI0 fun _ _ _ _ _ _ _ q=>add_int q
theorem op_sub:OpR X (FN .Sub) (rI0 fun i j=>.int (i-j)):=opI0 fun _ _ _ _ _ _ _ q=>sub_int q
theorem op_mul:OpR X (FN .Mult) (rI CMul fun i j=>.int (i*j)):=opI fun _ _ _ _ _ _ _ I q=>mul_int q I.ok
theorem op_mod:OpR X (FN .Mod) (rI (fun _ j=>0<j) fun i j=>.int (i%j)):=opI fun i j _ _ _ _ _ I q=>by
 have h1:(0:Int)<j:=I;exact mod_int' (by omega) (by rw [Int.fmod_eq_emod_of_nonneg i (by omega)];exact q)
theorem op_pow:OpR X (FN .Pow) (rI CPow fun i j=>.int (i^j.toNat)):=opI fun _ _ _ _ _ _ _ I q=>pow_int_small I.1 I.2.1 I.2.2 q
theorem unI {f:l_->MO l_} {g:Int->Int}
  (J:∀(i:Int) (t:Mh) (s:z_) (Q:Vp) (E:Vp),Q (.int (g i) s.toks) {s with toks:=s.toks+1}->Cb (Eg X.prog X.w) X.A (f (.int i t)) Q E s) :
  UnR X f (rU fun i=>.int (g i)):=by
 intro pins s σ H x v Q I Y h;obtain ⟨i,rfl,q⟩:=h;obtain ⟨t,rfl⟩:=Y;exact J i t s _ _ ⟨.int (g i),H,I.tok _,⟨_,rfl⟩,q⟩
theorem un_neg:UnR X (MD .USub) (rU fun i=>.int (-i)):=unI fun _ _ _ _ _ q=>neg_int q
end
noncomputable def scal:V->V->Bool
 |.non,.non=>d_|.non,.int _=>d_|.int _,.non=>d_|.non,.bl _=>d_|.bl _,.non=>d_|.non,.str _=>d_|.str _,.non=>d_
 |.int _,.int _=>d_|.bl _,.bl _=>d_|.str _,.str _=>d_|.byt _,.byt _=>d_
 |.int _,.str _=>d_|.str _,.int _=>d_|.bl _,.str _=>d_|.str _,.bl _=>d_
 |_,_=>b_
def rNe:R2:=fun x y H Q=>scal x y=d_/\Q (.bl (!decide (x=y))) H
theorem dec_int {i j:Int}:r_ (V.int i=V.int j)=(i==j):=by
 rw [Hy];simp
theorem dec_bl {i j:Bool}:r_ (V.bl i=V.bl j)=(i==j):=by
 rw [Hy];simp
theorem dec_str {i j:p_}:r_ (V.str i=V.str j)=(i==j):=by
 rw [Hy];simp
theorem dec_byt {i j:Array UInt8}:r_ (V.byt i=V.byt j)=(i.toList==j.toList):=by
 rw [Hy];cases i;cases j;simp
section
variable {a b c:Fe} {tc:TE} 
theorem eF {Q:VK} {k J:Bool} (I:Inv X pins σ H s) (q:Q (.bl k) H) (e:k=J):EP X pins σ Q (.bool J) s:=by
 subst e;exact ⟨.bl k,H,I,rfl,q⟩
theorem op_ne:OpR X (Es .NotEq) rNe:=by
 intro pins s σ H x y v u Q I a J h;obtain ⟨Y,q⟩:=h;cases x with
 |non=>
  cases a;cases y with
  |non=>cases J;exact PySem.EqNone.ne_none_none (eF I q (by simp))
  |bl j=>cases J;exact PySem.EqNone.ne_none_bool (eF I q (by simp))
  |int j=>obtain ⟨t',rfl⟩:=J;exact PySem.EqNone.ne_none_int (eF I q (by simp))
  |str j=>obtain ⟨t',rfl⟩:=J;exact PySem.EqNone.ne_none_str (eF I q (by simp))
  |_=>exact Ek (show b_=d_ from Y) Fc
 |bl i=>
  cases a;cases y with
  |non=>cases J;exact PySem.EqNone.ne_bool_none (eF I q (by simp))
  |bl j=>cases J;exact ne_bool (eF I q (GN not dec_bl))
  |str j=>obtain ⟨t',rfl⟩:=J;exact M8 (eF I q (by simp))
  |_=>exact Ek (show b_=d_ from Y) Fc
 |int i=>
  obtain ⟨t,rfl⟩:=a;cases y with
  |non=>cases J;exact PySem.EqNone.ne_int_none (eF I q (by simp))
  |int j=>obtain ⟨t',rfl⟩:=J;exact ne_int (eF I q (GN not dec_int))
  |str j=>obtain ⟨t',rfl⟩:=J;exact M7 (eF I q (by simp))
  |_=>exact Ek (show b_=d_ from Y) Fc
 |str i=>
  obtain ⟨t,rfl⟩:=a;cases y with
  |non=>cases J;exact PySem.EqNone.ne_str_none (eF I q (by simp))
  |bl j=>cases J;exact M6 (eF I q (by simp))
  |int j=>obtain ⟨t',rfl⟩:=J;exact M5 (eF I q (by simp))
  |str j=>obtain ⟨t',rfl⟩:=J;exact ne_str (eF I q (GN not dec_str))
  |_=>exact Ek (show b_=d_ from Y) Fc
 |byt i=>
  obtain ⟨t,rfl⟩:=a;cases y with
  |byt j=>obtain ⟨t',rfl⟩:=J;exact PySem.W.ne_bytes (eF I q (GN not dec_byt))
  |_=>exact Ek (show b_=d_ from Y) Fc
 |_=>cases y<;>exact Ek (show b_=d_ from Y) Fc
theorem op_lt:OpR X (Es .Lt) (rI0 fun i j=>.bl (r_ (i<j))):=opB0 fun _ _ _ _ _ _ _ q=>lt_int q
theorem op_le:OpR X (Es .LtE) (rI0 fun i j=>.bl (r_ (i<=j))):=opB0 fun _ _ _ _ _ _ _ q=>le_int q
theorem op_gt:OpR X (Es .Gt) (rI0 fun i j=>.bl (r_ (j<i))):=opB0 fun _ _ _ _ _ _ _ q=>gt_int q
theorem op_ge:OpR X (Es .GtE) (rI0 fun i j=>.bl (r_ (j<=i))):=opB0 fun _ _ _ _ _ _ _ q=>ge_int q
theorem Cn:OpR X (Es .In) (fun x y H Q=>∃i j,x=.str i/\y=.str j/\Q (.bl (!(ED j i 0 j.length 1).isEmpty)) H):=by
 intro pins s σ H x y v u Q I Y J h;obtain ⟨i,j,rfl,rfl,q⟩:=h;obtain ⟨t,rfl⟩:=Y;obtain ⟨t',rfl⟩:=J;exact in_str (eF I q rfl)
theorem op_isN:OpR X (Es .Is) (fun x y H Q=>y=.non/\Q (.bl (r_ (x=.non))) H):=by
 intro pins s σ H x y v u Q I J Y h;obtain ⟨rfl,q⟩:=h;cases Y;refine is_none_gen (eF I q ?_);cases x<;>first
  |(cases J;rfl)
  |(obtain ⟨t,rfl⟩:=J;rfl)
theorem op_notN:OpR X (Es .IsNot) (fun x y H Q=>y=.non/\Q (.bl (!decide (x=.non))) H):=by
 intro pins s σ H x y v u Q I J Y h;obtain ⟨rfl,q⟩:=h;cases Y;refine isnot_none_gen (eF I q ?_);cases x<;>first
  |(cases J;rfl)
  |(obtain ⟨t,rfl⟩:=J;rfl)
theorem vn:OpR X (Es .NotIn) (fun x y H Q=>∃i j,x=.str i/\y=.str j/\Q (.bl (!(!(ED j i 0 j.length 1).isEmpty))) H):=by
 intro pins s σ H x y v u Q I Y J h;obtain ⟨i,j,rfl,rfl,q⟩:=h;obtain ⟨t,rfl⟩:=Y;obtain ⟨t',rfl⟩:=J;exact notIn_str (eF I q rfl)
theorem OpR.or (h:OpR X f r) (h':OpR X f r'):OpR X f (fun x y H Q=>r x y H Q\/r' x y H Q):=by
 intro pins s σ H x y v u Q I Y J q;rcases q with q|q
 ·exact h pins s σ H x y v u Q I Y J q
 ·exact h' pins s σ H x y v u Q I Y J q
theorem zy (b:Fe) (h:(op≠.In)⁻¹) (h2:(op≠.NotIn)⁻¹):Gn op b=b_:=by
 have e1:(op==CmpOp.In)=b_:=by cases op<;>first|rfl|exact Ek rfl h
 have e2:(op==MT)=b_:=by cases op<;>first|rfl|exact Ek rfl h2
 cases b<;>simp [Gn,e1,e2]
theorem pe_cmpR (d:OpR X (Es op) r) (g:PE X a ta) (f:PE X b tb) (e:Gn op b=b_):PE X (.Compare a [op] [b] pos) (tOp r ta tb):=by
 intro pins s σ H Q I h;exact wpAny_Compare1 (binT g f I h fun v u J x y H2 i c Y q=>d pins J σ H2 x y v u Q i c Y q) e
noncomputable def tTest (t:TE):TT:=fun σ H Q=>t σ H fun x H'=>∃k,x=.bl k/\Q k H'
theorem xB (l:OpR X (Es op) r) (o:PE X a ta) (n:PE X b tb) (m:Gn op b=b_):PT X (.Compare a [op] [b] pos) (tTest (tOp r ta tb)):=by
 intro pins s σ H Q I h;refine LS (thn (o pins s σ H _ I h) fun v Y ⟨x,H1,t,f,j⟩=>thn (n pins Y σ H1 _ t j) fun u J ⟨y,H2,q,r2,i⟩=>
  thn (l pins J σ H2 x y v u _ q f r2 i) fun c A ⟨z,w,p,d,k,e,g⟩=>?_) m
 subst e;cases d;exact Fb ⟨w,p,g⟩
noncomputable def BJ (r r':R2) (ta tb tc:TE):TE:=fun σ H Q=>ta σ H fun x H1=>tb σ H1 fun y H2=>r x y H2 fun z I=>∃k,z=.bl k /\
 (if k=d_ then tc σ I fun J Y=>r' y J Y Q else Q (.bl b_) I)
theorem pe_chain (C:OpR X (Es op) r) (J:OpR X (Es op') r') (G:PE X a ta) (F:PE X b tb) (E:PE X c tc)
  (D:Jc [op,op'] [b,c]=b_:=by with_unfolding_all rfl):PE X (.Compare a [op,op'] [b,c] pos) (BJ r r' ta tb tc):=by
 intro pins s σ H Q I h;refine Compare_chain (thn (G pins s σ H _ I h) fun v o ⟨x,H1,N,t,B⟩=>Mt (thn (F pins o σ H1 _ N B) fun u n ⟨y,H2,L,r2,A⟩=>
  thn (C pins n σ H2 x y v u _ L t r2 A) fun d m ⟨z,g,f,q,k,e,Y⟩=>?_)) D
 subst e;cases q;refine Fb ?_;cases k with
 |false=>exact ite_ff ⟨.bl b_,g,f,rfl,Y⟩
 |true=>exact ite_tt (chain_last (thn (E pins m σ g _ f Y) fun j l ⟨i,O,K,p,w⟩=>J pins l σ O y i u j Q K r2 p w))
theorem pt_chain (F:OpR X (Es op) r) (J:OpR X (Es op') r') (N:PE X a ta) (L:PE X b tb) (K:PE X c tc)
  (G:Jc [op,op'] [b,c]=b_:=by with_unfolding_all rfl):PT X (.Compare a [op,op'] [b,c] pos) (tTest (BJ r r' ta tb tc)):=by
 intro pins s σ H Q I h;refine isTrue_chain (thn (N pins s σ H _ I h) fun v o ⟨x,H1,T,w,D⟩=>test_link (thn (L pins o σ H1 _ T D) fun u n ⟨y,H2,S,r2,C⟩=>
  thn (F pins n σ H2 x y v u _ S w r2 C) fun d m ⟨z,g,f,t,k,e,Y⟩=>?_)) G
 subst e;cases t;refine Fb ?_;cases k with
 |false=>
  obtain ⟨k',O,E⟩:=Y;cases O;exact ite_ff ⟨g,f,E⟩
 |true=>
  refine ite_tt (test_last (thn (K pins m σ g _ f Y) fun j l ⟨i,W,R,q,B⟩=>thn (J pins l σ W y i u j _ R r2 q B) fun d' s5 ⟨Z,U,P,p,k2,e2,A⟩=>?_));subst e2;cases p;exact Fb ⟨U,P,A⟩
def TruV (K:Fg) (x:V) (H:Hp) (k:Bool):Prop:=
 match x with
 |.non=>k=b_
 |.bl b=>k=b
 |.int i=>k=(i != 0)
 |.str y=>y.length<=g_/\k=((y.length:Int) != 0)
 |.byt y=>y.size<=g_/\k=((y.size:Int) != 0)
 |.ref p=>(∃xs,SqL K H p xs/\k= !xs.isEmpty)\/(∃xs,SqT K H p xs/\k= !xs.isEmpty)\/∃kvs,H p=a_ (.dK kvs)/\k= !kvs.isEmpty
 |_=>False
theorem AW {kvs:List (κ×V)} {vs:List (κ×l_)} (r:KV kvs vs):(!vs.isEmpty)= !kvs.isEmpty:=by
 cases r<;>rfl
theorem rD {xs:List V} {its:List l_} (r:Vals xs its):(!its.toArray.isEmpty)= !xs.isEmpty:=by
 cases r<;>simp
theorem pD:(g_:Nat)<2^63:=by rw [Er];decide
theorem tru_ok:TruR X (fun x H Q=>∃k,TruV X.K x H k/\Q k H):=by
 intro pins s σ H x v Q I a h;obtain ⟨k,e,q⟩:=h;have l:=pD;have j:g_=16777216:=Er;cases x with
 |non=>
  cases a;have J:k=b_:=e;subst J;exact truthy_none ⟨H,I,q⟩
 |bl b=>
  cases a;have J:k=b:=e;subst J;exact Fb ⟨H,I,q⟩
 |int i=>
  obtain ⟨t,rfl⟩:=a;have J:k=(i != 0):=e;subst J;exact PySem.P.truthy_int ⟨H,I,q⟩
 |str y=>
  obtain ⟨t,rfl⟩:=a;obtain ⟨f,J⟩:y.length<=g_/\k=((y.length:Int) != 0):=e;subst J;exact PySem.P.truthy_str (by omega) ⟨H,I.tok _,q⟩
 |byt y=>
  obtain ⟨t,rfl⟩:=a;obtain ⟨f,J⟩:y.size<=g_/\k=((y.size:Int) != 0):=e;subst J;exact PySem.W.truthy_bytes (by omega) ⟨H,I.tok _,q⟩
 |ref p=>
  cases a;have J:(∃xs,SqL X.K H p xs/\k= !xs.isEmpty)\/(∃xs,SqT X.K H p xs/\k= !xs.isEmpty)\/∃kvs,H p=a_ (.dK kvs)/\k= !kvs.isEmpty:=e;rcases J with ⟨xs,c,J⟩|⟨xs,c,J⟩|⟨kvs,c,J⟩
  ·subst J;obtain ⟨its,r,pl,d⟩:=I.list c;have Y:=r.length;exact wpAny_truthy_list pl.isList (by simp only [B_];omega) ⟨H,I.tok _,by rw [rD r];exact q⟩
  ·subst J;obtain ⟨its,r,pl,d⟩:=I.tuple c;have Y:=r.length;exact truthy_tuple pl (by simp only [B_];omega) ⟨H,I.tok _,by rw [rD r];exact q⟩
  ·subst J;obtain ⟨d,g,vs,r,m⟩:kvs.length<=g_/\(p==Fj)=b_/\∃vs,KV kvs vs/\s.heap.DictOf (cG X.prog X.w) p vs:=I.hok p _ c;have Y:kvs.length=vs.length:=HQ r;exact wpAny_truthy_dict g m (by omega) ⟨H,I.tok _,by rw [AW r];exact q⟩
 |_=>exact (show False from e).elim
theorem o9 (e:PE X a ta) (d:∀J,LF a X.env J=(do let v <- J;JC a.pos;HU [v] (truthy v))) :
  PT X a (fun σ H Q=>ta σ H fun x H'=>∃k,TruV X.K x H' k/\Q k H'):=by
 intro pins s σ H Q I h;exact isTrue_plain (thn (e pins s σ H _ I h) fun v Y ⟨x,H1,f,b,c⟩=>tru_ok pins Y σ H1 x v Q f b c) (d _)
theorem Av:OpR X (FN .Add) (fun x y H Q=>∃i j,x=.str i/\y=.str j/\i.length+j.length<=g_/\Q (.str (i++j)) H):=by
 intro pins s σ H x y v u Q I Y J h;obtain ⟨i,j,rfl,rfl,a,q⟩:=h;obtain ⟨t,rfl⟩:=Y;obtain ⟨t',rfl⟩:=J;exact add_str (fun t' tk=>⟨.str (i++j),H,I.tok _,⟨_,rfl⟩,q⟩) a
theorem vals1 {x:V} (r:Vals [x] us):∃u,us=[u]/\RelV x u:=by
 cases r with
 |cons I r2=>cases r2;exact ⟨_,rfl,I⟩
theorem vals2 {x:V} (r:Vals [x,y] us):∃u I,us=[u,I]/\RelV x u/\RelV y I:=by
 cases r with
 |cons a r2=>
  cases r2 with
  |cons Y J=>cases J;exact ⟨_,_,rfl,a,Y⟩
theorem DR (Y:X.calm=d_):dQ X (.builtin "max") (fun xs H Q=>∃i j,xs=[.int i,.int j]/\Q (.int (if j>i then j else i)) H):=by
 intro pins s σ H xs us Q I r h;obtain ⟨i,j,rfl,q⟩:=h;obtain ⟨u,a,rfl,⟨t,rfl⟩,⟨t',rfl⟩⟩:=vals2 r;refine max_two_ints (I.ok.hd Y) fun h' tk k=>⟨_,H,I.kept k,?_,q⟩
 by_cases J:j>i
 ·rw [f_ J,f_ J];exact ⟨_,rfl⟩
 ·rw [m_ J,m_ J];exact ⟨_,rfl⟩
theorem DO (Y:X.calm=d_):dQ X (.builtin "min") (fun xs H Q=>∃i j,xs=[.int i,.int j]/\Q (.int (if j<i then j else i)) H):=by
 intro pins s σ H xs us Q I r h;obtain ⟨i,j,rfl,q⟩:=h;obtain ⟨u,a,rfl,⟨t,rfl⟩,⟨t',rfl⟩⟩:=vals2 r;refine min_two_ints (I.ok.hd Y) fun h' tk k=>⟨_,H,I.kept k,?_,q⟩
 by_cases J:j<i
 ·rw [f_ J,f_ J];exact ⟨_,rfl⟩
 ·rw [m_ J,m_ J];exact ⟨_,rfl⟩
theorem DV:dQ X (.type "int") (fun xs H Q=>(∃i,xs=[.int i]/\Q (.int i) H)\/∃k,xs=[.bl k]/\Q (.int (if k then 1 else 0)) H):=by
 intro pins s σ H xs us Q I r h;rcases h with ⟨i,rfl,q⟩|⟨k,rfl,q⟩
 ·obtain ⟨u,rfl,t,rfl⟩:=vals1 r;exact call_int_int ⟨.int i,H,I,⟨_,rfl⟩,q⟩
 ·obtain ⟨u,rfl,J⟩:=vals1 r;cases J;exact call_int_bool ⟨.int (if k then 1 else 0),H,I.tok _,⟨_,rfl⟩,q⟩
theorem wj:dQ X (.type "str") (fun xs H Q=>∃i,xs=[.int i]/\i.natAbs.log2<1920/\Q (.str (toString i)) H):=by
 intro pins s σ H xs us Q I r h;obtain ⟨i,rfl,J,q⟩:=h;obtain ⟨u,rfl,t,rfl⟩:=vals1 r;exact PySem.P.str_of_int J ⟨.str _,H,I.tok _,⟨_,rfl⟩,q⟩
end
structure ObjM (h:EY) (x dx C:e_) (mA:Mq):Prop where
 obj:h.get? x=a_ (F_ C dx)
 ns:h.Ns1 dx mA
 ne:dx≠x
theorem vA (n:h.Ns1 dx mA):∃od,h.get? dx=a_ od/\∀name,HL name od=a_ (mA name):=by
 obtain ⟨o,es,ep,Y,hd,c,_,b⟩:=n;refine ⟨o,Y,fun name=>?_⟩
 have e:=b name;unfold nsFind findBy at e;rw [<- Li] at e;unfold HL;rw [hd];dsimp only;split
 ·rename_i y q;rw [q] at e;exact GN a_ e
 ·rename_i q;rw [q] at e;have a:es.toList.any (·.refKey)=b_:=by
   rw [List.any_eq_false];intro y J;obtain ⟨z,t,I⟩:=c y (Array.mem_toList_iff.mp J);simp [DictEntry.refKey,I]
  have d:¬es.toList.any (·.refKey)=d_:=by rw [a];exact Fc
  rw [m_ d];exact GN a_ e
theorem ObjM.look {x:e_} (I:ObjM h x dx C mA):∃od,Gw h x (F_ C dx) C (a_ od)/\∀name,HL name od=a_ (mA name):=
 let ⟨od,J,Y⟩:=vA I.ns
 ⟨od,⟨I.obj,rfl,rfl,J⟩,Y⟩
section
variable {x f:e_} {v:l_}
theorem get_map {Y:Bool} {Q:Vp} (X:K.In s.heap) (I:ObjM s.heap x dx C mA) (c:JG K C name=d_) (hh:GO K C=d_)
  (d:Ep K (.ref C) name=a_ c_) (hv:mA name=a_ v) (a:JT v=d_) (h:Q v {s with toks:=s.toks+1}) :
  Cb (Eg prog w) A (LG (.ref x) name Y) Q E s:=by
 obtain ⟨od,J,b⟩:=I.look;exact PySem.W.get_value X J (Iw c).1 (Mf hh d rfl (by rw [b,hv])) a h
theorem get_meth {Q:l_×List l_->z_->Prop} (X:K.In s.heap) (I:ObjM s.heap x dx C mA) (Y:JG K C name=d_)
  (c:Ep K (.ref C) name=a_ (a_ (.ref f))) (a:isFn K (.ref f)=d_) (hv:mA name=c_) (h:Q (.ref f,[.ref x]) s) :
  Cb (Eg prog w) A (JR (.ref x) name pl) Q E s:=by
 obtain ⟨od,J,b⟩:=I.look;exact PySem.W.method_fn X J (Iw Y).1 (Iw Y).2 c (Ge.mp a) (by show (HL name od).map (·.isSome)=a_ b_;rw [b,hv];rfl) h
theorem set_map {ns:List p_} (X:K.In s.heap) (I:ObjM s.heap x dx C mA)
  (k:Ep K (.ref C) "__setattr__"=a_ (a_ (.builtin "object.__setattr__"))) (l:Lq K C=d_) (j:takerIn K C name=a_ c_) (hh:GO K C=d_)
  (hw:Hz mA ns) (hsz:ns.length<=g_)
  (h:∀h',ObjM h' x dx C (fun y=>if y=name then a_ v else mA y)->HC dx s.heap h'->Q () {s with heap:=h',toks:=s.toks+2}) :
  Cb (Eg prog w) A (MI (.ref x) name v) Q E s:=by
 obtain ⟨od,J,q⟩:=I.look;refine MM X J k (PySem.W.osa_open (s:={s with toks:=s.toks+1}) (r:=c_) X J l j fun b=>?_);obtain ⟨cd,m,f⟩:=Ke hh;have i:s.heap.get? x=a_ ⟨.ref C,a_ dx,.plain,#[]⟩:=I.obj;refine k_ (A_ (k_ (k_ (Kv i (k_ (Lc (s:={s with toks:=s.toks+1}) (Kd X m) ?_))))));rw [f];refine A_ (a:=a_ dx) (k_ (A_ (k_ ?_)));refine wpAny_nsSet1 (s:={s with toks:=s.toks+1}) I.ns fun h' c Y=>?_;obtain ⟨p,n,o,d,e,g⟩:=c.count (K9 name v hw);refine k_ (MY d (by rw [e];exact M1 (EJ g (by rw [Ex];omega))) ?_);exact A_ (h _ ⟨(Y.2 _ (EI I.ne)).trans I.obj,c,I.ne⟩ Y)
theorem make_map {R:LM->z_->Prop} {vs:List l_} (X:K.In s.heap) (J:LJ K C=d_)
  (hi:Ep K (.ref C) "__init__"=a_ (a_ (.ref f))) (Y:KA K (.ref f)=a_ (.type "function"))
  (h:Ht (Eg prog w) (A.under (.builtin "type.__call__" ⟨.ref C::vs,kw⟩)) (.call (.ref f) ⟨.ref (s.heap.objs.size+1)::vs,kw⟩) (PySem.W.InitBack (s.heap.objs.size+1) R)
   {s with heap:=(s.heap.push Fd).push (F_ C s.heap.objs.size)}) :
  Ht (Eg prog w) A (.call (.ref C) ⟨vs,kw⟩) R s:=by
 obtain ⟨hh,g,d,t,os⟩:=s;exact PySem.W.make_core (PySem.W.makes_of X J) (G5 X hi) (fun I=>PySem.W.bind_fn X I Y) (.inl rfl) h
end
noncomputable def rl (f:p_) (v:V):List (p_×V)->List (p_×V)
 |[]=>[(f,v)]
 |(g,x)::r=>if g=f then (g,v)::r else (g,x)::rl f v r
theorem pC (f g:p_) (v:V):∀fs:List (p_×V),(rl f v fs).lookup g=if g=f then a_ v else fs.lookup g
 |[]=>by
  show EM g [(f,v)]=_;by_cases h:g=f
  ·have I:(g==f)=d_:=Ge.mpr h;simp only [EM,I,f_ h]
  ·have I:(g==f)=b_:=FQ.mpr h;simp only [EM,I,m_ h]
 |(k,x)::r=>by
  have Y:=pC f g v r;rw [show rl f v ((k,x)::r)=(if k=f then (k,v)::r else (k,x)::rl f v r) from rfl];by_cases J:k=f
  ·rw [f_ J];by_cases h:g=k
   ·have I:(g==k)=d_:=Ge.mpr h;simp only [EM,I,f_ (h.trans J)]
   ·have I:(g==k)=b_:=FQ.mpr h;simp only [EM,I,m_ (fun e:g=f=>h (e.trans J.symm))]
  ·rw [m_ J];by_cases h:g=k
   ·have I:(g==k)=d_:=Ge.mpr h;simp only [EM,I,m_ (fun e:g=f=>J (h.symm.trans e))]
   ·have I:(g==k)=b_:=FQ.mpr h;simp only [EM,I];exact Y
theorem pF (f:p_) (v:V):∀fs:List (p_×V),f∈(rl f v fs).map (·.1)/\∀g,g∈fs.map (·.1)->g∈(rl f v fs).map (·.1)
 |[]=>⟨by simp [rl],fun g h=>by simp at h⟩
 |(k,x)::r=>by
  obtain ⟨Y,J⟩:=pF f v r;rw [show rl f v ((k,x)::r)=(if k=f then (k,v)::r else (k,x)::rl f v r) from rfl];by_cases I:k=f
  ·rw [f_ I];subst I;exact ⟨by simp,fun g h=>by simpa using h⟩
  ·rw [m_ I];refine ⟨?_,fun g h=>?_⟩
   ·rw [Eh];exact C_ _ Y
   ·rw [Eh] at h ⊢;rcases v_.mp h with e|e
    ·exact v_.mpr (.inl e)
    ·exact C_ _ (J g e)
theorem pE (f:p_) (v:V):∀fs:List (p_×V),(rl f v fs).length<=fs.length+1
 |[]=>by simp [rl]
 |(k,x)::r=>by
  have J:=pE f v r;rw [show rl f v ((k,x)::r)=(if k=f then (k,v)::r else (k,x)::rl f v r) from rfl];by_cases I:k=f
  ·rw [f_ I,Ex,Ex];omega
  ·rw [m_ I,Ex,Ex];omega
theorem oA.some_of {o:Option l_} (r:oA (a_ v) o):∃u,o=a_ u/\RelV v u:=by
 cases o with
 |none=>exact (show False from r).elim
 |some u=>exact ⟨u,rfl,r⟩
theorem oA.none_of {o:Option l_} (r:oA c_ o):o=c_:=by
 cases o with
 |none=>rfl
 |some u=>exact (show False from r).elim
theorem vK (r:RelV v u):JT u=d_:=by
 cases v with
 |non=>cases (show u=GV from r);rfl
 |bl b=>cases (show u=JH b from r);rfl
 |int i=>obtain ⟨t,e⟩:=(show ∃t,u=Hj i t from r);cases e;rfl
 |str x=>obtain ⟨t,e⟩:=(show ∃t,u=FJ x t from r);cases e;rfl
 |byt b=>obtain ⟨t,e⟩:=(show ∃t,u=MN b t from r);cases e;rfl
 |flt b=>obtain ⟨t,e⟩:=(show ∃t,u=KH b t from r);cases e;rfl
 |ref a=>cases (show u=D_ a from r);rfl
 |ty n=>cases (show u=GU n from r);rfl
section
variable {fs:List (p_×V)}
theorem tK (I:HOk P w H h) (e:H a=a_ (.ins C dx fs)):∃mA,ObjM h a dx C mA/\(∀f,oA (fs.lookup f) (mA f))/\Hz mA (fs.map (·.1))/\fs.length<=1000/\H dx=a_ (.own a):=by
 obtain ⟨d,z,Y,J,mA,n,r,q⟩:=(show cA P w H h a (.ins C dx fs) from I a _ e)
 exact ⟨mA,⟨J,n,Y⟩,r,q,z,d⟩
end
structure Cls (K:Fg) (C:e_):Prop where
 pg:JG K C Gr=d_
 hd:GO K C=d_
 po:Lq K C=d_
 sa:Ep K (.ref C) "__setattr__"=a_ (a_ (.builtin "object.__setattr__"))
theorem Cls.get (c:Cls K C) (f:p_):JG K C f=d_:=c.pg
def b9 (K:Fg) (C:e_) (f:p_):Prop:=Ep K (.ref C) f=a_ c_
theorem b9.taker {f:p_} (n:b9 K C f):takerIn K C f=a_ c_:=by
 unfold takerIn;rw [show Ep K (.ref C) f=a_ c_ from n];rfl
structure Meth (K:Fg) (C:e_) (m:p_) (f:e_):Prop where
 at_:Ep K (.ref C) m=a_ (a_ (.ref f))
 fn:isFn K (.ref f)=d_
 kp:GD K (.ref f)=d_
section
variable {fs:List (p_×V)} {f:p_} 
theorem AY {b:Bool} {Q:Vp} (I:Inv X pins σ H s) (e:H a=a_ (.ins C dx fs)) (c:Cls X.K C) (n:b9 X.K C f) (l:fs.lookup f=a_ v)
  (h:∀u s',Inv X pins σ H s'->RelV v u->Q u s'):Cb (Eg X.prog X.w) A (LG (.ref a) f b) Q E s:=by
 obtain ⟨mA,O,r,_,_,_⟩:=tK I.hok e;obtain ⟨u,Y,J⟩:=oA.some_of (v:=v) (o:=mA f) (by rw [<- l];exact r f);exact get_map I.kIn O (c.get f) c.hd n Y (vK J) (h u _ (I.tok _) J)
theorem AX {g:e_} {Q:l_×List l_->z_->Prop} (I:Inv X pins σ H s) (e:H a=a_ (.ins C dx fs)) (c:Cls X.K C) (k:Meth X.K C m g) (l:fs.lookup m=c_)
  (h:Q (.ref g,[.ref a]) s):Cb (Eg X.prog X.w) A (JR (.ref a) m pl) Q E s:=by
 obtain ⟨mA,O,r,_,_,_⟩:=tK I.hok e;have J:mA m=c_:=oA.none_of (by rw [<- l];exact r m);exact get_meth I.kIn O (c.get m) k.at_ k.fn J h
theorem Aa (I:Inv X pins σ H s) (e:H a=a_ (.ins C dx fs)) (c:Cls X.K C) (n:b9 X.K C f) (m:fs.length<1000) (d:RelV y u)
  (h:∀s',Inv X pins σ (upd H a (.ins C dx (rl f y fs))) s'->Q () s'):Cb (Eg X.prog X.w) A (MI (.ref a) f u) Q E s:=by
 obtain ⟨mA,O,r,wi,_,J⟩:=tK I.hok e;have i:(fs.map (·.1)).length<=g_:=by rw [t_,Er];omega
 refine set_map I.kIn O c.sa c.po n.taker c.hd wi i fun h' O' Y=>h _ ?_;have hd:∃o,h'.get? dx=a_ o:=let ⟨o,_,_,l,_⟩:=O'.ns;⟨o,l⟩;refine I.write (x:=a) (e:=dx) (by rw [e];exact Fl) (.inr J) (fun b q k z=>(Y.2 b k).trans z) hd ?_;refine ⟨by rw [aq O.ne];exact J,?_,O.ne,O'.obj,_,O'.ns,fun g=>?_,fun g j=>?_⟩
 ·have:=pE f y fs;omega
 ·show oA ((rl f y fs).lookup g) (if g=f then a_ u else mA g);rw [pC];by_cases q:g=f
  ·rw [f_ q,f_ q];exact d
  ·rw [m_ q,m_ q];exact r g
 ·by_cases q:g=f
  ·rw [q];exact (pF f y fs).1
  ·refine (pF f y fs).2 g (wi g fun z=>j ?_);show (if g=f then a_ u else mA g)=c_;rw [m_ q];exact z
theorem Inv.made (I:Inv X pins σ H s):Inv X pins σ (upd (upd H s.heap.objs.size (.own (s.heap.objs.size+1))) (s.heap.objs.size+1) (.ins C s.heap.objs.size []))
  {s with heap:=(s.heap.push Fd).push (F_ C s.heap.objs.size)}:=by
 have e1:(s.heap.push Fd).get? s.heap.objs.size=a_ Fd:=Ei s.heap rfl;have e2:((s.heap.push Fd).push (F_ C s.heap.objs.size)).get? (s.heap.objs.size+1)=a_ (F_ C s.heap.objs.size):=by
  have:=Ei (s.heap.push Fd) (o:=F_ C s.heap.objs.size) rfl
  rwa [FC] at this
 have e3:(s.heap.push Fd).Ns s.heap.objs.size (fun _=>c_):=⟨Fd,#[],_,e1,rfl,(fun e c=>Ek c (by simp)),fun _=>rfl⟩
 have d:=I.laid (a:=s.heap.objs.size) (o:=.own (s.heap.objs.size+1)) (h':=s.heap.push Fd) (t':=s.toks) (fun b u q=>s_ _ q) (u_ _) ⟨_,e1⟩;refine d.laid (a:=s.heap.objs.size+1) (o:=.ins C s.heap.objs.size []) (t':=s.toks) (fun b u q=>s_ _ q) (Nf (FC _ _)) ?_;have J:s.heap.objs.size≠s.heap.objs.size+1:=EA (GZ _);refine ⟨by rw [aq J,ao],FX _,J,e2,fun _=>c_,(KJ e3).at fun o q=>s_ _ q,fun _=>Fl,fun y Y=>Ek rfl Y⟩
theorem E8 {env:JY} {f:p_} {Q:Vp} (J:FR e f env (Eu e env)=Eu e env)
  (h:Cb (Eg prog w) A (Eu e env) (fun o I=>Cb (Eg prog w) A (LG o f d_) Q E I) E s):Cb (Eg prog w) A (Eu (.Attribute e f pos) env) Q E s:=
 Attribute_any_ h (by rw [arm_eval_Attribute,J])
end
def sj (K:Fg) (ta:TE) (f:p_):TE:=fun σ H Q=>ta σ H fun x H1=>∃a C dx fs v,x=.ref a/\H1 a=a_ (.ins C dx fs)/\Cls K C/\b9 K C f/\fs.lookup f=a_ v/\Q v H1
def yY (K:Fg) (ta tv:TE) (f:p_):TS:=fun D σ H=>tv σ H fun y H1=>ta σ H1 fun x H2=>∃a C dx fs,x=.ref a/\H2 a=a_ (.ins C dx fs)/\Cls K C/\b9 K C f/\fs.length<1000 /\
 D.nx σ (upd H2 a (.ins C dx (rl f y fs)))
section
variable {o value:Fe} {f:p_} {tv:TE}
theorem gQ (b:PE X e ta) (d:FR e f X.env (Eu e X.env)=Eu e X.env):PE X (.Attribute e f pos) (sj X.K ta f):=by
 intro pins s σ H Q I h;refine E8 d (thn (b pins s σ H _ I h) fun u o ⟨x,H1,j,J,a,C,dx,fs,v,ex,g,c,n,l,q⟩=>?_);subst ex;obtain rfl:u=D_ a:=J;exact AY j g c n l fun k m i Y=>⟨v,H1,i,Y,q⟩
theorem ib (i:PE X o ta) (hv:PE X value tv) (g:FV value (a_ (.Attribute o f pos')) pos.line X.env=FF b_):PS X (.Assign [.Attribute o f pos'] value pos) (yY X.K ta tv f):=by
 intro pins s σ H D I h;refine JK (thn (hv pins s σ H _ I h) fun u J ⟨y,H1,p,Y,q⟩=>thn (i pins J σ H1 _ p q) fun e t ⟨x,H2,m,b,a,C,dx,fs,ex,j,c,n,l,d⟩=>?_) g;subst ex;obtain rfl:e=D_ a:=b;exact Aa m j c n l Y fun r k=>⟨σ,_,k,d⟩
end
section
variable {Q:Vp} {c:l_} {b:Bool}
inductive Be (K:Fg) (H:Hp):V->l_->Prop where
 |non:Be K H .non (.type "NoneType")
 |bl (x:Bool):Be K H (.bl x) (.type "bool")
 |int (i:Int):Be K H (.int i) (.type "int")
 |str (x:p_):Be K H (.str x) (.type "str")
 |flt (x:UInt64):Be K H (.flt x) (.type "float")
 |lst {a:e_} {xs:List V} (e:H a=a_ (.lst xs)):Be K H (.ref a) (.type "list")
 |frz {a:e_} {o:Io} {xs:List V} (e:H a=a_ (.frz o (.lst xs))):Be K H (.ref a) (.type "list")
 |tup {a:e_} {xs:List V} (e:H a=a_ (.tup xs)):Be K H (.ref a) (.type "tuple")
 |dK {a:e_} {kvs:List (Key×V)} (e:H a=a_ (.dK kvs)):Be K H (.ref a) (.type "dict")
 |dT {a:e_} {kvs:List (List Key×V)} (e:H a=a_ (.dT kvs)):Be K H (.ref a) (.type "dict")
 |ins {a C dx:e_} {fs:List (p_×V)} (e:H a=a_ (.ins C dx fs)) (cl:Cls K C) (ha:Ep K (.ref C) "__class__"=a_ (a_ (.builtin "object.__class__")))
   (hn:Je K (.builtin "object.__class__") "__get__"=a_ (a_ (.builtin "getset_descriptor.__get__"))) (htk:ML K (.builtin "object.__class__")=a_ d_)
   (hm:GC K C (.type "object")=a_ d_):Be K H (.ref a) (.ref C)
theorem D0 {x:V} {t:l_} (I:Inv X pins σ H s) (Y:RelV x u) (ty:Be X.K H x t) (e:ES X.K t c=a_ b) (h:∀tk,Q (.bool b) {s with toks:=tk}) :
  Cb (Eg X.prog X.w) A (Hw (.builtin "isinstance") [u,c]) Q E s:=by
 cases ty with
 |non=>cases (show u=GV from Y);exact Gy KQ I.kIn Fl e (fun z=>nomatch z) h
 |bl y=>cases (show u=JH y from Y);exact Gy KS I.kIn Fl e (fun z=>nomatch z) h
 |int i=>obtain ⟨t,q⟩:=(show ∃t,u=Hj i t from Y);cases q;exact Gy La I.kIn Fl e (fun z=>nomatch z) h
 |str y=>obtain ⟨t,q⟩:=(show ∃t,u=FJ y t from Y);cases q;exact Gy K_ I.kIn Fl e (fun z=>nomatch z) h
 |flt y=>obtain ⟨t,q⟩:=(show ∃t,u=KH y t from Y);cases q;exact Gy PySem.W.kitx_float I.kIn Fl e (fun z=>nomatch z) h
 |@lst a xs d=>
  cases (show u=D_ a from Y);obtain ⟨_,_,n,_,h1⟩:=(show cA X.prog X.w H s.heap a (.lst xs) from I.hok a _ d)
  exact Gy IL I.kIn ⟨_,h1,rfl⟩ e (fun z=>nomatch z) h
 |@frz a j xs d=>
  cases (show u=D_ a from Y);obtain ⟨_,_,_,n,_,h1⟩:=(show cA X.prog X.w H s.heap a (.frz j (.lst xs)) from I.hok a _ d)
  exact Gy IL I.kIn ⟨_,h1,rfl⟩ e (fun z=>nomatch z) h
 |@tup a xs d=>
  cases (show u=D_ a from Y);obtain ⟨_,_,_,p⟩:=(show cA X.prog X.w H s.heap a (.tup xs) from I.hok a _ d)
  obtain ⟨o,h1,h2,_⟩:=p;exact Gy KC I.kIn ⟨o,h1,h2⟩ e (fun z=>nomatch z) h
 |@dK a kvs d=>
  cases (show u=D_ a from Y);obtain ⟨_,_,vs,_,p⟩:=(show cA X.prog X.w H s.heap a (.dK kvs) from I.hok a _ d)
  obtain ⟨o,es,ep,h1,h2,_⟩:=p;exact Gy KR I.kIn ⟨o,h1,h2.1⟩ e (fun z=>nomatch z) h
 |@dT a kvs d=>
  cases (show u=D_ a from Y);obtain ⟨_,_,xs,_,o,es,ep,h1,h2,_⟩:=(show cA X.prog X.w H s.heap a (.dT kvs) from I.hok a _ d)
  exact Gy KR I.kIn ⟨o,h1,h2.1⟩ e (fun z=>nomatch z) h
 |@ins a C dx fs d g m k f l=>
  cases (show u=D_ a from Y);obtain ⟨mA,O,_⟩:=tK I.hok d;obtain ⟨od,J,_⟩:=O.look;exact Gy (PySem.W.kitx_own (g.get _) g.hd m k f l) I.kIn J e (fun z=>nomatch z) h
end
structure i8 (k:Nat) (A:GH):Prop where
 hd:A.handled=c_
 dp:A.depth+3*k+5<recursionLimit
 un:A.units+16*k+200<FK
theorem i8.mono {j k:Nat} (r:i8 k A) (h:j<=k):i8 j A:=⟨r.hd,by have:=r.dp;omega,by have:=r.un;omega⟩
theorem i8.deeper {k:Nat} {A:GH} (r:i8 (k+1) A) (env:JY):i8 k (A.deeper env):=
 ⟨r.hd,by have:=r.dp;show A.depth+1+3*k+5<_;omega,by have:=r.un;show A.units+3+16*k+200<_;omega⟩
theorem AG:(A.under (.builtin "type.__call__" ⟨.ref C::us,kw⟩)).depth=A.depth+1:=by
 first|rfl|simp [Around.under,Code.weight,Code.isCreation,Code.isGuard,Code.isCaller,Code.frames,Code.isFrame,guardIds]
theorem AF:(A.under (.builtin "type.__call__" ⟨.ref C::us,kw⟩)).units=A.units+1:=by
 first|rfl|simp [Around.under,Code.cUnits,Code.frames,Code.isFrame]
theorem i8.make {k:Nat} (r:i8 (k+1) A) (C:e_) (us:List l_) (kw:List (p_×l_)):i8 k (A.under (.builtin "type.__call__" ⟨.ref C::us,kw⟩)):=
 ⟨r.hd,by have:=r.dp;rw [AG];omega,by have:=r.un;rw [AF];omega⟩
theorem i8.depth {k:Nat} {A:GH} (r:i8 k A):A.depth<recursionLimit:=by have:=r.dp;omega
theorem i8.units {k:Nat} {A:GH} (r:i8 k A):A.units+64<FK:=by have:=r.un;omega
noncomputable def dI:TA:=fun _ H Q=>Q [] H
def aM (ta:TE) (I:TA):TA:=fun σ H Q=>ta σ H fun x H1=>I σ H1 fun xs H2=>Q (x::xs) H2
section
variable {t:TA} 
theorem aK:PA X [] dI:=fun _ _ _ _ H Q I h=>HR ⟨[],H,I,.nil,h⟩
theorem au (f:PE X e te) (d:PA X es t) (c: ~~~(i_ (e::es) X.env=(b_,Eu e X.env)::i_ es X.env)):PA X (e::es) (aM te t):=by
 intro pos pins s σ H Q I h;rw [c];show Cb _ _ (MF ((b_,Eu e X.env)::EN pos (i_ es X.env))) _ _ s;refine Gx (thn (f pins s σ H _ I h) fun u J ⟨x,H1,i,Y,b⟩=>?_);exact thn (d pos pins J σ H1 _ i b) fun us j ⟨xs,H2,g,r2,a⟩=>⟨x::xs,H2,g,.cons Y r2,a⟩
def tTup (t:TA):TE:=fun σ H Q=>t σ H fun xs H1=>xs.length<=g_/\∀p,H1 p=c_->Q (.ref p) (upd H1 p (.tup xs))
def yR (t:TA):TE:=fun σ H Q=>t σ H fun xs H1=>xs.length<=g_/\∀p,H1 p=c_->Q (.ref p) (upd H1 p (.lst xs))
theorem vm {a} (h:PA X es t):PE X (.Tuple es a pos) (tTup t):=by
 intro pins s σ H Q I c;refine wpAny_Tuple_spliced (thn (h pos pins s σ H _ I c) fun us J ⟨xs,H1,Y,r,z,q⟩=>⟨by rw [<- r.length];exact z,?_⟩);have d:H1 J.heap.objs.size=c_:=Y.hok.fresh (u_ _);refine ⟨.ref J.heap.objs.size,upd H1 J.heap.objs.size (.tup xs),Y.laid (t':=J.toks) (fun b u e=>s_ _ e) (u_ _) ?_,rfl,q _ d⟩
 exact ⟨z,us,r,⟨_,Ei _ rfl,rfl,_,rfl⟩⟩
theorem j5 (h:PA X es t):PE X (.List es pos) (yR t):=by
 intro pins s σ H Q I a;refine Mm (thn (h pos pins s σ H _ I a) fun us J ⟨xs,H1,Y,r,z,q⟩=>⟨by rw [<- r.length];exact z,?_⟩);have c:H1 J.heap.objs.size=c_:=Y.hok.fresh (u_ _);refine ⟨.ref J.heap.objs.size,upd H1 J.heap.objs.size (.lst xs),Y.laid (t':=J.toks) (fun b u e=>s_ _ e) (u_ _) ?_,rfl,q _ c⟩
 exact ⟨z,us,0,r,Ei _ rfl⟩
end
abbrev Sp:=List V->Hp->VK->XK->Prop
variable {sp:Sp}
abbrev CXT:=List JY->Hp->z_->XK->Vp
variable {CX:CXT}
structure Env0 (P:Fp) (w:Fu) (K:Fg) (mg:Mq) (base:EY) (A:GH) (outer:List JY) (s:z_) (H:Hp):Prop where
 frames:A.frames=a_ outer
 mod:Mod K mg base
 bs:∀b o,base.get? b=a_ o->s.heap.get? b=a_ o/\H b=c_
 bsz:base.objs.size<=s.heap.objs.size
 vO:s.heap.FunFrames base outer
 frf:∀b∈frs outer,H b=c_
 hok:HOk P w H s.heap
 bare:Im s.gens
def CE (outer:List JY) (P:Fp) (w:Fu) (H:Hp) (s:z_) (Q:VK) (u:l_) (s':z_):Prop:=
 ∃v H',s'.os=s.os/\Im s'.gens/\Un (frs outer) [] H H' s.heap s'.heap/\HOk P w H' s'.heap/\RelV v u/\Q v H'
def CR (CX:CXT) (outer:List JY) (P:Fp) (w:Fu) (H:Hp) (s:z_) (Q:VK) (E:XK) (r:LM) (s':z_):Prop:=
 match r with
 |.ok (.ret u)=>CE outer P w H s Q u s'
 |.ok _=>False
 |.error e=>CX outer H s E e s'
structure i9 (P:Fp) (w:Fu) (K:Fg) (mg:Mq) (base:EY) (CX:CXT) (k:Nat) (f:e_) (fd:Gf) (ps:List p_) (sp:Sp):Prop where
 len:∀vs H Q E,sp vs H Q E->vs.length=ps.length
 run:∀(A:GH) (outer:List JY) (s:z_) (H:Hp) (args:Args) (us:List l_) (vs:List V) (Q:VK) (E:XK),i8 k A->Env0 P w K mg base A outer s H->Jf s fd args (ps.zip us)->Vals vs us->sp vs H Q E ->
  Ht (Eg P w) A (.call (.ref f) args) (CR CX outer P w H s Q E) s
theorem Env0.make {base:EY} (e:Env0 P w K mg base A outer s H) (C:e_) (us:List l_) (kw:List (p_×l_)) :
  Env0 P w K mg base (A.under (.builtin "type.__call__" ⟨.ref C::us,kw⟩)) outer s H:=⟨by first|exact e.frames|(simpa [Around.under,Code.envs,Code.isFrame,pushEnvs] using e.frames),e.mod,e.bs,e.bsz,e.vO,e.frf,e.hok,e.bare⟩
section
theorem Inv.env0 (I:Inv X pins σ H s):Env0 X.prog X.w X.K X.mg X.base X.A X.stack s H:=
 ⟨I.ok.frames,I.ok.mod,I.bs,EJ I.ok.bsz I.sz,I.stack,I.BN,I.hok,I.bare⟩
theorem Inv.after {Q:VK} (I:Inv X pins σ H s) (h:CE X.stack X.prog X.w H s Q u s'):EP X pins σ Q u s':=by
 obtain ⟨v,H',os,J,c,a,r,q⟩:=h;obtain ⟨hh,g,d,t,Y⟩:=s';obtain rfl:Y=s.os:=os;exact ⟨v,H',I.call (h':=hh) (g':=g) (d':=d) (t':=t) (ch:=[]) c a J (fun b z=>Ek z (by simp)),r,q⟩
end
noncomputable def gz (sp:Sp) (dvs:List V) (E:XK) (t:TA):TE:=fun σ H Q=>t σ H fun vs H1=>sp (vs++dvs) H1 Q E
def tMeth (C:e_) (m:p_) (sp:Sp) (dvs:List V) (E:XK) (ta:TE) (t:TA):TE:=fun σ H Q=>ta σ H fun x H1=>∃a dx fs,x=.ref a/\H1 a=a_ (.ins C dx fs)/\fs.lookup m=c_ /\
 t σ H1 fun vs H2=>sp (x::(vs++dvs)) H2 Q E
def tMake (C:e_) (sp:Sp) (dvs:List V) (E:XK) (t:TA):TE:=fun σ H Q=>t σ H fun vs H1=>∀x dx,H1 x=c_->H1 dx=c_->dx≠x ->
 sp (.ref x::(vs++dvs)) (upd (upd H1 dx (.own x)) x (.ins C dx [])) (fun v H2=>v=.non/\Q (.ref x) H2) E
def Binds (K:Fg) (fd:Gf) (ps:List p_) (ds:List l_):Prop:=
 ∀(s:z_) (us:List l_),K.In s.heap->(us++ds).length=ps.length->Jf s fd ⟨us,[]⟩ (ps.zip (us++ds))
theorem Binds.all (h:∀us:List l_,us.length=ps.length->IX fd ⟨us,[]⟩=FF (ps.zip us)):Binds K fd ps []:=fun s us _ I=>by
 rw [GK] at I ⊢;exact .of_eq (h us I)
def Passes (CX:CXT) (X:Cx) (E:XK):Prop:=∀(pins:Pn) (σ:St) (H:Hp) (s:z_) (e:l_) (s':z_),Inv X pins σ H s->CX X.stack H s E e s'->X.xe e s'
section
variable {k:Nat} {f:e_} {dvs:List V} {ds:List l_} {E:XK} {apos:M4} {o:Fe} {t:TA}
theorem BV {Q:VK} (F:i9 X.prog X.w X.K X.mg X.base CX k f fd ps sp) (a:i8 k X.A) (c:Binds X.K fd ps ds) (hd:Vals dvs ds) (Y:Passes CX X E)
  (I:Inv X pins σ H s) (r:Vals vs us) (h:sp (vs++dvs) H Q E):Cb (Eg X.prog X.w) X.A (Hw (.ref f) us) (EP X pins σ Q) X.xe s:=by
 have r2:Vals (vs++dvs) (us++ds):=r.append hd;have b:(us++ds).length=ps.length:=by rw [<- r2.length];exact F.len _ _ _ _ h
 refine IC (Gj (F.run X.A X.stack s H ⟨us,[]⟩ (us++ds) (vs++dvs) Q E a I.env0 (c s us I.kIn b) r2 h) fun r s' J=>?_);cases r with
 |error e=>exact Y pins σ H s e s' I J
 |ok fl=>
  cases fl with
  |ret u=>exact I.after J
  |next=>exact EZ J
  |brk=>exact EZ J
  |cont=>exact EZ J
theorem ph (F:i9 X.prog X.w X.K X.mg X.base CX k f fd ps sp) (c:i8 k X.A) (i:Gl X x) (d:X.mg x=a_ (.ref f)) (g:GD X.K (.ref f)=d_) (l:Binds X.K fd ps ds) (hd:Vals dvs ds) (b:Passes CX X E)
  (m:PA X (e::es) t) (Y:((x==("__debug__":p_))=b_)⁻¹) (j: ~~~(i_ (e::es) X.env=(b_,Eu e X.env)::i_ es X.env)) (J: ~~~((EN pos (i_ es X.env)).any (·.1)=b_)) :
  PE X (.Call (.Name x p) (e::es) [] pos) (gz sp dvs E t):=by
 intro pins s σ H Q I h;refine FP (iW I i d ?_ Y);refine Js (h₀:=X.base) I.ok.mod.kin g (thn (m pos pins s σ H _ I h) fun us n ⟨vs,H1,a,r,q⟩=>⟨a.kIn,?_⟩) j J;exact BV F c l hd b a r q
theorem pe_meth0 (j:PE X o ta) (c:Cls X.K C) (b:Meth X.K C m f) (F:i9 X.prog X.w X.K X.mg X.base CX k f fd ps sp) (i:i8 k X.A) (n:Binds X.K fd ps ds) (hd:Vals dvs ds) (e:Passes CX X E)
  (g: ~~~(Eu (.Call (.Attribute o m apos) [] [] pos) X.env=(do
   let Y <- Eu o X.env
   JC apos.atName
   let (f,first) <- HU [Y] (JR Y m pl)
   Kz pos f first (EN pos (i_ [] X.env)) (GB pos (Fz [] X.env))))) :
  PE X (.Call (.Attribute o m apos) [] [] pos) (tMeth C m sp dvs E ta dI):=by
 intro pins s σ H Q I h;refine J5 (pl:=pl) (thn (j pins s σ H _ I h) fun u r ⟨x,H1,J,d,a,dx,fs,ex,p,l,q⟩=>?_) g;subst ex;obtain rfl:u=D_ a:=d;refine AX J p c b l ?_;exact Ko (first:=[.ref a]) J.kIn b.kp (BV (us:=[.ref a]) (vs:=[.ref a]) F i n hd e J (.cons rfl .nil) q)
structure Mk (K:Fg) (C f:e_):Prop where
 makes:LJ K C=d_
 init:Ep K (.ref C) "__init__"=a_ (a_ (.ref f))
 fn:isFn K (.ref f)=d_
 kp:GD K (.ref C)=d_
theorem yZ {Q:VK} (M:Mk X.K C f) (F:i9 X.prog X.w X.K X.mg X.base CX k f fd ps sp) (g:i8 (k+1) X.A) (j:Binds X.K fd ps ds) (hd:Vals dvs ds)
  (d:Passes CX X E) (I:Inv X pins σ H s) (r:Vals vs us)
  (h:∀x dx,H x=c_->H dx=c_->dx≠x->sp (.ref x::(vs++dvs)) (upd (upd H dx (.own x)) x (.ins C dx [])) (fun v H2=>v=.non/\Q (.ref x) H2) E) :
  Cb (Eg X.prog X.w) X.A (Hw (.ref C) us) (EP X pins σ Q) X.xe s:=by
 have a:=h (s.heap.objs.size+1) s.heap.objs.size (I.hok.fresh (EK _)) (I.hok.fresh (u_ _)) (EA (GZ _));have Y:=Inv.made (C:=C) I;have r2:Vals (V.ref (s.heap.objs.size+1)::(vs++dvs)) (D_ (s.heap.objs.size+1)::(us++ds)):=.cons rfl (r.append hd);have i:(D_ (s.heap.objs.size+1)::us++ds).length=ps.length:=by
  have e:=r2.length;rw [F.len _ _ _ _ a] at e;exact e.symm
 refine IC (make_map (f:=f) I.kIn M.makes M.init (Ge.mp M.fn) (Gj (F.run _ X.stack _ _ ⟨D_ (s.heap.objs.size+1)::us,[]⟩ (D_ (s.heap.objs.size+1)::(us++ds)) _ _ E (g.make C us [])
  (Y.env0.make C us []) (j _ (D_ (s.heap.objs.size+1)::us) Y.kIn i) r2 a) fun r s' J=>?_))
 cases r with
 |error e=>exact d pins σ _ _ e s' Y J
 |ok fl=>
  cases fl with
  |ret u=>
   obtain ⟨v,H',m,b,l,c⟩:=Y.after J;subst l;exact ⟨b,⟨V.ref (s.heap.objs.size+1),H',m,rfl,c⟩⟩
  |next=>exact EZ J
  |brk=>exact EZ J
  |cont=>exact EZ J
theorem xG (M:Mk X.K C f) (F:i9 X.prog X.w X.K X.mg X.base CX k f fd ps sp) (c:i8 (k+1) X.A) (g:Gl X x) (d:X.mg x=a_ (.ref C)) (j:Binds X.K fd ps ds) (hd:Vals dvs ds) (b:Passes CX X E)
  (l:PA X (e::es) t) (Y:((x==("__debug__":p_))=b_)⁻¹) (i: ~~~(i_ (e::es) X.env=(b_,Eu e X.env)::i_ es X.env)) (J: ~~~((EN pos (i_ es X.env)).any (·.1)=b_)) :
  PE X (.Call (.Name x p) (e::es) [] pos) (tMake C sp dvs E t):=by
 intro pins s σ H Q I h;refine FP (iW I g d ?_ Y);refine Js (h₀:=X.base) I.ok.mod.kin M.kp (thn (l pos pins s σ H _ I h) fun us m ⟨vs,H1,a,r,q⟩=>⟨a.kIn,?_⟩) i J;exact yZ M F c j hd b a r q
theorem pe_make0 (M:Mk X.K C f) (F:i9 X.prog X.w X.K X.mg X.base CX k f fd ps sp) (a:i8 (k+1) X.A) (c:Gl X x) (b:X.mg x=a_ (.ref C)) (d:Binds X.K fd ps ds) (hd:Vals dvs ds) (Y:Passes CX X E)
  (J:((x==("__debug__":p_))=b_)⁻¹):PE X (.Call (.Name x p) [] [] pos) (tMake C sp dvs E dI):=by
 intro pins s σ H Q I h;refine FP (iW I c b ?_ J);exact Ko I.kIn M.kp (yZ (us:=[]) M F a d hd Y I .nil h)
end
structure fK (N P:List p_) (sc:JI):Prop where
 kind:sc.kind=.function
 co:sc.isCoroutine=b_
 gen:sc.isGenerator=b_
 nd:N.Nodup
 pre:N.take P.length=P
 par:∀x∈P,sc.names.lookup x=a_ .local\/sc.names.lookup x=a_ .cell
 nofree:∀y∈sc.names,y.2≠.free
theorem wo {J:p_->Option GW} {x:p_}:∀{I:List (p_×l_)} {m:Mq},(∀v,(x,v)∉I)->Ln J I m x=m x
 |[],_,_=>rfl
 |(n,v)::r,m,h=>by
  unfold Ln;rw [wo fun w hw=>h w (C_ _ hw)];split
  ·have:x≠n:=by rintro rfl;exact h v EB
   simp [this]
  ·rfl
theorem wt {J:p_->Option GW} {x:p_}:∀{I:List (p_×l_)} {m:Mq},(∀v,(x,v)∉I)->Lo J I m x=m x
 |[],_,_=>rfl
 |(n,v)::r,m,h=>by
  unfold Lo;rw [wt fun w hw=>h w (C_ _ hw)];split
  ·rfl
  ·have:x≠n:=by rintro rfl;exact h v EB
   simp [this]
theorem wq {I:p_->Option GW} {x:p_} {v:l_}:∀{P:List p_} {vs:List l_} {i:Nat} {m:Mq},P.Nodup->P[i]? =a_ x->vs[i]? =a_ v->I x=a_ .local ->
  Ln I (P.zip vs) m x=a_ v
 |[],_,_,_,_,h,_,_=>by simp at h
 |_::_,[],_,_,_,_,h,_=>by simp at h
 |p::P,w::vs,0,m,J,h1,h2,Y=>by
  simp at h1 h2;subst h1;subst h2;show Ln I ((p,w)::P.zip vs) m p=_;unfold Ln;rw [wo fun v hv=>(G4.mp J).1 (Jw hv).1,f_ Y];simp
 |p::P,w::vs,i+1,m,J,h1,h2,Y=>by
  show Ln I ((p,w)::P.zip vs) m x=_;unfold Ln;exact wq (i:=i) (G4.mp J).2 (by simpa using h1) (by simpa using h2) Y
theorem wu {I:p_->Option GW} {x:p_} {v:l_}:∀{P:List p_} {vs:List l_} {i:Nat} {m:Mq},P.Nodup->P[i]? =a_ x->vs[i]? =a_ v->I x≠a_ .local ->
  Lo I (P.zip vs) m x=a_ v
 |[],_,_,_,_,h,_,_=>by simp at h
 |_::_,[],_,_,_,_,h,_=>by simp at h
 |p::P,w::vs,0,m,J,h1,h2,Y=>by
  simp at h1 h2;subst h1;subst h2;show Lo I ((p,w)::P.zip vs) m p=_;unfold Lo;rw [wt fun v hv=>(G4.mp J).1 (Jw hv).1,m_ Y];simp
 |p::P,w::vs,i+1,m,J,h1,h2,Y=>by
  show Lo I ((p,w)::P.zip vs) m x=_;unfold Lo;exact wu (i:=i) (G4.mp J).2 (by simpa using h1) (by simpa using h2) Y
noncomputable def start (N:List p_) (vs:List V):St:=vs.map a_++Fv (N.length-vs.length) c_
noncomputable def yx (CX:CXT) (P:Fp) (w:Fu) (K:Fg) (mg:Mq) (base:EY) (N:List p_) (qual:p_) (scope:JI) (f:e_) (cd:l_) (A:GH) (outer:List JY) (s:z_) (H:Hp) (E:XK):Cx where
 prog:=P
 w:=w
 K:=K
 mg:=mg
 base:=base
 A:=A.deeper (GR qual scope s.heap.objs.size f cd)
 N:=N
 s₀:=s
 H₀:=H
 env:=GR qual scope s.heap.objs.size f cd
 outer:=outer
 stack:=GR qual scope s.heap.objs.size f cd::outer
 ex:=[]
 calm:=d_
 fn:=fun _=>d_
 pn:=[]
 xe:=fun e s'=>Cb (Eg P w) (A.deeper (GR qual scope s.heap.objs.size f cd)) (MJ (GR qual scope s.heap.objs.size f cd) e) (fun _ I=>CX outer H s E e I) (fun J I=>CX outer H s E J I) s'
theorem zZ {sc:JI} (h:sc.names.lookup x=a_ .cell):∃c,(FA n sc.names []).lookup x=a_ c:=by
 have q:=Gp sc.names n [] (.inl h);exact Gg.mp q
theorem D1 {base:EY} {f:e_} {cd:l_} {g:z_} {E:XK} 
  (S:fK N ps scope) (hd:A.handled=c_) (e0:Env0 P w K mg base A outer s H) (B:vs.length=ps.length) (r:Vals vs us)
  (x:InCallC s s.heap.objs.size (Ln (GR qual scope s.heap.objs.size f cd).kindOf (ps.zip us) fun _=>c_) (FA (s.heap.objs.size+1) scope.names []) (Lo (GR qual scope s.heap.objs.size f cd).kindOf (ps.zip us) fun _=>c_) g) :
  Inv (yx CX P w K mg base N qual scope f cd A outer s H E) [] (start N vs) H g:=by
 have o:ps.length<=N.length:=by have:=GN Jv S.pre;rw [Gk] at this;omega
 obtain ⟨h1,tk,rfl,l⟩:=x.done;have I:∀b:e_,b∉(yx CX P w K mg base N qual scope f cd A outer s H E).ex:=fun b z=>Ek (show b∈([]:List e_) from z) (by simp);refine ⟨⟨e0.mod,S.kind,rfl,rfl,u_ _,fun y z c h1 h2=>?_,fun y J=>?_,fun y c _ h=>?_,fun _=>hd,Around.frames_deeper e0.frames,.inr ⟨rfl,rfl⟩,fun b z=>Ek z (I b),e0.bs,e0.bsz,fun b _ _=>I b,fun b z=>Ek z (I b),e0.vO,e0.frf⟩,
  rfl,e0.bare,Un.kept l,⟨_,x.toInCall.ns,fun i y v h1 h2 C=>?_⟩,fun y c h=>⟨_,x.cell y c h⟩,e0.hok.fresh (u_ _),fun y c h=>?_,fun p d=>Ek (show p∈([]:Pn) from d) (by simp),e0.hok.kept l,?_⟩
 ·exact name_of_addr x.apart (Fq h1) (Fq h2)
 ·have J:scope.names.lookup y=a_ .cell\/scope.names.lookup y=a_ .free:=J;rcases J with J|J
  ·exact zZ J
  ·exact Ek rfl (S.nofree _ (Fq J))
 ·exact HF (x.above y c (Fq h))
 ·have hi:i<vs.length:=by
   unfold start at h2;by_cases hi:i<vs.length
   ·exact hi
   ·rw [GY (by simpa using hi)] at h2;rw [Ic] at h2;split at h2<;>cases h2
  have t:vs[i]? =a_ v:=by
   unfold start at h2;rw [Gb (by simpa using hi),E_] at h2;cases e:vs[i]? with
   |none=>rw [e] at h2;cases h2
   |some a=>rw [e] at h2;cases h2;rfl
  obtain ⟨u,j,m⟩:=r.get t;have d:ps[i]? =a_ y:=by
   rw [<- S.pre,List.getElem?_take_of_lt (by omega)];exact h1
  have Y:ps.Nodup:=by rw [<- S.pre];exact S.nd.sublist (List.take_sublist _ _)
  refine ⟨u,m,?_⟩
  rcases S.par y (ER d) with k|k
  ·exact .inl ⟨k,wq Y d j k⟩
  ·obtain ⟨c,e⟩:=zZ (n:=s.heap.objs.size+1) k;refine .inr ⟨.inl k,c,e,?_⟩;have q:=x.cell y c e;rw [wu Y d j (by show scope.names.lookup y≠_;rw [k];decide)] at q;exact q
 ·exact e0.hok.fresh (HF (x.above y c (Fq h)))
 ·unfold start;show _=N.length;rw [Ey,t_,FH];omega
theorem fn_of {base:EY} {k:Nat} {f:e_} {Y:Arguments} {B kV doc pm cdv ct oc:l_} {an od:Option e_}
  {osl:Array (Option l_)} (F:K.lookup f=a_ ⟨oc,od,.func (Ji name qual Y body scope B kV doc pm an cdv ct),osl⟩) (p:JU K cdv qual=d_) (S:fK N ps scope)
  (g:∀vs H Q E,sp vs H Q E->vs.length=ps.length)
  (c:∀(A:GH) (outer:List JY) (s:z_) (H:Hp) (vs:List V) (Q:VK) (E:XK),i8 k (A.deeper (GR qual scope s.heap.objs.size f cdv))->sp vs H Q E ->
   ∃t,PSs (yx CX P w K mg base N qual scope f cdv A outer s H E) body t/\t {nx:=fun _ H'=>Q .non H',rt:=Q} (start N vs) H) :
  i9 P w K mg base CX (k+1) f (Ji name qual Y body scope B kV doc pm an cdv ct) ps sp:=by
 refine ⟨g,fun A outer s H C us vs Q E m e0 U r h=>?_⟩
 have R:=g _ _ _ _ h;have D:K.In s.heap:=e0.mod.kin.keeps fun b o e=>(e0.bs b o e).1;have l:s.heap.NoLimit:=e0.mod.nolimit.keeps fun b o e=>(e0.bs b o e).1;have a:∀y∈ps.zip us,scope.names.lookup y.1=a_ .local\/(scope.names.lookup y.1=a_ .cell/\((FA (s.heap.objs.size+1) scope.names []).lookup y.1).isSome=d_):=fun ⟨n,v⟩ G=>by
  rcases S.par n (Jw G).1 with q|q
  ·exact .inl q
  ·exact .inr ⟨q,Gp _ _ _ (.inl q)⟩
 refine codeAny_call_function m.depth (D _ _ F) rfl S.co S.gen rfl (PySem.W.codeRec_of D p) (U _ _ _ _ ?_);refine wpAny_newFunctionEnv_cells S.kind a fun env T z x=>?_;subst T;refine ⟨l.keeps x.toInCall.keep,codeAny_func ?_⟩
 obtain ⟨t,L,O⟩:=c A outer s H vs Q E (m.deeper _) h;have I:Inv (yx CX P w K mg base N qual scope f cdv A outer s H E) [] (start N vs) H z:=D1 S m.hd e0 R r x;refine EV (L [] z (start N vs) H _ I O) (fun fl s' d=>?_) fun e s' d=>d;have i:∀{σ':St} {H':Hp} {v:V} {u:l_},Inv (yx CX P w K mg base N qual scope f cdv A outer s H E) [] σ' H' s'->RelV v u->Q v H'->CE outer P w H s Q u s':=
  fun {σ' H' v u} J j q=>⟨v,H',J.os,J.bare,J.base,J.hok,j,q⟩
 cases fl with
 |ret u=>
  obtain ⟨v,σ',H',J,j,q⟩:=d;exact i J j q
 |next=>
  obtain ⟨σ',H',J,q⟩:=d;exact i (v:=V.non) (u:=GV) J rfl q
 |brk=>
  obtain ⟨_,_,_,q⟩:=d;exact EZ q
 |cont=>
  obtain ⟨_,_,_,q⟩:=d;exact EZ q
section
variable {t:TA} {id T:String} {r:List V->Hp->VK->Prop}
noncomputable def tCB (r:List V->Hp->VK->Prop) (t:TA):TE:=fun σ H Q=>t σ H fun vs H1=>r vs H1 Q
theorem ic (j:dQ X (.builtin id) r) (g:Gl X x) (f:X.mg x=c_) (hv:F8 x=a_ (.builtin id)) (k:PA X (e::es) t) (d:(x≠"__name__")⁻¹) (Y:((x==("__debug__":p_))=b_)⁻¹)
  (i: ~~~(i_ (e::es) X.env=(b_,Eu e X.env)::i_ es X.env)) (J: ~~~((EN pos (i_ es X.env)).any (·.1)=b_)):PE X (.Call (.Name x p) (e::es) [] pos) (tCB r t):=by
 intro pins s σ H Q I h;refine FP (rA I g f hv ?_ d Y);exact PyProof.Rows.callWith_builtin1 (thn (k pos pins s σ H _ I h) fun us a ⟨vs,H1,l,b,c⟩=>j pins a σ H1 vs us Q l b c) i J
theorem ji (j:dQ X (.type T) r) (g:Gl X x) (f:X.mg x=c_) (hv:F8 x=a_ (.type T)) (k:PA X (e::es) t) (d:(x≠"__name__")⁻¹) (Y:((x==("__debug__":p_))=b_)⁻¹)
  (i: ~~~(i_ (e::es) X.env=(b_,Eu e X.env)::i_ es X.env)) (J: ~~~((EN pos (i_ es X.env)).any (·.1)=b_)):PE X (.Call (.Name x p) (e::es) [] pos) (tCB r t):=by
 intro pins s σ H Q I h;refine FP (rA I g f hv ?_ d Y);exact Hi (thn (k pos pins s σ H _ I h) fun us a ⟨vs,H1,l,b,c⟩=>j pins a σ H1 vs us Q l b c) i J
end
end L2
namespace HT
open PySem PyProof.Rows
section
open PySem.SeqAt
open PySem.AutoSeq1 (wpAny_loadPart')
open PySem.MeetsSeq PySem.MeetsSeq2 PySem.MeetsSeq3
end
section
variable {prog:Fp} {w:Fu} {A:GH} {E:Vp} {s:z_}
theorem cat_tup {t b:e_} {vs ws:List l_} {Q:Vp} (j:MU s.heap t vs.toArray) (k:MU s.heap b ws.toArray) (hv:vs≠[])
  (h1:ws=[]->Q (.ref t) s) (h2:ws≠[]->Q (.ref s.heap.objs.size) {s with heap:=s.heap.push {cls:=.type "tuple",data:=.seq (vs++ws).toArray}})
  (hsz:vs.length+ws.length<=g_):Cb (Eg prog w) A (FN .Add (.ref t) (.ref b)) Q E s:=by
 obtain ⟨⟨cls,dd,data,g⟩,d,h,n,hd⟩:=id j;obtain ⟨⟨i,c,f,J⟩,I,a,n2,Y⟩:=id k;simp only at h hd a Y;subst h hd a Y;have e:vs.toArray++ws.toArray=(vs++ws).toArray:=by simp
 by_cases hw:ws=[]
 ·exact JE ⟨_,d,rfl⟩ ⟨_,I,rfl⟩ JQ K8 H_ HV (HM _ _)
   (tuple_addW1 t b vs.toArray ws.toArray n n2 dd c g J (by simpa using hv) (by simp [hw])) ⟨d,I,h1 hw⟩
 ·refine JE ⟨_,d,rfl⟩ ⟨_,I,rfl⟩ JQ K8 H_ HV (HM _ _)
   (tuple_addW2 t b vs.toArray ws.toArray n n2 dd c g J (by simpa using hv) (by simpa using hw) (by rw [B_,B_];exact hsz)) ⟨d,I,?_⟩
  rw [e];exact h2 hw
def sIx (n d:Nat):Option Int->Nat
 |none=>d
 |some v=>if v<0 then (v+(n:Int)).toNat else min v.toNat n
theorem sIx_le (n d:Nat) (hd:d<=n) (o:Option Int):sIx n d o<=n:=by
 cases o with
 |none=>exact hd
 |some v=>
  show (if v<0 then (v+(n:Int)).toNat else min v.toNat n)<=n;by_cases hv:v<0
  ·rw [f_ hv];omega
  ·rw [m_ hv];exact Nat.min_le_right _ _
theorem DM (v:Int) (n d:Nat):(if v<0 then max (v+(n:Int)) 0 else min v (n:Int))=((sIx n d (a_ v):Nat):Int):=by
 show (if v<0 then max (v+(n:Int)) 0 else min v (n:Int))=(((if v<0 then (v+(n:Int)).toNat else min v.toNat n):Nat):Int)
 by_cases hv:v<0
 ·simp only [f_ hv];omega
 ·simp only [m_ hv];omega
theorem Bd (lo hi:Option Int) (n:Nat):Hv lo hi 1 (n:Int)=(((sIx n 0 lo:Nat):Int),((sIx n n hi:Nat):Int)):=by
 have h1:¬((1:Int)<0):=by omega
 unfold Hv;simp only [h1,K3];refine Prod.ext ?_ ?_
 ·cases lo with
  |none=>rfl
  |some v=>exact DM v n 0
 ·cases hi with
  |none=>rfl
  |some v=>exact DM v n n
theorem Au (i j:Nat):GJ (i:Int) (j:Int) 1=j-i:=by
 unfold GJ;have h1:(1:Int)>0:=by omega
 simp only [h1,J0,Int.ediv_one];split<;>omega
theorem r9 {v:l_} {o:Option Int} {Q:Option Int->z_->Prop} (p:JW v o) (h:Q o s):Cb (Eg prog w) A (Nb v) Q E s:=by
 cases p with
 |none=>exact slicePart_none h
 |int i t=>exact slicePart_int h
theorem nM {b:e_} {a Y:l_} {lo hi:Option Int} {n:Nat} {Q:Int×Int×Nat->z_->Prop} (d:s.heap.IsSliceOf b a Y .none) (pl:JW a lo) (c:JW Y hi)
  (h:Q (((sIx n 0 lo:Nat):Int),1,sIx n n hi-sIx n 0 lo) s):Cb (Eg prog w) A (IM (.ref b) (FF (n:Int))) Q E s:=by
 obtain ⟨os,I,e,J⟩:=id d;unfold IM Nc;refine k_ (k_ (Hg I J (x:=a) rfl (k_ (Hg I J (x:=Y) rfl (k_ (Hg I J (x:=.none) rfl (A_ ?_)))))));refine k_ (slicePart_none ?_);show Cb _ _ (if ((1:Int)==0)=d_ then _ else _) _ _ s;rw [m_ (by decide)];refine k_ (r9 pl (k_ (r9 c (k_ (A_ ?_)))));show Cb _ _ (match Hv lo hi 1 (n:Int) with|(lo,hi)=>FF (lo,(1:Int),GJ lo hi 1)) _ _ s;rw [Bd lo hi n];show Cb _ _ (FF (((sIx n 0 lo:Nat):Int),(1:Int),GJ ((sIx n 0 lo:Nat):Int) ((sIx n n hi:Nat):Int) 1)) _ _ s;rw [Au];exact A_ h
theorem pick_gen (xs:Array l_) (i k:Nat):((Fm k).filterMap fun (m:Nat)=>xs[((i:Int)+(m:Int)*1).toNat]?).toArray=((xs.toList.drop i).take k).toArray:=by
 have e:(fun (m:Nat)=>xs[((i:Int)+(m:Int)*1).toNat]?)=fun m=>xs[i+m]?:=by
  funext m
  have:((i:Int)+(m:Int)*1).toNat=i+m:=by omega
  rw [this]
 rw [e];have:=pick_run xs i k;rw [List.filterMap_map] at this;have e2:((fun x=>xs[x]?)∘fun x=>i+x)=fun m=>xs[i+m]?:=rfl;rw [e2] at this;rw [this]
theorem mJ {t Y:e_} {I:Array l_} {f e:l_} {lo hi:Option Int} {Q:Vp} (J:MU s.heap t I) (g:s.heap.IsSliceOf Y f e .none) (pl:JW f lo) (i:JW e hi)
  (hw:¬(sIx I.size 0 lo=0/\sIx I.size I.size hi=I.size))
  (h:Q (.ref s.heap.objs.size) {s with heap:=s.heap.push {cls:=.type "tuple",data:=.seq ((I.toList.drop (sIx I.size 0 lo)).take (sIx I.size I.size hi-sIx I.size 0 lo)).toArray}})
  (hsz:I.size<=g_):Cb (Eg prog w) A (Jd (.ref t) (.ref Y)) Q E s:=by
 have htake:sizeOk (.seq ((I.toList.drop (sIx I.size 0 lo)).take (sIx I.size I.size hi-sIx I.size 0 lo)).toArray):=by
  show ((I.toList.drop (sIx I.size 0 lo)).take (sIx I.size I.size hi-sIx I.size 0 lo)).toArray.size<=g_;rw [B_,Gk,LX,Fs];omega
 have n:sIx I.size I.size hi<=I.size:=sIx_le _ _ (u_ _) hi;obtain ⟨os,a,c,j⟩:=id g;have d:s.TypeIs (.ref Y) "slice":=⟨os,a,c⟩
 unfold Jd
 try with_reducible refine Ha ?_
 first|refine k_ (A_ ?_)|skip
 refine k_ (wpAny_sequenceKey J.typeIs (by decide) ?_);refine k_ (wpAny_callSpecial?_slot (name:=h_ "__getitem__") J.typeIs Gu
  (JP Gu J.typeIs entry_tuple_getitem ?_ (args_tuple_getitem _ _)))
 show Cb _ _ (M9 (.ref t) >>= _) _ _ s;refine k_ (tupleItemsOf_ J ?_);refine k_ (wpAny_typeOf d ?_);rw [f_ (by decide)];refine k_ (nM g pl i ?_);have b:¬((((sIx I.size 0 lo:Nat):Int)==0&&(1:Int)==1&&(sIx I.size I.size hi-sIx I.size 0 lo)==I.size)=d_):=by
  intro q;rw [n_,n_] at q;have l:((sIx I.size 0 lo:Nat):Int)=0:=Ga q.1.1;have k:sIx I.size I.size hi-sIx I.size 0 lo=I.size:=Ga q.2;exact hw ⟨by omega,by omega⟩
 show Cb _ _ (if (((sIx I.size 0 lo:Nat):Int)==0&&(1:Int)==1&&(sIx I.size I.size hi-sIx I.size 0 lo)==I.size)=d_ then _ else _) _ _ s;rw [m_ b,pick_gen]
 first
  |exact k_ (m:=M_ _) (JA (A_ ⟨_,rfl,A_ h⟩) htake)
  |exact wpAny_bind (m:=Builtin.Tuple.tupleExact _) (wpAny_newObj_type (wpAny_bind (wpAny_pure (wpAny_pure ⟨_,rfl,wpAny_pure h⟩))) htake)
  |exact wpAny_bind (wpAny_bind (m:=Builtin.Tuple.tupleExact _) (wpAny_newObj_type (wpAny_pure (wpAny_pure ⟨_,rfl,wpAny_pure h⟩)) htake))
  |exact wpAny_bind (wpAny_bind (m:=Builtin.Tuple.tupleExact _) (wpAny_newObj_type (wpAny_pure ⟨_,rfl,wpAny_pure h⟩) htake))
end
end HT
namespace L2
open PySem PySem.Spec PyProof.Rows
variable {X:Cx} {e:Fe} {pos:M4} {r:V->Option Int->Option Int->Hp->VK->Prop} {α:Type} {n:Nat} {i:Int} {pins:Pn} {σ:St} {H:Hp} {s:z_} {its its':List l_} {T:String}
abbrev TO:=St->Hp->(Option Int->Hp->Prop)->Prop
def PO (X:Cx) (e:Option Fe) (t:TO):Prop:=
 ∀(pins:Pn) (s:z_) (σ:St) (H:Hp) (Q:Option Int->Hp->Prop),Inv X pins σ H s->t σ H Q ->
  Cb (Eg X.prog X.w) X.A (evalPart e X.env) (fun u s'=>∃o H',Inv X pins σ H' s'/\JW u o/\Q o H') X.xe s
noncomputable def tNoPart:TO:=fun _ H Q=>Q c_ H
noncomputable def tPart (t:TE):TO:=fun σ H Q=>t σ H fun x H1=>∃i,x=.int i/\Q (a_ i) H1
theorem intsAre_of {ns:List Int}:∀{us:List l_},Vals (ns.map V.int) us->Kq us ns:=by
 induction ns with
 |nil=>intro us r;rw [GA] at r;cases r;exact .nil
 |cons n ns J=>
  intro us r;rw [Eh] at r;cases r with
  |cons I r2=>
   obtain ⟨t,e⟩:=I;subst e;exact .cons n t (J r2)
section
variable {te:TE} {lo hi:Option Fe} {tl th:TO} {p2:M4}
theorem po_none:PO X c_ tNoPart:=by
 intro pins s σ H Q I h;rw [evalPart_none];exact A_ ⟨c_,H,I,.none,h⟩
theorem po_some (h:PE X e te):PO X (a_ e) (tPart te):=by
 intro pins s σ H Q I hw;rw [evalPart_some];refine thn (h pins s σ H _ I hw) fun u b ⟨x,H1,a,J,Y⟩=>?_;obtain ⟨i,rfl,q⟩:=Y;obtain ⟨t,rfl⟩:=J;exact ⟨a_ i,H1,a,.int i t,q⟩
def SlR (X:Cx) (r:V->Option Int->Option Int->Hp->VK->Prop):Prop:=
 ∀(pins:Pn) (s:z_) (σ:St) (H:Hp) (x:V) (v J I:l_) (lo hi:Option Int) (Y:e_) (Q:VK),Inv X pins σ H s->RelV x v->s.heap.IsSliceOf Y J I .none->JW J lo->JW I hi->r x lo hi H Q ->
  ∃T id,Mn (.type T) "__getitem__"=FF (a_ (.builtin id))/\s.TypeIs v T/\Cb (Eg X.prog X.w) X.A (Jd v (.ref Y)) (EP X pins σ Q) X.xe s
theorem SlR.or {r':V->Option Int->Option Int->Hp->VK->Prop} (h:SlR X r) (h':SlR X r'):SlR X (fun x lo hi H Q=>r x lo hi H Q\/r' x lo hi H Q):=by
 intro pins s σ H x v Y J lo hi a Q I b d pl c q;rcases q with q|q
 ·exact h pins s σ H x v Y J lo hi a Q I b d pl c q
 ·exact h' pins s σ H x v Y J lo hi a Q I b d pl c q
noncomputable def tSl (r:V->Option Int->Option Int->Hp->VK->Prop) (te:TE) (tl th:TO):TE:=fun σ H Q=>te σ H fun x H1=>tl σ H1 fun l H2=>th σ H2 fun u I=>r x l u I Q
theorem pe_slice (p:SlR X r) (y:PE X e te) (t:PO X lo tl) (n:PO X hi th):PE X (.Subscript e (.Slice lo hi c_ p2) pos) (tSl r te tl th):=by
 intro pins s σ H Q I h;refine Mu (thn (y pins s σ H _ I h) fun v f ⟨x,H1,D,g,k⟩=>?_);refine wpAny_Slice (thn (t pins f σ H1 _ D k) fun a d ⟨l,H2,C,pl,j⟩=>thn (n pins d σ H2 _ C j) fun Y J ⟨u,c,B,m,i⟩=>?_);rw [evalPart_none];refine A_ ?_;have A:Inv X pins σ c {J with heap:=J.heap.push {cls:=.type "slice",data:=.fields #[a,Y,.none]}}:=B.kept (t':=J.toks) fun b E q=>s_ _ q;obtain ⟨T,id,z,o,w⟩:=p pins {J with heap:=J.heap.push {cls:=.type "slice",data:=.fields #[a,Y,.none]}} σ c x v a Y l u J.heap.objs.size Q A g (MR ..) pl m i;show Cb (Eg X.prog X.w) X.A (Le e (.Slice lo hi c_ p2) v (.ref J.heap.objs.size)) (EP X pins σ Q) X.xe {J with heap:=J.heap.push {cls:=.type "slice",data:=.fields #[a,Y,.none]}};exact tail_any (ops:=[.ref J.heap.objs.size,v]) o z w (by with_unfolding_all rfl)
def cutV (xs:List V) (lo hi:Option Int):List V:=(xs.drop (HT.sIx xs.length 0 lo)).take (HT.sIx xs.length xs.length hi-HT.sIx xs.length 0 lo)
theorem qe (xs:List V) (lo hi:Option Int):(cutV xs lo hi).length<=xs.length:=by
 unfold cutV;rw [Gk,LX];omega
def rSlT (K:Fg):V->Option Int->Option Int->Hp->VK->Prop:=fun x lo hi H Q=>∃a xs,x=.ref a/\SqT K H a xs /\
 ¬(HT.sIx xs.length 0 lo=0/\HT.sIx xs.length xs.length hi=xs.length)/\∀p,H p=c_->Q (.ref p) (upd H p (.tup (cutV xs lo hi)))
theorem sl_tup:SlR X (rSlT X.K):=by
 intro pins s σ H x v j i lo hi k Q I d g pl e h;obtain ⟨a,xs,rfl,f,hw,q⟩:=h;cases d;obtain ⟨its,r,c,Y⟩:=I.tuple f;have J:its.toArray.size=xs.length:=by rw [B_];exact r.length.symm
 refine ⟨"tuple",_,Gu.lookup,c.typeIs,?_⟩
 refine HT.mJ c g pl e (by rw [J];exact hw) ?_ (by rw [J];exact Y);rw [J];refine ⟨.ref s.heap.objs.size,_,I.laid (t':=s.toks) (o:=.tup (cutV xs lo hi)) (fun b l q=>s_ _ q) (u_ _) ?_,rfl,q _ (I.hok.fresh (u_ _))⟩
 exact ⟨EJ (qe xs lo hi) Y,_,(r.drop (HT.sIx xs.length 0 lo)).take (HT.sIx xs.length xs.length hi-HT.sIx xs.length 0 lo),IsTup.new _ _⟩
def rCatT (K:Fg):R2:=fun x y H Q=>∃a b xs ys,x=.ref a/\y=.ref b/\SqT K H a xs/\SqT K H b ys/\xs≠[]/\xs.length+ys.length<=g_ /\
 (ys=[]->Q (.ref a) H)/\(ys≠[]->∀p,H p=c_->Q (.ref p) (upd H p (.tup (xs++ys))))
theorem Vals.xP {xs:List V} {us:List l_} (r:Vals xs us):us=[]↔xs=[]:=by
 cases r with
 |nil=>simp
 |cons _ _=>simp
theorem op_catT:OpR X (FN .Add) (rCatT X.K):=by
 intro pins s σ H x y v u Q I e d h;obtain ⟨a,b,xs,ys,rfl,rfl,k,j,i,c,g,f⟩:=h;cases e;cases d;obtain ⟨its,J,p1,_⟩:=I.tuple k;obtain ⟨Y,r2,p2,_⟩:=I.tuple j;refine HT.cat_tup p1 p2 (fun z=>i (J.xP.mp z)) (fun z=>⟨.ref a,H,I,rfl,g (r2.xP.mp z)⟩) (fun z=>?_) (by rw [<- J.length,<- r2.length];exact c);refine ⟨.ref s.heap.objs.size,_,I.laid (t':=s.toks) (o:=.tup (xs++ys)) (fun b l q=>s_ _ q) (u_ _) ?_,rfl,f (fun w=>z (r2.xP.mpr w)) _ (I.hok.fresh (u_ _))⟩
 exact ⟨by rw [Ey];exact c,_,J.append r2,IsTup.new _ _⟩
end
noncomputable def ixN (n:Nat) (i:Int):Option Nat:=if 0<=i then (if i<n then a_ i.toNat else c_) else if -(n:Int)<=i then a_ (i+n).toNat else c_
def atI (xs:List α) (i:Int):Option α:=(ixN xs.length i).bind fun j=>xs[j]?
theorem CY {j:Nat} (h:ixN n i=a_ j):seqIndex? i n=a_ j/\j<n/\ -(n:Int)<=i/\i<n:=by
 unfold ixN at h;by_cases I:0<=i
 ·rw [f_ I] at h;by_cases h1:i<n
  ·rw [f_ h1] at h;have e:i.toNat=j:=Ew h;exact ⟨by rw [L8 I h1,e],by omega,by omega,h1⟩
  ·rw [m_ h1] at h;cases h
 ·rw [m_ I] at h;by_cases h1: -(n:Int)<=i
  ·rw [f_ h1] at h;have e:(i+n).toNat=j:=Ew h;exact ⟨by rw [LC (by omega) h1,e],by omega,h1,by omega⟩
  ·rw [m_ h1] at h;cases h
theorem yF {xs:List α} {v:α} (h:atI xs i=a_ v):∃j,seqIndex? i xs.length=a_ j/\xs[j]? =a_ v/\j<xs.length/\ -(xs.length:Int)<=i/\i<xs.length:=by
 unfold atI at h;cases e:ixN xs.length i with
 |none=>rw [e] at h;cases h
 |some j=>
  rw [e] at h;obtain ⟨h1,h2,J,I⟩:=CY e;exact ⟨j,h1,h,h2,J,I⟩
def Eb (b:Fe):Prop:=∀o i,J1 b b_ o i=operate [o,i] (Jd o i)
def IxR (X:Cx) (r:R2):Prop:=
 ∀(value I:Fe) (pins:Pn) (s:z_) (σ:St) (H:Hp) (x y:V) (v u:l_) (Q:VK),Inv X pins σ H s->RelV x v->RelV y u->r x y H Q ->
  J1 I b_ v u=operate [v,u] (Jd v u)->Cb (Eg X.prog X.w) X.A (Le value I v u) (EP X pins σ Q) X.xe s
def MtR (X:Cx) (id:String) (r:V->List V->Hp->VK->Prop):Prop:=
 ∀(pins:Pn) (s:z_) (σ:St) (H:Hp) (x:V) (xs:List V) (v:l_) (us:List l_) (Q:VK),Inv X pins σ H s->RelV x v->Vals xs us->r x xs H Q ->
  Cb (Eg X.prog X.w) X.A (Hw (.builtin id) (v::us)) (EP X pins σ Q) X.xe s
section
variable {a b:Fe} {ta tb:TE} 
theorem IxR.or {r r':R2} (h:IxR X r) (h':IxR X r'):IxR X (fun x y H Q=>r x y H Q\/r' x y H Q):=by
 intro value J pins s σ H x y v u Q I a Y q b;rcases q with q|q
 ·exact h value J pins s σ H x y v u Q I a Y q b
 ·exact h' value J pins s σ H x y v u Q I a Y q b
theorem pe_ix {r:R2} (e:IxR X r) (g:PE X a ta) (f:PE X b tb) (d:Eb b):PE X (.Subscript a b pos) (tOp r ta tb):=by
 intro pins s σ H Q I h;exact Mu (binT g f I h fun v u J x y H2 i c Y q=>e a b pins J σ H2 x y v u Q i c Y q (d _ _))
def rIxL (K:Fg):R2:=fun x y H Q=>∃p xs i v,x=.ref p/\y=.int i/\SqL K H p xs/\atI xs i=a_ v/\Q v H
def rIxT (K:Fg):R2:=fun x y H Q=>∃p xs i v,x=.ref p/\y=.int i/\SqT K H p xs/\atI xs i=a_ v/\Q v H
def rIxS:R2:=fun x y H Q=>∃z i c,x=.str z/\y=.int i/\z.length<=g_/\atI z.cps.toList i=a_ c/\Q (.str ⟨#[c]⟩) H
theorem ix_list:IxR X (rIxL X.K):=by
 intro value Y pins s σ H x y v u Q I g f h c;obtain ⟨p,xs,i,z,rfl,rfl,k,m,q⟩:=h;cases g;obtain ⟨t,rfl⟩:=f;obtain ⟨its,r,pl,A⟩:=I.list k;obtain ⟨j,h1,h2,C,o,n⟩:=yF m;obtain ⟨w,e,a⟩:=r.get h2;have l:=r.length;have B:=pD;have J:EP X pins σ Q w s:=⟨z,H,I,a,q⟩
 by_cases d:0<=i
 ·have b:i.toNat=j:=by
   rw [L8 d n] at h1;exact Ew h1
  exact item_listR pl.isList d (by omega) (by rw [b];simpa using e) J c
 ·have b:(i+(its.toArray.size:Int)).toNat=j:=by
   rw [LC (by omega) o] at h1;rw [B_,<- l];exact Ew h1
  exact LN (x:=w) pl.isList.typeIs MG.lookup
   (wpAny_getItem_list_neg (Q:=fun r s'=>r=w/\EP X pins σ Q r s') pl.isList (by omega) (by rw [B_]<;>omega) (by omega) (by rw [b];simpa using e) ⟨rfl,J⟩) c
theorem ix_tup:IxR X (rIxT X.K):=by
 intro value J pins s σ H x y v u Q I c b h d;obtain ⟨p,xs,i,z,rfl,rfl,e,g,q⟩:=h;cases c;obtain ⟨t,rfl⟩:=b;obtain ⟨its,r,pl,l⟩:=I.tuple e;obtain ⟨j,h1,h2,A,o,n⟩:=yF g;obtain ⟨w,k,Y⟩:=r.get h2;have f:=r.length;have m:=pD;have a:EP X pins σ Q w s:=⟨z,H,I,Y,q⟩
 exact LN (x:=w) pl.typeIs Gu.lookup
  (getItem_tuple (j:=j) (Q:=fun r s'=>r=w/\EP X pins σ Q r s') pl (by omega) (by omega) (by rw [B_,<- f];exact h1) (by simpa using k) ⟨rfl,a⟩) d
theorem ix_str:IxR X rIxS:=by
 intro value J pins s σ H x y v u Q I a Y h b;obtain ⟨z,i,c,rfl,rfl,k,e,q⟩:=h;obtain ⟨t,rfl⟩:=a;obtain ⟨t',rfl⟩:=Y;obtain ⟨j,h1,h2,m,g,f⟩:=yF e;have d:z.cps.toList.length=z.length:=by simp [Str.length]
 rw [d] at h1 g f;have l:=pD;exact tail_any (Jp s z t) slot_str_getitem.lookup (getItem_str (c:=c) (by
  have e1:r_ (i< -(2^63:Int))=b_:=j_ (by omega);have e2:r_ (i>=2^63)=b_:=j_ (by omega);rw [e1,e2,Mx]) (by rw [h1];simpa using h2) ⟨.str ⟨#[c]⟩,H,I.tok _,⟨_,rfl⟩,q⟩) b
def rIx (K:Fg):R2:=fun x y H Q=>rIxL K x y H Q\/rIxT K x y H Q\/rIxS x y H Q
theorem ix_seq:IxR X (rIx X.K):=ix_list.or (ix_tup.or ix_str)
theorem AE (its:List l_) (n j:Nat) (u:l_):IZ (·.setIfInBounds j u) {cls:=.type "list",data:=.seq its.toArray n}={cls:=.type "list",data:=.seq (its.set j u).toArray n}:=by
 simp [IZ]
theorem Inv.lst {pins:Pn} {σ:St} {H:Hp} {s:z_} {p:e_} {xs:List V} (I:Inv X pins σ H s) (h:H p=a_ (.lst xs)) :
  ∃(its:List l_) (n:Nat),Vals xs its/\s.heap.get? p=a_ {cls:=.type "list",data:=.seq its.toArray n}/\xs.length<=g_:=by
 obtain ⟨z,its,n,r,e⟩:=I.hok p _ h;exact ⟨its,n,r,e,z⟩
theorem Inv.lstUpd {p:e_} {xs ys:List V} {J:Nat} {f:Io->Io} (I:Inv X pins σ H s) (h:H p=a_ (.lst xs))
  (c:s.heap.get? p=a_ {cls:=.type "list",data:=.seq its.toArray n}) (Y:f {cls:=.type "list",data:=.seq its.toArray n}={cls:=.type "list",data:=.seq its'.toArray J}) (r:Vals ys its') (a:ys.length<=g_) (t:Nat) :
  Inv X pins σ (upd H p (.lst ys)) {s with heap:=s.heap.update p f,toks:=t}:=by
 have e:(s.heap.update p f).get? p=a_ {cls:=.type "list",data:=.seq its'.toArray J}:=by
  rw [GQ f c (by rw [Y]<;>rfl),Y]
 refine I.write (x:=p) (e:=p) (by rw [h];trivial) (.inl rfl) (fun b u d q=>(EC _ _ (EI d)).trans q) ⟨_,e⟩ ?_;exact ⟨a,its',J,r,e⟩
def rSetL:V->V->V->Hp->(Hp->Prop)->Prop:=fun o i v H Q=>∃p xs k j,o=.ref p/\i=.int k/\H p=a_ (.lst xs)/\ixN xs.length k=a_ j/\Q (upd H p (.lst (xs.set j v)))
theorem set_list:PSet X rSetL:=by
 intro pins s σ H o i v w x u Q I ro ri g h;obtain ⟨p,xs,k,j,rfl,rfl,b,m,q⟩:=h;cases ro;obtain ⟨t,rfl⟩:=ri;obtain ⟨its,n,r,J,l⟩:=I.lst b;obtain ⟨h1,h2,d,c⟩:=CY m;have Y:=r.length;have y:=pD;have f:Inv X pins σ (upd H p (.lst (xs.set j v))) {s with heap:=s.heap.update p (IZ (·.setIfInBounds j u))}:=
  I.lstUpd b J (AE its n j u) (r.set g j) (by rw [En];exact l) s.toks
 by_cases e:0<=k
 ·have a:k.toNat=j:=by
   rw [L8 e c] at h1;exact Ew h1
  exact PySem.W.ki_setAt J e (by omega) (by rw [B_,<- Y];exact c) (by rw [a];exact ⟨_,f,q⟩)
 ·have a:(k+(its.toArray.size:Int)).toNat=j:=by
   rw [LC (by omega) d] at h1;rw [B_,<- Y];exact Ew h1
  exact PySem.W.ki_setBack J (by omega) (by rw [B_,<- Y];exact d) (by omega) (by rw [a];exact ⟨_,f,q⟩)
theorem uK (lo hi:Option Int) (n:Nat):(HE lo hi c_ n).1=((HT.sIx n 0 lo:Nat):Int)/\(HE lo hi c_ n).2.1=((HT.sIx n n hi:Nat):Int)/\(HE lo hi c_ n).2.2=1:=by
 refine ⟨?_,?_,rfl⟩
 ·cases lo with
  |none=>simp [HE,HT.sIx]
  |some i=>
   simp only [HE,HT.sIx,Lw,show (1:Int)>0 by decide,J0];by_cases h:i<0
   ·simp only [h,J0]<;>omega
   ·simp only [h,K3]<;>omega
 ·cases hi with
  |none=>simp [HE,HT.sIx]
  |some i=>
   simp only [HE,HT.sIx,Lw,show (1:Int)>0 by decide,J0];by_cases h:i<0
   ·simp only [h,J0]<;>omega
   ·simp only [h,K3]<;>omega
theorem sr (its:List l_) (lo hi:Option Int):slicePick its.toArray lo hi c_=((its.drop (HT.sIx its.length 0 lo)).take (HT.sIx its.length its.length hi-HT.sIx its.length 0 lo)).toArray:=by
 obtain ⟨h1,h2,I⟩:=uK lo hi its.toArray.size;unfold slicePick;rw [h1,h2,I];simp only [sliceRange_one,pick_run,B_]<;>rfl
def rSlL (K:Fg):V->Option Int->Option Int->Hp->VK->Prop:=fun x lo hi H Q=>∃a xs,x=.ref a/\SqL K H a xs/\∀p,H p=c_->Q (.ref p) (upd H p (.lst (cutV xs lo hi)))
theorem sl_list:SlR X (rSlL X.K):=by
 intro pins s σ H x v j i lo hi k Q I c g pl d h;obtain ⟨a,xs,rfl,f,q⟩:=h;cases c;obtain ⟨its,r,Y,e⟩:=I.list f;have J:=r.length;refine ⟨"list",_,MG.lookup,Y.isList.typeIs,?_⟩
 refine wpAny_getItem_list_slice Y.isList g pl d .none (by simp) ?_ (by rw [B_]<;>omega);rw [sr,<- J];refine ⟨.ref s.heap.objs.size,_,I.laid (t':=s.toks) (o:=.lst (cutV xs lo hi)) (fun b l q=>s_ _ q) (u_ _) ?_,rfl,q _ (I.hok.fresh (u_ _))⟩
 exact ⟨EJ (qe xs lo hi) e,_,0,(r.drop (HT.sIx xs.length 0 lo)).take (HT.sIx xs.length xs.length hi-HT.sIx xs.length 0 lo),Ei _ rfl⟩
theorem jK:dQ X (.builtin "len") (fun xs H Q=>∃p ys,xs=[.ref p]/\(SqL X.K H p ys\/SqT X.K H p ys)/\Q (.int ys.length) H):=by
 intro pins s σ H xs us Q I r h;obtain ⟨p,ys,rfl,Y,q⟩:=h;obtain ⟨u,rfl,a⟩:=vals1 r;cases a;have c:=pD;rcases Y with Y|Y
 ·obtain ⟨its,r',pl,b⟩:=I.list Y;have J:=r'.length;exact Calls.call_len_list pl.isList (by simp only [B_]<;>omega) ⟨.int ys.length,H,I.tok _,⟨s.toks+1,by rw [B_,J]⟩,q⟩
 ·obtain ⟨its,r',pl,b⟩:=I.tuple Y;have J:=r'.length;exact len_tuple pl (by simp only [B_]<;>omega) ⟨.int ys.length,H,I.tok _,⟨s.toks+1,by rw [B_,J]⟩,q⟩
theorem wk:dQ X (.builtin "len") (fun xs H Q=>∃z,xs=[.str z]/\z.length<=g_/\Q (.int z.length) H):=by
 intro pins s σ H xs us Q I r h;obtain ⟨z,rfl,J,q⟩:=h;obtain ⟨u,rfl,t,rfl⟩:=vals1 r;have Y:=pD;exact len_str (by omega) ⟨.int z.length,H,I.tok _,⟨_,rfl⟩,q⟩
theorem dQ.or {f:l_} {r r':List V->Hp->VK->Prop} (h:dQ X f r) (h':dQ X f r'):dQ X f (fun xs H Q=>r xs H Q\/r' xs H Q):=by
 intro pins s σ H xs us Q I rs q;rcases q with q|q
 ·exact h pins s σ H xs us Q I rs q
 ·exact h' pins s σ H xs us Q I rs q
theorem fZ:dQ X (.type "list") (fun xs H Q=>∃p ys,xs=[.ref p]/\(SqL X.K H p ys\/SqT X.K H p ys)/\∀l,H l=c_->Q (.ref l) (upd H l (.lst ys))):=by
 intro pins s σ H xs us Q I r h;obtain ⟨p,ys,rfl,c,q⟩:=h;obtain ⟨u,rfl,j⟩:=vals1 r;cases j;have f:∀(its:List l_),Vals ys its->ys.length<=g_->∀(h':EY) (J:Nat),(∀b o',s.heap.get? b=a_ o'->h'.get? b=a_ o') ->
   h'.get? s.heap.objs.size=a_ {cls:=.type "list",dict:=c_,data:=.seq its.toArray J,slots:=#[]}->EP X pins σ Q (.ref s.heap.objs.size) {s with heap:=h'}:=fun its r' a h' J Y e=>
  ⟨.ref s.heap.objs.size,_,I.laid (t':=s.toks) Y (u_ _) (show cA X.prog X.w _ h' _ (.lst ys) from ⟨a,its,J,r',e⟩),rfl,q _ (I.hok.fresh (u_ _))⟩
 rcases c with c|c
 ·obtain ⟨its,r',pl,a⟩:=I.list c;have d:=r'.length;obtain ⟨o,g,i,n,hd⟩:=pl.isList;exact call_list_seq p (.inl rfl) g i hd (fun h' J Y e=>f its r' a h' J Y e) (by simp only [B_]<;>omega)
 ·obtain ⟨its,r',pl,a⟩:=I.tuple c;have d:=r'.length;obtain ⟨o,g,i,n,hd⟩:=pl;exact call_list_seq p (.inr rfl) g i hd (fun h' J Y e=>f its r' a h' J Y e) (by simp only [B_]<;>omega)
def tyV (K:Fg) (T:String) (x:V) (H:Hp):Prop:=match x with
 |.str _=>T="str"
 |.int _=>T="int"
 |.ref p=>(T="list"/\∃xs,SqL K H p xs)\/(T="tuple"/\∃o,K.lookup p=a_ o/\o.cls=.type "tuple"/\o.dict=c_) \/
   (T="dict"/\((∃kvs,H p=a_ (.dK kvs))\/∃kvs,H p=a_ (.dT kvs)))\/(T="set"/\∃S n,H p=a_ (.set S n))
 |_=>False
theorem tyV_is {x:V} {v:l_} (I:Inv X pins σ H s) (r:RelV x v) (ty:tyV X.K T x H) :
  s.TypeIs v T/\∀a,v=.ref a->∃Y,s.heap.get? a=a_ Y/\Y.dict=c_:=by
 cases x with
 |str z=>
  obtain ⟨t,rfl⟩:=r;cases (show T="str" from ty);exact ⟨Jp s z t,fun _ e=>nomatch e⟩
 |int i=>
  obtain ⟨t,rfl⟩:=r;cases (show T="int" from ty);exact ⟨typeIs_int s i t,fun _ e=>nomatch e⟩
 |ref p=>
  cases r;rcases ty with ⟨rfl,xs,b⟩|⟨rfl,o,J,d,hd⟩|⟨rfl,J⟩|⟨rfl,S,n,J⟩
  ·obtain ⟨its,_,pl,_⟩:=I.list b;refine ⟨pl.isList.typeIs,fun a e=>?_⟩
   cases e;obtain ⟨o,n,e,c,hd,_⟩:=pl;exact ⟨o,e,hd⟩
  ·refine ⟨⟨o,I.kIn p o J,d⟩,fun a e=>?_⟩
   cases e;exact ⟨o,I.kIn _ o J,hd⟩
  ·have z:∃o,s.heap.get? p=a_ o/\o.ExactDict:=by
    rcases J with ⟨kvs,J⟩|⟨kvs,J⟩
    ·obtain ⟨_,_,_,_,o,_,_,e,ex,_⟩:=I.hok p _ J;exact ⟨o,e,ex⟩
    ·obtain ⟨_,_,_,_,o,_,_,e,ex,_⟩:=I.hok p _ J;exact ⟨o,e,ex⟩
   obtain ⟨o,e,ex⟩:=z;refine ⟨⟨o,e,ex.1⟩,fun a e2=>?_⟩
   cases e2;exact ⟨o,e,ex.2.1⟩
  ·obtain ⟨o,_,_,_,e,ex,_⟩:=I.hok p _ J;refine ⟨⟨o,e,ex.1⟩,fun a e2=>?_⟩
   cases e2;exact ⟨o,e,ex.2.1⟩
 |_=>exact EZ ty
def tBM (K:Fg) (T:String) (r:V->List V->Hp->VK->Prop) (to:TE) (t:TA):TE:=fun σ H Q=>to σ H fun x H1=>tyV K T x H1/\t σ H1 fun xs H2=>r x xs H2 Q
variable {o:Fe} {es:List Fe} {to:TE} {t:TA} {name:p_} {apos cpos:M4} {id:String} {r:V->List V->Hp->VK->Prop}
theorem nQ (n:PlainAttrs T) (b:Slot T name id) (d:typeOf (.builtin id)=FF (.type "method_descriptor")) (u:MtR X id r) (q:PE X o to) (w:PA X (e::es) t)
  (a: ~~~(FR o name X.env (Eu o X.env)=Eu o X.env))
  (c: ~~~(((EN cpos (i_ (e::es) X.env)).all (fun x=> !x.1)&&(GB cpos (Fz [] X.env)).all (fun x=>x.1.isSome)
   &&r_ ((e::es).length+([]:List G2).length+(if ([]:List G2).isEmpty then 0 else 1)<30))=d_))
  (Y: ~~~((apos.endLine==cpos.line)=d_)) (p: ~~~(i_ (e::es) X.env=(b_,Eu e X.env)::i_ es X.env)) (J: ~~~((EN cpos (i_ es X.env)).any (·.1)=b_)) :
  PE X (.Call (.Attribute o name apos) (e::es) [] cpos) (tBM X.K T r to t):=by
 intro pins s σ H Q I h;refine wpAny_Call_method_late a c Y rfl (thn (q pins s σ H _ I h) fun v k ⟨x,H1,i,f,ty,m⟩=>?_);obtain ⟨h1,h2⟩:=tyV_is i f ty;refine ⟨T,id,n,b,d,h1,h2,?_⟩
 have g:=w cpos pins k σ H1 _ i m;rw [p] at g ⊢;refine Ig (by show (b_||(EN cpos (i_ es X.env)).any (·.1))=b_;rw [J]<;>rfl) (Iy ?_);exact thn g fun us j ⟨vs,H2,y,r2,l⟩=>u pins j σ H2 x vs v us Q y f r2 l
/- xs.append(e),list.index on a module's tuple .. are MtR facts of 06m -/
end
def MtM (X:Cx) (id:String) (r:V->List V->Hp->VK->Prop):Prop:=
 ∀(pins:Pn) (s:z_) (σ:St) (H:Hp) (x:V) (xs:List V) (v:l_) (us:List l_) (Q:VK),Inv X pins σ H s->RelV x v->Vals xs us->r x xs H Q ->
  Cb (Eg X.prog X.w) X.A (Hw (.builtin id) (v::us)) (EP X pins σ Q) X.xe s
theorem Vals.one:∀{x:V} {us:List l_},Vals [x] us->∃u,us=[u]/\RelV x u
 |_,_,.cons r .nil=>⟨_,rfl,r⟩
theorem Vals.two:∀{x y:V} {us:List l_},Vals [x,y] us->∃u v,us=[u,v]/\RelV x u/\RelV y v
 |_,_,_,.cons r (.cons q .nil)=>⟨_,_,rfl,r,q⟩
section
variable {l:e_} {xs ys:List V}
theorem Inv.lset {f:Array l_->Array l_} {t':Nat} (I:Inv X pins σ H s) (c:H l=a_ (.lst xs))
  (e:s.heap.get? l=a_ {cls:=.type "list",data:=.seq its.toArray n}) (a:f its.toArray=its'.toArray) (hv:Vals ys its') (J:ys.length<=g_) :
  Inv X pins σ (upd H l (.lst ys)) {s with heap:=s.heap.update l (IZ f),toks:=t'}:=by
 have q:=PySem.IsL.update e f;rw [a] at q;refine I.write (x:=l) (e:=l) (by rw [c];exact trivial) (.inl rfl) (fun d u b Y=>(EC s.heap (IZ f) (EI b)).trans Y) ⟨_,q⟩ ?_;exact ⟨J,its',_,hv,q⟩
theorem Inv.lnew {t':Nat} (I:Inv X pins σ H s) (hv:Vals ys its) (J:ys.length<=g_) :
  Inv X pins σ (upd H s.heap.objs.size (.lst ys)) {s with heap:=s.heap.push {cls:=.type "list",data:=.seq its.toArray},toks:=t'}:=
 I.laid (fun _ _ q=>s_ _ q) (u_ _) ⟨J,its,0,hv,Ei _ rfl⟩
theorem Inv.fresh (I:Inv X pins σ H s):H s.heap.objs.size=c_:=I.hok.fresh (u_ _)
theorem Inv.lstM (I:Inv X pins σ H s) (J:H l=a_ (.lst xs)):xs.length<=g_/\∃(its:List l_) (n:Nat),Vals xs its/\xs.length=its.length/\s.heap.get? l=a_ {cls:=.type "list",data:=.seq its.toArray n}:=by
 obtain ⟨z,its,n,r,e⟩:=I.hok l _ J;exact ⟨z,its,n,r,r.length,e⟩
theorem notLongL (h:n<=g_):Hx n=b_:=by
 unfold Hx;exact j_ (by omega)
end
section
def iR:V->List V->Hp->VK->Prop:=fun x vs H Q=>∃l xs y,x=.ref l/\vs=[y]/\H l=a_ (.lst xs)/\xs.length<g_/\Q .non (upd H l (.lst (xs++[y])))
theorem eA:MtM X "list.append" iR:=by
 intro pins s σ H x vs v us Q I Y a h;obtain ⟨l,xs,y,rfl,rfl,J,c,q⟩:=h;cases Y;obtain ⟨u,rfl,b⟩:=a.one;obtain ⟨z,its,n,r,d,e⟩:=I.lstM J;refine Jr EL ⟨_,e,rfl⟩ F.entry_list_append (F.args_list_append_2 _ _) (PySem.list_append l its.toArray n u (by rw [B_];omega)) ⟨e,?_⟩;refine ⟨.non,_,I.lset (its':=its++[u]) J e (by simp) (r.append (.cons b .nil)) ?_,rfl,q⟩
 rw [Ey,KO];omega
def Cc:V->List V->Hp->VK->Prop:=fun x vs H Q=>∃l b xs I,x=.ref l/\vs=[.ref b]/\H l=a_ (.lst xs)/\H b=a_ (.lst I)/\xs.length+I.length<=g_/\Q .non (upd H l (.lst (xs++I)))
theorem CG:MtM X "list.extend" Cc:=by
 intro pins s σ H x vs v us Q I c d h;obtain ⟨l,b,xs,j,rfl,rfl,a,i,m,q⟩:=h;cases c;obtain ⟨u,rfl,f⟩:=d.one;cases f;obtain ⟨z,its,n,r,o,e⟩:=I.lstM a;obtain ⟨k,J,n2,r2,g,e2⟩:=I.lstM i;have hsz:its.toArray.size+J.toArray.size<=g_:=by rw [B_,B_];omega
 have Y:¬(!its.toArray.isEmpty&&Hx (its.toArray.size+J.toArray.size))=d_:=by
  rw [notLongL hsz,Gm];exact Fc
 refine Jr KL ⟨_,e,rfl⟩ F.entry_list_extend (F.args_list_extend_2 _ _)
  (AutoSeq1.list_extend_list_list_0 l its.toArray n b J.toArray n2 Y (by rw [B_];omega) (by omega)) ⟨e,e2,?_⟩
 refine ⟨.non,_,I.lset (its':=its++J) a e (by simp) (r.append r2) ?_,rfl,q⟩
 rw [Ey];omega
end
end L2
namespace Att
open PySem PySem.W PySem.Calls PyProof.Rows
theorem pI {P:Params} {h:EY}:∀(ns:List Int) (vs:List l_),WellAll P h vs (ns.map WData.int)->Kq vs ns:=by
 intro ns
 induction ns with
 |nil=>
  intro vs w;rw [GA] at w;cases w;exact .nil
 |cons n ns I=>
  intro vs w;rw [Eh] at w;cases w with
  |cons a b=>
   cases a;exact .cons _ _ (I _ b)
theorem BO {l:IY} {n:Nat} (k:l.most=a_ n) {P:Params} {h:EY} {args:List WData} {I:List l_}
  (J:l.row.toRowW.claim.pre args=d_) (e:WellAll P h I args) :
  ∃a vs ns,I=[D_ a]/\args=[WData.list (ns.map WData.int)]/\h.get? a=a_ {cls:=.type "list",data:=.seq vs.toArray}/\Kq vs ns/\ns.length<=n:=by
 have f:WShape.hasAll [] args [.list .int]=d_:=(pre_splitW J).1;have g:l.pre.holds [] {args:=args}=d_:=(pre_splitW J).2;obtain ⟨d,r,rfl,h1,h2⟩:=hasAllW_cons f;obtain rfl:=hasAllW_nil h2;obtain ⟨xs,rfl,m⟩:=hasW_list h1;obtain ⟨ns,rfl⟩:=items_int m;have Y:ns.length<=n:=by
  unfold OpenLaw.pre at g;have c:(WTm.not (.lt (.lit (.int (n:Int))) (.len (.arg 0)))).holds [] {args:=[.list (ns.map .int)]}=d_:=by
   have c:=(holds_andW g).1;rw [k] at c;exact c
  have h5:=condW_of c (w_not (w_lt w_lit (w_len_list (w_arg rfl))));rw [t_] at h5;refine Nat.le_of_not_lt fun q=>?_;have i:(n:Int)<((ns.length:Nat):Int):=by omega
  first
   |(rw [q_ i] at h5;exact Ek h5 (by decide))
   |(simp at h5;omega)
 cases e with
 |cons w1 w2=>
  cases w2;cases w1 with
  |list j b=>exact ⟨_,_,ns,rfl,rfl,j,pI ns _ b,Y⟩
theorem Ci (l:IY) (args:List WData):l.row.toRowW.claim.post args (.bool d_) args=d_:=
 postW_of (r:=l.row.toRowW) (X:=(d_==d_))
  (show WShape.has [] (.bool d_) .bool=d_ by first|rfl|decide|simp [WShape.has,WShape.arms,WShape.armsAll])
  (show (WTm.eq .res (.lit (.bool d_))).value [] {args:=args,res:=a_ (.bool d_),after:=args}=a_ (.bool (d_==d_)) from w_eq_bool (w_res rfl) w_lit) rfl
theorem yE {l:IY} {n:Nat} {q:Fp} {b:List p_} {z:(Mq)->EY->Prop} {y:Fu->EY->Prop} {d:DefRec}
  (D:l.most=a_ n) (p:d.params.defaults=[])
  (i:∀(w:Fu) (J I:z_) (mg j:Mq) (fa:e_) (o:Io) (pm cd doc:l_) (a:e_) (vs:List l_) (ns:List Int),
   Ground q b [] z w J mg j I.heap->y w I.heap ->
   I.heap.get? fa=a_ o->o.data=.func (docDef d.name d.params d.body d.scope pm cd doc)->I.heap.CodeRec cd d.name->mg d.name=a_ (.ref fa) ->
   I.heap.get? a=a_ {cls:=.type "list",data:=.seq vs.toArray}->Kq vs ns->ns.length<=n->I.gens=#[] ->
   Ht (Eg l.prog w) JF (.call (.ref fa) ⟨[.ref a],[]⟩) (fun r s'=>r=.ok (.ret (.bool d_))/\OldK I.heap s'.heap/\s'.os=I.os/\Im s'.gens) I) :
  Lb q b z y l.row.toRowW d [] (fun f vs=>Hw f vs):=by
 intro w J I mg j G Y fa o pm cd doc N kV C hd s v m H x t as e u A k F;obtain rfl:N=.none:=Dflts.none v p;obtain rfl:kV=.none:=Dflts.noKw v;obtain ⟨a,vs,ns,rfl,rfl,g,c,h⟩:=BO D e k;refine enter_call (Gj (i w J I mg j fa o pm cd doc a vs ns G Y C (fd_plain hd) s m g c h H) fun r s' B=>?_);obtain ⟨rfl,h2,L,K⟩:=B;exact ⟨.inl ⟨.bool d_,.bool d_,[],rfl,fun _=>rfl,.bool d_,Ci l _,fun _=>⟨Ni,fun _ E=>(nomatch E)⟩⟩,h2,L,K⟩
end Att
namespace L2
open PySem PySem.Spec PyProof.Rows
variable {P prog:Fp} {w:Fu} {K:Fg} {mg:Mq} {CX:CXT} {a f l b L it C fad C2 fI C1 CN:e_} {fd fdI:Gf} {x qual m z nm:p_} {sp:Sp} {n i nN nN2 n2 ep ep' lo di ni ri:Nat} {X:Cx} {st b₀:Fh} {ps N' N sn:List p_} {oc doc pm cdv ct mc u hv cd:l_} {od an dx dd:Option e_} {osl:Array (Option l_)} {pos spos py p apos pos' q p2 cpos np hpos p1:M4} {A:GH} {B T newId initId:String} {H H1 H2 H' F F' H0 F1 F0 FB G Hc:Hp} {scope sc:JI} {env:JY} {E E' E1 E2 E3:XK} {s:z_} {pins:Pn} {σ σ':St} {ix:List (Option Nat)} {fp as ch:List e_} {R:Bool->Hp->Prop} {elt tg iter e o value e1 e2 e3 e4 e5:Fe} {ifs es elts:List Fe} {tt:TT} {te ta tb tc td tv:TE} {y v vw:V} {us bmB tl sub:List l_} {h h':EY} {cs:List (p_×e_)} {rows:List (List Int)} {dvs vs:List V} {pl:MO Bool} {S:e_->Prop} {Q:VK} {O O2 OL O':List Nat} {ro bn hdct ab b1 b2 b3:Bool} {α:Type} {op op' op'':CmpOp} {sts body suite:List Fh} {r':R2} {κ:SortKind} {kvs:List (List Key×V)} {trs:List (TE×TE)} {outer:List JY} {oe:Io} {ts:e_->Option e_->TS} {os:OsState} {tk:Mh} {col:Option Bool} {k0 k2 k3 k5:Option l_} {U:TS} {u0 u3 u4 u5 u6 u7 u8 u9 u10 u11:Option V}
theorem uA:∀{vs:List l_} {ns:List Int},Kq vs ns->Vals (ns.map V.int) vs
 |_,_,.nil=>.nil
 |_,_,.cons n t h=>.cons ⟨t,rfl⟩ (uA h)
def Only (H:Hp):Prop:=∀b,H b=c_\/∃o xs,H b=a_ (.frz o (.lst xs))
theorem law_call {E:Mq} {k:Nat} {fa:e_} {I:z_} {vs:List l_} {ns:List Int}
  (X:K.In I.heap) (t:I.heap.Ns EG mg) (Y:I.heap.Ns Mp E) (N:∀x:p_,x≠"__name__"->E x=F8 x) (y:I.heap.NoLimit) (hg:I.gens=#[])
  (C:I.heap.get? a=a_ {cls:=.type "list",data:=.seq vs.toArray}) (hi:Kq vs ns) (T:ns.length<=g_) (hr:i8 k JF)
  (F:∀base:EY,K.In base->base.Ns EG mg->i9 P w K mg base CX k fa fd [x] sp) (g:∀(s:z_) (u:l_),Jf s fd ⟨[u],[]⟩ [(x,u)])
  (G:∀H:Hp,Only H->SqL K H a (ns.map V.int)->sp [.ref a] H (fun v _=>v=.bl d_) fun _ _ _=>False)
  (O:∀H e s',CX [] H I (fun _ _ _=>False) e s'->False) :
  Ht (Eg P w) JF (.call (.ref fa) ⟨[.ref a],[]⟩) (fun r s'=>r=.ok (.ret (.bool d_))/\OldK I.heap s'.heap/\s'.os=I.os/\Im s'.gens) I:=by
 have S:=uA hi;have j:=hi.length;have f:∀H:Hp,Only H->SqL K H a (ns.map V.int)->HOk P w H I.heap->(∀b,H b≠c_->b=a)->(H a≠c_->K.lookup a=c_) ->
   Ht (Eg P w) JF (.call (.ref fa) ⟨[.ref a],[]⟩) (fun r s'=>r=.ok (.ret (.bool d_))/\OldK I.heap s'.heap/\s'.os=I.os/\Im s'.gens) I:=by
  intro H U hS p W hK;have J:∀{b:e_} {o:Io},I.heap.get? b=a_ o->H b=c_->(hidT I.heap H).get? b=a_ o:=fun e n=>hidT_get e n;have D:∀{b:e_} {o:Io} {es:Array Lv} {ep:Nat},I.heap.get? b=a_ o->o.data=.dict es ep->H b=c_:=fun {b o es ep} e d=>by
   cases q:H b with
   |none=>rfl
   |some u=>
    have Q:b=a:=W b (by rw [q];simp);subst Q;rw [C] at e;cases e;have d':Data.seq vs.toArray _=Data.dict es ep:=d;cases d'
  have c:∀{b:e_} {m:Mq},I.heap.Ns b m->(hidT I.heap H).Ns b m:=fun {b m} ⟨o,es,ep,e,d,r⟩=>⟨o,es,ep,J e (D e d),d,r⟩
  have A:K.In (hidT I.heap H):=fun b o e=>J (X b o e) (by
   cases q:H b with
   |none=>rfl
   |some u=>
    have Q:b=a:=W b (by rw [q];simp);subst Q;rw [hK (by rw [q];simp)] at e;cases e)
  have hM:Mod K mg (hidT I.heap H):=⟨A,c t,⟨E,c Y,N⟩,let ⟨mc,h1,h2⟩:=y;⟨mc,c h1,h2⟩⟩
  have e0:Env0 P w K mg (hidT I.heap H) JF [] I H:=⟨rfl,hM,fun b o e=>of_hidT e,Nf (D4 _ _),trivial,fun b Y=>Ek (show b∈([]:List e_) from Y) (by simp),p,.of_eq hg⟩
  refine Gj ((F _ A (c t)).run JF [] I H ⟨[.ref a],[]⟩ [.ref a] [.ref a] _ _ hr e0 (g I (.ref a)) (.cons rfl .nil) (G H U hS)) fun r s' h=>?_;cases r with
  |error e=>exact (O H e s' h).elim
  |ok fl=>
   cases fl with
   |next=>exact EZ h
   |brk=>exact EZ h
   |cont=>exact EZ h
   |ret u=>
    obtain ⟨v,H',os,B,R,l,r',q⟩:=h;have q':v=.bl d_:=q;subst q';obtain rfl:u=JH d_:=r';refine ⟨rfl,OldK.of_keep fun b o e=>?_,os,B⟩
    cases q:H b with
    |none=>exact R.keep b o e q (by intro z;exact Ek (show b∈([]:List e_) from z) (by simp)) (by simp)
    |some u=>
     rcases U b with z|⟨ob,xs,z⟩
     ·rw [q] at z;cases z
     ·have Z:=R.frzs b ob _ z;obtain ⟨e1,_⟩:=p b _ z;obtain ⟨e2,_⟩:=l b _ Z;rw [e] at e1;cases e1;exact e2
 cases L:K.lookup a with
 |some o=>
  have e:=X a o L;rw [C] at e;cases e;refine f (fun _=>c_) (fun _=>.inl rfl) (.inr ⟨_,vs.toArray,_,L,rfl,rfl,rfl,by rw [B_,j];exact T,by simpa using S⟩) (fun b u z=>by have i:(c_:Option HO)=a_ u:=z;cases i) (fun b z=>Ek rfl z) fun z=>Ek rfl z
 |none=>
  refine f (fun b=>if b=a then a_ (.frz {cls:=.type "list",data:=.seq vs.toArray} (.lst (ns.map V.int))) else c_) (fun b=>?_) (.inl (.inr ⟨{cls:=.type "list",data:=.seq vs.toArray},f_ rfl⟩)) (fun b u z=>?_) (fun b z=>?_) fun _=>L
  ·by_cases Y:b=a
   ·exact .inr ⟨_,_,f_ Y⟩
   ·exact .inl (m_ Y)
  ·by_cases Y:b=a
   ·have i:=(f_ Y).symm.trans z;cases i;subst Y;exact ⟨C,by rw [t_];exact T,vs,_,S,C⟩
   ·have i:=(m_ Y).symm.trans z;cases i
  ·by_cases Y:b=a
   ·exact Y
   ·exact Ek (m_ Y) z
theorem walk_of {l:IY} {k:Nat} {q:Fp} {J:List p_} {Q:(Mq)->EY->Prop} {y:Fu->EY->Prop} {d:DefRec} {K:Params->Fg} {CX:Fu->CXT} {sp:Fu->Sp} 
  (B:l.most=a_ n) (j:n<=g_) (p:d.params.defaults=[]) (A:i8 k JF)
  (L:∀(w:Fu) (h:EY),y w h->(K w.params).In h)
  (F:∀(w:Fu) (mg:Mq) (fa:e_) (h:EY),(K w.params).In h->h.Ns EG mg->mg d.name=a_ (.ref fa) ->
   ∃fd:Gf,(∀(s:z_) (u:l_),Jf s fd ⟨[u],[]⟩ [(x,u)]) /\
    ∀base:EY,(K w.params).In base->base.Ns EG mg->i9 l.prog w (K w.params) mg base (CX w) k fa fd [x] (sp w))
  (i:∀(w:Fu) (H:Hp) (a:e_) (ns:List Int),ns.length<=n->Only H->SqL (K w.params) H a (ns.map V.int)->sp w [.ref a] H (fun v _=>v=.bl d_) fun _ _ _=>False)
  (r:∀(w:Fu) (H:Hp) (s:z_) (e:l_) (s':z_),CX w [] H s (fun _ _ _=>False) e s'->False) :
  Lb q J Q y l.row.toRowW d [] (fun f vs=>Hw f vs):=by
 refine Att.yE B p fun w t c mg R fa o pm cd doc a vs ns G Y S hd D m g b I C=>?_;have z:=L w _ Y;obtain ⟨fd,E,P⟩:=F w mg fa _ z G.T.g m;exact law_call z G.T.g G.T.b G.T.builtins G.T.nolimit C g b (EJ I j) A P E (fun H O N=>i w H a ns I O N) fun H e s'=>r w H c e s'
def inClass (s:Fh) (j:Nat):Fh:=match s with
 |.ClassDef _ _ _ body _ _ _ _ _ _ _=>body.getD j (.Pass ⟨0,0,0,0⟩)
 |_=>.Pass ⟨0,0,0,0⟩
noncomputable def dA (s:Fh):Arguments:=match s with
 |.FunctionDef _ a _ _ _ _ _ _ _ _=>a
 |_=>{posonlyargs:=[],args:=[],vararg:=c_,kwonlyargs:=[],kw_defaults:=[],kwarg:=c_,defaults:=[]}
noncomputable def bF (s:Fh):List Fh:=match s with
 |.FunctionDef _ _ b _ _ _ _ _ _ _=>b
 |_=>[]
def aD (s:Fh):JI:=match s with
 |.FunctionDef _ _ _ _ _ _ sc _ _ _=>sc
 |_=>{kind:=.function,names:=[],isGenerator:=b_,isCoroutine:=b_}
noncomputable abbrev CX0:CXT:=fun _ _ _ _ _ _=>False
noncomputable abbrev E0:XK:=fun _ _ _=>False
theorem pj:Passes CX0 X E0:=fun _ _ _ _ _ _ _ h=>h.elim
structure Fun (K:Fg) (x qual:p_) (st:Fh) (f:e_) (fd:Gf):Prop where
 ex:∃(oc:l_) (od:Option e_) (kV doc pm:l_) (an:Option e_) (cdv ct:l_) (osl:Array (Option l_)),
  fd=Ji x qual (dA st) (bF st) (aD st) .none kV doc pm an cdv ct/\K.lookup f=a_ ⟨oc,od,.func fd,osl⟩/\JU K cdv qual=d_
 kp:GD K (.ref f)=d_
section
theorem Fun.binds (F:Fun K x qual st f fd)
  (h:∀(kV doc pm:l_) (an:Option e_) (cdv ct:l_) (us:List l_),us.length=ps.length->IX (Ji x qual (dA st) (bF st) (aD st) .none kV doc pm an cdv ct) ⟨us,[]⟩=FF (ps.zip us)):Binds K fd ps []:=by
 obtain ⟨oc,od,kV,doc,pm,an,cdv,ct,osl,rfl,J,I⟩:=F.ex;exact .all (h kV doc pm an cdv ct)
theorem zN {kV:l_} (l:K.lookup f=a_ ⟨oc,od,.func (Ji x qual (dA st) (bF st) (aD st) .none kV doc pm an cdv ct),osl⟩)
  (c:JU K cdv qual=d_) (k:GD K (.ref f)=d_):Fun K x qual st f (Ji x qual (dA st) (bF st) (aD st) .none kV doc pm an cdv ct):=⟨⟨oc,od,kV,doc,pm,an,cdv,ct,osl,rfl,l,c⟩,k⟩
end
section
theorem pv (i:Nat) (J: ~~~(X.N[i]? =a_ x)) (hv:autoParam (Vis X.env.scope x) Jq5) (hd:((x==("__debug__":p_))=b_)⁻¹)
  (I:((x==("__classdict__":p_))=b_)⁻¹):PE X (.Name x pos) (bJ i):=pe_var J hv hd I
end
theorem iteF {A B:Prop} (h:B):if b_=d_ then A else B:=by
 rw [m_ Fc];exact h
theorem iteNS {c A B:Prop} [Decidable c] (I:c) (h:B):if (!decide c)=d_ then A else B:=by
 rw [q_ I];exact iteF h
def aF (H H':Hp):Prop:=∀b o,H b=a_ o->H' b=a_ o
theorem aF.refl (H:Hp):aF H H:=fun _ _ h=>h
theorem aF.trans (a:aF H H1) (b:aF H1 H2):aF H H2:=fun c o h=>b c o (a c o h)
theorem aF.free (e:aF H H') (h:H' l=c_):H l=c_:=by
 cases q:H l with
 |none=>rfl
 |some o=>
  rw [e l o q] at h;cases h
def rQ (cells:List (p_×e_)):List (p_×GW)->List (p_×e_)->List (p_×e_)
 |[],I=>I
 |(x,k)::r,I=>rQ cells r (if (k==NameKind.free)=d_ then (x,(cells.lookup x).getD 0)::I else I)
theorem gt_ne {c:e_} (h1:b<a) (h2:a<c):c≠b:=by
 rintro rfl;exact Ek (Iq h1 h2) (Fi _)
theorem AM (h1:a<n) (h2:n<=b):a≠b:=by
 rintro rfl;exact Ek (Em h1 h2) (Fi _)
theorem rP {cells:List (p_×e_)} {x:p_} {c:e_}:∀(ns:List (p_×GW)) (I:List (p_×e_)),(rQ cells ns I).lookup x=a_ c ->
  ((x,NameKind.free)∈ns/\c=(cells.lookup x).getD 0)\/I.lookup x=a_ c
 |[],_,h=>.inr h
 |(y,k)::r,I,h=>by
  unfold rQ at h;rcases rP r _ h with ⟨m,e⟩|q
  ·exact .inl ⟨C_ _ m,e⟩
  ·by_cases Y:(k==NameKind.free)=d_
   ·rw [f_ Y,w_] at q;cases J:x==y with
    |true=>
     rw [J] at q;have e1:=Ga J;have e2:=Ga Y;subst e1 e2;exact .inl ⟨EB,(Ew q).symm⟩
    |false=>rw [J] at q;exact .inr q
   ·rw [m_ Y] at q;exact .inr q
theorem qi {cells:List (p_×e_)} {x:p_}:∀(ns:List (p_×GW)) (I:List (p_×e_)),((x,NameKind.free)∈ns\/(I.lookup x).isSome=d_)->((rQ cells ns I).lookup x).isSome=d_
 |[],_,h=>h.elim (fun z=>nomatch z) id
 |(y,k)::r,I,h=>by
  unfold rQ;refine qi r _ ?_;rcases h with h|h
  ·rcases v_.mp h with e|h
   ·cases e;refine .inr ?_;rw [f_ (by decide),w_];simp
   ·exact .inl h
  ·refine .inr ?_;by_cases J:(k==NameKind.free)=d_
   ·rw [f_ J,w_];cases Y:x==y with
    |true=>rfl
    |false=>exact h
   ·rw [m_ J];exact h
theorem kZ {x:p_} {c:e_}:∀(ns:List (p_×GW)) (n:Nat) (I:List (p_×e_)),(FA n ns I).lookup x=a_ c->(n<=c/\(x,FG)∈ns)\/I.lookup x=a_ c
 |[],_,_,h=>.inr h
 |(y,k)::r,n,I,h=>by
  unfold FA at h;by_cases Y:(k==FG)=d_
  ·rw [f_ Y] at h;rcases kZ r (n+1) _ h with ⟨a,m⟩|q
   ·exact .inl ⟨by omega,C_ _ m⟩
   ·rw [w_] at q;cases J:x==y with
    |true=>
     rw [J] at q;have e1:=Ga J;have e2:=Ga Y;have e3:=Ew q;subst e1 e2 e3;exact .inl ⟨u_ _,EB⟩
    |false=>rw [J] at q;exact .inr q
  ·rw [m_ Y] at h;rcases kZ r n I h with ⟨a,m⟩|q
   ·exact .inl ⟨a,C_ _ m⟩
   ·exact .inr q
theorem qj:∀(ns:List (p_×GW)) (n:Nat) (I:List (p_×e_)),(∀x y c,I.lookup x=a_ c->I.lookup y=a_ c->x=y)->(∀x c,I.lookup x=a_ c->c<n) ->
  ∀x y c,(FA n ns I).lookup x=a_ c->(FA n ns I).lookup y=a_ c->x=y
 |[],_,_,hi,_=>hi
 |(z,k)::r,n,I,hi,b=>by
  unfold FA;by_cases d:(k==FG)=d_
  ·rw [f_ d];refine qj r (n+1) _ (fun x y c h1 h2=>?_) (fun x c h1=>?_)
   ·rw [w_] at h1 h2;cases J:x==z with
    |true=>
     rw [J] at h1;have e1:=Ew h1;cases Y:y==z with
     |true=>rw [Ga J,Ga Y]
     |false=>
      rw [Y] at h2;have a:=b y c h2;rw [<- e1] at a;exact Ek a (Fi _)
    |false=>
     rw [J] at h1;cases Y:y==z with
     |true=>
      rw [Y] at h2;have e2:=Ew h2;have a:=b x c h1;rw [<- e2] at a;exact Ek a (Fi _)
     |false=>
      rw [Y] at h2;exact hi x y c h1 h2
   ·rw [w_] at h1;cases J:x==z with
    |true=>
     rw [J] at h1;have e1:=Ew h1;rw [<- e1];exact GZ _
    |false=>
     rw [J] at h1;exact LV (b x c h1)
  ·rw [m_ d];exact qj r n I hi b
theorem mD {x:p_} {c:e_}:∀(ns:List (p_×GW)) (h:EY) (I:List (p_×e_)),(FA h.objs.size ns I).lookup x=a_ c ->
  I.lookup x=a_ c\/(h.objs.size<=c/\(pushCells h ns).IsCell c c_)
 |[],_,_,e=>.inl e
 |(y,k)::r,h,I,e=>by
  unfold FA at e;unfold pushCells;by_cases Y:(k==FG)=d_
  ·rw [f_ Y] at e ⊢;have q:=mD (x:=x) (c:=c) r (h.push {cls:=.type "cell",data:=.cell c_}) ((y,h.objs.size)::I) (by rw [FC];exact e);rcases q with q|⟨b,a⟩
   ·rw [w_] at q;cases J:x==y with
    |true=>
     rw [J] at q;have e1:=Ew q;subst e1;exact .inr ⟨u_ _,Heap.IsCell.keeps ⟨_,Ei _ rfl,rfl⟩ (Kc r _)⟩
    |false=>rw [J] at q;exact .inl q
   ·rw [FC] at b;exact .inr ⟨by omega,a⟩
  ·rw [m_ Y] at e ⊢;exact mD r h I e
theorem mL {env:JY} (f:p_×GW->List (p_×e_)->MO (ForInStep (List (p_×e_))))
  (Y:∀n k cs,f (n,k) cs=if (k==NameKind.free)=d_ then (do let a <- cellOf env n;FF (.yield ((n,a)::cs))) else FF (.yield cs)) :
  ∀(ns:List (p_×GW)) (I:List (p_×e_)),(∀x∈ns,x.2=NameKind.free->∃c,env.cells.lookup x.1=a_ c)->forIn ns I f=(FF (rQ env.cells ns I):MO _)
 |[],I,_=>by rw [Mi];rfl
 |(y,k)::r,I,d=>by
  have b:∀x∈r,x.2=NameKind.free->∃c,env.cells.lookup x.1=a_ c:=fun x h=>d x (C_ _ h);rw [List.forIn_cons,Y];unfold rQ;by_cases J:(k==NameKind.free)=d_
  ·rw [f_ J,f_ J];obtain ⟨c,e⟩:=d (y,k) EB (Ga J);have g:env.cells.lookup y=a_ c:=e;have e2:cellOf env y=FF c:=by unfold cellOf;rw [g]
   rw [e2,g];exact mL f Y r _ b
  ·rw [m_ J,m_ J];exact mL f Y r _ b
theorem rO (I:∀x∈scope.names,x.2=NameKind.free->∃c,env.cells.lookup x.1=a_ c):closureFor scope env=FF (rQ env.cells scope.names []):=by
 simp only [closureFor];rw [mL (env:=env) _ (fun n k cs=>by cases h:(k==NameKind.free)<;>simp [h]) scope.names [] I];rfl
theorem CB {M:Jl} {E:Vp} {f:e_} {Y:List (p_×e_)} {I:JY} {Q:JY->z_->Prop}
  (g:∀h1:EY,(∀b o,s.heap.get? b=a_ o->h1.get? b=a_ o)->h1.Ns s.heap.objs.size (fun _=>c_) ->
   (∀x c,(FA (s.heap.objs.size+1) scope.names Y).lookup x=a_ c->Y.lookup x=a_ c\/(s.heap.objs.size<c/\h1.IsCell c c_)) ->
   Q {scope:=scope,locals:=s.heap.objs.size,globals:=f,cells:=FA (s.heap.objs.size+1) scope.names Y,qual:=qual,func:=c_,code:=I.code,frame:=I.frame,builtins:=I.builtins} {s with heap:=h1}) :
  Cb M A (Kx scope f Y [] qual c_ .none (a_ I)) Q E s:=by
 simp only [Kx,KY,J0];refine k_ (wpAny_alloc ?_);refine k_ (wpAny_layCells _ (fun name J cells=>by cases d:J==FG<;>simp [d]) _ _ _ _ ?_);rw [show ({s with heap:=s.heap.push {cls:=.type "dict",data:=.dict #[]}}:z_).heap.objs.size=s.heap.objs.size+1 from FC ..];rw [Mi];refine k_ (A_ (A_ ?_));refine g _ (fun b o e=>Kc _ _ b o (s_ _ e)) ((Heap.Ns.new s.heap (.type "dict")).keeps (Kc _ _)) fun x c e=>?_;have q:=mD (x:=x) (c:=c) scope.names (s.heap.push {cls:=.type "dict",data:=.dict #[]}) Y (by rw [FC];exact e);rw [FC] at q;exact q.imp id fun ⟨a,b⟩=>⟨by omega,b⟩
theorem rh {env:JY} {x:p_}:∀{ns:List (p_×GW)},ns.lookup x=a_ .free ->
  (ns.map fun (n,k)=>if (k==NameKind.free&&env.scope.kind==.function&&env.kindOf n==a_ .cell) then (n,FG) else (n,k)).lookup x=a_ .cell \/
  (ns.map fun (n,k)=>if (k==NameKind.free&&env.scope.kind==.function&&env.kindOf n==a_ .cell) then (n,FG) else (n,k)).lookup x=a_ .free
 |[],h=>by simp at h
 |(n,k)::r,h=>by
  have J:=@rh env x r;rw [Eh];dsimp only;by_cases Y:(k==NameKind.free&&env.scope.kind==.function&&env.kindOf n==a_ .cell)=d_
  ·rw [f_ Y,w_];cases I:x==n with
   |true=>exact .inl rfl
   |false=>rw [w_,I] at h;exact J h
  ·rw [m_ Y,w_];cases I:x==n with
   |true=>
    rw [w_,I] at h;have e:=Ew h;subst e;exact .inr rfl
   |false=>rw [w_,I] at h;exact J h
theorem rj {env:JY} {x:p_}:∀{ns:List (p_×GW)},
  ((ns.map fun (n,k)=>if (k==NameKind.free&&env.scope.kind==.function&&env.kindOf n==a_ .cell) then (n,FG) else (n,k)).lookup x=a_ .cell \/
  (ns.map fun (n,k)=>if (k==NameKind.free&&env.scope.kind==.function&&env.kindOf n==a_ .cell) then (n,FG) else (n,k)).lookup x=a_ .free) ->
  ns.lookup x=a_ .cell\/ns.lookup x=a_ .free
 |[],h=>by simp at h
 |(n,k)::r,h=>by
  have Y:=@rj env x r;rw [Eh] at h;dsimp only at h;by_cases J:(k==NameKind.free&&env.scope.kind==.function&&env.kindOf n==a_ .cell)=d_
  ·rw [f_ J,w_] at h;rw [w_];cases I:x==n with
   |true=>
    have:k=NameKind.free:=by
     rw [n_,n_] at J;exact Ga J.1.1
    subst this;exact .inr rfl
   |false=>rw [I] at h;exact Y h
  ·rw [m_ J,w_] at h;rw [w_];cases I:x==n with
   |true=>rw [I] at h;exact h
   |false=>rw [I] at h;exact Y h
def b8 (X:Cx) (N':List p_) (sc:JI) (L:e_) (cs:List (p_×e_)) (s:z_) (H:Hp) (fp:List e_):Cx:=
 {X with
  N:=N',s₀:=s,H₀:=H,outer:=X.stack,ex:=fp,pn:=[],xe:=fun _ _=>False
  fn:=fun x=> !(sc.names.any fun p=>p.1==x&&p.2==NameKind.free)
  env:={scope:=relabel sc X.env,locals:=L,globals:=X.env.globals,cells:=cs,qual:=X.env.qual,func:=c_,code:=X.env.code,frame:=X.env.frame,builtins:=X.env.builtins}}
def inS (ix:List (Option Nat)) (σ:St):St:=ix.map fun o=>match o with
 |none=>c_
 |some j=>(σ[j]?).join
def bB (N:List p_) (I:JI) (N':List p_) (sc:JI) (ix:List (Option Nat)):Bool:=
 r_ (ix.length=N'.length) &&
 ((Fm ix.length).all fun i=>match ix[i]? with
  |some (a_ j)=>(match N'[i]?,N[j]? with
   |some x,a_ y=>x==y&&sc.names.lookup x==a_ NameKind.free
   |_,_=>b_)
  |_=>d_) &&
 (sc.names.all fun p=>(p.2 != NameKind.free||(I.names.lookup p.1==a_ FG||I.names.lookup p.1==a_ NameKind.free))&&(p.2 != NameKind.local||sc.names.lookup p.1==a_ NameKind.local)) &&
 (sc.names.all fun p=>sc.names.all fun q=> !(p.1==q.1)||p.2==q.2)
section
theorem bB.len (I:bB X.N X.env.scope N' sc ix=d_):ix.length=N'.length:=by
 unfold bB at I;rw [n_,n_,n_] at I;exact GL I.1.1.1
theorem bB.at (I:bB X.N X.env.scope N' sc ix=d_) {i j:Nat} {x:p_} (h:ix[i]? =a_ (a_ j)) (J:N'[i]? =a_ x):X.N[j]? =a_ x/\sc.names.lookup x=a_ .free:=by
 unfold bB at I;rw [n_,n_,n_] at I;have q:=FL.mp I.1.1.2 i (List.mem_range.mpr (A1.mp h).1);rw [h,J] at q;dsimp only at q;cases e:X.N[j]? with
 |none=>rw [e] at q;cases q
 |some y=>
  rw [e] at q;dsimp only at q;rw [n_] at q;exact ⟨by rw [Ga q.1],Ga q.2⟩
theorem bB.fr (I:bB X.N X.env.scope N' sc ix=d_) (h:(x,NameKind.free)∈sc.names):X.env.kindOf x=a_ .cell\/X.env.kindOf x=a_ .free:=by
 unfold bB at I;rw [n_,n_] at I;have q:=FL.mp I.1.2 _ h;rw [n_] at q;have J:=q.1;rw [Ir] at J;rcases J with z|z
 ·exact Ek z (by simp)
 ·rw [Ir] at z;exact z.imp (fun e=>Ga e) fun e=>Ga e
theorem bB.loc (I:bB X.N X.env.scope N' sc ix=d_):∀x∈sc.names,x.2=NameKind.local->sc.names.lookup x.1=a_ .local:=fun x Y e=>by
 unfold bB at I;rw [n_,n_] at I;have q:=FL.mp I.1.2 _ Y;rw [n_] at q;have J:=q.2;rw [Ir] at J;rcases J with z|z
 ·rw [e] at z;exact Ek z (by decide)
 ·exact Ga z
theorem bB.apart (I:bB X.N X.env.scope N' sc ix=d_) (h1:(x,FG)∈sc.names) (h2:(x,NameKind.free)∈sc.names):False:=by
 unfold bB at I;rw [n_] at I;have q:=FL.mp (FL.mp I.2 _ h1) _ h2;simp at q
theorem qh (I:Inv X pins σ H s) (J:bB X.N X.env.scope N' sc ix=d_):∀x∈sc.names,x.2=NameKind.free->∃c,X.env.cells.lookup x.1=a_ c:=fun x Y e=>by
 obtain ⟨n,k⟩:=x;have a:k=NameKind.free:=e;subst a;exact I.ok.has n (bB.fr J Y)
theorem DL (I:Inv X pins σ H s) (Y:bB X.N X.env.scope N' sc ix=d_) {c:e_} (h:(rQ X.env.cells sc.names []).lookup x=a_ c):(x,NameKind.free)∈sc.names/\X.env.cells.lookup x=a_ c:=by
 rcases rP _ _ h with ⟨m,e⟩|z
 ·obtain ⟨d,hd⟩:=qh I Y _ m rfl;have J:X.env.cells.lookup x=a_ d:=hd;rw [J] at e;have e2:c=d:=e;subst e2;exact ⟨m,J⟩
 ·simp at z
theorem comp_inv {h1:EY} (I:Inv X pins σ H s) (E:∀b∈fp,Bq X pins H b) (hb:∀b∈fp,∃o,s.heap.get? b=a_ o) (g:bB X.N X.env.scope N' sc ix=d_) (hk:sc.kind=.function) (d:s.heap.objs.size<=L)
  (D:∀b o,s.heap.get? b=a_ o->h1.get? b=a_ o) (ns:h1.Ns L fun _=>c_)
  (n:∀x c,(FA (L+1) sc.names (rQ X.env.cells sc.names [])).lookup x=a_ c->(rQ X.env.cells sc.names []).lookup x=a_ c\/(L<c/\h1.IsCell c c_)) :
  Inv (b8 X N' sc L (FA (L+1) sc.names (rQ X.env.cells sc.names [])) s H fp) [] (inS ix σ) H {s with heap:=h1}:=by
 have Y:∀x c,(rQ X.env.cells sc.names []).lookup x=a_ c->(x,NameKind.free)∈sc.names/\X.env.cells.lookup x=a_ c/\(∃v,s.heap.IsCell c v)/\c<s.heap.objs.size:=fun x c e=>by
  obtain ⟨m,U⟩:=DL I g e;obtain ⟨v,z⟩:=I.cell x c U;exact ⟨m,U,⟨v,z⟩,z.lt⟩
 have A:∀b∈fp,b<s.heap.objs.size:=fun b z=>let ⟨o,e⟩:=hb b z;y_ e;have Q:∀b∈fp,∀x c,(FA (L+1) sc.names (rQ X.env.cells sc.names [])).lookup x=a_ c->c≠b:=fun b z x c e=>by
  have f:=A b z;rcases n x c e with q|⟨q,_⟩
  ·exact (E b z).2.2.2.2.1 x c (Y x c q).2.1
  ·exact gt_ne (Em f d) q
 have G:(b8 X N' sc L (FA (L+1) sc.names (rQ X.env.cells sc.names [])) s H fp).Ok:=by
  refine ⟨I.ok.mod,hk,I.ok.glob,I.ok.blt,d,?_,?_,?_,I.ok.hd,I.ok.frames,.inl rfl,?_,I.bs,EJ I.ok.bsz I.sz,?_,?_,I.stack,I.BN⟩
  ·refine qj sc.names (L+1) _ (fun x y c e1 e2=>I.ok.inj x y c (Y x c e1).2.1 (Y y c e2).2.1) fun x c e=>?_;exact LV (Em (Y x c e).2.2.2 d)
  ·intro x hx;have K:=rj (env:=X.env) (x:=x) (ns:=sc.names) hx;have q:((FA (L+1) sc.names (rQ X.env.cells sc.names [])).lookup x).isSome=d_:=by
    rcases K with z|z
    ·exact Gp _ _ _ (.inl z)
    ·exact Gp _ _ _ (.inr (qi _ _ (.inl (Fq z))))
   exact Gg.mp q
  ·intro x c O e;show s.heap.objs.size<=c;rcases n x c e with q|⟨q,_⟩
   ·have m:=(Y x c q).1;have a:(!(sc.names.any fun p=>p.1==x&&p.2==NameKind.free))=d_:=O;have z:(sc.names.any fun p=>p.1==x&&p.2==NameKind.free)=d_:=Jo.mpr ⟨_,m,by simp⟩;rw [z] at a;cases a
   ·exact EJ d (HF q)
  ·intro b z;have f:=A b z;exact ⟨EA (Em f d),Q b z⟩
  ·intro b o e z;rcases (E b z).2.2.2.1 with q|q
   ·exact I.ok.noex b o e q
   ·exact Ek (Em (y_ e) (EJ I.ok.bsz q)) (Fi _)
  ·intro b z hs;rcases v_.mp (I.qY b hs) with q|q
   ·exact (E b z).2.1 q
   ·exact (E b z).2.2.1 q
 refine ⟨G,rfl,I.bare,Un.kept D,⟨_,ns,fun i x v P h2 h3=>?_⟩,fun x c e=>?_,I.hok.fresh d,fun x c e=>?_,fun p hp=>Ek hp (by simp [b8]),I.hok.kept D,?_⟩
 ·have N:∃j,ix[i]? =a_ (a_ j)/\σ[j]? =a_ (a_ v):=by
   unfold inS at h2;rw [E_] at h2;cases e:ix[i]? with
   |none=>rw [e] at h2;cases h2
   |some o=>
    rw [e] at h2;cases o with
    |none=>cases h2
    |some j=>
     have J:(σ[j]?).join=a_ v:=Ew h2;refine ⟨j,rfl,?_⟩
     cases e2:σ[j]? with
     |none=>rw [e2] at J;cases J
     |some w=>
      rw [e2] at J;have t:w=a_ v:=J;rw [t]
  obtain ⟨j,e1,e2⟩:=N;obtain ⟨e3,e4⟩:=bB.at g e1 P;have h:=bB.fr g (Fq e4);obtain ⟨m,hn,hl⟩:=I.loc;obtain ⟨u,r,l⟩:=hl j x v e3 e2 (h.elim (fun z=>.inr (.inl z)) fun z=>.inr (.inr z));refine ⟨u,r,.inr ⟨rh (env:=X.env) (x:=x) (ns:=sc.names) e4,?_⟩⟩
  rcases l with ⟨k,_⟩|⟨k,c,e,z⟩
  ·rcases h with q|q<;>rw [q] at k<;>cases k
  ·have T:=qi (cells:=X.env.cells) sc.names [] (.inl (Fq e4));obtain ⟨c2,C⟩:=Gg.mp T;have S:=(Y x c2 C).2.1;rw [e] at S;cases S;have W:=Gp (x:=x) sc.names (L+1) (rQ X.env.cells sc.names []) (.inr T);obtain ⟨c3,F⟩:=Gg.mp W;rcases n x c3 F with B|⟨B,q7⟩
   ·rw [C] at B;cases B;exact ⟨c,F,z.keeps D⟩
   ·exfalso;rcases kZ _ _ _ F with ⟨_,Z⟩|R
    ·exact bB.apart g Z (Fq e4)
    ·rw [C] at R;cases R;exact Ek (Iq (Em (Y x c C).2.2.2 d) B) (Fi _)
 ·rcases n x c e with q|⟨_,q⟩
  ·obtain ⟨v,z⟩:=(Y x c q).2.2.1;exact ⟨v,z.keeps D⟩
  ·exact ⟨_,q⟩
 ·rcases n x c e with q|⟨q,_⟩
  ·exact I.freeC x c (Y x c q).2.1
  ·exact I.hok.fresh (EJ d (HF q))
 ·show (inS ix σ).length=N'.length;unfold inS;rw [t_];exact bB.len g
end
def PTs (X:Cx) (ifs:List Fe) (t:TT):Prop:=
 ∀(pins:Pn) (s:z_) (σ:St) (H:Hp) (Q:Bool->Hp->Prop),Inv X pins σ H s->t σ H Q ->
  Cb (Eg X.prog X.w) X.A (forIn ifs d_ fun c r=>if r=d_ then do let I <- LF c X.env (Eu c X.env);FF (HY I) else FF (HY r)) (TP X pins σ Q) X.xe s
noncomputable def tYes:TT:=fun _ H Q=>Q d_ H
theorem xA:PTs X [] tYes:=fun _ _ _ H _ I h=>wpAny_tests_nil ⟨H,I,h⟩
theorem sO {c:Fe} {t:TT} (h:PT X c t):PTs X [c] t:=fun pins s σ H Q I q=>wpAny_tests_one (h pins s σ H Q I q)
theorem wg {R:LM->z_->Prop} {it I:l_} (J:Nat->z_->Prop)
  (Y:∀n s,J n s->Cb (Eg prog w) A (pyNext it) (fun r e=>match r with
   |none=>R (.ok .next) e
   |some v=>Cb (Eg prog w) A (IF tg it v) (fun _ a=>Cb (Eg prog w) A (HZ tg env v) (fun _ j=>
     Cb (Eg prog w) A (forIn ifs d_ fun c r=>if r=d_ then do let b <- LF c env (Eu c env);FF (HY b) else FF (HY r)) (fun b d=>
      if b=d_ then Cb (Eg prog w) A (Eu elt env) (fun x i=>Cb (Eg prog w) A (Hw (.builtin "list.append") [I,x]) (fun _ g=>∃m,m<n/\J m g) (fun _ _=>False) i) (fun _ _=>False) d
      else ∃m,m<n/\J m d) (fun _ _=>False) j) (fun _ _=>False) a) (fun _ _=>False) e) (fun _ _=>False) s)
  (n:Nat) (h:J n s):Ht (Eg prog w) A (.compLoop (.ListComp elt [⟨tg,iter,ifs,0⟩] scope pos) 0 it I env) R s:=by
 refine codeAny_loop rfl J (fun n s l=>?_) n h;show Cb _ A ((compTurn (.ListComp elt [⟨tg,iter,ifs,0⟩] scope pos) 0 it I env).onRaise (fun x=>do Ll x env;theTreesLotGoes x)) _ _ s;refine wpAny_noted ?_;rw [compTurn_list];refine k_ (HB (k_ (EV (Y n s l) (fun r e h1=>?_) fun _ _ z=>z.elim)));cases r with
 |none=>exact A_ h1
 |some v=>
  refine k_ (EV h1 (fun _ a f=>?_) fun _ _ z=>z.elim);refine k_ (EV f (fun _ j h2=>k_ (EV h2 (fun b d k=>?_) fun _ _ z=>z.elim)) fun _ _ z=>z.elim);cases b with
  |false=>exact A_ ⟨rfl,k⟩
  |true=>
   exact k_ (k_ (EV k (fun x i p=>k_ (EV p (fun _ g o=>A_ (A_ ⟨rfl,o⟩)) fun _ _ z=>z.elim)) fun _ _ z=>z.elim))
def m8 (J:It) (ix:List (Option Nat)) (g:TG) (tt:TT) (te:TE) (σ:St) (F:List V->Hp->Prop) (H:Hp):Prop:=
 ∃W:Nat->Nat->List V->Hp->Prop,(∃m,W 0 m [] H)/\∀i m ys H,W i m ys H ->
  (J.stop i H/\ys.length<=g_/\F ys H)\/(J.go i H/\ys.length<=g_/\∃N:List V->Hp->Prop,(∀Y H',N Y H'->∃a,a<m/\W (i+1) a Y H') /\
   ∀x H',J.yld i H x H'->g x (inS ix σ) H' fun I H2=>tt I H2 fun b c=>if b=d_ then te I c fun y d=>N (ys++[y]) d else N ys c)
section
theorem Inv.slots0 (I:Inv X pins σ' H s) (h:∀(i:Nat) v,(inS ix σ)[i]? =a_ (a_ v)->σ'[i]? =a_ (a_ v)) (J:(inS ix σ).length=X.N.length):Inv X pins (inS ix σ) H s:=
 I.weak (by rw [J,I.len]) h
theorem we {g:TG} {J:It} {tn:Nat->EY->Prop} {F:List V->Hp->Prop} {E:Vp}
  (hc:X.calm=d_) (I:Inv X pins σ H s) (T:Turn X.prog X.w X.K tg J fp it tn) (st:tn 0 s.heap) (hf:∀b∈fp,Bq X pins H b) (ok:bB X.N X.env.scope N' sc ix=d_) (hk:sc.kind=.function)
  (hg:∀L cs s H fp,PG (b8 X N' sc L cs s H fp) tg g) (hkeep:∀x σ' H' (Q:St->Hp->Prop),g x σ' H' Q->g x σ' H' fun σ2 H2=>Q σ2 H2/\∀(i:Nat) v,σ'[i]? =a_ (a_ v)->(∃j,ix[i]? =a_ (a_ j))->σ2[i]? =a_ (a_ v))
  (ht:∀L cs s H fp,PTs (b8 X N' sc L cs s H fp) ifs tt) (he:∀L cs s H fp,PE (b8 X N' sc L cs s H fp) elt te)
  (tr:m8 J ix g tt te σ F H) :
  Cb (Eg X.prog X.w) X.A (newList []) (fun acc s3=>Cb (Eg X.prog X.w) X.A (Kx sc X.env.globals (rQ X.env.cells sc.names []) [] X.env.qual c_ .none (a_ X.env)) (fun f s4=>
   Ht (Eg X.prog X.w) X.A (.compStart (.ListComp elt [⟨tg,iter,ifs,0⟩] sc pos) 0 (.ref it) acc {f with scope:=relabel sc X.env}) (fun r s'=>(∃fl,r=.ok fl) /\
    ∃(p:e_) (ys:List V) (H2:Hp),acc=.ref p/\Inv X pins σ (upd H2 p (.lst ys)) s'/\H2 p=c_/\F ys H2/\(∃m,s'.heap.Ns f.locals m)/\(upd H2 p (.lst ys)) f.locals=c_/\f.locals≠X.env.locals /\
     X.s₀.heap.objs.size<=f.locals/\(∀x c,X.env.cells.lookup x=a_ c->c≠f.locals)/\∀q∈X.pn++pins,q.1≠f.locals) s4) E s3) E s:=by
 obtain ⟨W,⟨m0,w0⟩,turn⟩:=tr;refine JA (CB fun h1 kp ns hcl=>?_);dsimp only at kp ns hcl ⊢;generalize hH2:s.heap.push {cls:=.type "list",dict:=c_,data:=.seq ([]:List l_).toArray}=w at kp ns hcl ⊢;have eL:w.objs.size=s.heap.objs.size+1:=by rw [<- hH2,FC]
 have kp0:∀b o,s.heap.get? b=a_ o->h1.get? b=a_ o:=fun b o e=>kp b o (hH2▸s_ _ e);have hD0:h1.PlainList s.heap.objs.size #[]:=⟨_,kp _ _ (hH2▸Ei _ rfl)⟩
 have fpo:∀b∈fp,∃o,s.heap.get? b=a_ o:=fun b z=>let ⟨o,e,_⟩:=T.obj 0 _ st b z;⟨o,e⟩;have fpl:∀b∈fp,b<s.heap.objs.size:=fun b z=>let ⟨o,e⟩:=fpo b z;y_ e;have sL:s.heap.objs.size<=w.objs.size:=by rw [eL];exact EK _
 have S:s.heap.objs.size<w.objs.size:=by rw [eL];exact GZ _
 have I0:=comp_inv (h1:=h1) I hf fpo ok hk sL kp0 ns hcl;generalize a:b8 X N' sc w.objs.size (FA (w.objs.size+1) sc.names (rQ X.env.cells sc.names [])) s H fp=Y at I0;have B:Y.prog=X.prog:=by subst a;rfl
 have A:Y.w=X.w:=by subst a;rfl
 have eY3:Y.K=X.K:=by subst a;rfl
 have eY4:Y.calm=d_:=by subst a;exact hc
 have G:Y.A=X.A:=by subst a;rfl
 have l:Y.env={scope:=relabel sc X.env,locals:=w.objs.size,globals:=X.env.globals,cells:=FA (w.objs.size+1) sc.names (rQ X.env.cells sc.names []),qual:=X.env.qual,func:=c_,code:=X.env.code,frame:=X.env.frame,builtins:=X.env.builtins}:=by subst a;rfl
 have eY7:Y.xe=fun _ _=>False:=by subst a;rfl
 have eY8:Y.pn=[]:=by subst a;rfl
 have eY9:Y.fs=frs X.stack:=by subst a;rfl
 have K:Y.s₀=s:=by subst a;rfl
 have eY11:Y.H₀=H:=by subst a;rfl
 have eY12:Y.ex=fp:=by subst a;rfl
 have eY13:Y.N=N':=by subst a;rfl
 have hgY:PG Y tg g:=by subst a;exact hg _ _ _ _ _
 have htY:PTs Y ifs tt:=by subst a;exact ht _ _ _ _ _
 have heY:PE Y elt te:=by subst a;exact he _ _ _ _ _
 have lenI:(inS ix σ).length=Y.N.length:=by rw [eY13];unfold inS;rw [t_];exact bB.len ok
 have N:∀(b:e_),b<=w.objs.size->(∀x c,X.env.cells.lookup x=a_ c->c≠b)->∀x c,Y.env.cells.lookup x=a_ c->c≠b:=fun b h hx x c e=>by
  rw [l] at e;rcases hcl x c e with q|⟨q,_⟩
  ·exact hx x c (DL I ok q).2
  ·exact (AM (Nat.lt_of_le_of_lt h (GZ _)) q).symm
 have oldc:∀x c,X.env.cells.lookup x=a_ c->c<s.heap.objs.size:=fun x c e=>let ⟨v,z⟩:=I.cell x c e;z.lt;have nfs:∀b,s.heap.objs.size<=b->b∉frs X.stack:=fun b h z=>by
  rcases v_.mp (I.qY b z) with q|q
  ·exact AM I.lt h q.symm
  ·exact I.nofs h q
 have fpY:∀(pp:Pn) (H':Hp),(∀b∈fp,H' b=c_)->(∀q∈pp,q.1∉fp)->∀b∈fp,Bq Y pp H' b:=fun pp H' hn Z b z=>by
  have hlt:=fpl b z;refine ⟨hn b z,?_,?_,.inl (by rw [eY12];exact z),N b (HF (Iq hlt S)) ((hf b z).2.2.2.2.1),fun q D e=>?_⟩
  ·rw [l];exact AM hlt sL
  ·rw [eY9];intro hs;rcases v_.mp (I.qY b hs) with q|q
   ·exact (hf b z).2.1 q
   ·exact (hf b z).2.2.1 q
  ·rw [eY8] at D;exact Z q (by simpa using D) (by rw [e];exact z)
 have Dfp:s.heap.objs.size∉fp:=fun z=>Ek (fpl _ z) (Fi _);have Dok:∀(pp:Pn) (H':Hp),H' s.heap.objs.size=c_->(∀q∈pp,q.1≠s.heap.objs.size)->Bq Y pp H' s.heap.objs.size:=fun pp H' hn Z=>by
  refine ⟨hn,?_,by rw [eY9];exact nfs _ (u_ _),.inr (by rw [K];exact u_ _),N _ sL (fun x c e=>EA (oldc x c e)),fun q D=>?_⟩
  ·rw [l];exact EA S
  ·rw [eY8] at D;exact Z q (by simpa using D)
 have C:Ht (Eg X.prog X.w) X.A (.compLoop (.ListComp elt [⟨tg,iter,ifs,0⟩] sc pos) 0 (.ref it) (.ref s.heap.objs.size) Y.env) (fun r s'=>(∃fl,r=.ok fl) /\
    ∃(p:e_) (ys:List V) (H2:Hp),D_ s.heap.objs.size=.ref p/\Inv X pins σ (upd H2 p (.lst ys)) s'/\H2 p=c_/\F ys H2/\(∃m,s'.heap.Ns w.objs.size m)/\(upd H2 p (.lst ys)) w.objs.size=c_/\w.objs.size≠X.env.locals /\
     X.s₀.heap.objs.size<=w.objs.size/\(∀x c,X.env.cells.lookup x=a_ c->c≠w.objs.size)/\∀q∈X.pn++pins,q.1≠w.objs.size) {s with heap:=h1}:=by
  refine wg (fun n s'=>∃i ys its H',Inv Y [] (inS ix σ) H' s'/\tn i s'.heap/\(∀b∈fp,H' b=c_)/\H' s.heap.objs.size=c_/\s'.heap.PlainList s.heap.objs.size its/\Vals ys its.toList/\W i n ys H') ?_ m0
   ⟨0,[],#[],H,I0,T.keep _ _ _ st fun b _ o e=>kp0 b o e,fun b z=>(hf b z).1,I.hok.fresh (u_ _),hD0,.nil,w0⟩
  rintro n s3 ⟨i,ys,its,O,I3,st3,fr3,t,pl3,P,w3⟩;obtain ⟨U,oD⟩:=pl3;have hpD:∀q∈[((s.heap.objs.size:e_),({cls:=.type "list",data:=.seq its U}:Io))],q.1∉fp:=fun q Z=>by
   have:q=_:=Fy.mp Z;rw [this];exact Dfp
  have I3':Inv Y [((s.heap.objs.size:e_),({cls:=.type "list",data:=.seq its U}:Io))] (inS ix σ) O s3:=I3.sP fun q Z=>by
   have e:q=_:=Fy.mp Z;obtain ⟨d0,d1,d2,_⟩:=Dok [] O t (fun _ z=>nomatch z);rw [e];exact ⟨oD,d0,d1,d2,fun v z=>by cases z⟩
  rcases turn i n ys O w3 with ⟨stop,ln,qn⟩|⟨go,ln,NN,hNN,step⟩
  ·have h1:=T.done Y B A eY3 eY4 i _ s3 _ O (fun _ _=>False) I3' (fpY _ O fr3 hpD) st3 stop;rw [G] at h1;refine EV h1 (fun r s4 ⟨hr,I4⟩=>?_) fun _ _ z=>z;subst hr;obtain ⟨oD4,hD4,_⟩:=I4.pin ((s.heap.objs.size:e_),({cls:=.type "list",data:=.seq its U}:Io)) (by rw [eY8];simp);refine ⟨⟨_,rfl⟩,s.heap.objs.size,ys,O,rfl,?_,t,qn,?_,?_,?_,?_,?_,?_⟩
   ·have R:Un (frs X.stack) fp H O s.heap s4.heap:=by
     have:=I4.base;rw [eY9,K,eY11,eY12] at this;exact this
    have hok4:HOk X.prog X.w O s4.heap:=by
     have:=I4.hok;rw [B,A] at this;exact this
    refine I.call' (ch:=fp) (by have:=I4.os;rw [K] at this;exact this) ⟨R.keep,R.slot,fun b o e nn hx=>?_,R.there,fun b xs q=>?_,fun b o u q=>?_,fun b ps q=>?_⟩ (fun b u e=>?_) I4.bare (fun b h=>?_)
    ·rw [aq (EA (y_ e))];exact R.free b o e nn hx
    ·rw [aq (aL (R.tups b xs q) t)];exact R.tups b xs q
    ·rw [aq (aL (R.frzs b o u q) t)];exact R.frzs b o u q
    ·obtain ⟨more,z⟩:=R.tbls b ps q;exact ⟨more,by rw [aq (aL z t)];exact z⟩
    ·by_cases h:b=s.heap.objs.size
     ·subst h;rw [ao] at e;cases e;exact ⟨ln,its.toList,U,P,by simpa using oD4⟩
     ·rw [aq h] at e;exact (hok4 b u e).wW (fun _ _ _ q=>q) (fun c q=>by rw [aq (aL q t)];exact q) fun c xs q=>by rw [aq (aL q t)];exact q
    ·obtain ⟨f0,f1,f2,f3,f4,f5⟩:=hf b h;exact ⟨f3,f1,f4,f5⟩
   ·obtain ⟨m,hn,_⟩:=I4.loc;rw [l] at hn;exact ⟨m,hn⟩
   ·rw [aq (Ip S)];have:=I4.free;rw [l] at this;exact this
   ·exact Ip (Iq I.lt S)
   ·exact EJ I.sz sL
   ·exact fun x c e=>AM (oldc x c e) sL
   ·exact fun q Z=>AM (y_ (I.pin q Z).1) sL
  ·have h1:=T.item Y B A eY3 eY4 i _ s3 _ O (fun _ _=>False) I3' (fpY _ O fr3 hpD) st3 go;rw [G] at h1;refine EV h1 (fun r s4 ⟨u,hr,h4⟩=>?_) fun _ _ z=>z;subst hr;refine EV h4 (fun _ s5 ⟨x,H5,I5,r5,y5,st5,fr5⟩=>?_) fun _ _ z=>z;have I5':=I5.pinned (fpY _ H5 fr5 hpD) (T.obj _ _ st5);have h5:=hgY _ s5 _ H5 x u _ I5' r5 (hkeep x _ H5 _ (step x H5 y5));rw [B,A,G,eY7] at h5;refine EV h5 (fun _ s6 ⟨σ6,H6,I6,q6,k6⟩=>?_) fun _ _ z=>z;have h6:=htY _ s6 σ6 H6 _ I6 q6;rw [B,A,G,eY7] at h6;refine EV h6 (fun b s7 ⟨H7,I7,q7⟩=>?_) fun _ _ z=>z;have back:∀{s8:z_} {H8:Hp},Inv Y ([((s.heap.objs.size:e_),({cls:=.type "list",data:=.seq its U}:Io))]++vj fp s5.heap) σ6 H8 s8->Inv Y [] (inS ix σ) H8 s8/\tn (i+1) s8.heap/\(∀b∈fp,H8 b=c_)/\H8 s.heap.objs.size=c_/\s8.heap.get? s.heap.objs.size=a_ {cls:=.type "list",data:=.seq its U}:=fun {s8 H8} I8=>by
    obtain ⟨a1,a2,_⟩:=I8.pin ((s.heap.objs.size:e_),({cls:=.type "list",data:=.seq its U}:Io)) (by rw [eY8];simp);refine ⟨(I8.sP (pins':=[]) fun _ z=>nomatch z).slots0 (fun k v e=>?_) lenI,T.keep _ _ _ st5 fun b h o e=>(I8.pin (b,o) (EW _ (EW _ (jR h e)))).1,fun b h=>?_,a2,a1⟩
    ·refine k6 k v e ?_;unfold inS at e;rw [E_] at e;cases e2:ix[k]? with
     |none=>rw [e2] at e;cases e
     |some o=>
      cases o with
      |none=>rw [e2] at e;cases e
      |some j=>exact ⟨j,rfl⟩
    ·obtain ⟨o,e,d⟩:=T.obj _ _ st5 b h;exact (I8.pin (b,o) (EW _ (EW _ (jR h e)))).2.1
   cases b with
   |false=>
    rw [m_ Fc] at q7 ⊢;obtain ⟨m',hm,w7⟩:=hNN _ _ q7;obtain ⟨b1,b2,b3,b4,b5⟩:=back I7;exact ⟨m',hm,i+1,ys,its,H7,b1,b2,b3,b4,⟨U,b5⟩,P,w7⟩
   |true=>
    rw [f_ rfl] at q7 ⊢;have h7:=heY _ s7 σ6 H7 _ I7 q7;rw [B,A,G,eY7,l] at h7;rw [l];refine EV h7 (fun uu s8 ⟨y,H8,I8,r8,q8⟩=>?_) fun _ _ z=>z;obtain ⟨m',hm,w8⟩:=hNN _ _ q8;obtain ⟨b1,b2,b3,b4,b5⟩:=back I8;have ez:its.size<=g_:=by
     have h1:=P.length;have h2:its.toList.length=its.size:=by simp
     omega
    refine wpAny_list_append_plain (hsz:=ez) ⟨U,b5⟩ fun h9 pl9 sb9=>?_;obtain ⟨d0,d1,d2,d3,d4,d5⟩:=Dok [] H8 b4 (fun _ z=>nomatch z);refine ⟨m',hm,i+1,ys++[y],its.push uu,H8,b1.turned (t':=s8.toks) (fun b o h e=>(sb9.2 b h).trans e) d0 d1 d3 d4 d5,T.keep _ _ _ b2 fun b h o e=>(sb9.2 b ?_).trans e,b3,b4,pl9,?_,w8⟩
    ·exact AM (fpl b h) (u_ _)
    ·rw [Array.toList_push];exact P.append (.cons r8 .nil)
 rw [l] at C;exact codeAny_compStart_list C (T.self X.A 0 _ _ _ (T.keep _ _ _ st fun b _ o e=>kp0 b o e) C)
end
def tComp (wi:TI) (ix:List (Option Nat)) (g:TG) (tt:TT) (te:TE):TE:=fun σ H Q=>wi σ H fun J H1=>m8 J ix g tt te σ (fun ys H2=>∀p,H2 p=c_->Q (.ref p) (upd H2 p (.lst ys))) H1
def qm (ix:List (Option Nat)) (g:TG):Prop:=∀x σ' H' (Q:St->Hp->Prop),g x σ' H' Q->g x σ' H' fun I H2=>Q I H2/\∀(i:Nat) v,σ'[i]? =a_ (a_ v)->(∃j,ix[i]? =a_ (a_ j))->I[i]? =a_ (a_ v)
theorem aJ {k:Nat} (h:ix[k]? =a_ c_):qm ix (bX k):=fun x σ' H' Q q=>⟨q,fun i v e ⟨j,I⟩=>by
 have:k≠i:=by rintro rfl;rw [h] at I;cases I
 rw [o_ this];exact e⟩
section
variable {wi:TI} {g:TG} 
theorem xI (N':List p_) (ix:List (Option Nat)) (B:X.calm=d_) (hi:PI X tg iter wi) (z:∀L cs s H fp,PG (b8 X N' sc L cs s H fp) tg g) (y:qm ix g)
  (l:∀L cs s H fp,PTs (b8 X N' sc L cs s H fp) ifs tt) (A:∀L cs s H fp,PE (b8 X N' sc L cs s H fp) elt te)
  (a: ~~~(bB X.N X.env.scope N' sc ix=d_)) (c: ~~~(sc.kind=.function)) (n:autoParam (∀x,Gi iter X.env x=FF x) Jq4) :
  PE X (.ListComp elt [⟨tg,iter,ifs,0⟩] sc pos) (tComp wi ix g tt te):=by
 intro pins s σ H Q I h;rw [eval_ListComp];refine K5 (use:=c_) rfl n (rO (qh I a)) c (bB.loc a) (thn (hi pins s σ H _ I h) fun v s1 h1=>thn h1 fun k s2 h2=>?_);obtain ⟨it,fp,U,J,H2,e,S,T,Y,f2,f⟩:=h2;subst e;refine thn (we B S T Y f2 a c z y l A f) fun P Z E=>thn E fun d W D=>Gj D fun r j t=>?_;obtain ⟨⟨fl,e1⟩,p,ys,H5,e2,R,u,q,⟨m,w⟩,O,N,K,G,F⟩:=t;subst e1;subst e2;exact ⟨m,w,fun h' i=>⟨.ref p,_,R.turned (t':=j.toks) (fun b o C e=>(i.2 b C).trans e) O N (.inr K) G F,rfl,q p u⟩⟩
def tSetComp (j:Nat) (wi:TI) (ix:List (Option Nat)) (g:TG) (tt:TT) (te:TE):TS:=fun D σ H=>wi σ H fun J H1=>m8 J ix g tt te σ (fun ys H2=>∀p,H2 p=c_->D.nx (σ.set j (a_ (.ref p))) (upd H2 p (.lst ys))) H1
theorem rm (N':List p_) (ix:List (Option Nat)) {j:Nat} {y:p_} (hN:X.N.Nodup) (R:X.N[j]? =a_ y) (k:X.env.scope.names.lookup y=a_ .local) (W:X.calm=d_) (hi:PI X tg iter wi) (S:∀L cs s H fp,PG (b8 X N' sc L cs s H fp) tg g) (P:qm ix g)
  (E:∀L cs s H fp,PTs (b8 X N' sc L cs s H fp) ifs tt) (U:∀L cs s H fp,PE (b8 X N' sc L cs s H fp) elt te)
  (i: ~~~(FV (.ListComp elt [⟨tg,iter,ifs,0⟩] sc pos) (a_ (.Name y py)) spos.line X.env=FF d_))
  (f: ~~~(bB X.N X.env.scope N' sc ix=d_)) (l: ~~~(sc.kind=.function)) (F:autoParam (∀x,Gi iter X.env x=FF x) Jq4) :
  PS X (.Assign [.Name y py] (.ListComp elt [⟨tg,iter,ifs,0⟩] sc pos) spos) (tSetComp j wi ix g tt te):=by
 intro pins s σ H D I h;rw [exec_Assign_Name_used _ _ _ _ i];refine k_ (HB (k_ ?_));show Cb _ X.A (do let _ <- comprehension (.ListComp elt [⟨tg,iter,ifs,0⟩] sc pos) sc X.env _ (newList []) b_ (Eu iter X.env) (a_ (HZ (.Name y py) X.env))) _ _ s;refine k_ (EV (K5 (use:=a_ (HZ (.Name y py) X.env)) (Q:=fun _ s'=>SP X pins D .next s') rfl F (rO (qh I f)) l (bB.loc f) (thn (hi pins s σ H _ I h) fun v s1 h1=>thn h1 fun C s2 h2=>?_)) (fun _ s' K=>A_ (A_ K)) fun _ _ z=>z);obtain ⟨it,fp,tn,J,H2,e,I2,T,c,f2,u⟩:=h2;subst e;refine thn (we W I2 T c f2 f l S P E U u) fun acc s3 h3=>thn h3 fun Y s4 h4=>Gj h4 fun r B G=>?_;obtain ⟨⟨fl,e1⟩,p,ys,H5,e2,I5,N,q,⟨m,O⟩,c0,t,c2,n,c4⟩:=G;subst e1;subst e2;show Cb _ X.A (HZ (.Name y py) X.env (.ref p)) _ _ B;refine MA (uH (v:=.ref p) I5 hN R (.inl k) rfl (fun A I6 ⟨a,w,ha⟩=>?_) (.inr k));have ea:Y.locals≠a:=by
  rcases ha with z|z
  ·rw [z];exact t
  ·exact fun e=>n y a z e.symm
 refine ⟨m,O.sameBut w ea,fun h' d=>?_⟩
 exact ⟨_,_,I6.turned (t':=A.toks) (fun b o Z e=>(d.2 b Z).trans e) c0 t (.inr c2) n c4,q p N⟩
end
theorem wc {xs:List V} {g:TG} {F:List V->Hp->Prop} (I:Nat->List V->Hp->Prop) (k:I 0 [] H) (j:∀i ys H,i<=xs.length->I i ys H->SqL K H a xs/\ys.length<=g_)
  (h:∀i x ys H,xs[i]? =a_ x->I i ys H->g x (inS ix σ) H fun J H2=>tt J H2 fun b c=>if b=d_ then te J c fun y l=>I (i+1) (ys++[y]) l else I (i+1) ys c)
  (hd:∀ys H,I xs.length ys H->F ys H):m8 (Itl K a) ix g tt te σ F H:=by
 refine ⟨fun i m ys H=>m=xs.length-i/\i<=xs.length/\I i ys H,⟨xs.length,by simp,FX _,k⟩,?_⟩
 rintro i m ys H ⟨rfl,hi,p⟩;obtain ⟨q,z⟩:=j i ys H hi p;by_cases Y:i<xs.length
 ·refine .inr ⟨⟨xs,xs[i],q,by simp [Y]⟩,z,I (i+1),fun d H' f=>⟨xs.length-(i+1),by omega,rfl,Y,f⟩,fun x H' y=>?_⟩;obtain ⟨e,y⟩:=y;subst e;exact h i x ys _ (y xs q) p
 ·have e:i=xs.length:=by omega
  subst e;exact .inl ⟨⟨xs,q,u_ _⟩,z,hd ys H p⟩
section
theorem A2:∀{bs:List Bool} {us:List l_},Vals (bs.map V.bl) us->LSm.BoolsAre us bs
 |[],_,.nil=>.nil
 |b::r,_,.cons e t=>by cases e;exact .cons b (A2 t)
theorem call_all (l:X.calm=d_):dQ X (.builtin "all") (fun xs H Q=>∃(a:e_) (bs:List Bool),xs=[.ref a]/\SqL X.K H a (bs.map V.bl)/\Q (.bl (bs.all id)) H):=by
 intro pins s σ H xs us Q I r h;obtain ⟨a,bs,rfl,j,q⟩:=h;obtain ⟨u,rfl,g⟩:=r.one;cases g;obtain ⟨its,f,p,n⟩:=I.list j;have c:=A2 f;have Y:=p.isList;have J:a<s.heap.objs.size:=by obtain ⟨_,e,_⟩:=Y;exact y_ e
 refine call_all_walk (Hr Y ?_);refine ⟨s.heap.objs.size,[s.heap.objs.size,a],[s.heap.objs.size],its.toArray.size,_,_,fun i=>(bs[i]?).getD d_,rfl,Walks.list (A:=X.A.in1) (I.ok.hd l) _ a (EA J) its.toArray,
  ⟨⟨_,Ei _ rfl,rfl,rfl⟩,Y.push _⟩,fun i v s' o E' m d=>?_,fun h' tk k=>?_⟩
 ·obtain ⟨b,e,rfl⟩:=c.get i v (by simpa using m);simp only [e,Option.getD_some] at d;exact Fb d
 ·have e:((Fm its.toArray.size).all fun i=>(bs[i]?).getD d_)=bs.all id:=by
   rw [B_,c.length];exact LSm.range_all bs
  rw [e];exact ⟨.bl (bs.all id),H,I.kept (LSm.kept_iter k),rfl,q⟩
theorem Vals.atA {xs:List V} (r:Vals xs us) {j:Nat} (h:j<us.toArray.size):∃x,xs[j]? =a_ x/\RelV x us.toArray[j]:=by
 have J:=r.length;have I:j<xs.length:=by rw [J];simpa using h
 obtain ⟨u,e1,e2⟩:=r.get (i:=j) (x:=xs[j]) (by simp [I]);refine ⟨xs[j],by simp [I],?_⟩
 have:us.toArray[j]=u:=by
  have h':j<us.length:=by simpa using h
  rw [Ez h'] at e1;simpa using Ew e1
 rw [this];exact e2
end
section
theorem pe_tyN (Y:Gl X x) (J:X.mg x=c_) (hv:F8 x=a_ (.type T)) (I:(x≠"__name__")⁻¹) (hd:((x==("__debug__":p_))=b_)⁻¹):PE X (.Name x pos) (tC (.ty T)):=pe_bltn (v:=.ty T) Y J hv rfl I hd
theorem pe_gint {n:Int} (J:Gl X x) (I:∃t,X.mg x=a_ (.int n t)) (hd:((x==("__debug__":p_))=b_)⁻¹):PE X (.Name x pos) (tC (.int n)):=by
 obtain ⟨t,e⟩:=I;exact sR (v:=.int n) J e ⟨t,rfl⟩ hd
end
section
variable {base:EY} 
theorem Fun.okX {k:Nat} (F:Fun K x qual st f fd) (S:fK N ps (aD st)) (J:∀vs H Q E,sp vs H Q E->vs.length=ps.length)
  (I:∀(cdv:l_) (A:GH) (outer:List JY) (s:z_) (H:Hp) (vs:List V) (Q:VK) (E:XK),i8 k (A.deeper (GR qual (aD st) s.heap.objs.size f cdv))->sp vs H Q E ->
   ∃t,PSs (yx CX P w K mg base N qual (aD st) f cdv A outer s H E).nox (bF st) t/\t {nx:=fun _ H'=>Q .non H',rt:=Q} (start N vs) H):i9 P w K mg base CX (k+1) f fd ps sp:=by
 obtain ⟨oc,od,kV,doc,pm,an,cdv,ct,osl,rfl,b,a⟩:=F.ex;refine fn_of b a S J fun A outer s H vs Q E c Y=>?_;obtain ⟨t,h,q⟩:=I cdv A outer s H vs Q E c Y;exact ⟨t,h.nox,q⟩
structure Def (K:Fg) (mg:Mq) (x:p_) (st:Fh) (ps:List p_) (f:e_) (fd:Gf):Prop where
 fn:Fun K x x st f fd
 mg:mg x=a_ (.ref f)
 bd:Binds K fd ps []
theorem def_of (J:K.In h) (G:h.Ns EG mg) {kV:l_}
  (a:Mb K EG x=a_ (a_ (.ref f))) (l:K.lookup f=a_ ⟨oc,od,.func (Ji x x (dA st) (bF st) (aD st) .none kV doc pm an cdv ct),osl⟩) (c:JU K cdv x=d_) (k:GD K (.ref f)=d_)
  (I:∀(kV doc pm:l_) (an:Option e_) (cdv ct:l_) (us:List l_),us.length=ps.length->IX (Ji x x (dA st) (bF st) (aD st) .none kV doc pm an cdv ct) ⟨us,[]⟩=FF (ps.zip us)) :
  Def K mg x st ps f (Ji x x (dA st) (bF st) (aD st) .none kV doc pm an cdv ct):=
 ⟨zN l c k,mg_of J G a,(zN l c k).binds I⟩
structure Mth (K:Fg) (C:e_) (x qual:p_) (st:Fh) (ps:List p_) (f:e_) (fd:Gf):Prop where
 fn:Fun K x qual st f fd
 mt:Meth K C x f
 bd:Binds K fd ps []
theorem mth_of {kV:l_}
  (a:Ep K (.ref C) x=a_ (a_ (.ref f))) (i:isFn K (.ref f)=d_) (l:K.lookup f=a_ ⟨oc,od,.func (Ji x qual (dA st) (bF st) (aD st) .none kV doc pm an cdv ct),osl⟩) (c:JU K cdv qual=d_) (k:GD K (.ref f)=d_)
  (I:∀(kV doc pm:l_) (an:Option e_) (cdv ct:l_) (us:List l_),us.length=ps.length->IX (Ji x qual (dA st) (bF st) (aD st) .none kV doc pm an cdv ct) ⟨us,[]⟩=FF (ps.zip us)) :
  Mth K C x qual st ps f (Ji x qual (dA st) (bF st) (aD st) .none kV doc pm an cdv ct):=
 ⟨zN l c k,⟨a,i,k⟩,(zN l c k).binds I⟩
structure Kls (K:Fg) (mg:Mq) (x:p_) (C:e_):Prop where
 cl:Cls K C
 mg:mg x=a_ (.ref C)
 mks:LJ K C=d_
 kp:GD K (.ref C)=d_
 c1:Ep K (.ref C) "__class__"=a_ (a_ (.builtin "object.__class__"))
 c2:Je K (.builtin "object.__class__") "__get__"=a_ (a_ (.builtin "getset_descriptor.__get__"))
 c3:ML K (.builtin "object.__class__")=a_ d_
 c4:GC K C (.type "object")=a_ d_
theorem Kls.ty {dx:e_} {fs:List (p_×V)} (k:Kls K mg x C) (e:H a=a_ (.ins C dx fs)):Be K H (.ref a) (.ref C):=.ins e k.cl k.c1 k.c2 k.c3 k.c4
theorem kls_of (g:K.In h) (G:h.Ns EG mg) (a:Mb K EG x=a_ (a_ (.ref C)))
  (Y:JG K C Gr=d_) (hd:GO K C=d_) (J:Lq K C=d_) (I:Ep K (.ref C) "__setattr__"=a_ (a_ (.builtin "object.__setattr__"))) (mk:LJ K C=d_) (b:GD K (.ref C)=d_)
  (f:Ep K (.ref C) "__class__"=a_ (a_ (.builtin "object.__class__"))) (e:Je K (.builtin "object.__class__") "__get__"=a_ (a_ (.builtin "getset_descriptor.__get__")))
  (d:ML K (.builtin "object.__class__")=a_ d_) (c:GC K C (.type "object")=a_ d_):Kls K mg x C:=
 ⟨⟨Y,hd,J,I⟩,mg_of g G a,mk,b,f,e,d,c⟩
end
section
theorem pg_c (Y:N'.Nodup) (hi:N'[i]? =a_ x) (I:Loc (b8 X N' sc L cs s H fp).env.scope x)
  (J:autoParam ((b8 X N' sc L cs s H fp).fn x=d_\/(b8 X N' sc L cs s H fp).env.scope.names.lookup x=a_ .local) Jq3):PG (b8 X N' sc L cs s H fp) (.Name x pos) (bX i):=cQ Y hi I J
end
structure Grid (H:Hp) (a:e_) (as:List e_) (rows:List (List Int)):Prop where
 top:H a=a_ (.lst (as.map V.ref))
 len:as.length=rows.length
 row:∀(i:Nat) (b:e_) (r:List Int),as[i]? =a_ b->rows[i]? =a_ r->H b=a_ (.lst (r.map V.int))
theorem Grid.same (g:Grid H a as rows) (h:aF H H'):Grid H' a as rows:=
 ⟨h _ _ g.top,g.len,fun i b r e1 e2=>h _ _ (g.row i b r e1 e2)⟩
theorem aF.upd {H:Hp} {a:e_} {o:HO} (h:H a=c_):aF H (upd H a o):=fun b u e=>by rw [aq (aL e h)];exact e
section
variable {k:Nat} {ds:List l_} {t:TA} 
structure Stat (K:Fg) (C:e_) (mc:l_) (m:p_) (f:e_):Prop where
 s1:Je K (.ref C) "__getattribute__"=a_ (a_ (.builtin "type.__getattribute__"))
 s2:Lp K C mc=d_
 s3:Lr K (.ref C) mc m=a_ (.val (.ref f))
 s4:GD K (.ref f)=d_
theorem pe_cmeth (S:Stat X.K C mc m f) (n:Gl X x) (l:X.mg x=a_ (.ref C)) (F:i9 X.prog X.w X.K X.mg X.base CX k f fd ps sp) (j:i8 k X.A) (o:Binds X.K fd ps ds) (hd:Vals dvs ds) (g:Passes CX X E) (q:PA X (e::es) t)
  (a:((x==("__debug__":p_))=b_)⁻¹)
  (J: ~~~(i_ (e::es) X.env=(b_,Eu e X.env)::i_ es X.env)) (Y: ~~~((EN pos (i_ es X.env)).any (·.1)=b_))
  (i: ~~~(Eu (.Call (.Attribute (.Name x p) m apos) (e::es) [] pos) X.env=(do
   let b <- Eu (.Name x p) X.env
   JC apos.atName
   let (f,first) <- HU [b] (JR b m pl)
   Kz pos f first (EN pos (i_ (e::es) X.env)) (GB pos (Fz [] X.env))))) :
  PE X (.Call (.Attribute (.Name x p) m apos) (e::es) [] pos) (gz sp dvs E t):=by
 intro pins s σ H Q I h;refine J5 (pl:=pl) (iW I n l ?_ a) i;refine PySem.W.method_cls I.kIn S.s1 (PySem.W.cls_value I.kIn S.s2 S.s3 rfl ?_);refine Js (first:=[]) (h₀:=X.base) I.ok.mod.kin S.s4 (thn (q pos pins _ σ H _ (I.tok (s.toks+1)) h) fun us u ⟨vs,H2,c,r,d⟩=>⟨c.kIn,?_⟩) J Y;exact BV (us:=us) (vs:=vs) F j o hd g c r d
end
def Keeps (S:e_->Prop) (H H':Hp):Prop:=∀b o,H b=a_ o->¬S b->H' b=a_ o
theorem Keeps.same (k:Keeps S H H1) (s:aF H1 H2):Keeps S H H2:=fun b o e n=>s b o (k b o e n)
theorem Grid.keeps (g:Grid H a as rows) (k:Keeps S H H') (h1:¬S a) (h2:∀x∈as,¬S x):Grid H' a as rows:=
 ⟨k _ _ g.top h1,g.len,fun i b r e1 e2=>k _ _ (g.row i b r e1 e2) (h2 b (ER e1))⟩
section
variable {a:Fe} 
def BI (r r' I:R2) (ta tb tc td:TE):TE:=fun σ H Q=>ta σ H fun x H1=>tb σ H1 fun y H2=>r x y H2 fun z b=>∃k,z=.bl k /\
 (if k=d_ then tc σ b fun J f=>r' y J f fun c a=>∃Y,c=.bl Y/\(if Y=d_ then td σ a fun d e=>I J d e Q else Q (.bl b_) a) else Q (.bl b_) b)
theorem aF.tup {a:e_} {xs:List V} (e:aF H H') (h:SqT K H a xs):SqT K H' a xs:=by
 rcases h with (h|⟨o,h⟩)|h
 ·exact .inl (.inl (e _ _ h))
 ·exact .inl (.inr ⟨o,e _ _ h⟩)
 ·exact .inr h
end
theorem iQ {xs:List V} (h:H a=a_ (.lst xs)):tyV K "list" (.ref a) H:=.inl ⟨rfl,_,SqL.of h⟩
inductive Dat where
 |non|bl (b:Bool)|int (i:Int)|str (x:p_)|tup (ds:List Dat)|lst (ds:List Dat)|ins (C:e_) (fs:List (p_×Dat))|dic (ks:List (List Int×Dat))|dil (ks:List (Int×List (List Int)))
variable {r:Bool×List Dat} {d' d1 d2:Dat} {ds' ws:List Dat} {ks:List (List Int×Dat)}
noncomputable abbrev mj:=List Int×e_×V
noncomputable def tHash (ks:List Int):Int:=Kw (FZ (ks.map MK))
def rowE (x:List Int×e_×l_):Lv:=⟨tHash x.1,.ref x.2.1,x.2.2⟩
def mh (p:mj) (q:List Int×e_×l_):Prop:=p.1=q.1/\p.2.1=q.2.1/\RelV p.2.2 q.2.2
def mW (h:EY) (a:e_) (xs:List mj) (ep:Nat):Prop:=∃vs:List (List Int×e_×l_),Hu mh xs vs/\(a==Fj)=b_/\xs.length<=g_/\(vs.map (·.1)).Nodup/\∃o es,h.get? a=a_ o/\o.ExactDict/\o.data=.dict es ep/\es.toList=vs.map rowE
def wA (a:e_) (xs:List mj) (ep:Nat):HO:=.ext fun h=>mW h a xs ep
noncomputable abbrev LK:=Int×List (List Int)
def lHash (k:LK):Int:=Kw (FZ [MK k.1,Kw (FZ (k.2.map tHash))])
def rowL (x:LK×e_):Lv:=⟨lHash x.1,.ref x.2,.bool d_⟩
def DilOk (h:EY) (a:e_) (xs:List (LK×e_)) (ep:Nat):Prop:=(a==Fj)=b_/\xs.length<=g_/\(xs.map (·.1)).Nodup/\∃o es,h.get? a=a_ o/\o.ExactDict/\o.data=.dict es ep/\es.toList=xs.map rowL
def DilO (a:e_) (xs:List (LK×e_)) (ep:Nat):HO:=.ext fun h=>DilOk h a xs ep
def LabAt (K:Fg) (F:Hp) (b:e_) (k:LK):Prop:=∃(r:e_) (bs:List e_),SqT K F b [V.int k.1,V.ref r]/\SqT K F r (bs.map V.ref)/\bs.length=k.2.length/\∀(j:Nat) (I:List Int) (c:e_),k.2[j]? =a_ I->bs[j]? =a_ c->SqT K F c (I.map V.int)
def Bg (K:Fg) (F:Hp) (ks:List LK) (xs:List (LK×e_)):Prop:=xs.map (·.1)=ks/\∀x∈xs,LabAt K F x.2 x.1
mutual
noncomputable def aR (K:Fg) (F:Hp):Dat->V->Prop
 |.non,v=>v=.non
 |.bl b,v=>v=.bl b
 |.int i,v=>v=.int i
 |.str x,v=>v=.str x
 |.tup ds,v=>∃a xs,v=.ref a/\SqT K F a xs/\ay K F ds xs
 |.lst ds,v=>∃a xs,v=.ref a/\SqL K F a xs/\ay K F ds xs
 |.ins C gs,v=>∃a dx fs,v=.ref a/\F a=a_ (.ins C dx fs)/\iO K F gs fs
 |.dic ks,v=>∃a xs,v=.ref a/\(∃ep,F a=a_ (wA a xs ep))/\cJ K F ks xs
 |.dil ks,v=>∃a xs,v=.ref a/\(∃ep,F a=a_ (DilO a xs ep))/\Bg K F ks xs
noncomputable def ay (K:Fg) (F:Hp):List Dat->List V->Prop
 |[],xs=>xs=[]
 |d::ds,xs=>∃v vs,xs=v::vs/\aR K F d v/\ay K F ds vs
noncomputable def iO (K:Fg) (F:Hp):List (p_×Dat)->List (p_×V)->Prop
 |[],fs=>fs=[]
 |(f,d)::gs,fs=>∃v r,fs=(f,v)::r/\aR K F d v/\iO K F gs r
noncomputable def cJ (K:Fg) (F:Hp):List (List Int×Dat)->List mj->Prop
 |[],xs=>xs=[]
 |(k,d)::ks,xs=>∃b v r,xs=(k,b,v)::r/\SqT K F b (k.map .int)/\aR K F d v/\cJ K F ks r
end
mutual
noncomputable def gZ:Dat->Bool
 |.tup ds=>rK ds
 |.lst _=>b_
 |.ins _ _=>b_
 |.dic _=>b_
 |.dil _=>b_
 |_=>d_
noncomputable def rK:List Dat->Bool
 |[]=>d_
 |d::ds=>gZ d&&rK ds
end
theorem aF.lst {xs:List V} (e:aF H H') (h:SqL K H a xs):SqL K H' a xs:=by
 rcases h with (h|⟨o,h⟩)|h
 ·exact .inl (.inl (e _ _ h))
 ·exact .inl (.inr ⟨o,e _ _ h⟩)
 ·exact .inr h
theorem LabAt.mono (s:aF F F') {k:LK} (h:LabAt K F b k):LabAt K F' b k:=
 let ⟨r,bs,t1,t2,l,t3⟩:=h;⟨r,bs,s.tup t1,s.tup t2,l,fun j I c e1 e2=>s.tup (t3 j I c e1 e2)⟩
theorem Bg.mono {K:Fg} {F F':Hp} (s:aF F F') {ks:List LK} {xs:List (LK×e_)} (h:Bg K F ks xs):Bg K F' ks xs:=⟨h.1,fun x I=>(h.2 x I).mono s⟩
mutual
theorem aR.mono {K:Fg} {F F':Hp} (s:aF F F'):∀{d:Dat} {v:V},aR K F d v->aR K F' d v
 |.non,_,h=>h
 |.bl _,_,h=>h
 |.int _,_,h=>h
 |.str _,_,h=>h
 |.tup _,_,⟨a,xs,e,q,r⟩=>⟨a,xs,e,s.tup q,ay.mono s r⟩
 |.lst _,_,⟨a,xs,e,q,r⟩=>⟨a,xs,e,s.lst q,ay.mono s r⟩
 |.ins _ _,_,⟨a,dx,fs,e,q,r⟩=>⟨a,dx,fs,e,s _ _ q,iO.mono s r⟩
 |.dic _,_,⟨a,xs,e,⟨ep,q⟩,r⟩=>⟨a,xs,e,⟨ep,s _ _ q⟩,cJ.mono s r⟩
 |.dil _,_,⟨a,xs,e,⟨ep,q⟩,r⟩=>⟨a,xs,e,⟨ep,s _ _ q⟩,Bg.mono s r⟩
theorem ay.mono {K:Fg} {F F':Hp} (s:aF F F'):∀{ds:List Dat} {xs:List V},ay K F ds xs->ay K F' ds xs
 |[],_,h=>h
 |_::_,_,⟨v,vs,e,q,r⟩=>⟨v,vs,e,aR.mono s q,ay.mono s r⟩
theorem iO.mono {K:Fg} {F F':Hp} (s:aF F F'):∀{gs:List (p_×Dat)} {fs:List (p_×V)},iO K F gs fs->iO K F' gs fs
 |[],_,h=>h
 |(_,_)::_,_,⟨v,r,e,q,t⟩=>⟨v,r,e,aR.mono s q,iO.mono s t⟩
theorem cJ.mono {K:Fg} {F F':Hp} (s:aF F F'):∀{ks:List (List Int×Dat)} {xs:List mj},cJ K F ks xs->cJ K F' ks xs
 |[],_,h=>h
 |(_,_)::_,_,⟨b,v,r,e,t,q,z⟩=>⟨b,v,r,e,s.tup t,aR.mono s q,cJ.mono s z⟩
end
mutual
theorem aR.flat {K:Fg} {F F':Hp} (s:∀a xs,SqT K F a xs->SqT K F' a xs):∀{d:Dat} {v:V},gZ d=d_->aR K F d v->aR K F' d v
 |.non,_,_,h=>h
 |.bl _,_,_,h=>h
 |.int _,_,_,h=>h
 |.str _,_,_,h=>h
 |.tup ds,_,f,⟨a,xs,e,q,r⟩=>⟨a,xs,e,s _ _ q,ay.flat s (by simpa [gZ] using f) r⟩
 |.lst _,_,f,_=>by simp [gZ] at f
 |.ins _ _,_,f,_=>by simp [gZ] at f
 |.dic _,_,f,_=>by simp [gZ] at f
 |.dil _,_,f,_=>by simp [gZ] at f
theorem ay.flat {K:Fg} {F F':Hp} (s:∀a xs,SqT K F a xs->SqT K F' a xs):∀{ds:List Dat} {xs:List V},rK ds=d_->ay K F ds xs->ay K F' ds xs
 |[],_,_,h=>h
 |d::ds,_,f,⟨v,vs,e,q,r⟩=>by
  simp only [rK,n_] at f;exact ⟨v,vs,e,aR.flat s f.1 q,ay.flat s f.2 r⟩
end
theorem ay.length {K:Fg} {F:Hp}:∀{ds:List Dat} {xs:List V},ay K F ds xs->xs.length=ds.length
 |[],_,h=>by rw [show _=[] from h];rfl
 |_::_,_,⟨_,_,e,_,r⟩=>by rw [e,Ex,Ex,ay.length r]
theorem ay.get {K:Fg} {F:Hp}:∀{ds:List Dat} {xs:List V} {i:Nat} {d:Dat},ay K F ds xs->ds[i]? =a_ d->∃v,xs[i]? =a_ v/\aR K F d v
 |[],_,_,_,_,e=>by simp at e
 |_::_,_,0,_,⟨v,vs,e,q,_⟩,h=>by
  simp only [List.getElem?_cons_zero,J9] at h;subst h e;exact ⟨v,rfl,q⟩
 |_::_,_,i+1,_,⟨v,vs,e,_,r⟩,h=>by
  subst e;simp only [G8] at h ⊢;exact ay.get r h
theorem ay.at {K:Fg} {F:Hp} {ds:List Dat} {xs:List V} {i:Nat} {v:V} (r:ay K F ds xs) (h:xs[i]? =a_ v):∃d,ds[i]? =a_ d/\aR K F d v:=by
 have hi:i<ds.length:=by rw [<- r.length];exact (A1.mp h).1
 obtain ⟨w,e,q⟩:=r.get (i:=i) (d:=ds[i]) (by simp [hi]);rw [h] at e;have I:=Ew e;subst I;exact ⟨ds[i],by simp [hi],q⟩
theorem ay.cons {d:Dat} {ds:List Dat} {xs:List V} (q:aR K F d v) (r:ay K F ds xs):ay K F (d::ds) (v::xs):=⟨v,xs,rfl,q,r⟩
theorem ay.append {K:Fg} {F:Hp}:∀{ds es:List Dat} {xs ys:List V},ay K F ds xs->ay K F es ys->ay K F (ds++es) (xs++ys)
 |[],_,_,_,h,r=>by rw [show _=[] from h];exact r
 |_::_,_,_,_,⟨v,vs,e,q,t⟩,r=>by subst e;exact ⟨v,_,rfl,q,ay.append t r⟩
theorem ay.take {K:Fg} {F:Hp}:∀{ds:List Dat} {xs:List V} (n:Nat),ay K F ds xs->ay K F (ds.take n) (xs.take n)
 |_,_,0,_=>rfl
 |[],_,_+1,h=>by rw [show _=[] from h];rfl
 |_::_,_,n+1,⟨v,vs,e,q,r⟩=>by subst e;exact ⟨v,_,rfl,q,ay.take n r⟩
theorem ay.drop {K:Fg} {F:Hp}:∀{ds:List Dat} {xs:List V} (n:Nat),ay K F ds xs->ay K F (ds.drop n) (xs.drop n)
 |_,_,0,h=>h
 |[],_,_+1,h=>by rw [show _=[] from h];rfl
 |_::_,_,n+1,⟨v,vs,e,q,r⟩=>by subst e;exact ay.drop n r
theorem ay.set {K:Fg} {F:Hp} {d:Dat} {v:V} (q:aR K F d v):∀{ds:List Dat} {xs:List V} (n:Nat),ay K F ds xs->ay K F (ds.set n d) (xs.set n v)
 |[],_,_,h=>by rw [show _=[] from h];rfl
 |_::_,_,0,⟨w,vs,e,_,r⟩=>by subst e;exact ⟨v,_,rfl,q,r⟩
 |_::_,_,n+1,⟨w,vs,e,p,r⟩=>by subst e;exact ⟨w,_,rfl,p,ay.set q n r⟩
structure Step (F H F' H':Hp):Prop where
 ff:aF F F'
 hh:aF H H'
 fh:aF F' H'
 nw:∀b o,F' b=a_ o->F b=a_ o\/H b=c_
theorem Step.refl {F H:Hp} (s:aF F H):Step F H F H:=⟨aF.refl _,aF.refl _,s,fun _ _ h=>.inl h⟩
theorem Step.trans {F H F1 H1 F2 H2:Hp} (a:Step F H F1 H1) (b:Step F1 H1 F2 H2):Step F H F2 H2:=
 ⟨a.ff.trans b.ff,a.hh.trans b.hh,b.fh,fun x o h=>(b.nw x o h).elim (fun z=>a.nw x o z) fun z=>.inr (a.hh.free z)⟩
theorem Step.lay {p:e_} {o:HO} (s:aF F H) (I:H p=c_):Step F H (upd F p o) (upd H p o):=
 ⟨aF.upd (s.free I),aF.upd I,fun b u h=>by
  by_cases e:b=p
  ·subst e;rw [ao] at h ⊢;exact h
  ·rw [aq e] at h ⊢;exact s b u h,fun b u h=>by
  by_cases e:b=p
  ·subst e;exact .inr I
  ·rw [aq e] at h;exact .inl h⟩
theorem Step.grow {p:e_} {o:HO} (s:aF F H) (I:H p=c_):Step F H F (upd H p o):=
 ⟨aF.refl _,aF.upd I,s.trans (aF.upd I),fun _ _ h=>.inl h⟩
theorem Step.same (s:aF F H) (h:aF H H'):Step F H F H':=⟨aF.refl _,h,s.trans h,fun _ _ z=>.inl z⟩
def lq (K:Fg) (F H0 H:Hp):Dat->V->Prop
 |.lst ds,v=>∃a xs,v=.ref a/\H a=a_ (.lst xs)/\F a=c_/\H0 a=c_/\ay K F ds xs
 |.dic ks,v=>∃a xs,v=.ref a/\(∃ep,H a=a_ (wA a xs ep))/\F a=c_/\H0 a=c_/\cJ K F ks xs
 |.dil ks,v=>∃a xs,v=.ref a/\(∃ep,H a=a_ (DilO a xs ep))/\F a=c_/\H0 a=c_/\Bg K F ks xs
 |d,v=>aR K F d v
noncomputable def isO:Dat->Bool
 |.lst _=>d_
 |.dic _=>d_
 |.dil _=>d_
 |_=>b_
noncomputable def isMu:HO->Bool
 |.lst _=>d_
 |.ext _=>d_
 |_=>b_
theorem lq.non {d:Dat} (hd:isO d=b_):lq K F H0 H d v=aR K F d v:=by
 cases d<;>first|rfl|cases hd
theorem lq.top {d:Dat} (hd:isO d=d_) (q:lq K F H0 H d v):∃a o,v=.ref a/\H a=a_ o/\isMu o=d_/\F a=c_/\H0 a=c_:=by
 cases d with
 |lst ds=>obtain ⟨a,xs,e,p,f,z,_⟩:=q;exact ⟨a,_,e,p,rfl,f,z⟩
 |dic ks=>obtain ⟨a,xs,e,⟨ep,p⟩,f,z,_⟩:=q;exact ⟨a,_,e,p,rfl,f,z⟩
 |dil ks=>obtain ⟨a,xs,e,⟨ep,p⟩,f,z,_⟩:=q;exact ⟨a,_,e,p,rfl,f,z⟩
 |_=>cases hd
theorem lq.re {d:Dat} (hd:isO d=d_) (q:lq K F H0 H d (.ref a)) (I:aF F F') (fa:F' a=c_) (hh:∀o,H a=a_ o->H' a=a_ o):lq K F' H0 H' d (.ref a):=by
 cases d with
 |lst ds=>obtain ⟨b,xs,e,p,f,z,r⟩:=q;cases e;exact ⟨a,xs,rfl,hh _ p,fa,z,r.mono I⟩
 |dic ks=>obtain ⟨b,xs,e,⟨ep,p⟩,f,z,r⟩:=q;cases e;exact ⟨a,xs,rfl,⟨ep,hh _ p⟩,fa,z,r.mono I⟩
 |dil ks=>obtain ⟨b,xs,e,⟨ep,p⟩,f,z,r⟩:=q;cases e;exact ⟨a,xs,rfl,⟨ep,hh _ p⟩,fa,z,r.mono I⟩
 |_=>cases hd
theorem lq.give {d:Dat} (hd:isO d=d_) (q:lq K F H0 H d (.ref a)) (I:aF F F') (fa:F' a=H a):aR K F' d (.ref a):=by
 cases d with
 |lst ds=>obtain ⟨b,xs,e,p,f,z,r⟩:=q;cases e;exact ⟨a,xs,rfl,SqL.of (fa.trans p),r.mono I⟩
 |dic ks=>obtain ⟨b,xs,e,⟨ep,p⟩,f,z,r⟩:=q;cases e;exact ⟨a,xs,rfl,⟨ep,fa.trans p⟩,r.mono I⟩
 |dil ks=>obtain ⟨b,xs,e,⟨ep,p⟩,f,z,r⟩:=q;cases e;exact ⟨a,xs,rfl,⟨ep,fa.trans p⟩,r.mono I⟩
 |_=>cases hd
def Val (K:Fg) (own:Bool) (F H0 H:Hp) (d:Dat) (v:V):Prop:=if own=d_ then lq K F H0 H d v else aR K F d v
theorem lq.back {d:Dat} (s:aF H0 H1) (h:lq K F H1 H d v):lq K F H0 H d v:=by
 cases d with
 |lst ds=>obtain ⟨a,xs,e,p,q,z,r⟩:=h;exact ⟨a,xs,e,p,q,s.free z,r⟩
 |dic ks=>obtain ⟨a,xs,e,p,q,z,r⟩:=h;exact ⟨a,xs,e,p,q,s.free z,r⟩
 |dil ks=>obtain ⟨a,xs,e,p,q,z,r⟩:=h;exact ⟨a,xs,e,p,q,s.free z,r⟩
 |_=>exact h
theorem Val.back {K:Fg} {own:Bool} {F H0 H1 H:Hp} {d:Dat} {v:V} (s:aF H0 H1) (h:Val K own F H1 H d v):Val K own F H0 H d v:=by
 cases own with
 |true=>exact lq.back s h
 |false=>exact h
theorem lq.freeze {d:Dat} (s:aF F H) (h:lq K F H0 H d v):∃F',aF F F'/\aF F' H/\(∀b o,F' b=a_ o->F b=a_ o\/H0 b=c_)/\aR K F' d v:=by
 cases hd:isO d with
 |true=>
  obtain ⟨a,u,e,p,_,q,z⟩:=h.top hd;subst e;refine ⟨upd F a u,aF.upd q,fun b o h=>?_,fun b o h=>?_,h.give hd (aF.upd q) (by rw [ao,p])⟩
  ·by_cases e:b=a
   ·subst e;rw [ao] at h;rw [p,<- h]
   ·rw [aq e] at h;exact s b o h
  ·by_cases e:b=a
   ·subst e;exact .inr z
   ·rw [aq e] at h;exact .inl h
 |false=>rw [lq.non hd] at h;exact ⟨F,aF.refl _,s,fun _ _ z=>.inl z,h⟩
inductive Err where
 |stuck|exc (C:e_) (fs:List (p_×Dat))
noncomputable abbrev M:=Except Err
variable {g g' g'':Dat->Dat->M Dat} {mk mf mw:List Dat->M Dat} {mr:List Dat->List Dat->M (Bool×List Dat)}
noncomputable abbrev ah:=List (Option Dat)
variable {ρ ρ':ah} {fa fb fc fe fk fo f3 f5 fw f8 f0:ah->M Dat} {ft fu f4 t1 t2 t3 t4 t5:ah->M Bool} {fi:ah->M (List Dat)} {fl:ah->M (Option Int)} {fx:List (p_×Dat)->ah->M ah}
structure dZ where
 p:Err->Hp->Hp->Prop
 mono:∀{e:Err} {F H F' H':Hp},p e F H->Step F H F' H'->p e F' H'
 ns:∀{F H:Hp},p .stuck F H->False
noncomputable def Wno:dZ:=⟨fun _ _ _=>False,fun h _=>h,fun h=>h⟩
def aC (K:Fg) (W:dZ) (own:Bool) (F H:Hp) (r:M Dat) (Q:VK):Prop:=match r with
 |.ok d=>∀v F' H',Step F H F' H'->Val K own F' H H' d v->Q v H'
 |.error e=>W.p e F H
theorem aC.step {W:dZ} {own:Bool} {r:M Dat} (p:aC K W own F H r Q) (s:Step F H F1 H1):aC K W own F1 H1 r Q:=by
 cases r with
 |ok d=>exact fun v F' H' t q=>p v F' H' (s.trans t) (q.back s.hh)
 |error e=>exact W.mono p s
theorem aC.frz {W:dZ} {r:M Dat} (p:aC K W b_ F H r Q):aC K W d_ F H r Q:=by
 cases r with
 |ok d=>
  intro v F' H' t q;obtain ⟨F2,J,I,n,z⟩:=lq.freeze t.fh q;exact p v F2 H' ⟨t.ff.trans J,t.hh,I,fun b o h=>(n b o h).elim (fun z=>t.nw b o z) .inr⟩ z
 |error e=>exact p
structure dB (K:Fg) (F:Hp) (σ:St) (ρ:ah):Prop where
 len:ρ.length=σ.length
 sl:∀(i:Nat) (d:Dat),ρ[i]? =a_ (a_ d)->∃v,σ[i]? =a_ (a_ v)/\aR K F d v
theorem dB.mono {K:Fg} {F F':Hp} {σ:St} {ρ:ah} (r:dB K F σ ρ) (s:aF F F'):dB K F' σ ρ:=
 ⟨r.len,fun i d e=>let ⟨v,h,q⟩:=r.sl i d e;⟨v,h,q.mono s⟩⟩
theorem dB.set {K:Fg} {F:Hp} {σ:St} {ρ:ah} {d:Dat} {v:V} (r:dB K F σ ρ) (q:aR K F d v) (i:Nat):dB K F (σ.set i (a_ v)) (ρ.set i (a_ d)):=
 ⟨by rw [En,En,r.len],fun j e h=>by
  by_cases I:i=j
  ·subst I;have hi:i<ρ.length:=by
    have:=(A1.mp h).1;simpa using this
   rw [x_ hi] at h;cases h;exact ⟨v,by rw [x_ (by rw [<- r.len];exact hi)],q⟩
  ·rw [o_ I] at h;obtain ⟨w,h1,h2⟩:=r.sl j e h;exact ⟨w,by rw [o_ I];exact h1,h2⟩⟩
def tD (K:Fg) (W:dZ) (own:Bool) (f:ah->M Dat):TE:=fun σ H Q=>∃F ρ,dB K F σ ρ/\aF F H/\aC K W own F H (f ρ) Q
theorem aO {W:dZ} {own:Bool} {f:ah->M Dat} {R:VK} (r:dB K F σ ρ) (s:aF F H) (J:∀e,f ρ=.error e->W.p e F H)
  (I:∀d,f ρ=.ok d->∀v F1 H1,Step F H F1 H1->Val K own F1 H H1 d v->R v H1):tD K W own f σ H R:=by
 refine ⟨F,ρ,r,s,?_⟩
 cases e:f ρ with
 |ok d=>exact I d e
 |error x=>exact J x e
def tDT (K:Fg) (W:dZ) (f:ah->M Bool):TT:=fun σ H Q=>∃F ρ,dB K F σ ρ/\aF F H/\(match f ρ with
 |.ok b=>∀F' H',Step F H F' H'->Q b H'
 |.error e=>W.p e F H)
theorem gM {W:dZ} {f:ah->M Bool} (r:dB K F σ ρ) (s:aF F H) (J:∀e,f ρ=.error e->W.p e F H)
  (I:∀b,f ρ=.ok b->∀F1 H1,Step F H F1 H1->R b H1):tDT K W f σ H R:=by
 refine ⟨F,ρ,r,s,?_⟩
 cases e:f ρ with
 |ok d=>exact I d e
 |error x=>exact J x e
def tDA (K:Fg) (W:dZ) (f:ah->M (List Dat)):TA:=fun σ H Q=>∃F ρ,dB K F σ ρ/\aF F H/\(match f ρ with
 |.ok ds=>∀vs F' H',Step F H F' H'->ay K F' ds vs->Q vs H'
 |.error e=>W.p e F H)
theorem oK {W:dZ} {f:ah->M (List Dat)} {R:List V->Hp->Prop} (r:dB K F σ ρ) (s:aF F H) (J:∀e,f ρ=.error e->W.p e F H)
  (I:∀ds,f ρ=.ok ds->∀vs F1 H1,Step F H F1 H1->ay K F1 ds vs->R vs H1):tDA K W f σ H R:=by
 refine ⟨F,ρ,r,s,?_⟩
 cases e:f ρ with
 |ok d=>exact I d e
 |error x=>exact J x e
def ai (i:Nat):ah->M Dat:=fun ρ=>match ρ[i]? with
 |some (a_ d)=>.ok d
 |_=>.error .stuck
def fC (d:Dat):ah->M Dat:=fun _=>.ok d
noncomputable def f1 (g:Dat->M Dat) (fa:ah->M Dat):ah->M Dat:=fun ρ=>(fa ρ).bind g
noncomputable def f2 (g:Dat->Dat->M Dat) (fa fb:ah->M Dat):ah->M Dat:=fun ρ=>(fa ρ).bind fun a=>(fb ρ).bind fun b=>g a b
noncomputable def aH:ah->M (List Dat):=fun _=>.ok []
noncomputable def aa (fa:ah->M Dat) (fr:ah->M (List Dat)):ah->M (List Dat):=fun ρ=>(fa ρ).bind fun a=>(fr ρ).bind fun r=>.ok (a::r)
noncomputable def fL (g:List Dat->M Dat) (fr:ah->M (List Dat)):ah->M Dat:=fun ρ=>(fr ρ).bind g
def jc (ds:List Dat):M Dat:=if ds.length<=g_ then .ok (.tup ds) else .error .stuck
def cy (ds:List Dat):M Dat:=if ds.length<=g_ then .ok (.lst ds) else .error .stuck
noncomputable def fIte (ft:ah->M Bool) (fa fb:ah->M Dat):ah->M Dat:=fun ρ=>(ft ρ).bind fun b=>if b=d_ then fa ρ else fb ρ
noncomputable def uk (ft fu:ah->M Bool):ah->M Bool:=fun ρ=>(ft ρ).bind fun b=>if b=d_ then fu ρ else .ok b_
noncomputable def fOr (ft fu:ah->M Bool):ah->M Bool:=fun ρ=>(ft ρ).bind fun b=>if b=d_ then .ok d_ else fu ρ
noncomputable def pN (ft:ah->M Bool):ah->M Bool:=fun ρ=>(ft ρ).bind fun b=>.ok (!b)
noncomputable def asB:Dat->M Bool
 |.bl b=>.ok b
 |_=>.error .stuck
def fB (fa:ah->M Dat):ah->M Bool:=fun ρ=>(fa ρ).bind asB
def iI (fa fb:ah->M Dat):ah->M Dat:=fun ρ=>(fa ρ).bind fun a=>(asB a).bind fun b=>if b=d_ then fb ρ else .ok (.bl b_)
def Bo (fa fb:ah->M Dat):ah->M Dat:=fun ρ=>(fa ρ).bind fun a=>(asB a).bind fun b=>if b=d_ then .ok (.bl d_) else fb ρ
noncomputable def notD:Dat->M Dat
 |.bl b=>.ok (.bl (!b))
 |_=>.error .stuck
def truD:Dat->M Bool
 |.non=>.ok b_
 |.bl b=>.ok b
 |.int i=>.ok (i != 0)
 |.str x=>if x.length<=g_ then .ok ((x.length:Int) != 0) else .error .stuck
 |.tup ds=>.ok (!ds.isEmpty)
 |.lst ds=>.ok (!ds.isEmpty)
 |_=>.error .stuck
def k7 (fa:ah->M Dat):ah->M Bool:=fun ρ=>(fa ρ).bind truD
def iH (g g':Dat->Dat->M Dat) (fa fb fc:ah->M Dat):ah->M Dat:=fun ρ=>(fa ρ).bind fun a=>(fb ρ).bind fun b=>(g a b).bind fun x=>(asB x).bind fun k=>if k=d_ then (fc ρ).bind fun c=>g' b c else .ok (.bl b_)
def rD2 (K:Fg) (W:dZ) (own:Bool) (g:Dat->Dat->M Dat):R2:=fun x y H Q=>∃F a b,aF F H/\aR K F a x/\aR K F b y/\aC K W own F H (g a b) Q
def rD1 (K:Fg) (W:dZ) (own:Bool) (g:Dat->M Dat):V->Hp->VK->Prop:=fun x H Q=>∃F a,aF F H/\aR K F a x/\aC K W own F H (g a) Q
def rDL (K:Fg) (W:dZ) (own:Bool) (g:List Dat->M Dat):List V->Hp->VK->Prop:=fun xs H Q=>∃F ds,aF F H/\ay K F ds xs/\aC K W own F H (g ds) Q
section
variable {W:dZ} {own:Bool} 
theorem rd_var (h:tD K W b_ (ai i) σ H Q):bJ i σ H Q:=by
 obtain ⟨F,ρ,r,s,p⟩:=h;unfold ai at p
 match e:ρ[i]? with
 |some (a_ d)=>
  rw [e] at p;obtain ⟨v,e1,q⟩:=r.sl i d e;exact ⟨v,e1,p v F H (Step.refl s) q⟩
 |some c_=>rw [e] at p;exact (W.ns p).elim
 |none=>rw [e] at p;exact (W.ns p).elim
theorem rd_c {d:Dat} (hd:∀F,aR K F d v) (h:tD K W b_ (fC d) σ H Q):tC v σ H Q:=by
 obtain ⟨F,ρ,r,s,p⟩:=h;exact p v F H (Step.refl s) (hd F)
theorem aC.err {x:M Dat} {e:Err} (p:aC K W own F H x Q) (h:x=.error e):W.p e F H:=by rw [h] at p;exact p
theorem rd_1 {g:Dat->M Dat} (h:tD K W own (f1 g fa) σ H Q):tUn (rD1 K W own g) (tD K W b_ fa) σ H Q:=by
 obtain ⟨F,ρ,r,s,p⟩:=h;refine aO r s (fun e Y=>p.err (by unfold f1;rw [Y];rfl)) fun a b x F1 H1 I J=>?_;refine ⟨F1,a,I.fh,J,?_⟩
 have e:f1 g fa ρ=g a:=by unfold f1;rw [b];rfl
 rw [e] at p;exact p.step I
theorem rd_2 (h:tD K W own (f2 g fa fb) σ H Q):tOp (rD2 K W own g) (tD K W b_ fa) (tD K W b_ fb) σ H Q:=by
 obtain ⟨F,ρ,r,s,p⟩:=h;refine aO r s (fun e Y=>p.err (by unfold f2;rw [Y];rfl)) fun a c x F1 H1 I f=>?_;refine aO (r.mono I.ff) I.fh (fun e Y=>(p.step I).err (by unfold f2;rw [c];show (fb ρ).bind _=_;rw [Y];rfl)) fun b i y F2 H2 J d=>?_;refine ⟨F2,a,b,J.fh,aR.mono J.ff f,d,?_⟩
 have e:f2 g fa fb ρ=g a b:=by unfold f2;rw [c];show (fb ρ).bind _=_;rw [i];rfl
 rw [e] at p;exact p.step (I.trans J)
theorem rd_nil {R:List V->Hp->Prop} (h:tDA K W aH σ H R):dI σ H R:=by
 obtain ⟨F,ρ,r,s,p⟩:=h;exact p [] F H (Step.refl s) rfl
theorem rd_cons {fr:ah->M (List Dat)} {R:List V->Hp->Prop} (h:tDA K W (aa fa fr) σ H R):aM (tD K W b_ fa) (tDA K W fr) σ H R:=by
 obtain ⟨F,ρ,r,s,p⟩:=h;refine aO r s (fun e J=>?_) fun a b x F1 H1 I d=>oK (r.mono I.ff) I.fh (fun e J=>?_) fun ds hd xs F2 H2 Y c=>?_
 ·have z:aa fa fr ρ=.error e:=by unfold aa;rw [J];rfl
  rw [z] at p;exact p
 ·have z:aa fa fr ρ=.error e:=by unfold aa;rw [b];show (fr ρ).bind _=_;rw [J];rfl
  rw [z] at p;exact W.mono p I
 ·have z:aa fa fr ρ=.ok (a::ds):=by unfold aa;rw [b];show (fr ρ).bind _=_;rw [hd];rfl
  rw [z] at p;exact p (x::xs) F2 H2 (I.trans Y) ⟨x,xs,rfl,aR.mono Y.ff d,c⟩
theorem rd_L {g:List Dat->M Dat} {fr:ah->M (List Dat)} (h:tD K W own (fL g fr) σ H Q):tDA K W fr σ H fun xs H1=>rDL K W own g xs H1 Q:=by
 obtain ⟨F,ρ,r,s,p⟩:=h;refine oK r s (fun e Y=>p.err (by unfold fL;rw [Y];rfl)) fun ds hd xs F1 H1 I J=>⟨F1,ds,I.fh,J,?_⟩
 have e:fL g fr ρ=g ds:=by unfold fL;rw [hd];rfl
 rw [e] at p;exact p.step I
theorem rd_tup {fr:ah->M (List Dat)} (h:tD K W own (fL jc fr) σ H Q):tTup (tDA K W fr) σ H Q:=by
 obtain ⟨F,ρ,r,s,p⟩:=rd_L h;refine ⟨F,ρ,r,s,?_⟩
 cases e:fr ρ with
 |error x=>rw [e] at p;exact p
 |ok ds=>
  rw [e] at p;intro vs F' H' t q;obtain ⟨F1,es,J,Y,z⟩:=p vs F' H' t q;unfold jc at z;by_cases I:es.length<=g_
  ·rw [f_ I] at z;refine ⟨by rw [Y.length];exact I,fun a b=>z (.ref a) _ _ (Step.lay J b) ?_⟩
   have:aR K (upd F1 a (.tup vs)) (.tup es) (.ref a):=⟨a,vs,rfl,SqT.of ao,Y.mono (aF.upd (J.free b))⟩
   cases own with
   |true=>exact this
   |false=>exact this
  ·rw [m_ I] at z;exact (W.ns z).elim
theorem rd_lst {fr:ah->M (List Dat)} (h:tD K W d_ (fL cy fr) σ H Q):yR (tDA K W fr) σ H Q:=by
 obtain ⟨F,ρ,r,s,p⟩:=rd_L h;refine ⟨F,ρ,r,s,?_⟩
 cases e:fr ρ with
 |error x=>rw [e] at p;exact p
 |ok ds=>
  rw [e] at p;intro vs F' H' t q;obtain ⟨F1,es,Y,b,z⟩:=p vs F' H' t q;unfold cy at z;by_cases I:es.length<=g_
  ·rw [f_ I] at z;exact ⟨by rw [b.length];exact I,fun a J=>z (.ref a) F1 _ (Step.grow Y J) ⟨a,vs,rfl,ao,Y.free J,J,b⟩⟩
  ·rw [m_ I] at z;exact (W.ns z).elim
theorem rd_ite (h:tD K W own (fIte ft fa fb) σ H Q):tIf (tDT K W ft) (tD K W own fa) (tD K W own fb) σ H Q:=by
 obtain ⟨F,ρ,r,s,p⟩:=h;refine gM r s (fun e J=>p.err (by unfold fIte;rw [J];rfl)) fun b Y F1 H1 I=>?_;have e:fIte ft fa fb ρ=if b=d_ then fa ρ else fb ρ:=by unfold fIte;rw [Y];rfl
 rw [e] at p;cases b with
 |true=>exact ⟨F1,ρ,r.mono I.ff,I.fh,p.step I⟩
 |false=>exact ⟨F1,ρ,r.mono I.ff,I.fh,p.step I⟩
theorem yS {f:ah->M Bool} (r:dB K F σ ρ) (I:Step F H F1 H1) (p:match f ρ with
 |.ok b=>∀F' H',Step F H F' H'->R b H'
 |.error e=>W.p e F H):tDT K W f σ H1 R:=by
 refine ⟨F1,ρ,r.mono I.ff,I.fh,?_⟩
 cases e:f ρ with
 |ok b=>rw [e] at p;exact fun F' H' t=>p F' H' (I.trans t)
 |error x=>rw [e] at p;exact W.mono p I
theorem rd_and (h:tDT K W (uk ft fu) σ H R):tAnd (tDT K W ft) (tDT K W fu) σ H R:=by
 obtain ⟨F,ρ,r,s,p⟩:=h;refine gM r s (fun e J=>?_) fun b Y F1 H1 I=>?_
 ·have z:uk ft fu ρ=.error e:=by unfold uk;rw [J];rfl
  rw [z] at p;exact p
 ·have z:uk ft fu ρ=if b=d_ then fu ρ else .ok b_:=by unfold uk;rw [Y];rfl
  rw [z] at p;cases b with
  |true=>exact yS r I p
  |false=>exact p F1 H1 I
theorem rd_or (h:tDT K W (fOr ft fu) σ H R):tOr (tDT K W ft) (tDT K W fu) σ H R:=by
 obtain ⟨F,ρ,r,s,p⟩:=h;refine gM r s (fun e J=>?_) fun b Y F1 H1 I=>?_
 ·have z:fOr ft fu ρ=.error e:=by unfold fOr;rw [J];rfl
  rw [z] at p;exact p
 ·have z:fOr ft fu ρ=if b=d_ then .ok d_ else fu ρ:=by unfold fOr;rw [Y];rfl
  rw [z] at p;cases b with
  |false=>exact yS r I p
  |true=>exact p F1 H1 I
theorem rd_not (h:tDT K W (pN ft) σ H R):tNot (tDT K W ft) σ H R:=by
 obtain ⟨F,ρ,r,s,p⟩:=h;refine gM r s (fun e J=>?_) fun b Y F1 H1 I=>?_
 ·have z:pN ft ρ=.error e:=by unfold pN;rw [J];rfl
  rw [z] at p;exact p
 ·have z:pN ft ρ=.ok (!b):=by unfold pN;rw [Y];rfl
  rw [z] at p;exact p F1 H1 I
theorem rd_B (h:tDT K W (fB fa) σ H R):tTest (tD K W b_ fa) σ H R:=by
 obtain ⟨F,ρ,r,s,p⟩:=h;refine aO r s (fun e Y=>?_) fun a c x F1 H1 I J=>?_
 ·have z:fB fa ρ=.error e:=by unfold fB;rw [Y];rfl
  rw [z] at p;exact p
 ·have z:fB fa ρ=asB a:=by unfold fB;rw [c];rfl
  rw [z] at p;cases a with
  |bl b=>exact ⟨b,J,p F1 H1 I⟩
  |_=>exact (W.ns p).elim
theorem tru_of {a:Dat} {x:V} {b:Bool} (s:aF F H1) (q:aR K F a x) (h:truD a=.ok b):TruV K x H1 b:=by
 cases a with
 |non=>rw [show x=.non from q];exact (FT h).symm
 |bl c=>rw [show x=.bl c from q];exact (FT h).symm
 |int i=>rw [show x=.int i from q];exact (FT h).symm
 |str y=>
  rw [show x=.str y from q];have h':(if y.length<=g_ then Eo ((y.length:Int) != 0) else Gv Err.stuck)=Eo b:=h;by_cases I:y.length<=g_
  ·rw [f_ I] at h';exact ⟨I,(FT h').symm⟩
  ·rw [m_ I] at h';cases h'
 |tup ds=>
  obtain ⟨p,xs,e,t,r⟩:=q;subst e;refine .inr (.inl ⟨xs,s.tup t,?_⟩);rw [<- FT h];cases ds with
  |nil=>rw [show xs=[] from r];rfl
  |cons d ds=>obtain ⟨v,vs,e,_⟩:=r;rw [e];rfl
 |lst ds=>
  obtain ⟨p,xs,e,t,r⟩:=q;subst e;refine .inl ⟨xs,s.lst t,?_⟩;rw [<- FT h];cases ds with
  |nil=>rw [show xs=[] from r];rfl
  |cons d ds=>obtain ⟨v,vs,e,_⟩:=r;rw [e];rfl
 |ins C fs=>cases h
 |dic ks=>cases h
 |dil ks=>cases h
theorem rd_tru (h:tDT K W (k7 fa) σ H R):tD K W b_ fa σ H fun x H1=>∃k,TruV K x H1 k/\R k H1:=by
 obtain ⟨F,ρ,r,s,p⟩:=h;refine aO r s (fun e d=>?_) fun a f x F1 H1 J c=>?_
 ·have z:k7 fa ρ=.error e:=by unfold k7;rw [d];rfl
  rw [z] at p;exact p
 ·have z:k7 fa ρ=truD a:=by unfold k7;rw [f];rfl
  rw [z] at p;cases e:truD a with
  |ok b=>rw [e] at p;exact ⟨b,tru_of J.fh c e,p F1 H1 J⟩
  |error x=>
   rw [e] at p;have:x=.stuck:=by
    cases a with
    |str y=>
     have I:(if y.length<=g_ then Eo ((y.length:Int) != 0) else Gv Err.stuck)=Gv x:=e;by_cases Y:y.length<=g_
     ·rw [f_ Y] at I;cases I
     ·rw [m_ Y] at I;cases I;rfl
    |ins C fs=>cases e;rfl
    |dic ks=>cases e;rfl
    |dil ks=>cases e;rfl
    |_=>cases e
   subst this;exact (W.ns p).elim
theorem rd_andV (h:tD K W b_ (iI fa fb) σ H Q):tAndV (tD K W b_ fa) (tD K W b_ fb) σ H Q:=by
 obtain ⟨F,ρ,r,s,p⟩:=h;refine aO r s (fun e Y=>p.err (by unfold iI;rw [Y];rfl)) fun a c x F1 H1 I J=>?_;have z:iI fa fb ρ=(asB a).bind fun b=>if b=d_ then fb ρ else .ok (.bl b_):=by unfold iI;rw [c];rfl
 rw [z] at p;cases a with
 |bl b=>
  refine ⟨b,J,?_⟩
  cases b with
  |true=>exact ⟨F1,ρ,r.mono I.ff,I.fh,aC.step (own:=b_) (r:=fb ρ) p I⟩
  |false=>exact p (.bl b_) F1 H1 I rfl
 |_=>exact (W.ns p).elim
theorem rd_orV (h:tD K W b_ (Bo fa fb) σ H Q):tOrV (tD K W b_ fa) (tD K W b_ fb) σ H Q:=by
 obtain ⟨F,ρ,r,s,p⟩:=h;refine aO r s (fun e Y=>p.err (by unfold Bo;rw [Y];rfl)) fun a c x F1 H1 I J=>?_;have z:Bo fa fb ρ=(asB a).bind fun b=>if b=d_ then .ok (.bl d_) else fb ρ:=by unfold Bo;rw [c];rfl
 rw [z] at p;cases a with
 |bl b=>
  refine ⟨b,J,?_⟩
  cases b with
  |false=>exact ⟨F1,ρ,r.mono I.ff,I.fh,aC.step (own:=b_) (r:=fb ρ) p I⟩
  |true=>exact p (.bl d_) F1 H1 I rfl
 |_=>exact (W.ns p).elim
theorem rd_notV (h:tD K W b_ (f1 notD fa) σ H Q):tNotV (tD K W b_ fa) σ H Q:=by
 obtain ⟨F,ρ,r,s,p⟩:=h;refine aO r s (fun e Y=>p.err (by unfold f1;rw [Y];rfl)) fun a c x F1 H1 I J=>?_;have z:f1 notD fa ρ=notD a:=by unfold f1;rw [c];rfl
 rw [z] at p;cases a with
 |bl b=>exact ⟨b,J,p (.bl (!b)) F1 H1 I rfl⟩
 |_=>exact (W.ns p).elim
theorem zf (h:tD K W b_ (iH g g' fa fb fc) σ H Q):BJ (rD2 K W b_ g) (rD2 K W b_ g') (tD K W b_ fa) (tD K W b_ fb) (tD K W b_ fc) σ H Q:=by
 obtain ⟨F,ρ,r,s,p⟩:=h;refine aO r s (fun e Y=>p.err (by unfold iH;rw [Y];rfl)) fun a o x F1 H1 J u=>?_;refine aO (r.mono J.ff) J.fh (fun e Y=>(p.step J).err (by unfold iH;rw [o];show (fb ρ).bind _=_;rw [Y];rfl)) fun b B y F2 H2 f n=>?_;have z:iH g g' fa fb fc ρ=(g a b).bind fun x=>(asB x).bind fun k=>if k=d_ then (fc ρ).bind fun c=>g' b c else .ok (.bl b_):=by unfold iH;rw [o];show (fb ρ).bind _=_;rw [B];rfl
 rw [z] at p;refine ⟨F2,a,b,f.fh,aR.mono f.ff u,n,?_⟩
 have p2:=p.step (J.trans f);cases e:g a b with
 |error x=>rw [e] at p2;exact p2
 |ok d=>
  rw [e] at p2;intro v m l I t;have p3:aC K W b_ m l ((asB d).bind fun k=>if k=d_ then (fc ρ).bind fun c=>g' b c else .ok (.bl b_)) Q:=aC.step p2 I;cases d with
  |bl k=>
   refine ⟨k,t,?_⟩
   cases k with
   |false=>exact p3 (.bl b_) m l (Step.refl I.fh) rfl
   |true=>
    have j:aC K W b_ m l ((fc ρ).bind fun c=>g' b c) Q:=p3;refine aO (r.mono (J.trans (f.trans I)).ff) I.fh (fun e Y=>j.err (by rw [Y];rfl)) fun c A w C D i q=>⟨C,b,c,i.fh,aR.mono (I.trans i).ff n,q,?_⟩
    rw [A] at j;exact j.step i
  |_=>exact (W.ns p3).elim
end
inductive Pat where
 |nm (i:Nat)|tp (is:List Nat)
def jf:List Nat->List Dat->ah->ah
 |i::is,d::ds,ρ=>jf is ds (ρ.set i (a_ d))
 |_,_,ρ=>ρ
def iM:Pat->Dat->ah->M ah
 |.nm i,d,ρ=>.ok (ρ.set i (a_ d))
 |.tp is,.tup ds,ρ=>if ds.length=is.length then .ok (jf is ds ρ) else .error .stuck
 |.tp _,_,_=>.error .stuck
def ir:List Nat->TGs
 |[]=>gNil
 |i::is=>jZ (bX i) (ir is)
def gP (K:Fg):Pat->TG
 |.nm i=>bX i
 |.tp is=>gTup K is.length (ir is)
theorem rG {K:Fg} {F H:Hp} {R:St->Hp->Prop}:∀{is:List Nat} {ds:List Dat} {vs:List V} {σ:St} {ρ:ah},dB K F σ ρ->ay K F ds vs->ds.length=is.length->(∀σ',dB K F σ' (jf is ds ρ)->R σ' H)->ir is vs σ H R
 |[],[],_,σ,ρ,r,q,_,h=>⟨q,h σ r⟩
 |[],_::_,_,_,_,_,_,e,_=>by simp at e
 |_::_,[],_,_,_,_,_,e,_=>by simp at e
 |i::is,d::ds,_,σ,ρ,r,⟨v,vs,e,q,t⟩,l,h=>⟨v,vs,e,rG (r.set q i) t (by simpa using l) h⟩
theorem gP_run {R:St->Hp->Prop} {p:Pat} {d:Dat} (r:dB K F σ ρ) (s:aF F H) (q:aR K F d v) (e:iM p d ρ=.ok ρ') (h:∀σ',dB K F σ' ρ'->R σ' H):gP K p v σ H R:=by
 cases p with
 |nm i=>
  have:=FT e;subst this;exact h _ (r.set q i)
 |tp is=>
  cases d with
  |tup ds=>
   have J:(if ds.length=is.length then Eo (jf is ds ρ) else Gv Err.stuck)=Eo ρ':=e;by_cases I:ds.length=is.length
   ·rw [f_ I] at J;have:=FT J;subst this;obtain ⟨a,xs,Y,t,z⟩:=q;exact ⟨a,xs,Y,s.tup t,by rw [z.length,I],rG r z I h⟩
   ·rw [m_ I] at J;cases J
  |_=>cases e
theorem ql {p:Pat} {d:Dat} {e:Err} (h:iM p d ρ=.error e):e=.stuck:=by
 cases p with
 |nm i=>cases h
 |tp is=>
  cases d with
  |tup ds=>
   have I:(if ds.length=is.length then Eo (jf is ds ρ) else Gv Err.stuck)=Gv e:=h;by_cases J:ds.length=is.length
   ·rw [f_ J] at I;cases I
   ·rw [m_ J] at I;cases I;rfl
  |_=>cases h;rfl
structure wz (K:Fg) (F1:Hp) (J:It) (ds:List Dat):Prop where
 go:∀(i:Nat) (F H:Hp),aF F1 F->aF F H->i<ds.length->J.go i H
 yl:∀(i:Nat) (F H:Hp) (x:V) (H':Hp) (d:Dat),aF F1 F->aF F H->ds[i]? =a_ d->J.yld i H x H'->∃F',Step F H F' H'/\aR K F' d x
 st:∀(F H:Hp),aF F1 F->aF F H->J.stop ds.length H
def iD (K:Fg) (W:dZ) (f:ah->M (List Dat)):TI:=fun σ H R=>∃F ρ,dB K F σ ρ/\aF F H/\(match f ρ with
 |.ok ds=>∀J F1 H1,Step F H F1 H1->wz K F1 J ds->R J H1
 |.error e=>W.p e F H)
def iF:Dat->M (List Dat)
 |.lst ds=>.ok ds
 |.tup ds=>.ok ds
 |_=>.error .stuck
def fIt (fa:ah->M Dat):ah->M (List Dat):=fun ρ=>(fa ρ).bind iF
def iSeq (K:Fg) (tl:TE):TI:=fun σ H R=>tl σ H fun x H1=>∃a,x=.ref a/\((∃xs,SqL K H1 a xs)/\R (Itl K a) H1\/(∃xs,SqT K H1 a xs)/\R (Itt K a) H1)
theorem CZ {xs:List V} {ds:List Dat} (t:SqL K F a xs) (z:ay K F ds xs):wz K F (Itl K a) ds where
 go:=fun i F' H' J I hi=>⟨xs,xs[i]'(by rw [z.length];exact hi),I.lst (J.lst t),by simp [z.length,hi]⟩
 yl:=fun i F' H' x H2 d J I hd Y=>by
  obtain ⟨e,Y⟩:=Y;subst e;obtain ⟨v,e1,q⟩:=z.get hd;have e2:=Y xs (I.lst (J.lst t));rw [e1] at e2;cases e2;exact ⟨F',Step.refl I,q.mono J⟩
 st:=fun F' H' J I=>⟨xs,I.lst (J.lst t),by rw [z.length];exact u_ _⟩
theorem iter_tup {xs:List V} {ds:List Dat} (t:SqT K F a xs) (z:ay K F ds xs):wz K F (Itt K a) ds where
 go:=fun i F' H' J I hi=>⟨xs,xs[i]'(by rw [z.length];exact hi),I.tup (J.tup t),by simp [z.length,hi]⟩
 yl:=fun i F' H' x H2 d J I hd Y=>by
  obtain ⟨e,Y⟩:=Y;subst e;obtain ⟨v,e1,q⟩:=z.get hd;have e2:=Y xs (I.tup (J.tup t));rw [e1] at e2;cases e2;exact ⟨F',Step.refl I,q.mono J⟩
 st:=fun F' H' J I=>⟨xs,I.tup (J.tup t),by rw [z.length];exact u_ _⟩
noncomputable def cP (lo:Int) (n:Nat):List Dat:=(Fm n).map fun k:Nat=>Dat.int (lo+k)
theorem AS {lo:Int} :wz K F (Itr lo n) (cP lo n) where
 go:=fun i F' H' Y I hi=>by show i<n;simpa [cP] using hi
 yl:=fun i F' H' x H2 d Y I hd J=>by
  obtain ⟨e,J⟩:=J;subst e J;unfold cP at hd;rw [E_] at hd;have hi:i<n:=by
   have:=(A1.mp (show ((Fm n).map fun k:Nat=>Dat.int (lo+k))[i]? =a_ d by rw [E_];exact hd)).1;simpa using this
  rw [Lh hi] at hd;cases hd;exact ⟨F',Step.refl I,rfl⟩
 st:=fun F' H' Y I=>by show n<=_;simp [cP]
noncomputable def kr (i:Int):Bool:=r_ (-(2^62)<=i)&&r_ (i<2^62)
def C8:List Dat->M (List Dat)
 |[.int j]=>if kr j=d_ then .ok (cP 0 j.toNat) else .error .stuck
 |_=>.error .stuck
noncomputable def Bn (g:List Dat->M (List Dat)) (fr:ah->M (List Dat)):ah->M (List Dat):=fun ρ=>(fr ρ).bind g
section
variable {W:dZ} 
theorem ri_seq {R:It->Hp->Prop} (h:iD K W (fIt fa) σ H R):iSeq K (tD K W b_ fa) σ H R:=by
 obtain ⟨F,ρ,r,s,p⟩:=h;refine aO r s (fun e Y=>?_) fun a c x F1 H1 I J=>?_
 ·have z:fIt fa ρ=.error e:=by unfold fIt;rw [Y];rfl
  rw [z] at p;exact p
 ·have z:fIt fa ρ=iF a:=by unfold fIt;rw [c];rfl
  rw [z] at p;cases a with
  |lst ds=>
   obtain ⟨b,xs,e,t,z⟩:=J;exact ⟨b,e,.inl ⟨⟨xs,I.fh.lst t⟩,p _ F1 H1 I (CZ t z)⟩⟩
  |tup ds=>
   obtain ⟨b,xs,e,t,z⟩:=J;exact ⟨b,e,.inr ⟨⟨xs,I.fh.tup t⟩,p _ F1 H1 I (iter_tup t z)⟩⟩
  |_=>exact (W.ns p).elim
theorem ri_rng1 {fr:ah->M (List Dat)} {R:It->Hp->Prop} (h:iD K W (Bn C8 fr) σ H R):iRng1 (tDA K W fr) σ H R:=by
 obtain ⟨F,ρ,r,s,p⟩:=h;refine oK r s (fun e c=>?_) fun ds hd xs F1 H1 a b=>?_
 ·have z:Bn C8 fr ρ=.error e:=by unfold Bn;rw [c];rfl
  rw [z] at p;exact p
 ·have z:Bn C8 fr ρ=C8 ds:=by unfold Bn;rw [hd];rfl
  rw [z] at p
  match ds,b,p with
  |[.int j],⟨v,vs,e,q,t⟩,p=>
   have Y:match (if kr j=d_ then Eo (cP 0 j.toNat) else Gv Err.stuck:M (List Dat)) with
    |.ok ds=>∀J F1 H1,Step F H F1 H1->wz K F1 J ds->R J H1
    |.error e=>W.p e F H:=p
   by_cases I:kr j=d_
   ·rw [f_ I] at Y;unfold kr at I;simp only [n_,Et] at I;exact ⟨j,by rw [e,show v=.int j from q,show vs=[] from t],I.1,I.2,Y _ F1 H1 a AS⟩
   ·rw [m_ I] at Y;exact (W.ns Y).elim
  |[],_,p=>exact (W.ns p).elim
  |.non::_,_,p=>exact (W.ns p).elim
  |.bl _::_,_,p=>exact (W.ns p).elim
  |.str _::_,_,p=>exact (W.ns p).elim
  |.tup _::_,_,p=>exact (W.ns p).elim
  |.lst _::_,_,p=>exact (W.ns p).elim
  |.ins _ _::_,_,p=>exact (W.ns p).elim
  |.dic _::_,_,p=>exact (W.ns p).elim
  |.dil _::_,_,p=>exact (W.ns p).elim
  |.int _::_::_,_,p=>exact (W.ns p).elim
def jY (ix:List (Option Nat)) (ρ:ah):ah:=ix.map fun o=>match o with
 |none=>c_
 |some j=>(ρ[j]?).join
def ba (p:Pat) (ft:ah->M Bool) (fe:ah->M Dat) (ρ0:ah):List Dat->M (List Dat)
 |[]=>.ok []
 |d::ds=>(iM p d ρ0).bind fun ρ=>(ft ρ).bind fun b=>if b=d_ then (fe ρ).bind fun y=>(ba p ft fe ρ0 ds).bind fun r=>.ok (y::r) else ba p ft fe ρ0 ds
def dP (fi:ah->M (List Dat)) (ix:List (Option Nat)) (p:Pat) (ft:ah->M Bool) (fe:ah->M Dat):ah->M Dat:=fun ρ=>(fi ρ).bind fun ds=>if ds.length<=g_ then (ba p ft fe (jY ix ρ) ds).bind fun r=>.ok (.lst r) else .error .stuck
noncomputable def ia:ah->M Bool:=fun _=>.ok d_
theorem dB.inS {F:Hp} {ρ:ah} (r:dB K F σ ρ) (ix:List (Option Nat)):dB K F (L2.inS ix σ) (jY ix ρ):=
 ⟨by simp [L2.inS,jY],fun i d e=>by
  unfold jY at e;unfold L2.inS;rw [E_] at e ⊢;cases h:ix[i]? with
  |none=>rw [h] at e;cases e
  |some o=>
   rw [h] at e;cases o with
   |none=>cases e
   |some j=>
    simp only [Ih,J9] at e ⊢;have e1:ρ[j]? =a_ (a_ d):=by
     cases z:ρ[j]? with
     |none=>rw [z] at e;cases e
     |some w=>rw [z] at e;simp at e;rw [e]
    obtain ⟨v,h1,h2⟩:=r.sl j d e1;exact ⟨v,by rw [h1];rfl,h2⟩⟩
theorem xo {p:Pat} (h:tD K W d_ (dP fi ix p ft fe) σ H Q) :
  tComp (iD K W fi) ix (gP K p) (tDT K W ft) (tD K W b_ fe) σ H Q:=by
 obtain ⟨F,ρ,r,s,q⟩:=h;refine ⟨F,ρ,r,s,?_⟩
 cases S:fi ρ with
 |error e=>exact q.err (by unfold dP;rw [S];rfl)
 |ok ds=>
  intro J F1 H1 C it;have e0:dP fi ix p ft fe ρ=if ds.length<=g_ then (ba p ft fe (jY ix ρ) ds).bind fun r=>.ok (.lst r) else .error .stuck:=by unfold dP;rw [S];rfl
  rw [e0] at q;by_cases R:ds.length<=g_
  ·rw [f_ R] at q;refine ⟨fun i m ys H2=>m=ds.length-i/\i<=ds.length/\∃F2 I,Step F1 H1 F2 H2/\ay K F2 I ys/\I.length<=i /\
    (match ba p ft fe (jY ix ρ) (ds.drop i) with
     |.ok Y=>ba p ft fe (jY ix ρ) ds=.ok (I++Y)
     |.error e=>W.p e F H),⟨ds.length,by omega,FX _,F1,[],Step.refl C.fh,rfl,FX _,?_⟩,?_⟩
   ·rw [IB];cases e:ba p ft fe (jY ix ρ) ds with
    |ok Y=>rfl
    |error x=>exact q.err (by rw [e];rfl)
   ·rintro i m ys H2 ⟨rfl,hi,F2,I,f,E,ly,t⟩;have A:ys.length<=g_:=by rw [E.length];omega
    by_cases j:i<ds.length
    ·have ed:ds.drop i=ds[i]::ds.drop (i+1):=Gd j;rw [ed] at t;refine .inr ⟨it.go i F2 H2 f.ff f.fh j,A,fun w H'=>(i+1<=ds.length/\∃F2 I,Step F1 H1 F2 H'/\ay K F2 I w/\I.length<=i+1 /\
      (match ba p ft fe (jY ix ρ) (ds.drop (i+1)) with
       |.ok Y=>ba p ft fe (jY ix ρ) ds=.ok (I++Y)
       |.error e=>W.p e F H)),fun w H' n=>⟨ds.length-(i+1),by omega,rfl,n⟩,fun x H' y=>?_⟩
     obtain ⟨U,o,q3⟩:=it.yl i F2 H2 x H' ds[i] f.ff f.fh (by simp [j]) y;have Z:dB K U (L2.inS ix σ) (jY ix ρ):=(r.mono (C.trans (f.trans o)).ff).inS ix;have z:Step F H U H':=C.trans (f.trans o);have ec:ba p ft fe (jY ix ρ) (ds[i]::ds.drop (i+1))=(iM p ds[i] (jY ix ρ)).bind fun c=>(ft c).bind fun b=>if b=d_ then (fe c).bind fun y=>(ba p ft fe (jY ix ρ) (ds.drop (i+1))).bind fun r=>.ok (y::r) else ba p ft fe (jY ix ρ) (ds.drop (i+1)):=by rw [ba]
     rw [ec] at t;cases D:iM p ds[i] (jY ix ρ) with
     |error e=>
      rw [D] at t;have:=ql D;subst this;exact (W.ns t).elim
     |ok c=>
      rw [D] at t;refine gP_run Z o.fh q3 D fun X P=>?_;have k:match ((ft c).bind fun b=>if b=d_ then (fe c).bind fun y=>(ba p ft fe (jY ix ρ) (ds.drop (i+1))).bind fun r=>.ok (y::r) else ba p ft fe (jY ix ρ) (ds.drop (i+1))) with
       |.ok Y=>ba p ft fe (jY ix ρ) ds=.ok (I++Y)
       |.error e=>W.p e F H:=t
      refine gM P o.fh (fun e G=>by rw [G] at k;exact W.mono k z) fun b L F5 H5 u=>?_;rw [L] at k;cases b with
      |false=>
       have g:match ba p ft fe (jY ix ρ) (ds.drop (i+1)) with
        |.ok Y=>ba p ft fe (jY ix ρ) ds=.ok (I++Y)
        |.error e=>W.p e F H:=k
       exact ⟨j,F5,I,f.trans (o.trans u),E.mono (o.trans u).ff,by omega,g⟩
      |true=>
       have g:match ((fe c).bind fun y=>(ba p ft fe (jY ix ρ) (ds.drop (i+1))).bind fun r=>.ok (y::r)) with
        |.ok Y=>ba p ft fe (jY ix ρ) ds=.ok (I++Y)
        |.error e=>W.p e F H:=k
       refine aO (P.mono u.ff) u.fh (fun e G=>by rw [G] at g;exact W.mono g (z.trans u)) fun d hd v F6 H6 O q6=>?_;rw [hd] at g;refine ⟨j,F6,I++[d],f.trans (o.trans (u.trans O)),ay.append (E.mono (o.trans (u.trans O)).ff) ⟨v,[],rfl,q6,rfl⟩,by simp;omega,?_⟩
       have l:match ((ba p ft fe (jY ix ρ) (ds.drop (i+1))).bind fun r=>.ok (d::r):M (List Dat)) with
        |.ok Y=>ba p ft fe (jY ix ρ) ds=.ok (I++Y)
        |.error e=>W.p e F H:=g
       cases T:ba p ft fe (jY ix ρ) (ds.drop (i+1)) with
       |ok Y=>
        rw [T] at l;show _=Eo ((I++[d])++Y);rw [Hd];exact l
       |error x=>rw [T] at l;exact l
    ·have:i=ds.length:=by omega
     subst this;rw [L4] at t;have B:ba p ft fe (jY ix ρ) ds=.ok (I++[]):=t;rw [GK] at B;rw [B] at q;refine .inl ⟨it.st F2 H2 f.ff f.fh,A,fun a N=>?_⟩;have st:Step F H F2 H2:=C.trans f;exact q (.ref a) F2 _ (st.trans (Step.grow f.fh N)) ⟨a,ys,rfl,ao,f.fh.free N,st.hh.free N,E⟩
  ·rw [m_ R] at q;exact (W.ns q).elim
end
inductive Flo where
 |nx (ρ:ah)|rt (d:Dat)|bk (ρ:ah)|ct (ρ:ah)
variable {g2:ah->M Flo}
structure Rep (K:Fg) (F0 H0 FB:Hp) (O:List Nat) (F H:Hp) (σ:St) (ρ:ah):Prop where
 st:Step F0 H0 F H
 fb:aF FB F
 len:ρ.length=σ.length
 fz:∀(i:Nat) (d:Dat),ρ[i]? =a_ (a_ d)->i∉O->∃v,σ[i]? =a_ (a_ v)/\aR K F d v
 ow:∀(i:Nat) (d:Dat),ρ[i]? =a_ (a_ d)->i∈O->∃v,σ[i]? =a_ (a_ v)/\lq K F H0 H d v
 ap:∀(i j:Nat) (d e:Dat) (a:e_),i∈O->j∈O->(ρ[i]? =a_ (a_ d)/\isO d=d_)->(ρ[j]? =a_ (a_ e)/\isO e=d_)->σ[i]? =a_ (a_ (.ref a))->σ[j]? =a_ (a_ (.ref a))->i=j
def oB (O O2:List Nat) (σ:St) (ρ:ah) (b:e_):Prop:=∃(i:Nat) (d:Dat),i∈O/\i∉O2/\isO d=d_/\ρ[i]? =a_ (a_ d)/\σ[i]? =a_ (a_ (.ref b))
open Classical in
noncomputable def plus (F H:Hp) (A:Addr->Prop):Hp:=fun b=>if A b then H b else F b
open Classical in
noncomputable def minus (F:Hp) (A:Addr->Prop):Hp:=fun b=>if A b then none else F b
theorem iS {A:e_->Prop} (h:A b):plus F H A b=H b:=by unfold plus;rw [f_ h]
theorem ck {A:e_->Prop} (h:¬A b):plus F H A b=F b:=by unfold plus;rw [m_ h]
theorem om {A:e_->Prop} (h:A b):minus F A b=c_:=by unfold minus;rw [f_ h]
theorem eB {A:e_->Prop} (h:¬A b):minus F A b=F b:=by unfold minus;rw [m_ h]
section
theorem Rep.own (r:Rep K F0 H0 FB O F H σ ρ) (h:oB O O2 σ ρ b):F b=c_/\H0 b=c_/\∃o,H b=a_ o/\isMu o=d_:=by
 obtain ⟨i,d,hi,_,hd,e1,e2⟩:=h;obtain ⟨v,e3,q⟩:=r.ow i _ e1 hi;rw [e2] at e3;cases e3;obtain ⟨a,o,e,p,m,f,z⟩:=q.top hd;cases e;exact ⟨f,z,o,p,m⟩
theorem Rep.kA (r:Rep K F0 H0 FB O F H σ ρ):aF F (plus F H (oB O O2 σ ρ)):=fun b o h=>by
 by_cases I:oB O O2 σ ρ b
 ·rw [(r.own I).1] at h;cases h
 ·rw [ck I];exact h
theorem Rep.kz (r:Rep K F0 H0 FB O F H σ ρ):aF (plus F H (oB O O2 σ ρ)) H:=fun b o h=>by
 by_cases I:oB O O2 σ ρ b
 ·rw [iS I] at h;exact h
 ·rw [ck I] at h;exact r.st.fh b o h
theorem Rep.freeze (r:Rep K F0 H0 FB O F H σ ρ) (I:∀i∈O2,i∈O):Rep K F0 H0 FB O2 (plus F H (oB O O2 σ ρ)) H σ ρ where
 st:=⟨r.st.ff.trans r.kA,r.st.hh,r.kz,fun b o h=>by
  by_cases l:oB O O2 σ ρ b
  ·exact .inr (r.own l).2.1
  ·rw [ck l] at h;exact r.st.nw b o h⟩
 fb:=r.fb.trans r.kA
 len:=r.len
 fz:=fun i d e hi=>by
  by_cases J:i∈O
  ·obtain ⟨v,e3,q⟩:=r.ow i d e J;refine ⟨v,e3,?_⟩
   cases hd:isO d with
   |true=>
    obtain ⟨a,_,k,_⟩:=q.top hd;subst k;exact q.give hd r.kA (iS ⟨i,d,J,hi,hd,e,e3⟩)
   |false=>rw [lq.non hd] at q;exact q.mono r.kA
  ·obtain ⟨v,e3,q⟩:=r.fz i d e J;exact ⟨v,e3,q.mono r.kA⟩
 ow:=fun i d e hi=>by
  obtain ⟨v,e3,q⟩:=r.ow i d e (I i hi);refine ⟨v,e3,?_⟩
  cases hd:isO d with
  |true=>
   obtain ⟨a,o,k,p,_,f,z⟩:=q.top hd;subst k;refine q.re hd r.kA ?_ fun _ h=>h;have:¬oB O O2 σ ρ a:=fun ⟨j,d',c,Y,g,f1,f2⟩=>by
    have:=r.ap i j d d' a (I i hi) c ⟨e,hd⟩ ⟨f1,g⟩ e3 f2;subst this;exact Y hi
   rw [ck this];exact f
  |false=>rw [lq.non hd] at q ⊢;exact q.mono r.kA
 ap:=fun i j d e a hi c=>r.ap i j d e a (I i hi) (I j c)
theorem Rep.repE (r:Rep K F0 H0 FB [] F H σ ρ):dB K F σ ρ:=⟨r.len,fun i d e=>r.fz i d e (by simp)⟩
theorem Rep.rg (r:Rep K F0 H0 FB O F H σ ρ):dB K (plus F H (oB O [] σ ρ)) σ ρ:=(r.freeze (O2:=[]) (by simp)).repE
noncomputable def erase:List Nat->ah->ah
 |[],ρ=>ρ
 |i::is,ρ=>erase is (ρ.set i c_)
theorem vQ:∀(O:List Nat) (ρ:ah),(erase O ρ).length=ρ.length
 |[],_=>rfl
 |i::is,ρ=>by rw [erase,vQ,En]
theorem vR:∀(O:List Nat) (ρ:ah) (i:Nat) (d:Dat),(erase O ρ)[i]? =a_ (a_ d)->ρ[i]? =a_ (a_ d)/\i∉O
 |[],_,_,_,h=>⟨h,by simp⟩
 |j::is,ρ,i,d,h=>by
  obtain ⟨h1,h2⟩:=vR is (ρ.set j c_) i d h;by_cases e:j=i
  ·subst e;have I:j<ρ.length:=by
    have:=(A1.mp h1).1;simpa using this
   rw [x_ I] at h1;cases h1
  ·rw [o_ e] at h1;exact ⟨h1,by simp [h2];omega⟩
theorem Rep.jQ (r:Rep K F0 H0 FB O F H σ ρ):dB K F σ (erase O ρ):=
 ⟨by rw [vQ,r.len],fun i d e=>let ⟨h1,h2⟩:=vR O ρ i d e;r.fz i d h1 h2⟩
theorem Rep.step (r:Rep K F0 H0 FB O F H σ ρ) (s:Step F H F1 H1):Rep K F0 H0 FB O F1 H1 σ ρ where
 st:=r.st.trans s
 fb:=r.fb.trans s.ff
 len:=r.len
 fz:=fun i d e hi=>let ⟨v,e3,q⟩:=r.fz i d e hi;⟨v,e3,q.mono s.ff⟩
 ow:=fun i d e hi=>by
  obtain ⟨v,e3,q⟩:=r.ow i d e hi;refine ⟨v,e3,?_⟩
  cases hd:isO d with
  |true=>
   obtain ⟨a,u,I,p,_,f,z⟩:=q.top hd;subst I;refine q.re hd s.ff ?_ (s.hh a);cases e1:F1 a with
   |none=>rfl
   |some o=>
    rcases s.nw a o e1 with h|h
    ·rw [f] at h;cases h
    ·rw [p] at h;cases h
  |false=>rw [lq.non hd] at q ⊢;exact q.mono s.ff
 ap:=r.ap
theorem Rep.sk (r:Rep K F0 H0 FB O F H σ ρ) (s:Step (plus F H (oB O [] σ ρ)) H F1 H1):Rep K F0 H0 FB O (minus F1 (oB O [] σ ρ)) H1 σ ρ:=by
 refine r.step ⟨fun b o h=>?_,s.hh,fun b o h=>?_,fun b o h=>?_⟩
 ·by_cases I:oB O [] σ ρ b
  ·rw [(r.own I).1] at h;cases h
  ·rw [eB I];exact s.ff b o (by rw [ck I];exact h)
 ·by_cases I:oB O [] σ ρ b
  ·rw [om I] at h;cases h
  ·rw [eB I] at h;exact s.fh b o h
 ·by_cases I:oB O [] σ ρ b
  ·rw [om I] at h;cases h
  ·rw [eB I] at h;rcases s.nw b o h with z|z
   ·rw [ck I] at z;exact .inl z
   ·exact .inr z
theorem Rep.minusT (r:Rep K F0 H0 FB O F H σ ρ) (s:Step (plus F H (oB O [] σ ρ)) H F1 H1) (a:e_) (xs:List V) (h:SqT K F1 a xs):SqT K (minus F1 (oB O [] σ ρ)) a xs:=by
 have key:∀{b:e_} {o:HO},F1 b=a_ o->isMu o=b_->minus F1 (oB O [] σ ρ) b=a_ o:=fun {b o} h n=>by
  by_cases I:oB O [] σ ρ b
  ·obtain ⟨_,_,u,e,m⟩:=r.own I;have:=s.ff b u (by rw [iS I];exact e);rw [h] at this;cases this;rw [n] at m;cases m
  ·rw [eB I];exact h
 rcases h with (h|⟨o,h⟩)|h
 ·exact .inl (.inl (key h rfl))
 ·exact .inl (.inr ⟨o,key h rfl⟩)
 ·exact .inr h
theorem Rep.set {d:Dat} {v:V} (r:Rep K F0 H0 FB O F H σ ρ) (q:aR K F d v) (i:Nat):Rep K F0 H0 FB (O.filter (· != i)) F H (σ.set i (a_ v)) (ρ.set i (a_ d)) where
 st:=r.st
 fb:=r.fb
 len:=by rw [En,En,r.len]
 fz:=fun j e h J=>by
  by_cases I:i=j
  ·subst I;have hi:i<ρ.length:=by
    have:=(A1.mp h).1;simpa using this
   rw [x_ hi] at h;cases h;exact ⟨v,by rw [x_ (by rw [<- r.len];exact hi)],q⟩
  ·rw [o_ I] at h;rw [o_ I];exact r.fz j e h fun z=>J (Fn.mpr ⟨z,by simpa using EI I⟩)
 ow:=fun j e h J=>by
  obtain ⟨h1,h2⟩:=Fn.mp J;have I:i≠j:=fun z=>by simp [z] at h2
  rw [o_ I] at h ⊢;exact r.ow j e h h1
 ap:=fun j k ds es a J f e1 e2 e3 e4=>by
  obtain ⟨c,b⟩:=Fn.mp J;obtain ⟨k1,k2⟩:=Fn.mp f;have I:i≠j:=fun z=>by simp [z] at b
  have Y:i≠k:=fun z=>by simp [z] at k2
  rw [o_ I] at e1 e3;rw [o_ Y] at e2 e4;exact r.ap j k ds es a c k1 e1 e2 e3 e4
theorem Rep.setOwn {d:Dat} (r:Rep K F0 H0 FB O F H σ ρ) (q:lq K F H0 H d v) (t:∀a,v=.ref a->isO d=d_->¬oB O [i] σ ρ a):Rep K F0 H0 FB (i::O.filter (· != i)) F H (σ.set i (a_ v)) (ρ.set i (a_ d)) where
 st:=r.st
 fb:=r.fb
 len:=by rw [En,En,r.len]
 fz:=fun j e h b=>by
  simp only [v_,Ku] at b;have I:i≠j:=fun z=>b.1 z.symm;rw [o_ I] at h ⊢;exact r.fz j e h fun z=>b.2 (Fn.mpr ⟨z,by simpa using EI I⟩)
 ow:=fun j e h b=>by
  by_cases I:i=j
  ·subst I;have hi:i<ρ.length:=by
    have:=(A1.mp h).1;simpa using this
   rw [x_ hi] at h;cases h;exact ⟨v,by rw [x_ (by rw [<- r.len];exact hi)],q⟩
  ·rw [o_ I] at h ⊢;rcases v_.mp b with z|z
   ·exact Ek z.symm I
   ·exact r.ow j e h (Fn.mp z).1
 ap:=fun j k ds es a b o e1 e2 e3 e4=>by
  have key:∀{c:Nat} {ds' J:Dat},c∈O->c≠i->((ρ.set i (a_ d))[i]? =a_ (a_ ds')/\isO ds'=d_)->((ρ.set i (a_ d))[c]? =a_ (a_ J)/\isO J=d_)->(σ.set i (a_ v))[i]? =a_ (a_ (.ref a))->(σ.set i (a_ v))[c]? =a_ (a_ (.ref a))->False:=by
   intro c ds' J l f f1 f2 f3 f4;have hi:i<ρ.length:=by
    have:=(A1.mp f1.1).1;simpa using this
   rw [x_ hi] at f1;rw [x_ (by rw [<- r.len];exact hi)] at f3;rw [o_ (EI f)] at f2 f4;have s:v=.ref a:=by simpa using f3
   have p:d=ds':=by simpa using f1.1
   exact t a s (p▸f1.2) ⟨c,J,l,by simpa using f,f2.2,f2.1,f4⟩
  rcases v_.mp b with g|g
  ·rcases v_.mp o with Y|Y
   ·rw [g,Y]
   ·obtain ⟨k1,k2⟩:=Fn.mp Y;subst g;exact (key k1 (by simpa using k2) e1 e2 e3 e4).elim
  ·obtain ⟨n,u⟩:=Fn.mp g;have I:i≠j:=fun z=>by simp [z] at u
   rcases v_.mp o with Y|Y
   ·subst Y;exact (key n (EI I) e2 e1 e4 e3).elim
   ·obtain ⟨k1,k2⟩:=Fn.mp Y;have m:i≠k:=fun z=>by simp [z] at k2
    rw [o_ I] at e1 e3;rw [o_ m] at e2 e4;exact r.ap j k ds es a n k1 e1 e2 e3 e4
end
section
theorem Rep.qZ (r:Rep K F0 H0 FB O F H σ ρ) (s:Step (plus F H (oB O [] σ ρ)) H F1 H1):aF F (minus F1 (oB O [] σ ρ)):=fun b o h=>by
 by_cases I:oB O [] σ ρ b
 ·rw [(r.own I).1] at h;cases h
 ·rw [eB I];exact s.ff b o (by rw [ck I];exact h)
theorem B1 (h:i∉O):O.filter (· != i)=O:=by
 rw [List.filter_eq_self];intro a I;simp;intro e;exact h (e▸I)
theorem Rep.set' {d:Dat} (r:Rep K F0 H0 FB O F H σ ρ) (q:aR K F d v) (hi:i∉O):Rep K F0 H0 FB O F H (σ.set i (a_ v)) (ρ.set i (a_ d)):=by
 have:=r.set q i;rw [B1 hi] at this;exact this
theorem Rep.base {I:Hp} (r:Rep K F0 H0 FB O F H σ ρ) (s:aF I FB):Rep K F0 H0 I O F H σ ρ:=⟨r.st,s.trans r.fb,r.len,r.fz,r.ow,r.ap⟩
theorem Rep.writeO {d:Dat} {u:HO} (r:Rep K F0 H0 FB O F H σ ρ) (hi:i∈O) (e1:ρ[i]? =a_ (a_ d)) (hd:isO d=d_) (e2:σ[i]? =a_ (a_ (.ref a))) (q:F a=c_->H0 a=c_->lq K F H0 (upd H a u) d' (.ref a)):Rep K F0 H0 FB O F (upd H a u) σ (ρ.set i (a_ d')):=by
 have c:F a=c_/\H0 a=c_/\∃o,H a=a_ o/\isMu o=d_:=r.own (O2:=[]) ⟨i,d,hi,by simp,hd,e1,e2⟩;have l:i<ρ.length:=(A1.mp e1).1;refine ⟨⟨r.st.ff,fun b o h=>?_,fun b o h=>?_,r.st.nw⟩,r.fb,by rw [En,r.len],fun j e h J=>?_,fun j e h J=>?_,fun j k es fs b J w f1 f2 f3 f4=>?_⟩
 ·rw [aq (aL h c.2.1)];exact r.st.hh b o h
 ·rw [aq (aL h c.1)];exact r.st.fh b o h
 ·have I:i≠j:=fun z=>J (z▸hi);rw [o_ I] at h;exact r.fz j e h J
 ·by_cases I:i=j
  ·subst I;rw [x_ l] at h;cases h;exact ⟨.ref a,e2,q c.1 c.2.1⟩
  ·rw [o_ I] at h;obtain ⟨v,e3,z⟩:=r.ow j e h J;refine ⟨v,e3,?_⟩
   cases g:isO e with
   |true=>
    obtain ⟨b,o,y,p,_,f,_⟩:=z.top g;subst y;have m:b≠a:=fun z=>by
     subst z;exact I (r.ap i j d e b hi J ⟨e1,hd⟩ ⟨h,g⟩ e2 e3)
    exact z.re g (aF.refl _) f fun o h=>by rw [aq m];exact h
   |false=>rw [lq.non g] at z ⊢;exact z
 ·have Y:∀{j:Nat} {e:Dat},((ρ.set i (a_ d'))[j]? =a_ (a_ e)/\isO e=d_)->∃t,ρ[j]? =a_ (a_ t)/\isO t=d_:=fun {j e} f=>by
   by_cases I:i=j
   ·subst I;exact ⟨d,e1,hd⟩
   ·rw [o_ I] at f;exact ⟨e,f⟩
  obtain ⟨s,x⟩:=Y f1;obtain ⟨n,g2⟩:=Y f2;exact r.ap j k s n b J w x g2 f3 f4
theorem Rep.write {ds:List Dat} {I:List V} (r:Rep K F0 H0 FB O F H σ ρ) (hi:i∈O) (e1:ρ[i]? =a_ (a_ (.lst ds))) (e2:σ[i]? =a_ (a_ (.ref a))) (q:ay K F ds' I):Rep K F0 H0 FB O F (upd H a (.lst I)) σ (ρ.set i (a_ (.lst ds'))):=
 r.writeO hi e1 rfl e2 fun f z=>⟨a,I,rfl,ao,f,z,q⟩
noncomputable def Pat.names:Pat->List Nat
 |.nm i=>[i]
 |.tp is=>is
theorem rH {R:St->Hp->Prop}:∀{is:List Nat} {ds:List Dat} {vs:List V} {σ:St} {ρ:ah},Rep K F0 H0 FB O F H σ ρ->(∀i∈is,i∉O)->ay K F ds vs->ds.length=is.length->(∀σ',Rep K F0 H0 FB O F H σ' (jf is ds ρ)->R σ' H)->ir is vs σ H R
 |[],[],_,σ,ρ,r,_,q,_,h=>⟨q,h σ r⟩
 |[],_::_,_,_,_,_,_,_,e,_=>by simp at e
 |_::_,[],_,_,_,_,_,_,e,_=>by simp at e
 |i::is,d::ds,_,σ,ρ,r,n,⟨v,vs,e,q,t⟩,l,h=>⟨v,vs,e,rH (r.set' q (n i (by simp))) (fun j I=>n j (by simp [I])) t (by simpa using l) h⟩
theorem gP_rep {R:St->Hp->Prop} {p:Pat} {d:Dat} (r:Rep K F0 H0 FB O F H σ ρ) (n:∀i∈p.names,i∉O) (q:aR K F d v) (e:iM p d ρ=.ok ρ') (h:∀σ',Rep K F0 H0 FB O F H σ' ρ'->R σ' H):gP K p v σ H R:=by
 cases p with
 |nm i=>
  have:=FT e;subst this;exact h _ (r.set' q (n i (by simp [Pat.names])))
 |tp is=>
  cases d with
  |tup ds=>
   have J:(if ds.length=is.length then Eo (jf is ds ρ) else Gv Err.stuck)=Eo ρ':=e;by_cases I:ds.length=is.length
   ·rw [f_ I] at J;have:=FT J;subst this;obtain ⟨a,xs,Y,t,z⟩:=q;exact ⟨a,xs,Y,r.st.fh.tup t,by rw [z.length,I],rH r n z I h⟩
   ·rw [m_ I] at J;cases J
  |_=>cases e
end
def iN (K:Fg) (W:dZ) (ro:Bool) (F0 H0 FB:Hp) (OL O':List Nat) (D:Ends) (r:M Flo):Prop:=match r with
 |.ok (.nx ρ)=>∀σ F H,Rep K F0 H0 FB O' F H σ ρ->D.nx σ H
 |.ok (.rt d)=>∀v F H,Step F0 H0 F H->Val K ro F H0 H d v->D.rt v H
 |.ok (.bk ρ)=>∀σ F H,Rep K F0 H0 FB OL F H σ ρ->D.bk σ H
 |.ok (.ct ρ)=>∀σ F H,Rep K F0 H0 FB OL F H σ ρ->D.ct σ H
 |.error e=>W.p e F0 H0
def tS (K:Fg) (W:dZ) (ro:Bool) (F0 H0:Hp) (OL O O':List Nat) (g:ah->M Flo):TS:=fun D σ H=>∃FB F ρ,Rep K F0 H0 FB O F H σ ρ/\iN K W ro F0 H0 FB OL O' D (g ρ)
noncomputable def cO:ah->M Flo:=fun ρ=>.ok (.nx ρ)
noncomputable def cF (g h:ah->M Flo):ah->M Flo:=fun ρ=>(g ρ).bind fun fl=>match fl with
 |.nx ρ'=>h ρ'
 |fl=>.ok fl
noncomputable def sIf (ft:ah->M Bool) (g h:ah->M Flo):ah->M Flo:=fun ρ=>(ft ρ).bind fun b=>if b=d_ then g ρ else h ρ
def bH (O:List Nat) (i:Nat) (f:ah->M Dat):ah->M Flo:=fun ρ=>(f (erase O ρ)).bind fun d=>.ok (.nx (ρ.set i (a_ d)))
def xm (O:List Nat) (p:Pat) (f:ah->M Dat):ah->M Flo:=fun ρ=>(f (erase O ρ)).bind fun d=>(iM p d ρ).bind fun ρ'=>.ok (.nx ρ')
def ju (ρ:ah) (i:Nat):M (List Dat):=match ρ[i]? with
 |some (a_ (.lst ds))=>.ok ds
 |_=>.error .stuck
def put (ρ:ah) (i:Nat) (ds:List Dat):M Flo:=.ok (.nx (ρ.set i (a_ (.lst ds))))
def nO (O:List Nat) (i:Nat) (f:ah->M Dat):ah->M Flo:=fun ρ=>(ju ρ i).bind fun ds=>(f (erase O ρ)).bind fun d=>if ds.length<g_ then put ρ i (ds++[d]) else .error .stuck
noncomputable def asI:Dat->M Int
 |.int i=>.ok i
 |_=>.error .stuck
def Ah (i:Nat) (fi f:ah->M Dat):ah->M Flo:=fun ρ=>(f ρ).bind fun d=>(ju ρ i).bind fun ds=>(fi ρ).bind fun k=>(asI k).bind fun k=>if gZ d=d_ then (match ixN ds.length k with
 |some j=>put ρ i (ds.set j d)
 |none=>.error .stuck) else .error .stuck
def cK (f:ah->M Dat):ah->M Flo:=fun ρ=>(f ρ).bind fun d=>.ok (.rt d)
noncomputable def isL:Dat->Bool
 |.lst _=>d_
 |_=>b_
def mi (p:Pat) (g:ah->M Flo):List Dat->ah->M Flo
 |[],ρ=>.ok (.nx ρ)
 |d::ds,ρ=>(iM p d ρ).bind fun J=>(g J).bind fun fl=>match fl with
  |.nx I=>mi p g ds I
  |.ct I=>mi p g ds I
  |.bk I=>.ok (.nx I)
  |.rt d=>.ok (.rt d)
def BS (O:List Nat) (fi:ah->M (List Dat)) (p:Pat) (g:ah->M Flo):ah->M Flo:=fun ρ=>(fi (erase O ρ)).bind fun ds=>mi p g ds ρ
section
variable {W:dZ} {own:Bool} {D:Ends} {g h:ah->M Flo} {f fi:ah->M Dat} 
theorem iN.err {x:M Flo} {e:Err} (p:iN K W ro F0 H0 FB OL O' D x) (h:x=.error e):W.p e F0 H0:=by rw [h] at p;exact p
theorem iN.qQ {x:M Flo} {e:Err} (p:iN K W ro F0 H0 FB OL O' D x) (s:Step F0 H0 F H) (h:x=.error e):W.p e F H:=W.mono (p.err h) s
theorem iN.stuck {x:M Flo} {P:Prop} (p:iN K W ro F0 H0 FB OL O' D x) (h:x=.error .stuck):P:=(W.ns (p.err h)).elim
theorem tS.enter (I:∀i∈O2,i∈O) (t:tS K W ro F0 H0 OL O O' g D σ H):tS K W ro F0 H0 OL O2 O' g D σ H:=by
 obtain ⟨FB,F,ρ,r,p⟩:=t;exact ⟨FB,_,ρ,r.freeze I,p⟩
theorem rs_next (t:tS K W ro F0 H0 OL O O cO D σ H):gq D σ H:=by
 obtain ⟨FB,F,ρ,r,p⟩:=t;exact p σ F H r
theorem rs_seq (t:tS K W ro F0 H0 OL O O2 (cF g h) D σ H):dC (tS K W ro F0 H0 OL O O' g) (tS K W ro F0 H0 OL O' O2 h) D σ H:=by
 obtain ⟨FB,F,ρ,r,p⟩:=t;refine ⟨FB,F,ρ,r,?_⟩
 unfold cF at p;cases e:g ρ with
 |error x=>exact p.err (by rw [e];rfl)
 |ok fl=>
  rw [e] at p;cases fl with
  |nx ρ'=>exact fun σ' F' H' r'=>⟨FB,F',ρ',r',p⟩
  |rt d=>exact p
  |bk ρ'=>exact p
  |ct ρ'=>exact p
theorem rs_if (t:tS K W ro F0 H0 OL O O' (sIf ft g h) D σ H):mx (tDT K W ft) (tS K W ro F0 H0 OL O O' g) (tS K W ro F0 H0 OL O O' h) D σ H:=by
 obtain ⟨FB,F,ρ,r,p⟩:=t;refine gM r.rg r.kz (fun e J=>p.qQ (r.freeze (O2:=[]) (by simp)).st (by unfold sIf;rw [J];rfl)) fun b Y F1 H1 I=>?_;have z:sIf ft g h ρ=if b=d_ then g ρ else h ρ:=by unfold sIf;rw [Y];rfl
 rw [z] at p;cases b with
 |true=>exact ⟨FB,_,ρ,r.sk I,p⟩
 |false=>exact ⟨FB,_,ρ,r.sk I,p⟩
noncomputable def aft (own:Bool) (i:Nat) (O:List Nat):List Nat:=if own=d_ then i::O.filter (· != i) else O.filter (· != i)
theorem Rep.bindV {d:Dat} (r:Rep K F0 H0 FB O F H σ ρ) (q:Val K own F H2 H d v) (h2:aF H0 H2) (J:∀a,oB O [] σ ρ a->∃o,H2 a=a_ o):Rep K F0 H0 FB (aft own i O) F H (σ.set i (a_ v)) (ρ.set i (a_ d)):=by
 cases own with
 |false=>exact r.set q i
 |true=>
  refine r.setOwn (lq.back h2 q) fun a Y hd z=>?_;subst Y;obtain ⟨b,_,e,_,_,_,n⟩:=lq.top hd q;cases e;obtain ⟨j,es,h1,h2,g,f,c⟩:=z;obtain ⟨o,I⟩:=J a ⟨j,es,h1,by simp,g,f,c⟩;rw [n] at I;cases I
theorem xn (t:tS K W ro F0 H0 OL O (aft own i O) (bH O i f) D σ H):qq (tD K W own f) (bX i) D σ H:=by
 obtain ⟨FB,F,ρ,r,p⟩:=t;refine aO r.jQ r.st.fh (fun e J=>p.qQ r.st (by unfold bH;rw [J];rfl)) fun d hd v F1 H1 I q=>?_;have z:bH O i f ρ=.ok (.nx (ρ.set i (a_ d))):=by unfold bH;rw [hd];rfl
 rw [z] at p;exact p _ F1 H1 ((r.step I).bindV q r.st.hh fun a Y=>let ⟨_,_,_,e,_⟩:=r.own Y;⟨_,e⟩)
theorem rs_unpB {pt:Pat} (n:∀i∈pt.names,i∉O) (t:tS K W ro F0 H0 OL O O (xm O pt f) D σ H):qq (tD K W b_ f) (gP K pt) D σ H:=by
 obtain ⟨FB,F,ρ,r,p⟩:=t;refine aO r.jQ r.st.fh (fun e J=>p.qQ r.st (by unfold xm;rw [J];rfl)) fun d hd v F1 H1 I q=>?_;have z:xm O pt f ρ=(iM pt d ρ).bind fun ρ'=>.ok (.nx ρ'):=by unfold xm;rw [hd];rfl
 rw [z] at p;cases e:iM pt d ρ with
 |error x=>
  have:=ql e;subst this;exact p.stuck (by rw [e];rfl)
 |ok ρ'=>
  rw [e] at p;exact gP_rep (r.step I) n q e fun σ' r'=>p σ' F1 H1 r'
theorem jS {ds:List Dat} (h:ju ρ i=.ok ds):ρ[i]? =a_ (a_ (.lst ds)):=by
 unfold ju at h;split at h
 ·cases h;assumption
 ·cases h
theorem pB {e:Err} (h:ju ρ i=.error e):e=.stuck:=by
 unfold ju at h;split at h
 ·cases h
 ·cases h;rfl
theorem Rep.CJ {ds:List Dat} (r:Rep K F0 H0 FB O F H σ ρ) (hi:i∈O) (e:ρ[i]? =a_ (a_ (.lst ds))):∃a xs,σ[i]? =a_ (a_ (.ref a))/\H a=a_ (.lst xs)/\ay K F ds xs:=by
 obtain ⟨v,e3,a,xs,I,p,_,_,t⟩:=r.ow i _ e hi;subst I;exact ⟨a,xs,e3,p,t⟩
def tApp (K:Fg) (i:Nat) (te:TE):TS:=qB (tBM K "list" iR (bJ i) (aM te dI))
theorem rs_appB (hi:i∈O) (t:tS K W ro F0 H0 OL O O (nO O i f) D σ H):tApp K i (tD K W b_ f) D σ H:=by
 obtain ⟨FB,F,ρ,r,p⟩:=t;cases I:ju ρ i with
 |error e=>
  have:=pB I;subst this;exact p.stuck (by unfold nO;rw [I];rfl)
 |ok ds=>
  obtain ⟨a,xs,e2,b,z⟩:=r.CJ hi (jS I);refine ⟨.ref a,e2,iQ b,?_⟩
  refine aO r.jQ r.st.fh (fun e c=>p.qQ r.st (by unfold nO;rw [I];show (f (erase O ρ)).bind _=_;rw [c];rfl)) fun d hd v F1 H1 J q=>?_;have g:nO O i f ρ=if ds.length<g_ then put ρ i (ds++[d]) else .error .stuck:=by unfold nO;rw [I];show (f (erase O ρ)).bind _=_;rw [hd];rfl
  rw [g] at p;by_cases Y:ds.length<g_
  ·rw [f_ Y] at p;exact ⟨a,xs,v,rfl,rfl,J.hh _ _ b,by rw [z.length];exact Y,p σ F1 _ ((r.step J).write hi (jS I) e2 (ay.append (z.mono J.ff) ⟨v,[],rfl,q,rfl⟩))⟩
  ·rw [m_ Y] at p;exact p.stuck rfl
theorem rs_setI (hi:i∈O) (t:tS K W ro F0 H0 OL O O (Ah i fi f) D σ H):qq (tD K W b_ f) (gSub (bJ i) (tD K W b_ fi) rSetL) D σ H:=by
 obtain ⟨FB,F,ρ,r,p⟩:=t;refine aO r.rg r.kz (fun e g=>p.qQ (r.freeze (O2:=[]) (by simp)).st (by unfold Ah;rw [g];rfl)) fun d hd v F1 H1 h q=>?_;have s:Ah i fi f ρ=(ju ρ i).bind fun ds=>(fi ρ).bind fun k=>(asI k).bind fun k=>if gZ d=d_ then (match ixN ds.length k with
  |some j=>put ρ i (ds.set j d)
  |none=>.error .stuck) else .error .stuck:=by unfold Ah;rw [hd];rfl
 rw [s] at p;cases J:ju ρ i with
 |error e=>
  have:=pB J;subst this;exact p.stuck (by rw [J];rfl)
 |ok ds=>
  rw [J] at p;have p:iN K W ro F0 H0 FB OL O D ((fi ρ).bind fun k=>(asI k).bind fun k=>if gZ d=d_ then (match ixN ds.length k with
   |some j=>put ρ i (ds.set j d)
   |none=>.error .stuck) else .error .stuck):=p
  have I:=r.sk h;obtain ⟨a,xs,e2,o,z⟩:=I.CJ hi (jS J);refine ⟨.ref a,e2,?_⟩
  refine aO I.rg I.kz (fun e g=>p.qQ (I.freeze (O2:=[]) (by simp)).st (by rw [g];rfl)) fun k n w F2 H2 Y m=>?_;rw [n] at p;cases k with
  |int k=>
   have p:iN K W ro F0 H0 FB OL O D (if gZ d=d_ then (match ixN ds.length k with
    |some j=>put ρ i (ds.set j d)
    |none=>.error .stuck) else .error .stuck):=p
   by_cases c:gZ d=d_
   ·rw [f_ c] at p;cases b:ixN ds.length k with
    |none=>rw [b] at p;exact p.stuck rfl
    |some j=>
     rw [b] at p;refine ⟨a,xs,k,j,rfl,m,Y.hh _ _ o,by rw [z.length];exact b,?_⟩
     have l:aR K (minus F1 (oB O [] σ ρ)) d v:=aR.flat (r.minusT h) c q;exact p σ _ _ ((I.sk Y).write hi (jS J) e2 (ay.set (l.mono (I.qZ Y)) j (z.mono (I.qZ Y))))
   ·rw [m_ c] at p;exact p.stuck rfl
  |_=>exact p.stuck rfl
theorem rs_ret (t:tS K W ro F0 H0 OL O O' (cK f) D σ H):qA (tD K W ro f) D σ H:=by
 obtain ⟨FB,F,ρ,r,p⟩:=t;have I:=r.freeze (O2:=[]) (by simp);refine aO r.rg r.kz (fun e Y=>p.qQ I.st (by unfold cK;rw [Y];rfl)) fun d hd v F1 H1 J q=>?_;have z:cK f ρ=.ok (.rt d):=by unfold cK;rw [hd];rfl
 rw [z] at p;exact p v F1 H1 (I.st.trans J) (q.back r.st.hh)
theorem rs_retV (hi:i∈O) (t:tS K W d_ F0 H0 OL O O' (cK (ai i)) D σ H):qA (bJ i) D σ H:=by
 obtain ⟨FB,F,ρ,r,p⟩:=t;unfold cK ai at p
 match e:ρ[i]? with
 |some (a_ d)=>
  rw [e] at p;obtain ⟨v,e3,q⟩:=r.ow i d e hi;exact ⟨v,e3,p v F H r.st q⟩
 |some c_=>rw [e] at p;exact p.stuck rfl
 |none=>rw [e] at p;exact p.stuck rfl
theorem rs_for {fs:ah->M (List Dat)} {pt:Pat} (n:∀i∈pt.names,i∉O) (t:tS K W ro F0 H0 OL O O (BS O fs pt g) D σ H):tFor (iD K W fs) (gP K pt) (tS K W ro F0 H0 O O O g) D σ H:=by
 obtain ⟨FB,F,ρ,r,p⟩:=t;refine ⟨F,erase O ρ,r.jQ,r.st.fh,?_⟩
 cases e:fs (erase O ρ) with
 |error x=>exact p.qQ r.st (by unfold BS;rw [e];rfl)
 |ok ds=>
  have z:BS O fs pt g ρ=mi pt g ds ρ:=by unfold BS;rw [e];rfl
  rw [z] at p;intro J F1 H1 k it;refine ⟨fun i m σ H=>∃F ρ,Rep K F0 H0 F1 O F H σ ρ/\i<=ds.length/\m=ds.length-i/\iN K W ro F0 H0 FB OL O D (mi pt g (ds.drop i) ρ),⟨ds.length,F1,ρ,?_,FX _,by omega,by rw [IB];exact p⟩,?_⟩
  ·have c:=r.step k;exact ⟨c.st,aF.refl _,c.len,c.fz,c.ow,c.ap⟩
  ·rintro i m h H2 ⟨F2,I,r2,hi,rfl,p2⟩;by_cases a:i<ds.length
   ·have A:ds.drop i=ds[i]::ds.drop (i+1):=Gd a;rw [A] at p2;refine .inr ⟨it.go i F2 H2 r2.fb r2.st.fh a,fun σ' H'=>(∃F ρ,Rep K F0 H0 F1 O F H' σ' ρ/\iN K W ro F0 H0 FB OL O D (mi pt g (ds.drop (i+1)) ρ)),fun σ' H' ⟨F,ρ,r,p⟩=>⟨ds.length-(i+1),by omega,F,ρ,r,a,rfl,p⟩,fun x H' y=>?_⟩;obtain ⟨B,s,v⟩:=it.yl i F2 H2 x H' ds[i] r2.fb r2.st.fh (by simp [a]) y;have w:mi pt g (ds[i]::ds.drop (i+1)) I=(iM pt ds[i] I).bind fun j=>(g j).bind fun fl=>match fl with
     |.nx I=>mi pt g (ds.drop (i+1)) I
     |.ct I=>mi pt g (ds.drop (i+1)) I
     |.bk I=>.ok (.nx I)
     |.rt d=>.ok (.rt d):=by rw [mi]
    rw [w] at p2;cases f:iM pt ds[i] I with
    |error x=>
     have:=ql f;subst this;exact p2.stuck (by rw [f];rfl)
    |ok b=>
     rw [f] at p2;have p2:iN K W ro F0 H0 FB OL O D ((g b).bind fun fl=>match fl with
      |.nx I=>mi pt g (ds.drop (i+1)) I
      |.ct I=>mi pt g (ds.drop (i+1)) I
      |.bk I=>.ok (.nx I)
      |.rt d=>.ok (.rt d)):=p2
     refine gP_rep (r2.step s) n v f fun q u=>⟨F1,B,b,u,?_⟩
     have l:aF FB F1:=(r.step k).fb;cases o:g b with
     |error x=>exact p2.err (by rw [o];rfl)
     |ok fl=>
      rw [o] at p2;cases fl with
      |nx Y=>exact fun σ' F' H' r'=>⟨F',Y,r',p2⟩
      |ct Y=>exact fun σ' F' H' r'=>⟨F',Y,r',p2⟩
      |bk Y=>exact fun σ' F' H' r'=>p2 σ' F' H' (r'.base l)
      |rt d=>exact p2
   ·have:i=ds.length:=by omega
    subst this;rw [L4] at p2;exact .inl ⟨it.st F2 H2 r2.fb r2.st.fh,p2 h F2 H2 (r2.base (r.step k).fb)⟩
end
noncomputable def stk:M α:=.error .stuck
def gL:Dat->Dat->M Dat
 |.int i,.int j=>.ok (.int (i+j))
 |.str x,.str y=>if x.length+y.length<=g_ then .ok (.str (x++y)) else stk
 |.lst xs,.lst ys=>if xs.length+ys.length<=g_ then .ok (.lst (xs++ys)) else stk
 |.tup xs,.tup ys=>if xs.length+ys.length<=g_ then .ok (.tup (xs++ys)) else stk
 |_,_=>stk
def subD:Dat->Dat->M Dat
 |.int i,.int j=>.ok (.int (i-j))
 |_,_=>stk
noncomputable def eu (i:Int):Bool:=r_ (-(2^64)<i)&&r_ (i<2^64)
def Bi:Dat->Dat->M Dat
 |.int i,.int j=>if (eu i||eu j)=d_ then .ok (.int (i*j)) else stk
 |_,_=>stk
def mP:Dat->Dat->M Dat
 |.int i,.int j=>if (r_ (0<j)&&r_ (j<18446744073709551616))=d_ then .ok (.int (i/j)) else stk
 |_,_=>stk
def qx:Dat->Dat->M Dat
 |.int i,.int j=>if 0<j then .ok (.int (i%j)) else stk
 |_,_=>stk
def zr:Dat->Dat->M Dat
 |.int i,.int j=>if (r_ (0<=j)&&r_ (j<=1000000)&&r_ (i.natAbs<2^64))=d_ then .ok (.int (i^j.toNat)) else stk
 |_,_=>stk
def negD:Dat->M Dat
 |.int i=>.ok (.int (-i))
 |_=>stk
def ltD:Dat->Dat->M Dat
 |.int i,.int j=>.ok (.bl (r_ (i<j)))
 |_,_=>stk
def leD:Dat->Dat->M Dat
 |.int i,.int j=>.ok (.bl (r_ (i<=j)))
 |_,_=>stk
def gtD:Dat->Dat->M Dat
 |.int i,.int j=>.ok (.bl (r_ (j<i)))
 |_,_=>stk
def geD:Dat->Dat->M Dat
 |.int i,.int j=>.ok (.bl (r_ (j<=i)))
 |_,_=>stk
noncomputable def b2z (b:Bool):Int:=if b then 1 else 0
mutual
noncomputable def eqD:Dat->Dat->Bool
 |.non,.non=>d_
 |.bl a,.bl b=>a==b
 |.bl a,.int b=>b2z a==b
 |.int a,.bl b=>a==b2z b
 |.int a,.int b=>a==b
 |.str a,.str b=>a==b
 |.tup xs,.tup ys=>eqDs xs ys
 |.lst xs,.lst ys=>eqDs xs ys
 |_,_=>b_
noncomputable def eqDs:List Dat->List Dat->Bool
 |[],[]=>d_
 |d::ds,e::es=>eqD d e&&eqDs ds es
 |_,_=>b_
end
mutual
noncomputable def okE:Dat->Nat->Bool
 |.tup ds,n=>(match n with
  |0=>b_
  |n+1=>kH ds n)
 |.lst ds,n=>(match n with
  |0=>b_
  |n+1=>kH ds n)
 |.ins _ _,_=>b_
 |.dic _,_=>b_
 |.dil _,_=>b_
 |.non,_=>d_
 |.bl _,_=>d_
 |.int _,_=>d_
 |.str _,_=>d_
noncomputable def kH:List Dat->Nat->Bool
 |[],_=>d_
 |d::ds,n=>okE d n&&kH ds n
end
def eqM (a b:Dat):M Dat:=if (okE a 40&&okE b 40)=d_ then .ok (.bl (eqD a b)) else stk
def neM (a b:Dat):M Dat:=if (okE a 40&&okE b 40)=d_ then .ok (.bl (!eqD a b)) else stk
def inM (a b:Dat):M Dat:=(iF b).bind fun ds=>if (okE a 40&&kH ds 40)=d_ then .ok (.bl (ds.any fun d=>eqD d a)) else stk
def gR (a b:Dat):M Dat:=(iF b).bind fun ds=>if (okE a 40&&kH ds 40)=d_ then .ok (.bl (!ds.any fun d=>eqD d a)) else stk
def isND:Dat->Dat->M Dat
 |.non,.non=>.ok (.bl d_)
 |_,.non=>.ok (.bl b_)
 |_,_=>stk
def Cz:Dat->Dat->M Dat
 |.non,.non=>.ok (.bl b_)
 |_,.non=>.ok (.bl d_)
 |_,_=>stk
def eU (ds:List Dat) (i:Int):M Dat:=match atI ds i with
 |some d=>.ok d
 |none=>stk
def ixD:Dat->Dat->M Dat
 |.lst ds,.int i=>eU ds i
 |.tup ds,.int i=>eU ds i
 |_,_=>stk
def jv:List Dat->M Dat
 |[.lst ds]=>.ok (.int ds.length)
 |[.tup ds]=>.ok (.int ds.length)
 |_=>stk
def i7:List Dat->M (List Bool)
 |[]=>.ok []
 |d::ds=>(asB d).bind fun b=>(i7 ds).bind fun r=>.ok (b::r)
def jz:List Dat->M (List Int)
 |[]=>.ok []
 |d::ds=>(asI d).bind fun b=>(jz ds).bind fun r=>.ok (b::r)
def allD:List Dat->M Dat
 |[.lst ds]=>(i7 ds).bind fun bs=>.ok (.bl (bs.all id))
 |_=>stk
def CL:List Dat->M Dat
 |[.lst ds]=>.ok (.lst ds)
 |[.tup ds]=>.ok (.lst ds)
 |_=>stk
def intD:List Dat->M Dat
 |[.int i]=>.ok (.int i)
 |[.bl b]=>.ok (.int (b2z b))
 |_=>stk
def tE (i j:Int):Int:=if j>i then j else i
def kj (i j:Int):Int:=if j<i then j else i
def maxL:List Int->M Dat
 |[]=>stk
 |i::is=>.ok (.int (is.foldl tE i))
def minL:List Int->M Dat
 |[]=>stk
 |i::is=>.ok (.int (is.foldl kj i))
def maxD:List Dat->M Dat
 |[.int i,.int j]=>.ok (.int (tE i j))
 |[.lst ds]=>(jz ds).bind maxL
 |_=>stk
def minD:List Dat->M Dat
 |[.int i,.int j]=>.ok (.int (kj i j))
 |[.lst ds]=>(jz ds).bind minL
 |_=>stk
def ij:Dat->M Dat
 |.int _=>.ok (.bl d_)
 |.bl _=>.ok (.bl d_)
 |.ins _ _=>stk
 |.dic _=>stk
 |.dil _=>stk
 |_=>.ok (.bl b_)
def jx:Dat->M Dat
 |.bl _=>.ok (.bl d_)
 |.ins _ _=>stk
 |.dic _=>stk
 |.dil _=>stk
 |_=>.ok (.bl b_)
def jw:Dat->M Dat
 |.lst _=>.ok (.bl d_)
 |.ins _ _=>stk
 |.dic _=>stk
 |.dil _=>stk
 |_=>.ok (.bl b_)
def jT:Dat->M Dat
 |.tup _=>.ok (.bl d_)
 |.ins _ _=>stk
 |.dic _=>stk
 |.dil _=>stk
 |_=>.ok (.bl b_)
def lP:Dat->M (List Dat)
 |.lst ds=>.ok ds
 |_=>.error .stuck
def nJ:List Dat->List Dat->List Dat
 |d::ds,e::es=>.tup [d,e]::nJ ds es
 |_,_=>[]
def Bm (fa fb:ah->M Dat):ah->M (List Dat):=fun ρ=>(fa ρ).bind fun a=>(fb ρ).bind fun b=>(lP a).bind fun ds=>(lP b).bind fun es=>.ok (nJ ds es)
def bL (nN n:Nat) (g:ah->M Flo) (ds:List Dat):M Dat:=if ds.length=n then (g (ds.map a_++Fv (nN-ds.length) c_)).bind fun fl=>match fl with
 |.nx _=>.ok .non
 |.rt d=>.ok d
 |_=>stk else stk
@[simp] theorem aj {α I:Type} (a:α) (f:α->M I):Mw (Eo a:M α) f=f a:=id rfl
@[simp] theorem ug {α I:Type} (e:Err) (f:α->M I):Mw (Gv e:M α) f=.error e:=id rfl
@[simp] theorem Bc:∀is:List Bool,i7 (is.map Dat.bl)=.ok is
 |[]=>rfl
 |i::is=>by simp [i7,asB,Bc is]
theorem lS {ds:List Dat} {k:Nat} (h:k<ds.length):eU ds (k:Int)=.ok ds[k]:=by
 unfold eU atI ixN;rw [f_ (by omega),f_ (by omega)];simp [h]
theorem getI_int {is:List Int} {k:Int} (J:0<=k) (h:k<is.length):eU (is.map Dat.int) k=.ok (.int (is[k.toNat]'(by omega))):=by
 have I:k.toNat<(is.map Dat.int).length:=by simp;omega
 have e:k=(k.toNat:Int):=by omega
 have:=lS I;rw [<- e] at this;rw [this];simp
theorem zO {p:Pat} {g:ah->M Flo} (P:Nat->ah->Prop):∀(ds:List Dat) (k:Nat) (ρ:ah),P k ρ ->
  (∀(i:Nat) (d:Dat) (ρ:ah),ds[i]? =a_ d->P (k+i) ρ->∃J,iM p d ρ=.ok J/\∃I,(g J=.ok (.nx I)\/g J=.ok (.ct I))/\P (k+i+1) I)->∃ρ',mi p g ds ρ=.ok (.nx ρ')/\P (k+ds.length) ρ'
 |[],k,ρ,h,_=>⟨ρ,rfl,h⟩
 |d::ds,k,ρ,h,st=>by
  obtain ⟨J,e1,I,e2,h2⟩:=st 0 d ρ rfl h;obtain ⟨ρ',e3,b⟩:=zO P ds (k+1) I h2 fun i d' ρ a Y=>by
   have:=st (i+1) d' ρ (by simpa using a) (by rw [show k+(i+1)=k+1+i by omega];exact Y);rw [show k+(i+1)+1=k+1+i+1 by omega] at this;exact this
  refine ⟨ρ',?_,by rw [show k+(d::ds).length=k+1+ds.length by simp;omega];exact b⟩
  rw [mi,e1];rcases e2 with e2|e2
  ·simp only [aj,e2];exact e3
  ·simp only [aj,e2];exact e3
theorem m9 {p:Pat} {fe:ah->M Dat} {ρ0:ah} (f:Dat->Dat):∀(ds:List Dat),(∀d∈ds,∃ρ,iM p d ρ0=.ok ρ/\fe ρ=.ok (f d))->ba p ia fe ρ0 ds=.ok (ds.map f)
 |[],_=>rfl
 |d::ds,h=>by
  obtain ⟨ρ,e1,e2⟩:=h d (by simp);rw [ba,e1];simp only [aj,ia,e2,m9 f ds fun x I=>h x (by simp [I])];simp
@[simp] theorem small_def (i:Int):eu i=(r_ (-(2^64)<i)&&r_ (i<2^64)):=id rfl
@[simp] theorem small_def2 (i:Int):kr i=(r_ (-(2^62)<=i)&&r_ (i<2^62)):=id rfl
section
variable {fr:ah->M (List Dat)} {g h:ah->M Flo}
@[simp] theorem e_var0 (d:Dat) (r:ah):ai 0 (a_ d::r)=.ok d:=id rfl
@[simp] theorem e_varS (i:Nat) (o:Option Dat) (r:ah):ai (i+1) (o::r)=ai i r:=by simp [ai]
@[simp] theorem e_c (d:Dat):fC d ρ=.ok d:=id rfl
@[simp] theorem e_1 (k:Dat->M Dat):f1 k fa ρ=(fa ρ).bind k:=id rfl
@[simp] theorem e_2 (k:Dat->Dat->M Dat):f2 k fa fb ρ=(fa ρ).bind fun a=>(fb ρ).bind fun b=>k a b:=id rfl
@[simp] theorem e_nil:aH ρ=.ok []:=id rfl
@[simp] theorem e_cons:aa fa fr ρ=(fa ρ).bind fun a=>(fr ρ).bind fun r=>.ok (a::r):=id rfl
@[simp] theorem e_L (k:List Dat->M Dat):fL k fr ρ=(fr ρ).bind k:=id rfl
@[simp] theorem e_ite:fIte ft fa fb ρ=(ft ρ).bind fun b=>if b=d_ then fa ρ else fb ρ:=id rfl
@[simp] theorem e_and:uk ft fu ρ=(ft ρ).bind fun b=>if b=d_ then fu ρ else .ok b_:=id rfl
@[simp] theorem e_or:fOr ft fu ρ=(ft ρ).bind fun b=>if b=d_ then .ok d_ else fu ρ:=id rfl
@[simp] theorem e_not:pN ft ρ=(ft ρ).bind fun b=>.ok (!b):=id rfl
@[simp] theorem e_B:fB fa ρ=(fa ρ).bind asB:=id rfl
@[simp] theorem e_andV:iI fa fb ρ=(fa ρ).bind fun a=>(asB a).bind fun b=>if b=d_ then fb ρ else .ok (.bl b_):=id rfl
@[simp] theorem e_orV:Bo fa fb ρ=(fa ρ).bind fun a=>(asB a).bind fun b=>if b=d_ then .ok (.bl d_) else fb ρ:=id rfl
@[simp] theorem e_tru:k7 fa ρ=(fa ρ).bind truD:=id rfl
@[simp] theorem e_chain (k I:Dat->Dat->M Dat):iH k I fa fb fc ρ=(fa ρ).bind fun a=>(fb ρ).bind fun b=>(k a b).bind fun x=>(asB x).bind fun z=>if z=d_ then (fc ρ).bind fun c=>I b c else .ok (.bl b_):=id rfl
@[simp] theorem e_yes:ia ρ=.ok d_:=id rfl
@[simp] theorem e_it:fIt fa ρ=(fa ρ).bind iF:=id rfl
@[simp] theorem e_rng (k:List Dat->M (List Dat)):Bn k fr ρ=(fr ρ).bind k:=id rfl
@[simp] theorem e_zip:Bm fa fb ρ=(fa ρ).bind fun a=>(fb ρ).bind fun b=>(lP a).bind fun ds=>(lP b).bind fun es=>.ok (nJ ds es):=id rfl
@[simp] theorem e_comp (fi:ah->M (List Dat)) (ix:List (Option Nat)) (p:Pat):dP fi ix p ft fa ρ=(fi ρ).bind fun ds=>if ds.length<=g_ then (ba p ft fa (jY ix ρ) ds).bind fun r=>.ok (.lst r) else .error .stuck:=id rfl
@[simp] theorem e_asB (b:Bool):asB (.bl b)=.ok b:=id rfl
@[simp] theorem e_asI (b:Int):asI (.int b)=.ok b:=id rfl
@[simp] theorem e_itemsL (ds:List Dat):iF (.lst ds)=.ok ds:=id rfl
@[simp] theorem e_itemsT (ds:List Dat):iF (.tup ds)=.ok ds:=id rfl
@[simp] theorem e_notD (b:Bool):notD (.bl b)=.ok (.bl (!b)):=id rfl
@[simp] theorem e_truB (b:Bool):truD (.bl b)=.ok b:=id rfl
@[simp] theorem e_addI (i j:Int):gL (.int i) (.int j)=.ok (.int (i+j)):=id rfl
@[simp] theorem e_subI (i j:Int):subD (.int i) (.int j)=.ok (.int (i-j)):=id rfl
@[simp] theorem e_negI (i:Int):negD (.int i)=.ok (.int (-i)):=id rfl
@[simp] theorem e_ltI (i j:Int):ltD (.int i) (.int j)=.ok (.bl (r_ (i<j))):=id rfl
@[simp] theorem e_leI (i j:Int):leD (.int i) (.int j)=.ok (.bl (r_ (i<=j))):=id rfl
@[simp] theorem e_gtI (i j:Int):gtD (.int i) (.int j)=.ok (.bl (r_ (j<i))):=id rfl
@[simp] theorem e_geI (i j:Int):geD (.int i) (.int j)=.ok (.bl (r_ (j<=i))):=id rfl
@[simp] theorem e_ixL (ds:List Dat) (i:Int):ixD (.lst ds) (.int i)=eU ds i:=id rfl
@[simp] theorem e_ixT (ds:List Dat) (i:Int):ixD (.tup ds) (.int i)=eU ds i:=id rfl
@[simp] theorem e_lenL (ds:List Dat):jv [.lst ds]=.ok (.int ds.length):=id rfl
@[simp] theorem e_lenT (ds:List Dat):jv [.tup ds]=.ok (.int ds.length):=id rfl
@[simp] theorem e_all (ds:List Dat):allD [.lst ds]=(i7 ds).bind fun bs=>.ok (.bl (bs.all id)):=id rfl
@[simp] theorem e_listL (ds:List Dat):CL [.lst ds]=.ok (.lst ds):=id rfl
@[simp] theorem e_intB (b:Bool):intD [.bl b]=.ok (.int (b2z b)):=id rfl
@[simp] theorem e_max2 (i j:Int):maxD [.int i,.int j]=.ok (.int (tE i j)):=id rfl
@[simp] theorem e_min2 (i j:Int):minD [.int i,.int j]=.ok (.int (kj i j)):=id rfl
@[simp] theorem e_minL (ds:List Dat):minD [.lst ds]=(jz ds).bind minL:=id rfl
@[simp] theorem e_isiBI (i:Int):jx (.int i)=.ok (.bl b_):=id rfl
@[simp] theorem e_isiII (i:Int):ij (.int i)=.ok (.bl d_):=id rfl
@[simp] theorem e_isiLL (ds:List Dat):jw (.lst ds)=.ok (.bl d_):=id rfl
@[simp] theorem e_isiTT (ds:List Dat):jT (.tup ds)=.ok (.bl d_):=id rfl
@[simp] theorem e_isN (d:Dat):isND d .non=.ok (.bl (match d with|.non=>d_|_=>b_)):=by cases d<;>rfl
@[simp] theorem e_notN (d:Dat):Cz d .non=.ok (.bl (match d with|.non=>b_|_=>d_)):=by cases d<;>rfl
@[simp] theorem e_next:cO ρ=.ok (.nx ρ):=id rfl
@[simp] theorem m5:cF g h ρ=(g ρ).bind fun fl=>match fl with
 |.nx ρ'=>h ρ'
 |fl=>.ok fl:=id rfl
@[simp] theorem e_if:sIf ft g h ρ=(ft ρ).bind fun b=>if b=d_ then g ρ else h ρ:=id rfl
@[simp] theorem e_setB (O:List Nat) (i:Nat):bH O i fa ρ=(fa (erase O ρ)).bind fun d=>.ok (.nx (ρ.set i (a_ d))):=id rfl
@[simp] theorem e_ret:cK fa ρ=(fa ρ).bind fun d=>.ok (.rt d):=id rfl
@[simp] theorem e_for (O:List Nat) (fi:ah->M (List Dat)) (p:Pat):BS O fi p g ρ=(fi (erase O ρ)).bind fun ds=>mi p g ds ρ:=id rfl
@[simp] theorem e_unpB (O:List Nat) (p:Pat):xm O p fa ρ=(fa (erase O ρ)).bind fun d=>(iM p d ρ).bind fun ρ'=>.ok (.nx ρ'):=id rfl
@[simp] theorem e_appB (O:List Nat) (i:Nat):nO O i fa ρ=(ju ρ i).bind fun ds=>(fa (erase O ρ)).bind fun d=>if ds.length<g_ then put ρ i (ds++[d]) else .error .stuck:=id rfl
@[simp] theorem e_put (i:Nat) (ds:List Dat):put ρ i ds=.ok (.nx (ρ.set i (a_ (.lst ds)))):=id rfl
@[simp] theorem e_lst0 (ds:List Dat) (r:ah):ju (a_ (.lst ds)::r) 0=.ok ds:=id rfl
@[simp] theorem e_lstS (i:Nat) (o:Option Dat) (r:ah):ju (o::r) (i+1)=ju r i:=by simp [ju]
@[simp] theorem e_er0:erase [] ρ=ρ:=id rfl
@[simp] theorem e_erS (i:Nat) (O:List Nat):erase (i::O) ρ=erase O (ρ.set i c_):=id rfl
@[simp] theorem e_bnm (i:Nat) (d:Dat):iM (.nm i) d ρ=.ok (ρ.set i (a_ d)):=id rfl
@[simp] theorem e_btp (is:List Nat) (ds:List Dat):iM (.tp is) (.tup ds) ρ=if ds.length=is.length then .ok (jf is ds ρ) else .error .stuck:=id rfl
@[simp] theorem e_sa0 (ds:List Dat):jf [] ds ρ=ρ:=by cases ds<;>rfl
@[simp] theorem e_saS (i:Nat) (is:List Nat) (d:Dat) (ds:List Dat):jf (i::is) (d::ds) ρ=jf is ds (ρ.set i (a_ d)):=id rfl
@[simp] theorem e_in0:jY [] ρ=[]:=id rfl
@[simp] theorem e_inN (ix:List (Option Nat)):jY (c_::ix) ρ=c_::jY ix ρ:=id rfl
@[simp] theorem e_inS (j:Nat) (ix:List (Option Nat)):jY (a_ j::ix) ρ=(ρ[j]?).join::jY ix ρ:=id rfl
@[simp] theorem e_tup (ds:List Dat):jc ds=if ds.length<=g_ then .ok (.tup ds) else .error .stuck:=id rfl
@[simp] theorem e_lst (ds:List Dat):cy ds=if ds.length<=g_ then .ok (.lst ds) else .error .stuck:=id rfl
@[simp] theorem e_line:g_=16777216:=Er
@[simp] theorem e_run (a b:Nat) (ds:List Dat):bL a b g ds=if ds.length=b then (g (ds.map a_++Fv (a-ds.length) c_)).bind fun fl=>match fl with
 |.nx _=>.ok .non
 |.rt d=>.ok d
 |_=>stk else stk:=id rfl
@[simp] theorem e_rng1 {j:Int} (h:kr j=d_):C8 [.int j]=.ok (cP 0 j.toNat):=by show (if kr j=d_ then _ else _)=_;rw [f_ h]
@[simp] theorem e_mod {i j:Int} (h:0<j):qx (.int i) (.int j)=.ok (.int (i%j)):=by simp [qx,h]
@[simp] theorem e_fdiv {i j:Int} (h:0<j) (h2:j<18446744073709551616):mP (.int i) (.int j)=.ok (.int (i/j)):=by simp [mP,h,h2]
@[simp] theorem e_mulR {i j:Int} (h:eu j=d_):Bi (.int i) (.int j)=.ok (.int (i*j)):=by show (if (eu i||eu j)=d_ then _ else _)=_;rw [h,Kt,f_ rfl]
@[simp] theorem e_mulL {i j:Int} (h:eu i=d_):Bi (.int i) (.int j)=.ok (.int (i*j)):=by show (if (eu i||eu j)=d_ then _ else _)=_;rw [h,MW,f_ rfl]
end
section
variable {W:dZ} {own:Bool} {a b c:Fe} {rest:List Fe} {f:ah->M Dat} {fr:ah->M (List Dat)} 
theorem PE.imp {t t':TE} (h:PE X e t) (q:∀σ H Q,t' σ H Q->t σ H Q):PE X e t':=fun pins s σ H Q I z=>h pins s σ H Q I (q σ H Q z)
theorem PT.imp {t t':TT} (h:PT X e t) (q:∀σ H Q,t' σ H Q->t σ H Q):PT X e t':=fun pins s σ H Q I z=>h pins s σ H Q I (q σ H Q z)
theorem PW.imp {t t':TT} (h:PW X e t) (q:∀σ H Q,t' σ H Q->t σ H Q):PW X e t':=fun J pins s σ H Q I z=>h J pins s σ H Q I (q σ H Q z)
theorem PA.imp {t t':TA} (h:PA X es t) (q:∀σ H Q,t' σ H Q->t σ H Q):PA X es t':=fun ps pins s σ H Q I z=>h ps pins s σ H Q I (q σ H Q z)
theorem PI.imp {t t':TI} (h:PI X tg e t) (q:∀σ H Q,t' σ H Q->t σ H Q):PI X tg e t':=fun pins s σ H Q I z=>h pins s σ H Q I (q σ H Q z)
theorem PS.imp {t t':TS} (h:PS X st t) (q:∀D σ H,t' D σ H->t D σ H):PS X st t':=fun pins s σ H D I z=>h pins s σ H D I (q D σ H z)
theorem PSs.imp {st:List Fh} {t t':TS} (h:PSs X st t) (q:∀D σ H,t' D σ H->t D σ H):PSs X st t':=fun pins s σ H D I z=>h pins s σ H D I (q D σ H z)
abbrev DE (K:Fg) (W:dZ) (own:Bool) (X:Cx) (e:Fe) (f:ah->M Dat):Prop:=PE X e (tD K W own f)
abbrev DT (K:Fg) (W:dZ) (X:Cx) (e:Fe) (f:ah->M Bool):Prop:=PT X e (tDT K W f)
abbrev DW (K:Fg) (W:dZ) (X:Cx) (e:Fe) (f:ah->M Bool):Prop:=PW X e (tDT K W f)
abbrev DA (K:Fg) (W:dZ) (X:Cx) (es:List Fe) (f:ah->M (List Dat)):Prop:=PA X es (tDA K W f)
abbrev DI (K:Fg) (W:dZ) (X:Cx) (tg e:Fe) (f:ah->M (List Dat)):Prop:=PI X tg e (iD K W f)
abbrev DG (K:Fg) (X:Cx) (tg:Fe) (p:Pat):Prop:=PG X tg (gP K p)
abbrev DS (K:Fg) (W:dZ) (ro:Bool) (X:Cx) (OL O O':List Nat) (st:Fh) (g:ah->M Flo):Prop:=∀F0 H0:Hp,PS X st (tS K W ro F0 H0 OL O O' g)
abbrev DSs (K:Fg) (W:dZ) (ro:Bool) (X:Cx) (OL O O':List Nat) (st:List Fh) (g:ah->M Flo):Prop:=∀F0 H0:Hp,PSs X st (tS K W ro F0 H0 OL O O' g)
abbrev Op2 (K:Fg) (W:dZ) (own:Bool) (X:Cx) (o:l_->l_->MO l_) (g:Dat->Dat->M Dat):Prop:=OpR X o (rD2 K W own g)
abbrev qp (K:Fg) (W:dZ) (own:Bool) (X:Cx) (v:l_) (g:List Dat->M Dat):Prop:=dQ X v (rDL K W own g)
theorem av (i:Nat) (J: ~~~(X.N[i]? =a_ x)) (hv:autoParam (Vis X.env.scope x) Jq5) (hd:((x==("__debug__":p_))=b_)⁻¹)
  (I:((x==("__classdict__":p_))=b_)⁻¹):DE K W b_ X (.Name x pos) (ai i):=(pv i J hv hd I).imp fun _ _ _=>rd_var
theorem ae {i:Int} {j}:DE K W b_ X (.Constant (.int i) j pos) (fC (.int i)):=zu.imp fun _ _ _=>rd_c fun _=>rfl
theorem jJ {k:Bool} {j}:DE K W b_ X (.Constant (.bool k) j pos) (fC (.bl k)):=iT.imp fun _ _ _=>rd_c fun _=>rfl
theorem eV {j}:DE K W b_ X (.Constant .none j pos) (fC .non):=pe_non.imp fun _ _ _=>rd_c fun _=>rfl
theorem aS {j}:DE K W b_ X (.Constant (.str z) j pos) (fC (.str z)):=rn.imp fun _ _ _=>rd_c fun _=>rfl
theorem iZ {n:Int} (I:∃t,X.mg x=a_ (.int n t)) (J: ~~~(Gl X x)) (hd:((x==("__debug__":p_))=b_)⁻¹):DE K W b_ X (.Name x pos) (fC (.int n)):=(pe_gint J I hd).imp fun _ _ _=>rd_c fun _=>rfl
theorem aA (h:DE K W d_ X e f):DE K W b_ X e f:=PE.imp h fun _ _ _ ⟨F,ρ,r,s,p⟩=>⟨F,ρ,r,s,p.frz⟩
theorem aU {op:Operator} (I:Op2 K W own X (FN op) g) (Y:DE K W b_ X a fa) (J:DE K W b_ X b fb):DE K W own X (.BinOp a op b pos) (f2 g fa fb):=(pe_op I Y J).imp fun _ _ _=>rd_2
theorem de_un {op:UnaryOp} {g:Dat->M Dat} (I:UnR X (MD op) (rD1 K W own g)) (J:DE K W b_ X a fa):DE K W own X (.UnaryOp op a pos) (f1 g fa):=(pe_un I J).imp fun _ _ _=>rd_1
theorem iJ (I:Op2 K W b_ X (Es op) g) (c:DE K W b_ X a fa) (Y:DE K W b_ X b fb) (J:Gn op b=b_:=by first|exact zy _|with_unfolding_all rfl):DE K W b_ X (.Compare a [op] [b] pos) (f2 g fa fb):=
 (pe_cmpR I c Y J).imp fun _ _ _=>rd_2
theorem aB (I:Op2 K W b_ X (Es op) g) (c:DE K W b_ X a fa) (Y:DE K W b_ X b fb) (J:Gn op b=b_:=by first|exact zy _|with_unfolding_all rfl):DT K W X (.Compare a [op] [b] pos) (fB (f2 g fa fb)):=
 (xB I c Y J).imp fun σ H Q h=>by
  have q:=rd_B h;exact rd_2 (own:=b_) q
theorem zX (J:Op2 K W b_ X (Es op) g) (I:Op2 K W b_ X (Es op') g') (f:DE K W b_ X a fa) (e:DE K W b_ X b fb) (d:DE K W b_ X c fc)
  (Y:Jc [op,op'] [b,c]=b_:=by with_unfolding_all rfl):DE K W b_ X (.Compare a [op,op'] [b,c] pos) (iH g g' fa fb fc):=(pe_chain J I f e d Y).imp fun _ _ _=>zf
theorem dt_chain (J:Op2 K W b_ X (Es op) g) (I:Op2 K W b_ X (Es op') g') (f:DE K W b_ X a fa) (e:DE K W b_ X b fb) (d:DE K W b_ X c fc)
  (Y:Jc [op,op'] [b,c]=b_:=by with_unfolding_all rfl):DT K W X (.Compare a [op,op'] [b,c] pos) (fB (iH g g' fa fb fc)):=(pt_chain J I f e d Y).imp fun σ H Q h=>by
  have q:=rd_B h;exact zf q
theorem dm (Y:DE K W b_ X a fa) (b: ~~~(X.K=K)) (J:autoParam (∀I,LF a X.env I=(do let v <- I;JC a.pos;HU [v] (truthy v))) Jq4):DT K W X a (k7 fa):=by
 subst b;exact (o9 Y J).imp fun _ _ _=>rd_tru
theorem hI (I:DT K W X a ft):DT K W X (.UnaryOp .Not a pos) (pN ft):=(zm I).imp fun _ _ _=>rd_not
theorem jH (I:DT K W X a ft):DW K W X (.BoolOp .And [a] pos) ft:=Cf I
theorem cU (I:DT K W X a ft):DW K W X (.BoolOp .Or [a] pos) ft:=pw_or1 I
theorem nG (J:DT K W X a ft) (I:DW K W X (.BoolOp .And (b::rest) pos) fu):DW K W X (.BoolOp .And (a::b::rest) pos) (uk ft fu):=(Cg J I).imp fun _ _ _=>rd_and
theorem dX (J:DT K W X a ft) (I:DW K W X (.BoolOp .Or (b::rest) pos) fu):DW K W X (.BoolOp .Or (a::b::rest) pos) (fOr ft fu):=(pw_or J I).imp fun _ _ _=>rd_or
theorem nI {op} (h:DE K W b_ X a f):DE K W b_ X (.BoolOp op [a] pos) f:=pe_one h
theorem pW (J:DE K W b_ X a fa) (I:DE K W b_ X (.BoolOp .And (b::rest) pos) fb):DE K W b_ X (.BoolOp .And (a::b::rest) pos) (iI fa fb):=(pe_and J I).imp fun _ _ _=>rd_andV
theorem de_or (J:DE K W b_ X a fa) (I:DE K W b_ X (.BoolOp .Or (b::rest) pos) fb):DE K W b_ X (.BoolOp .Or (a::b::rest) pos) (Bo fa fb):=(pe_or J I).imp fun _ _ _=>rd_orV
theorem de_not (I:DE K W b_ X a fa):DE K W b_ X (.UnaryOp .Not a pos) (f1 notD fa):=(pe_not I).imp fun _ _ _=>rd_notV
theorem zV (I:DT K W X c ft) (Y:DE K W own X a fa) (J:DE K W own X b fb):DE K W own X (.IfExp c a b pos) (fIte ft fa fb):=(pe_ifExp I Y J).imp fun _ _ _=>rd_ite
theorem iK:DA K W X [] aH:=aK.imp fun _ _ _=>rd_nil
theorem cb (Y:DE K W b_ X e fa) (J:DA K W X es fr) (I: ~~~(i_ (e::es) X.env=(b_,Eu e X.env)::i_ es X.env)):DA K W X (e::es) (aa fa fr):=(au Y J I).imp fun _ _ _=>rd_cons
theorem nH {I} (h:DA K W X es fr):DE K W own X (.Tuple es I pos) (fL jc fr):=(vm h).imp fun _ _ _=>rd_tup
theorem hX (h:DA K W X es fr):DE K W d_ X (.List es pos) (fL cy fr):=(j5 h).imp fun _ _ _=>rd_lst
theorem aE {id:String} {g:List Dat->M Dat} (d:qp K W own X (.builtin id) g) (b:X.mg x=c_) (hv:F8 x=a_ (.builtin id)) (f:DA K W X (e::es) fr) (c: ~~~(Gl X x)) (a:(x≠"__name__")⁻¹) (Y:((x==("__debug__":p_))=b_)⁻¹)
  (I: ~~~(i_ (e::es) X.env=(b_,Eu e X.env)::i_ es X.env)) (J: ~~~((EN pos (i_ es X.env)).any (·.1)=b_)):DE K W own X (.Call (.Name x p) (e::es) [] pos) (fL g fr):=
 (ic d c b hv f a Y I J).imp fun _ _ _=>rd_L
theorem fW {g:List Dat->M Dat} (d:qp K W own X (.type T) g) (b:X.mg x=c_) (hv:F8 x=a_ (.type T)) (f:DA K W X (e::es) fr) (c: ~~~(Gl X x)) (a:(x≠"__name__")⁻¹) (Y:((x==("__debug__":p_))=b_)⁻¹)
  (I: ~~~(i_ (e::es) X.env=(b_,Eu e X.env)::i_ es X.env)) (J: ~~~((EN pos (i_ es X.env)).any (·.1)=b_)):DE K W own X (.Call (.Name x p) (e::es) [] pos) (fL g fr):=
 (ji d c b hv f a Y I J).imp fun _ _ _=>rd_L
theorem aN (J:IxR X (rD2 K W own g)) (c:DE K W b_ X a fa) (Y:DE K W b_ X b fb) (I:Eb b:=by exact fun _ _=>rfl):DE K W own X (.Subscript a b pos) (f2 g fa fb):=(pe_ix J c Y I).imp fun _ _ _=>rd_2
theorem dg_nm (Y:X.N.Nodup) (hi: ~~~(X.N[i]? =a_ x)) (I:Loc X.env.scope x:=by first|exact Or.inl rfl|exact Or.inr rfl) (J:autoParam (X.fn x=d_\/X.env.scope.names.lookup x=a_ .local) Jq3):DG K X (.Name x pos) (.nm i):=cQ Y hi I J
theorem hV (j:DE K W b_ X e fa) (k: ~~~(X.K=K)):DI K W X tg e (fIt fa):=by
 subst k;refine PI.imp (t:=iSeq X.K (tD X.K W b_ fa)) ?_ fun _ _ _=>ri_seq;intro pins s σ H R I h;refine thn (j pins s σ H _ I h) fun v J ⟨y,H1,Y,f,g⟩=>?_;obtain ⟨l,e1,q⟩:=g;subst e1;cases f;rcases q with ⟨⟨xs,a⟩,q⟩|⟨⟨xs,a⟩,q⟩
 ·obtain ⟨its,d,p,i⟩:=Y.list a;refine Hr p.isList ?_;refine ⟨J.heap.objs.size,[J.heap.objs.size],_,_,H1,rfl,Y.kept (t':=J.toks) fun b o e=>s_ _ e,uB l _,⟨_,Ei _ rfl,rfl,rfl⟩,fun b c=>?_,q⟩
  have e:b=J.heap.objs.size:=by simpa using c
  subst e;exact Y.fpOk (u_ _) (Y.hok.fresh (u_ _))
 ·obtain ⟨its,d,p,i⟩:=Y.tuple a;refine wpAny_pyIter_tuple (show J.heap.IsTuple l its.toArray from p) ?_;refine ⟨J.heap.objs.size,[J.heap.objs.size],_,_,H1,rfl,Y.kept (t':=J.toks) fun b o e=>s_ _ e,A7 l _,⟨_,Ei _ rfl,rfl,rfl⟩,fun b c=>?_,q⟩
  have e:b=J.heap.objs.size:=by simpa using c
  subst e;exact Y.fpOk (u_ _) (Y.hok.fresh (u_ _))
theorem pP (J:X.mg "range"=c_) (b:DA K W X [a] fr) (Y: ~~~(Gl X "range")) (I: ~~~(i_ [a] X.env=[(b_,Eu a X.env)])):DI K W X tg (.Call (.Name "range" p) [a] [] pos) (Bn C8 fr):=(vk Y J b I).imp fun _ _ _=>ri_rng1
variable {g h:ah->M Flo}
theorem bE:DSs K W ro X OL O O [] cO:=fun _ _=>bx.imp fun _ _ _=>rs_next
theorem ax (h1:DS K W ro X OL O O' st g) (h2:DSs K W ro X OL O' O2 sts h):DSs K W ro X OL O O2 (st::sts) (cF g h):=fun F0 H0=>(aw (h1 F0 H0) (h2 F0 H0)).imp fun _ _ _=>rs_seq
theorem az (h1:DS K W ro X OL O O' st g):DSs K W ro X OL O O' [st] g:=fun F0 H0=>aV (h1 F0 H0)
theorem zS (h1:DSs K W ro X OL O2 O' sts g) (I:(∀i∈O2,i∈O)⁻¹):DSs K W ro X OL O O' sts g:=fun F0 H0=>PSs.imp (h1 F0 H0) fun _ _ _=>tS.enter I
theorem dz {J I:List Fh} (Y:DT K W X c ft) (b:DSs K W ro X OL O O' J g) (a:DSs K W ro X OL O O' I h):DS K W ro X OL O O' (.If c J I pos) (sIf ft g h):=fun F0 H0=>(gA Y (b F0 H0) (a F0 H0)).imp fun _ _ _=>rs_if
theorem Dm (b:X.N.Nodup) (a:DE K W own X e f) (hi: ~~~(X.N[i]? =a_ x)) (I:Loc X.env.scope x:=by first|exact Or.inl rfl|exact Or.inr rfl) (J: ~~~(FV e (a_ (.Name x pos')) pos.line X.env=FF b_)) (Y:autoParam (X.fn x=d_\/X.env.scope.names.lookup x=a_ .local) Jq3) :
  DS K W ro X OL O (aft own i O) (.Assign [.Name x pos'] e pos) (bH O i f):=fun F0 H0=>(jh b hi I a J Y).imp fun _ _ _=>xn
theorem aI (I:DE K W ro X e f):DS K W ro X OL O O' (.Return (a_ e) pos) (cK f):=fun F0 H0=>(bS I).imp fun _ _ _=>rs_ret
theorem ds_retV (J:(i∈O)⁻¹) (Y: ~~~(X.N[i]? =a_ x)) (hv:autoParam (Vis X.env.scope x) Jq5) (hd:((x==("__debug__":p_))=b_)⁻¹)
  (I:((x==("__classdict__":p_))=b_)⁻¹):DS K W d_ X OL O O' (.Return (a_ (.Name x p)) pos) (cK (ai i)):=fun F0 H0=>(bS (pv i Y hv hd I)).imp fun _ _ _=>rs_retV J
theorem vT {fs:ah->M (List Dat)} {pt:Pat} (hi:DI K W X tg iter fs) (Y:DG K X tg pt) (b:DSs K W ro X O O O body g) (n:(∀i∈pt.names,i∉O)⁻¹) (J:PassesOwn (Eg X.prog X.w) X.A X.env X.xe:=by exact PassesOwn.never) (a: ~~~(X.calm=d_))
  (I:autoParam (∀x,Gi iter X.env x=FF x) Jq4):DS K W ro X OL O O (.For tg iter body [] pos) (BS O fs pt g):=fun F0 H0=>(zo J a hi Y (b F0 H0) I).imp fun _ _ _=>rs_for n
theorem tQ (h:DE K W b_ X e f) (g:(i∈O)⁻¹) (j: ~~~(X.N[i]? =a_ x)) (hv:autoParam (Vis X.env.scope x) Jq5) (hd:((x==("__debug__":p_))=b_)⁻¹) (d:((x==("__classdict__":p_))=b_)⁻¹) (k: ~~~(X.K=K))
  (a: ~~~(i_ [e] X.env=[(b_,Eu e X.env)])) (Y: ~~~(FR (.Name x p) "append" X.env (Eu (.Name x p) X.env)=Eu (.Name x p) X.env)) (b: ~~~(((EN q (i_ [e] X.env)).all (fun x=> !x.1)&&(GB q (Fz [] X.env)).all (fun x=>x.1.isSome)&&r_ ([e].length+([]:List G2).length+(if ([]:List G2).isEmpty then 0 else 1)<30))=d_)) (I: ~~~((EN q (i_ [] X.env)).any (·.1)=b_)) (J: ~~~((apos.endLine==q.line)=d_)) (c: ~~~(FV (.Call (.Attribute (.Name x p) "append" apos) [e] [] q) c_ pos.line X.env=FF b_)) :
  DS K W ro X OL O O (.Expr (.Call (.Attribute (.Name x p) "append" apos) [e] [] q) pos) (nO O i f):=fun F0 H0=>by
 subst k;exact PS.imp (gO (nQ EE EL ET eA (pv i j hv hd d) (au h aK a) Y b J a I) c) fun _ _ _=>rs_appB g
end
section
variable {W:dZ} {own:Bool}
theorem OpR.imp {f:l_->l_->MO l_} {r:R2} (h:OpR X f r) (q:∀x y H Q,r' x y H Q->r x y H Q):OpR X f r':=fun pins s σ H x y v u Q I Y J z=>h pins s σ H x y v u Q I Y J (q x y H Q z)
theorem UnR.imp {f:l_->MO l_} {r r':V->Hp->VK->Prop} (h:UnR X f r) (q:∀x H Q,r' x H Q->r x H Q):UnR X f r':=fun pins s σ H x v Q I J z=>h pins s σ H x v Q I J (q x H Q z)
theorem dQ.imp {f:l_} {r r':List V->Hp->VK->Prop} (h:dQ X f r) (q:∀x H Q,r' x H Q->r x H Q):dQ X f r':=fun pins s σ H x v Q I J z=>h pins s σ H x v Q I J (q x H Q z)
theorem IxR.imp {r:R2} (h:IxR X r) (q:∀x y H Q,r' x y H Q->r x y H Q):IxR X r':=fun J Y pins s σ H x y v u Q I b a z e=>h J Y pins s σ H x y v u Q I b a (q x y H Q z) e
theorem aC.stuck {P:Prop} (p:aC K W own F H (stk) Q):P:=(W.ns p).elim
theorem aC.int {F H:Hp} {Q:VK} {i:Int} (p:aC K W own F H (.ok (.int i)) Q) (s:aF F H):Q (.int i) H:=p _ F H (Step.refl s) (by cases own<;>rfl)
theorem aC.bl {F H:Hp} {Q:VK} {b:Bool} (p:aC K W own F H (.ok (.bl b)) Q) (s:aF F H):Q (.bl b) H:=p _ F H (Step.refl s) (by cases own<;>rfl)
theorem aC.str {F H:Hp} {Q:VK} {x:p_} (p:aC K W own F H (.ok (.str x)) Q) (s:aF F H):Q (.str x) H:=p _ F H (Step.refl s) (by cases own<;>rfl)
theorem aC.tup {F H:Hp} {Q:VK} {ds:List Dat} {xs:List V} {a:e_} (p:aC K W own F H (.ok (.tup ds)) Q) (s:aF F H) (q:ay K F ds xs) (I:H a=c_):Q (.ref a) (upd H a (.tup xs)):=
 p _ _ _ (Step.lay s I) (by
  have:aR K (upd F a (.tup xs)) (.tup ds) (.ref a):=⟨a,xs,rfl,SqT.of ao,q.mono (aF.upd (s.free I))⟩
  cases own<;>exact this)
theorem aC.same {ds:List Dat} (p:aC K W own F H (.ok (.tup ds)) Q) (s:aF F H) (q:aR K F (.tup ds) v):Q v H:=p _ F H (Step.refl s) (by cases own<;>exact q)
theorem aC.lst {F H:Hp} {Q:VK} {ds:List Dat} {xs:List V} {a:e_} (p:aC K W d_ F H (.ok (.lst ds)) Q) (s:aF F H) (q:ay K F ds xs) (I:H a=c_):Q (.ref a) (upd H a (.lst xs)):=
 p _ F _ (Step.grow s I) ⟨a,xs,rfl,ao,s.free I,I,q⟩
theorem gv (Y:∀a b,(∃i j,a=.int i/\b=.int j)\/g a b=stk) {x:V} (h:rD2 K W own g x y H Q):∃F i j,aF F H/\x=.int i/\y=.int j/\aC K W own F H (g (.int i) (.int j)) Q:=by
 obtain ⟨F,a,b,s,J,I,p⟩:=h;rcases Y a b with ⟨i,j,rfl,rfl⟩|e
 ·exact ⟨F,i,j,s,J,I,p⟩
 ·rw [e] at p;exact p.stuck
theorem o_sub:Op2 K W own X (FN .Sub) subD:=op_sub.imp fun x y H Q h=>by
 obtain ⟨F,i,j,s,e1,e2,p⟩:=gv (fun a b=>by cases a<;>cases b<;>first|exact .inr rfl|exact .inl ⟨_,_,rfl,rfl⟩) h;exact ⟨i,j,e1,e2,p.int s⟩
theorem vz:Op2 K W own X (FN .Mult) Bi:=op_mul.imp fun x y H Q h=>by
 obtain ⟨F,i,j,s,e1,e2,p⟩:=gv (fun a b=>by cases a<;>cases b<;>first|exact .inr rfl|exact .inl ⟨_,_,rfl,rfl⟩) h;have J:aC K W own F H (if (eu i||eu j)=d_ then .ok (.int (i*j)) else stk) Q:=p;by_cases I:(eu i||eu j)=d_
 ·rw [f_ I] at J;refine ⟨i,j,e1,e2,?_,J.int s⟩
  unfold eu at I;simp only [Ir,n_,Et] at I;exact I
 ·rw [m_ I] at J;exact J.stuck
theorem CK {j:Int} (I:0<j) (h1:j<18446744073709551616):j.natAbs.log2<9000:=by
 have a:j.natAbs<2^64:=by omega
 have b:=(Lg (n:=j.natAbs) (k:=64) (by omega)).mpr a;omega
theorem Co:OpR X (FN .FloorDiv) (rI (fun _ j=>0<j/\j<18446744073709551616) fun i j=>.int (i/j)):=opI fun i j _ _ _ _ _ I q=>by
 obtain ⟨Y,J⟩:=I;exact floordiv_int (by omega) (by rw [Int.fdiv_eq_ediv_of_nonneg i (by omega)];exact q) (.inl (PyProof.noPylong_of_log2 (CK Y J)))
theorem ki:Op2 K W own X (FN .FloorDiv) mP:=Co.imp fun x y H Q h=>by
 obtain ⟨F,i,j,s,e1,e2,p⟩:=gv (fun a b=>by cases a<;>cases b<;>first|exact .inr rfl|exact .inl ⟨_,_,rfl,rfl⟩) h;have I:aC K W own F H (if (r_ (0<j)&&r_ (j<18446744073709551616))=d_ then .ok (.int (i/j)) else stk) Q:=p;by_cases J:(r_ (0<j)&&r_ (j<18446744073709551616))=d_
 ·rw [f_ J] at I;simp only [n_,Et] at J;exact ⟨i,j,e1,e2,J,I.int s⟩
 ·rw [m_ J] at I;exact I.stuck
theorem ja:Op2 K W own X (FN .Mod) qx:=op_mod.imp fun x y H Q h=>by
 obtain ⟨F,i,j,s,e1,e2,p⟩:=gv (fun a b=>by cases a<;>cases b<;>first|exact .inr rfl|exact .inl ⟨_,_,rfl,rfl⟩) h;have I:aC K W own F H (if 0<j then .ok (.int (i%j)) else stk) Q:=p;by_cases J:0<j
 ·rw [f_ J] at I;exact ⟨i,j,e1,e2,J,I.int s⟩
 ·rw [m_ J] at I;exact I.stuck
theorem vy:Op2 K W own X (FN .Pow) zr:=op_pow.imp fun x y H Q h=>by
 obtain ⟨F,i,j,s,e1,e2,p⟩:=gv (fun a b=>by cases a<;>cases b<;>first|exact .inr rfl|exact .inl ⟨_,_,rfl,rfl⟩) h;have J:aC K W own F H (if (r_ (0<=j)&&r_ (j<=1000000)&&r_ (i.natAbs<2^64))=d_ then .ok (.int (i^j.toNat)) else stk) Q:=p;by_cases I:(r_ (0<=j)&&r_ (j<=1000000)&&r_ (i.natAbs<2^64))=d_
 ·rw [f_ I] at J;simp only [n_,Et] at I;exact ⟨i,j,e1,e2,⟨I.1.1,I.1.2,I.2⟩,J.int s⟩
 ·rw [m_ I] at J;exact J.stuck
theorem o_neg:UnR X (MD .USub) (rD1 K W own negD):=un_neg.imp fun x H Q h=>by
 obtain ⟨F,a,s,I,p⟩:=h;cases a with
 |int i=>exact ⟨i,I,aC.int (own:=own) p s⟩
 |_=>exact aC.stuck p
theorem o_lt:Op2 K W own X (Es .Lt) ltD:=op_lt.imp fun x y H Q h=>by
 obtain ⟨F,i,j,s,e1,e2,p⟩:=gv (fun a b=>by cases a<;>cases b<;>first|exact .inr rfl|exact .inl ⟨_,_,rfl,rfl⟩) h;exact ⟨i,j,e1,e2,p.bl s⟩
theorem Ct:Op2 K W own X (Es .LtE) leD:=op_le.imp fun x y H Q h=>by
 obtain ⟨F,i,j,s,e1,e2,p⟩:=gv (fun a b=>by cases a<;>cases b<;>first|exact .inr rfl|exact .inl ⟨_,_,rfl,rfl⟩) h;exact ⟨i,j,e1,e2,p.bl s⟩
theorem Cw:Op2 K W own X (Es .Gt) gtD:=op_gt.imp fun x y H Q h=>by
 obtain ⟨F,i,j,s,e1,e2,p⟩:=gv (fun a b=>by cases a<;>cases b<;>first|exact .inr rfl|exact .inl ⟨_,_,rfl,rfl⟩) h;exact ⟨i,j,e1,e2,p.bl s⟩
theorem o_ge:Op2 K W own X (Es .GtE) geD:=op_ge.imp fun x y H Q h=>by
 obtain ⟨F,i,j,s,e1,e2,p⟩:=gv (fun a b=>by cases a<;>cases b<;>first|exact .inr rfl|exact .inl ⟨_,_,rfl,rfl⟩) h;exact ⟨i,j,e1,e2,p.bl s⟩
theorem op_catL:OpR X (FN .Add) (fun x y H Q=>∃l b xs d,x=.ref l/\y=.ref b/\SqL X.K H l xs/\SqL X.K H b d/\xs.length+d.length<=g_/\∀p,H p=c_->Q (.ref p) (upd H p (.lst (xs++d)))):=by
 intro pins s σ H x y v u Q I w t h;obtain ⟨l,b,xs,d,rfl,rfl,A,B,G,q⟩:=h;cases w;cases t;obtain ⟨its,r,p1,K⟩:=I.list A;obtain ⟨J,r2,p2,z⟩:=I.list B;have F:=r.length;have E:=r2.length;obtain ⟨⟨D,dd,k,o⟩,i,j,n,hd⟩:=id p1.isList;obtain ⟨⟨m,f,g,e⟩,Y,c,n2,a⟩:=id p2.isList;simp only at j hd c a;subst j hd c a;refine JE ⟨_,i,rfl⟩ ⟨_,Y,rfl⟩ noFill_list_add seq_list_add PySem.F.slot_list_add PySem.F.entry_list_add (PySem.F.args_list_add_2 _ _) (list_addW l b its.toArray J.toArray n n2 dd f o e (by simp only [B_];omega)) ⟨i,Y,?_⟩;have C:its.toArray++J.toArray=(its++J).toArray:=by simp
 rw [C];exact ⟨.ref _,_,I.lnew (t':=s.toks) (r.append r2) (by rw [Ey];omega),rfl,q _ I.fresh⟩
theorem op_cat3:OpR X (FN .Add) (fun x y H Q=>∃a b xs ys,x=.ref a/\y=.ref b/\SqT X.K H a xs/\SqT X.K H b ys/\xs.length+ys.length<=g_/\(xs=[]->Q (.ref b) H)/\(ys=[]->Q (.ref a) H)/\∀p,H p=c_->Q (.ref p) (upd H p (.tup (xs++ys)))):=by
 intro pins s σ H x y v u Q I k j h;obtain ⟨a,b,xs,ys,rfl,rfl,r,q,E,D,C,B⟩:=h;by_cases l:xs=[]
 ·subst l;cases k;cases j;obtain ⟨its,A,p1,_⟩:=I.tuple r;obtain ⟨J,r2,p2,_⟩:=I.tuple q;cases A;obtain ⟨⟨G,dd,t,z⟩,m,o,n,hd⟩:=id p1;obtain ⟨⟨w,g,i,f⟩,Y,d,n2,c⟩:=id p2;simp only at o hd d c;subst o hd d c;exact JE ⟨_,m,rfl⟩ ⟨_,Y,rfl⟩ JQ K8 H_ HV (HM _ _)
   (tuple_addW0 a b #[] J.toArray n n2 dd g z f rfl) ⟨m,Y,⟨.ref b,H,I,rfl,D rfl⟩⟩
 ·exact op_catT pins s σ H _ _ v u Q I k j ⟨a,b,xs,ys,rfl,rfl,r,q,l,E,fun e=>C e,fun _ p F=>B p F⟩
theorem dv (g: ~~~(X.K=K)):Op2 K W d_ X (FN .Add) gL:=by
 subst g;refine (op_add.or (Av.or (op_catL.or op_cat3))).imp fun x y H Q h=>?_;obtain ⟨F,a,b,s,d,c,p⟩:=h;cases a with
 |int i=>
  cases b with
  |int j=>exact .inl ⟨i,j,d,c,p.int s⟩
  |_=>exact aC.stuck p
 |str z=>
  cases b with
  |str w=>
   have I:aC X.K W d_ F H (if z.length+w.length<=g_ then .ok (.str (z++w)) else stk) Q:=p;by_cases J:z.length+w.length<=g_
   ·rw [f_ J] at I;exact .inr (.inl ⟨z,w,d,c,J,I.str s⟩)
   ·rw [m_ J] at I;exact I.stuck
  |_=>exact aC.stuck p
 |lst ds=>
  cases b with
  |lst es=>
   obtain ⟨a,xs,e1,t1,Y⟩:=d;obtain ⟨b,ys,e2,t2,r2⟩:=c;have I:aC X.K W d_ F H (if ds.length+es.length<=g_ then .ok (.lst (ds++es)) else stk) Q:=p;by_cases J:ds.length+es.length<=g_
   ·rw [f_ J] at I;exact .inr (.inr (.inl ⟨a,b,xs,ys,e1,e2,s.lst t1,s.lst t2,by rw [Y.length,r2.length];exact J,fun l f=>I.lst s (Y.append r2) f⟩))
   ·rw [m_ J] at I;exact I.stuck
  |_=>exact aC.stuck p
 |tup ds=>
  cases b with
  |tup es=>
   obtain ⟨a,xs,e1,t1,Y⟩:=d;obtain ⟨b,ys,e2,t2,r2⟩:=c;have I:aC X.K W d_ F H (if ds.length+es.length<=g_ then .ok (.tup (ds++es)) else stk) Q:=p;by_cases J:ds.length+es.length<=g_
   ·rw [f_ J] at I;refine .inr (.inr (.inr ⟨a,b,xs,ys,e1,e2,s.tup t1,s.tup t2,by rw [Y.length,r2.length];exact J,fun e=>?_,fun e=>?_,fun l f=>I.tup s (Y.append r2) f⟩))
    ·have z:ds=[]:=by have:=Y.length;rw [e] at this;exact G7.mp this.symm
     subst z;exact I.same s ⟨b,ys,rfl,t2,r2⟩
    ·have z:es=[]:=by have:=r2.length;rw [e] at this;exact G7.mp this.symm
     subst z;rw [GK] at I;exact I.same s ⟨a,xs,rfl,t1,Y⟩
   ·rw [m_ J] at I;exact I.stuck
  |_=>exact aC.stuck p
 |_=>exact aC.stuck p
theorem o_isN:Op2 K W own X (Es .Is) isND:=op_isN.imp fun x y H Q h=>by
 obtain ⟨F,a,b,s,I,J,p⟩:=h;have key:∀{k:Bool},isND a b=.ok (.bl k)->b=.non->(r_ (x=V.non)=k)->y=V.non/\Q (.bl (r_ (x=V.non))) H:=fun {k} e1 e2 e3=>by
  subst e2;rw [e1] at p;rw [e3];exact ⟨J,p.bl s⟩
 cases b with
 |non=>
  cases a with
  |non=>exact key rfl rfl (by rw [show x=.non from I];rfl)
  |bl k=>exact key rfl rfl (by rw [show x=.bl k from I];rfl)
  |int k=>exact key rfl rfl (by rw [show x=.int k from I];rfl)
  |str k=>exact key rfl rfl (by rw [show x=.str k from I];rfl)
  |tup ds=>obtain ⟨l,xs,e,_⟩:=I;exact key rfl rfl (by rw [e];rfl)
  |lst ds=>obtain ⟨l,xs,e,_⟩:=I;exact key rfl rfl (by rw [e];rfl)
  |ins C fs=>obtain ⟨l,dx,xs,e,_⟩:=I;exact key rfl rfl (by rw [e];rfl)
  |dic ks=>obtain ⟨l,xs,e,_⟩:=I;exact key rfl rfl (by rw [e];rfl)
  |dil ks=>obtain ⟨l,xs,e,_⟩:=I;exact key rfl rfl (by rw [e];rfl)
 |_=>cases a<;>exact aC.stuck p
theorem o_notN:Op2 K W own X (Es .IsNot) Cz:=op_notN.imp fun x y H Q h=>by
 obtain ⟨F,a,b,s,I,J,p⟩:=h;have key:∀{k:Bool},Cz a b=.ok (.bl k)->b=.non->((!decide (x=V.non))=k)->y=V.non/\Q (.bl (!decide (x=V.non))) H:=fun {k} e1 e2 e3=>by
  subst e2;rw [e1] at p;rw [e3];exact ⟨J,p.bl s⟩
 cases b with
 |non=>
  cases a with
  |non=>exact key rfl rfl (by rw [show x=.non from I];rfl)
  |bl k=>exact key rfl rfl (by rw [show x=.bl k from I];rfl)
  |int k=>exact key rfl rfl (by rw [show x=.int k from I];rfl)
  |str k=>exact key rfl rfl (by rw [show x=.str k from I];rfl)
  |tup ds=>obtain ⟨l,xs,e,_⟩:=I;exact key rfl rfl (by rw [e];rfl)
  |lst ds=>obtain ⟨l,xs,e,_⟩:=I;exact key rfl rfl (by rw [e];rfl)
  |ins C fs=>obtain ⟨l,dx,xs,e,_⟩:=I;exact key rfl rfl (by rw [e];rfl)
  |dic ks=>obtain ⟨l,xs,e,_⟩:=I;exact key rfl rfl (by rw [e];rfl)
  |dil ks=>obtain ⟨l,xs,e,_⟩:=I;exact key rfl rfl (by rw [e];rfl)
 |_=>cases a<;>exact aC.stuck p
theorem D6 {ds:List Dat} {xs:List V} {i:Int} (p:aC K W b_ F H (eU ds i) Q) (s:aF F H) (r:ay K F ds xs):∃v,atI xs i=a_ v/\Q v H:=by
 unfold eU at p;cases e:atI ds i with
 |none=>rw [e] at p;exact aC.stuck p
 |some d=>
  rw [e] at p;unfold atI at e;cases I:ixN ds.length i with
  |none=>rw [I] at e;cases e
  |some j=>
   rw [I] at e;obtain ⟨v,e1,q⟩:=r.get (show ds[j]? =a_ d from e);refine ⟨v,?_,p v F H (Step.refl s) q⟩
   unfold atI;rw [r.length,I];exact e1
theorem cw (c: ~~~(X.K=K)):IxR X (rD2 K W b_ ixD):=by
 subst c;refine ix_seq.imp fun x y H Q h=>?_;obtain ⟨F,a,b,s,Y,J,p⟩:=h;cases a with
 |lst ds=>
  cases b with
  |int i=>
   obtain ⟨a,xs,e1,t1,I⟩:=Y;obtain ⟨v,e2,q⟩:=D6 p s I;exact .inl ⟨a,xs,i,v,e1,J,s.lst t1,e2,q⟩
  |_=>exact aC.stuck p
 |tup ds=>
  cases b with
  |int i=>
   obtain ⟨a,xs,e1,t1,I⟩:=Y;obtain ⟨v,e2,q⟩:=D6 p s I;exact .inr (.inl ⟨a,xs,i,v,e1,J,s.tup t1,e2,q⟩)
  |_=>exact aC.stuck p
 |_=>exact aC.stuck p
theorem gK (I: ~~~(X.K=K)):qp K W own X (.builtin "len") jv:=by
 subst I;refine jK.imp fun xs H Q h=>?_;obtain ⟨F,ds,s,q,p⟩:=h
 match ds,q,p with
 |[.lst es],⟨v,vs,e,⟨a,ys,e1,t,r⟩,e2⟩,p=>
  refine ⟨a,ys,by rw [e,e1,show vs=[] from e2],.inl (s.lst t),?_⟩
  rw [r.length];exact aC.int (own:=own) p s
 |[.tup es],⟨v,vs,e,⟨a,ys,e1,t,r⟩,e2⟩,p=>
  refine ⟨a,ys,by rw [e,e1,show vs=[] from e2],.inr (s.tup t),?_⟩
  rw [r.length];exact aC.int (own:=own) p s
 |[],_,p=>exact aC.stuck p
 |[.non],_,p=>exact aC.stuck p
 |[.bl _],_,p=>exact aC.stuck p
 |[.int _],_,p=>exact aC.stuck p
 |[.str _],_,p=>exact aC.stuck p
 |[.ins _ _],_,p=>exact aC.stuck p
 |[.dic _],_,p=>exact aC.stuck p
 |[.dil _],_,p=>exact aC.stuck p
 |.non::_::_,_,p=>exact aC.stuck p
 |.bl _::_::_,_,p=>exact aC.stuck p
 |.int _::_::_,_,p=>exact aC.stuck p
 |.str _::_::_,_,p=>exact aC.stuck p
 |.ins _ _::_::_,_,p=>exact aC.stuck p
 |.dic _::_::_,_,p=>exact aC.stuck p
 |.dil _::_::_,_,p=>exact aC.stuck p
 |.lst _::_::_,_,p=>exact aC.stuck p
 |.tup _::_::_,_,p=>exact aC.stuck p
end
section
variable {W:dZ} {own:Bool}
theorem mE {g:List Dat->M Dat} (J:∀ds,(∃d,ds=[d])\/g ds=stk) {xs:List V} (h:rDL K W own g xs H Q):∃F d x,aF F H/\xs=[x]/\aR K F d x/\aC K W own F H (g [d]) Q:=by
 obtain ⟨F,ds,s,q,p⟩:=h;rcases J ds with ⟨d,rfl⟩|e
 ·obtain ⟨v,vs,e,I,e2⟩:=q;exact ⟨F,d,v,s,by rw [e,show vs=[] from e2],I,p⟩
 ·rw [e] at p;exact p.stuck
theorem Bv {g:List Dat->M Dat} (Y:∀ds,(∃d,ds=[d])\/(∃d e,ds=[d,e])\/g ds=stk) {xs:List V} (h:rDL K W own g xs H Q):(∃F d x,aF F H/\xs=[x]/\aR K F d x/\aC K W own F H (g [d]) Q)\/∃F d e x y,aF F H/\xs=[x,y]/\aR K F d x/\aR K F e y/\aC K W own F H (g [d,e]) Q:=by
 obtain ⟨F,ds,s,q,p⟩:=h;rcases Y ds with ⟨d,rfl⟩|⟨d,e,rfl⟩|e
 ·obtain ⟨v,vs,e,I,e2⟩:=q;exact .inl ⟨F,d,v,s,by rw [e,show vs=[] from e2],I,p⟩
 ·obtain ⟨v,vs,e1,I,w,ws,e2,J,e3⟩:=q;exact .inr ⟨F,d,e,v,w,s,by rw [e1,e2,show ws=[] from e3],I,J,p⟩
 ·rw [e] at p;exact p.stuck
theorem rV {F:Hp}:∀{ds:List Dat} {xs:List V} {bs:List Bool},ay K F ds xs->i7 ds=.ok bs->xs=bs.map V.bl
 |[],_,_,q,e=>by cases e;exact q
 |d::ds,_,bs,⟨v,vs,e1,q,r⟩,e=>by
  cases d with
  |bl b=>
   cases e2:i7 ds with
   |error x=>simp only [i7,asB,aj,e2,ug] at e;cases e
   |ok cs=>
    simp only [i7,asB,aj,e2] at e;cases e;rw [e1,show v=.bl b from q,rV r e2];rfl
  |_=>cases e
theorem rW:∀{ds:List Dat} {e:Err},i7 ds=.error e->e=.stuck
 |[],_,h=>by cases h
 |d::ds,e,h=>by
  cases d with
  |bl b=>
   cases e2:i7 ds with
   |error x=>simp only [i7,asB,aj,e2,ug] at h;cases h;exact rW e2
   |ok cs=>simp only [i7,asB,aj,e2] at h;cases h
  |_=>cases h;rfl
theorem lQ {F:Hp}:∀{ds:List Dat} {xs:List V} {bs:List Int},ay K F ds xs->jz ds=.ok bs->xs=bs.map V.int
 |[],_,_,q,e=>by cases e;exact q
 |d::ds,_,bs,⟨v,vs,e1,q,r⟩,e=>by
  cases d with
  |int b=>
   cases e2:jz ds with
   |error x=>simp only [jz,asI,aj,e2,ug] at e;cases e
   |ok cs=>
    simp only [jz,asI,aj,e2] at e;cases e;rw [e1,show v=.int b from q,lQ r e2];rfl
  |_=>cases e
theorem lR:∀{ds:List Dat} {e:Err},jz ds=.error e->e=.stuck
 |[],_,h=>by cases h
 |d::ds,e,h=>by
  cases d with
  |int b=>
   cases e2:jz ds with
   |error x=>simp only [jz,asI,aj,e2,ug] at h;cases h;exact lR e2
   |ok cs=>simp only [jz,asI,aj,e2] at h;cases h
  |_=>cases h;rfl
theorem yB (Y:X.calm=d_) (f: ~~~(X.K=K)):qp K W own X (.builtin "all") allD:=by
 subst f;refine (call_all Y).imp fun xs H Q h=>?_;obtain ⟨F,d,x,s,e,q,p⟩:=mE (fun ds=>by match ds with|[d]=>exact .inl ⟨d,rfl⟩|[]=>exact .inr rfl|a::b::c=>exact .inr (by cases a<;>rfl)) h;cases d with
 |lst ds=>
  obtain ⟨a,ys,e1,t,r⟩:=q;have I:aC X.K W own F H ((i7 ds).bind fun bs=>.ok (.bl (bs.all id))) Q:=p;cases J:i7 ds with
  |error z=>rw [J] at I;have:=rW J;subst this;exact aC.stuck I
  |ok bs=>
   rw [J] at I;refine ⟨a,bs,by rw [e,e1],?_,aC.bl (own:=own) I s⟩
   rw [<- rV r J];exact s.lst t
 |_=>exact aC.stuck p
theorem c_list (J: ~~~(X.K=K)):qp K W d_ X (.type "list") CL:=by
 subst J;refine fZ.imp fun xs H Q h=>?_;obtain ⟨F,d,x,s,e,q,p⟩:=mE (fun ds=>by match ds with|[d]=>exact .inl ⟨d,rfl⟩|[]=>exact .inr rfl|a::b::c=>exact .inr (by cases a<;>rfl)) h;cases d with
 |lst ds=>
  obtain ⟨a,ys,e1,t,r⟩:=q;exact ⟨a,ys,by rw [e,e1],.inl (s.lst t),fun l I=>aC.lst p s r I⟩
 |tup ds=>
  obtain ⟨a,ys,e1,t,r⟩:=q;exact ⟨a,ys,by rw [e,e1],.inr (s.tup t),fun l I=>aC.lst p s r I⟩
 |_=>exact aC.stuck p
theorem c_int:qp K W own X (.type "int") intD:=DV.imp fun xs H Q h=>by
 obtain ⟨F,d,x,s,e,q,p⟩:=mE (fun ds=>by match ds with|[d]=>exact .inl ⟨d,rfl⟩|[]=>exact .inr rfl|a::b::c=>exact .inr (by cases a<;>rfl)) h;cases d with
 |int i=>exact .inl ⟨i,by rw [e,show x=.int i from q],aC.int (own:=own) p s⟩
 |bl b=>exact .inr ⟨b,by rw [e,show x=.bl b from q],aC.int (own:=own) p s⟩
 |_=>exact aC.stuck p
theorem fold_max:∀(is:List Int) (i:Int),(is.foldl tE i=i\/is.foldl tE i∈is)/\i<=is.foldl tE i/\∀a∈is,a<=is.foldl tE i
 |[],i=>⟨.inl rfl,Jz _,fun _ h=>nomatch h⟩
 |j::is,i=>by
  obtain ⟨h1,h2,J⟩:=fold_max is (tE i j);have z:(tE i j=i\/tE i j=j)/\i<=tE i j/\j<=tE i j:=by unfold tE;split<;>(refine ⟨?_,?_,?_⟩<;>first|exact .inl rfl|exact .inr rfl|omega)
  rw [Md];refine ⟨?_,Jk z.2.1 h2,fun a I=>?_⟩
  ·rcases h1 with h1|h1
   ·rw [h1];rcases z.1 with z|z
    ·exact .inl z
    ·exact .inr (by rw [z];exact EB)
   ·exact .inr (C_ _ h1)
  ·rcases v_.mp I with e|e
   ·rw [e];exact Jk z.2.2 h2
   ·exact J a e
theorem fold_min:∀(is:List Int) (i:Int),(is.foldl kj i=i\/is.foldl kj i∈is)/\is.foldl kj i<=i/\∀a∈is,is.foldl kj i<=a
 |[],i=>⟨.inl rfl,Jz _,fun _ h=>nomatch h⟩
 |j::is,i=>by
  obtain ⟨h1,h2,J⟩:=fold_min is (kj i j);have z:(kj i j=i\/kj i j=j)/\kj i j<=i/\kj i j<=j:=by unfold kj;split<;>(refine ⟨?_,?_,?_⟩<;>first|exact .inl rfl|exact .inr rfl|omega)
  rw [Md];refine ⟨?_,Jk h2 z.2.1,fun a I=>?_⟩
  ·rcases h1 with h1|h1
   ·rw [h1];rcases z.1 with z|z
    ·exact .inl z
    ·exact .inr (by rw [z];exact EB)
   ·exact .inr (C_ _ h1)
  ·rcases v_.mp I with e|e
   ·rw [e];exact Jk h2 z.2.2
   ·exact J a e
theorem yf {is:List Int} {i m:Int} (h1:m∈i::is) (h2:∀a∈i::is,a<=m):is.foldl tE i=m:=by
 obtain ⟨J,g2,I⟩:=fold_max is i;have a1:is.foldl tE i<=m:=by
  rcases J with g|g
  ·rw [g];exact h2 i EB
  ·exact h2 _ (C_ _ g)
 have Y:m<=is.foldl tE i:=by
  rcases v_.mp h1 with e|e
  ·rw [e];exact g2
  ·exact I m e
 omega
theorem ye {is:List Int} {i m:Int} (h1:m∈i::is) (h2:∀a∈i::is,m<=a):is.foldl kj i=m:=by
 obtain ⟨J,g2,I⟩:=fold_min is i;have a1:m<=is.foldl kj i:=by
  rcases J with g|g
  ·rw [g];exact h2 i EB
  ·exact h2 _ (C_ _ g)
 have Y:is.foldl kj i<=m:=by
  rcases v_.mp h1 with e|e
  ·rw [e];exact g2
  ·exact I m e
 omega
theorem DQ (l:X.calm=d_):dQ X (.builtin "max") (fun xs H Q=>∃a i is,xs=[.ref a]/\SqL X.K H a ((i::is).map V.int)/\Q (.int (is.foldl tE i)) H):=by
 intro pins s σ H xs us Q I r h;obtain ⟨a,i,is,rfl,f,q⟩:=h;obtain ⟨u,rfl,d⟩:=r.one;cases d;obtain ⟨its,c,p,o⟩:=I.list f;have hi:=intsAre_of c;obtain ⟨xs,e⟩:=hi.allInts.items;have J:i::is=xs.toList.map (·.1):=by rw [<- hi.numsOf,<- nums_intItems,<- e]
 have hsz:0<xs.size:=by
  have n:=GN Jv J;simp at n;omega
 have Y:=p.isList;rw [e] at Y;refine max_intList (I.ok.hd l) Y hsz fun v h' tk hv g=>?_;obtain ⟨t,rfl⟩:=intItems_at hv;obtain ⟨h1,h2⟩:=argBest_gt (Lk xs) (xs.size-1);refine ⟨.int _,H,I.kept g,⟨t,rfl⟩,?_⟩
 have:=yf (is:=is) (i:=i) (m:=Lk xs (argBest (fun i j=>r_ (Lk xs i>Lk xs j)) (xs.size-1))) (by
   rw [J,L9];exact getD_mem (by rw [t_,Fs];omega)) (fun a b=>by
   rw [J] at b;obtain ⟨j,k,rfl⟩:=mem_getD b;rw [t_,Fs] at k;rw [<- L9];exact h2 j (by omega))
 rw [<- this];exact q
theorem DN (l:X.calm=d_):dQ X (.builtin "min") (fun xs H Q=>∃a i is,xs=[.ref a]/\SqL X.K H a ((i::is).map V.int)/\Q (.int (is.foldl kj i)) H):=by
 intro pins s σ H xs us Q I r h;obtain ⟨a,i,is,rfl,f,q⟩:=h;obtain ⟨u,rfl,d⟩:=r.one;cases d;obtain ⟨its,c,p,o⟩:=I.list f;have hi:=intsAre_of c;obtain ⟨xs,e⟩:=hi.allInts.items;have J:i::is=xs.toList.map (·.1):=by rw [<- hi.numsOf,<- nums_intItems,<- e]
 have hsz:0<xs.size:=by
  have n:=GN Jv J;simp at n;omega
 have Y:=p.isList;rw [e] at Y;refine min_intList (I.ok.hd l) Y hsz fun v h' tk hv g=>?_;obtain ⟨t,rfl⟩:=intItems_at hv;obtain ⟨h1,h2⟩:=argBest_lt (Lk xs) (xs.size-1);refine ⟨.int _,H,I.kept g,⟨t,rfl⟩,?_⟩
 have:=ye (is:=is) (i:=i) (m:=Lk xs (argBest (fun i j=>r_ (Lk xs i<Lk xs j)) (xs.size-1))) (by
   rw [J,L9];exact getD_mem (by rw [t_,Fs];omega)) (fun a b=>by
   rw [J] at b;obtain ⟨j,k,rfl⟩:=mem_getD b;rw [t_,Fs] at k;rw [<- L9];exact h2 j (by omega))
 rw [<- this];exact q
theorem c_max (Y:X.calm=d_) (g: ~~~(X.K=K)):qp K W own X (.builtin "max") maxD:=by
 subst g;refine ((DR Y).or (DQ Y)).imp fun xs H Q h=>?_;rcases Bv (fun ds=>by match ds with|[d]=>exact .inl ⟨d,rfl⟩|[d,e]=>exact .inr (.inl ⟨d,e,rfl⟩)|[]=>exact .inr (.inr rfl)|a::b::c::d=>exact .inr (.inr (by cases a<;>cases b<;>rfl))) h with ⟨F,d,x,s,e,q,p⟩|⟨F,d,d2,x,y,s,e,q,f,p⟩
 ·cases d with
  |lst ds=>
   obtain ⟨a,ys,e1,t,r⟩:=q;have I:aC X.K W own F H ((jz ds).bind maxL) Q:=p;cases J:jz ds with
   |error z=>rw [J] at I;have:=lR J;subst this;exact aC.stuck I
   |ok is=>
    rw [J] at I;cases is with
    |nil=>exact aC.stuck I
    |cons i is=>
     refine .inr ⟨a,i,is,by rw [e,e1],?_,aC.int (own:=own) I s⟩;rw [<- lQ r J];exact s.lst t
  |_=>exact aC.stuck p
 ·cases d with
  |int i=>
   cases d2 with
   |int j=>exact .inl ⟨i,j,by rw [e,show x=.int i from q,show y=.int j from f],aC.int (own:=own) p s⟩
   |_=>exact aC.stuck p
  |_=>cases d2<;>exact aC.stuck p
theorem c_min (Y:X.calm=d_) (g: ~~~(X.K=K)):qp K W own X (.builtin "min") minD:=by
 subst g;refine ((DO Y).or (DN Y)).imp fun xs H Q h=>?_;rcases Bv (fun ds=>by match ds with|[d]=>exact .inl ⟨d,rfl⟩|[d,e]=>exact .inr (.inl ⟨d,e,rfl⟩)|[]=>exact .inr (.inr rfl)|a::b::c::d=>exact .inr (.inr (by cases a<;>cases b<;>rfl))) h with ⟨F,d,x,s,e,q,p⟩|⟨F,d,d2,x,y,s,e,q,f,p⟩
 ·cases d with
  |lst ds=>
   obtain ⟨a,ys,e1,t,r⟩:=q;have I:aC X.K W own F H ((jz ds).bind minL) Q:=p;cases J:jz ds with
   |error z=>rw [J] at I;have:=lR J;subst this;exact aC.stuck I
   |ok is=>
    rw [J] at I;cases is with
    |nil=>exact aC.stuck I
    |cons i is=>
     refine .inr ⟨a,i,is,by rw [e,e1],?_,aC.int (own:=own) I s⟩;rw [<- lQ r J];exact s.lst t
  |_=>exact aC.stuck p
 ·cases d with
  |int i=>
   cases d2 with
   |int j=>exact .inl ⟨i,j,by rw [e,show x=.int i from q,show y=.int j from f],aC.int (own:=own) p s⟩
   |_=>exact aC.stuck p
  |_=>cases d2<;>exact aC.stuck p
end
section
theorem SqL.inj {pins:Pn} {σ:St} {H:Hp} {s:z_} {a:e_} {xs ys:List V} (I:Inv X pins σ H s) (h:SqL X.K H a xs) (h':SqL X.K H a ys):xs=ys:=by
 obtain ⟨c,Y,p1,_⟩:=I.list h;obtain ⟨b,r2,p2,_⟩:=I.list h';obtain ⟨o,n,e,_,_,d⟩:=p1;obtain ⟨o',f,J,_,_,d'⟩:=p2;rw [e] at J;cases J;rw [d] at d';injection d' with d1 _
 have:c=b:=by simpa using GN Ja d1
 subst this;exact Y.inj r2
theorem SqT.inj {pins:Pn} {σ:St} {H:Hp} {s:z_} {a:e_} {xs ys:List V} (I:Inv X pins σ H s) (h:SqT X.K H a xs) (h':SqT X.K H a ys):xs=ys:=by
 obtain ⟨c,Y,p1,_⟩:=I.tuple h;obtain ⟨b,r2,p2,_⟩:=I.tuple h';obtain ⟨o,e,_,n,d⟩:=p1;obtain ⟨o',J,_,f,d'⟩:=p2;rw [e] at J;cases J;rw [d] at d';injection d' with d1 _
 have:c=b:=by simpa using GN Ja d1
 subst this;exact Y.inj r2
theorem ay.all_eq {F:Hp} (e:Nat->Bool):∀{ds es:List Dat},ds.length=es.length->(∀(j:Nat) a b,ds[j]? =a_ a->es[j]? =a_ b->e j=eqD a b)->(Fm ds.length).all e=eqDs ds es:=by
 intro ds
 induction ds generalizing e with
 |nil=>intro es h _;cases es with
  |nil=>rfl
  |cons _ _=>simp at h
 |cons d ds I=>
  intro es h q;cases es with
  |nil=>simp at h
  |cons b es=>
   rw [Ex,Kr,IP,HD,eqDs];rw [q 0 d b rfl rfl]
   congr 1
   exact I (e∘Nat.succ) (by simpa using h) fun j x y Y J=>q (j+1) x y (by simpa using Y) (by simpa using J)
theorem ox:∀{ds es:List Dat},ds.length≠es.length->eqDs ds es=b_
 |[],[],h=>Ek rfl h
 |[],_::_,_=>rfl
 |_::_,[],_=>rfl
 |d::ds,e::es,h=>by
  rw [eqDs,ox (ds:=ds) (es:=es) (fun z=>h (by simp [z])),Gm]
theorem zQ (e:Nat->Bool):∀{ds es:List Dat},(∀(j:Nat) a b,ds[j]? =a_ a->es[j]? =a_ b->e j=eqD a b)->((Fm (min ds.length es.length)).all e&&ds.length==es.length)=eqDs ds es:=by
 intro ds es q;by_cases I:ds.length=es.length
 ·have e1:min ds.length es.length=ds.length:=by omega
  rw [e1,ay.all_eq (F:=fun _=>c_) e I q,I,LA,My]
 ·rw [ox I];have:(ds.length==es.length)=b_:=by simpa using I
  rw [this,Gm]
mutual
theorem oy:∀{d:Dat} {n:Nat},okE d n=d_->eqD d d=d_
 |.non,_,_=>rfl
 |.bl b,_,_=>by simp [eqD]
 |.int i,_,_=>by simp [eqD]
 |.str x,_,_=>by simp [eqD]
 |.tup ds,0,h=>by simp [okE] at h
 |.tup ds,n+1,h=>by simp only [okE] at h;simp only [eqD];exact pO h
 |.lst ds,0,h=>by simp [okE] at h
 |.lst ds,n+1,h=>by simp only [okE] at h;simp only [eqD];exact pO h
 |.ins _ _,_,h=>by simp [okE] at h
 |.dic _,_,h=>by simp [okE] at h
 |.dil _,_,h=>by simp [okE] at h
theorem pO:∀{ds:List Dat} {n:Nat},kH ds n=d_->eqDs ds ds=d_
 |[],_,_=>rfl
 |d::ds,n,h=>by
  simp only [kH,n_] at h;simp only [eqDs,oy h.1,pO h.2,Bool.and_self]
end
theorem tf:∀{ds:List Dat} {n i:Nat} {d:Dat},kH ds n=d_->ds[i]? =a_ d->okE d n=d_
 |[],_,_,_,_,h=>by simp at h
 |_::_,_,0,_,h,e=>by
  simp only [kH,n_] at h;simp at e;rw [<- e];exact h.1
 |_::_,_,i+1,_,h,e=>by
  simp only [kH,n_] at h;exact tf h.2 (by simpa using e)
end
def k8 (ds es:List Dat) (j:Nat):Bool:=match ds[j]?,es[j]? with
 |some a,a_ b=>eqD a b
 |_,_=>d_
inductive Sh (s:z_):Dat->l_->Prop
 |non:Sh s .non .none
 |bl (b:Bool):Sh s (.bl b) (.bool b)
 |int (i:Int) (t:Nat):Sh s (.int i) (.int i t)
 |str (x:p_) (t:Nat):Sh s (.str x) (.str x t)
 |tup {ds:List Dat} {l:e_} {is:Array l_} (p:s.heap.IsTuple l is):Sh s (.tup ds) (.ref l)
 |lst {ds:List Dat} {l:e_} {is:Array l_} (p:s.heap.IsList l is):Sh s (.lst ds) (.ref l)
noncomputable def sq:Dat->Dat->Bool
 |.tup _,.tup _=>d_
 |.lst _,.lst _=>d_
 |_,_=>b_
theorem uJ {a b:Dat} (h:sq a b=d_):(∃ds es,a=.tup ds/\b=.tup es)\/∃ds es,a=.lst ds/\b=.lst es:=by
 unfold sq at h;split at h
 ·exact .inl ⟨_,_,rfl,rfl⟩
 ·exact .inr ⟨_,_,rfl,rfl⟩
 ·cases h
theorem eqAt_U {a b:Dat} {v:l_} (Y:Sh s a u) (J:Sh s b v) (I:A.units<FK):sq a b=d_\/Ie A s u v (eqD a b):=match Y,J with
 |.non,.non=>.inr (.same _)
 |.non,.bl b=>.inr (.none_bool b)
 |.non,.int b t2=>.inr (.none_int b t2)
 |.non,.str b t2=>.inr (.none_str b t2)
 |.non,.tup q=>.inr (.none_tuple q I)
 |.non,.lst q=>.inr (.none_list q I)
 |.bl a,.non=>.inr (.bool_none a)
 |.bl a,.bl b=>.inr (.bool_bool a b)
 |.bl a,.int b t2=>.inr (.bool_int a b t2)
 |.bl a,.str b t2=>.inr (.bool_str a b t2)
 |.bl a,.tup q=>.inr (.bool_tuple a q I)
 |.bl a,.lst q=>.inr (.bool_list a q I)
 |.int a t,.non=>.inr (.int_none a t)
 |.int a t,.bl b=>.inr (.int_bool a t b)
 |.int a t,.int b t2=>.inr (.int_int a t b t2)
 |.int a t,.str b t2=>.inr (.int_str a t b t2)
 |.int a t,.tup q=>.inr (.int_tuple a t q I)
 |.int a t,.lst q=>.inr (.int_list a t q I)
 |.str a t,.non=>.inr (.str_none a t)
 |.str a t,.bl b=>.inr (.str_bool a t b)
 |.str a t,.int b t2=>.inr (.str_int a t b t2)
 |.str a t,.str b t2=>.inr (.str_str a t b t2)
 |.str a t,.tup q=>.inr (.str_tuple a t q I)
 |.str a t,.lst q=>.inr (.str_list a t q I)
 |.tup p,.non=>.inr (.tuple_none p I)
 |.tup p,.bl b=>.inr (.tuple_bool b p I)
 |.tup p,.int b t2=>.inr (.tuple_int b t2 p I)
 |.tup p,.str b t2=>.inr (.tuple_str b t2 p I)
 |.tup _,.tup _=>.inl rfl
 |.tup p,.lst q=>.inr (.tuple_list p q I)
 |.lst p,.non=>.inr (.list_none p I)
 |.lst p,.bl b=>.inr (.list_bool b p I)
 |.lst p,.int b t2=>.inr (.list_int b t2 p I)
 |.lst p,.str b t2=>.inr (.list_str b t2 p I)
 |.lst p,.tup q=>.inr (.list_tuple p q I)
 |.lst _,.lst _=>.inl rfl
theorem rcAt_U {a b:Dat} {v:l_} (Y:Sh s a u) (J:Sh s b v) (I:A.units<FK):sq a b=d_\/Ld A s u v (eqD a b):=match Y,J with
 |.non,.non=>.inr (.none_none)
 |.non,.bl b=>.inr (.none_bool b)
 |.non,.int b t2=>.inr (.none_int b t2)
 |.non,.str b t2=>.inr (.none_str b t2)
 |.non,.tup q=>.inr (.none_tuple q I)
 |.non,.lst q=>.inr (.none_list q I)
 |.bl a,.non=>.inr (.bool_none a)
 |.bl a,.bl b=>.inr (.bool_bool a b)
 |.bl a,.int b t2=>.inr (.bool_int a b t2)
 |.bl a,.str b t2=>.inr (.bool_str a b t2)
 |.bl a,.tup q=>.inr (.bool_tuple a q I)
 |.bl a,.lst q=>.inr (.bool_list a q I)
 |.int a t,.non=>.inr (.int_none a t)
 |.int a t,.bl b=>.inr (.int_bool a t b)
 |.int a t,.int b t2=>.inr (.int_int a t b t2)
 |.int a t,.str b t2=>.inr (.int_str a t b t2)
 |.int a t,.tup q=>.inr (.int_tuple a t q I)
 |.int a t,.lst q=>.inr (.int_list a t q I)
 |.str a t,.non=>.inr (.str_none a t)
 |.str a t,.bl b=>.inr (.str_bool a t b)
 |.str a t,.int b t2=>.inr (.str_int a t b t2)
 |.str a t,.str b t2=>.inr (.str_str a t b t2)
 |.str a t,.tup q=>.inr (.str_tuple a t q I)
 |.str a t,.lst q=>.inr (.str_list a t q I)
 |.tup p,.non=>.inr (.tuple_none p I)
 |.tup p,.bl b=>.inr (.tuple_bool b p I)
 |.tup p,.int b t2=>.inr (.tuple_int b t2 p I)
 |.tup p,.str b t2=>.inr (.tuple_str b t2 p I)
 |.tup _,.tup _=>.inl rfl
 |.tup p,.lst q=>.inr (.tuple_list p q I)
 |.lst p,.non=>.inr (.list_none p I)
 |.lst p,.bl b=>.inr (.list_bool b p I)
 |.lst p,.int b t2=>.inr (.list_int b t2 p I)
 |.lst p,.str b t2=>.inr (.list_str b t2 p I)
 |.lst p,.tup q=>.inr (.list_tuple p q I)
 |.lst _,.lst _=>.inl rfl
theorem rcNeAt_U {a b:Dat} {v:l_} (Y:Sh s a u) (J:Sh s b v) (I:A.units<FK):sq a b=d_\/Kg A s u v (!eqD a b):=match Y,J with
 |.non,.non=>.inr (.none_none)
 |.non,.bl b=>.inr (.none_bool b)
 |.non,.int b t2=>.inr (.none_int b t2)
 |.non,.str b t2=>.inr (.none_str b t2)
 |.non,.tup q=>.inr (.none_tuple q I)
 |.non,.lst q=>.inr (.none_list q I)
 |.bl a,.non=>.inr (.bool_none a)
 |.bl a,.bl b=>.inr (.bool_bool a b)
 |.bl a,.int b t2=>.inr (.bool_int a b t2)
 |.bl a,.str b t2=>.inr (.bool_str a b t2)
 |.bl a,.tup q=>.inr (.bool_tuple a q I)
 |.bl a,.lst q=>.inr (.bool_list a q I)
 |.int a t,.non=>.inr (.int_none a t)
 |.int a t,.bl b=>.inr (.int_bool a t b)
 |.int a t,.int b t2=>.inr (.int_int a t b t2)
 |.int a t,.str b t2=>.inr (.int_str a t b t2)
 |.int a t,.tup q=>.inr (.int_tuple a t q I)
 |.int a t,.lst q=>.inr (.int_list a t q I)
 |.str a t,.non=>.inr (.str_none a t)
 |.str a t,.bl b=>.inr (.str_bool a t b)
 |.str a t,.int b t2=>.inr (.str_int a t b t2)
 |.str a t,.str b t2=>.inr (.str_str a t b t2)
 |.str a t,.tup q=>.inr (.str_tuple a t q I)
 |.str a t,.lst q=>.inr (.str_list a t q I)
 |.tup p,.non=>.inr (.tuple_none p I)
 |.tup p,.bl b=>.inr (.tuple_bool b p I)
 |.tup p,.int b t2=>.inr (.tuple_int b t2 p I)
 |.tup p,.str b t2=>.inr (.tuple_str b t2 p I)
 |.tup _,.tup _=>.inl rfl
 |.tup p,.lst q=>.inr (.tuple_list p q I)
 |.lst p,.non=>.inr (.list_none p I)
 |.lst p,.bl b=>.inr (.list_bool b p I)
 |.lst p,.int b t2=>.inr (.list_int b t2 p I)
 |.lst p,.str b t2=>.inr (.list_str b t2 p I)
 |.lst p,.tup q=>.inr (.list_tuple p q I)
 |.lst _,.lst _=>.inl rfl
section
theorem uL (I:Inv X pins σ H s) (J:aF F H) {d:Dat} {x:V} (o:okE d n=d_) (q:aR X.K F d x) (r:RelV x u):Sh s d u:=by
 cases d with
 |non=>cases (show x=.non from q);cases r;exact .non
 |bl b=>cases (show x=.bl b from q);cases r;exact .bl b
 |int i=>cases (show x=.int i from q);obtain ⟨t,rfl⟩:=r;exact .int i t
 |str y=>cases (show x=.str y from q);obtain ⟨t,rfl⟩:=r;exact .str y t
 |tup ds=>
  obtain ⟨l,xs,e,t,_⟩:=q;subst e;cases r;obtain ⟨is,_,p,_⟩:=I.tuple (J.tup t);exact .tup (show s.heap.IsTuple l is.toArray from p)
 |lst ds=>
  obtain ⟨l,xs,e,t,_⟩:=q;subst e;cases r;obtain ⟨is,_,p,_⟩:=I.list (J.lst t);exact .lst p.isList
 |_=>simp [okE] at o
theorem pR {n:Nat} (Y:∀(d e:Dat) {v:V},aR X.K F d v->aR X.K F e v->okE d n=d_->okE e n=d_->d=e):∀(ds es:List Dat) {xs:List V},ay X.K F ds xs->ay X.K F es xs->kH ds n=d_->kH es n=d_->ds=es
 |[],[],_,_,_,_,_=>rfl
 |[],_::_,_,q,⟨_,_,e,_⟩,_,_=>by rw [show _=[] from q] at e;cases e
 |_::_,[],_,⟨_,_,e,_⟩,q,_,_=>by rw [show _=[] from q] at e;cases e
 |d::ds,e::es,_,⟨v,vs,e1,c,a⟩,⟨w,ws,e2,b,r2⟩,J,I=>by
  rw [e1] at e2;cases e2;simp only [kH,n_] at J I;rw [Y d e c b J.1 I.1,pR Y ds es a r2 J.2 I.2]
theorem oz {d e:Dat} (hd:sq d d=b_) (q:aR X.K F d v) (r:aR X.K F e v) (J:okE d n=d_) (I:okE e n=d_):d=e:=by
 cases d<;>first|(cases hd;done)|(simp [okE] at J;done)|(simp only [aR] at q;subst q)
 all_goals cases e<;>first|(simp [okE] at I;done)|(simp only [aR] at r;first|(obtain ⟨_,_,z,_⟩:=r;cases z;done)|(cases r<;>rfl))
theorem tT (I:Inv X pins σ H s) (a:aF F H):∀(n:Nat) (d e:Dat) {v:V},aR X.K F d v->aR X.K F e v->okE d n=d_->okE e n=d_->d=e
 |n,.tup ds,e,v,⟨l,xs,e1,h1,b⟩,r,J,Y=>by
  subst e1;cases n with
  |zero=>simp [okE] at J
  |succ n=>
   cases e with
   |tup es=>
    obtain ⟨c,ys,e2,h2,r2⟩:=r;cases e2;cases SqT.inj I (a.tup h1) (a.tup h2);rw [pR (tT I a n) _ _ b r2 (by simpa only [okE] using J) (by simpa only [okE] using Y)]
   |lst es=>
    obtain ⟨c,ys,e2,h2,r2⟩:=r;cases e2;obtain ⟨g,_,p1,_⟩:=I.list (a.lst h2);obtain ⟨f,_,p2,_⟩:=I.tuple (a.tup h1);exact Ek rfl (Kf p1.isList (show s.heap.IsTuple l f.toArray from p2))
   |_=>first|(simp [okE] at Y;done)|(simp only [aR] at r;cases r)
 |n,.lst ds,e,v,⟨l,xs,e1,h1,b⟩,r,J,Y=>by
  subst e1;cases n with
  |zero=>simp [okE] at J
  |succ n=>
   cases e with
   |lst es=>
    obtain ⟨c,ys,e2,h2,r2⟩:=r;cases e2;cases SqL.inj I (a.lst h1) (a.lst h2);rw [pR (tT I a n) _ _ b r2 (by simpa only [okE] using J) (by simpa only [okE] using Y)]
   |tup es=>
    obtain ⟨c,ys,e2,h2,r2⟩:=r;cases e2;obtain ⟨g,_,p1,_⟩:=I.list (a.lst h1);obtain ⟨f,_,p2,_⟩:=I.tuple (a.tup h2);exact Ek rfl (Kf p1.isList (show s.heap.IsTuple l f.toArray from p2))
   |_=>first|(simp [okE] at Y;done)|(simp only [aR] at r;cases r)
 |_,.non,_,_,q,r,J,Y=>oz rfl q r J Y
 |_,.bl _,_,_,q,r,J,Y=>oz rfl q r J Y
 |_,.int _,_,_,q,r,J,Y=>oz rfl q r J Y
 |_,.str _,_,_,q,r,J,Y=>oz rfl q r J Y
 |_,.ins _ _,_,_,_,_,J,_=>by simp [okE] at J
 |_,.dic _,_,_,_,_,J,_=>by simp [okE] at J
 |_,.dil _,_,_,_,_,J,_=>by simp [okE] at J
termination_by n=>n
theorem rcAt_S {a b:Dat} {x:V} {v:l_} (I:Inv X pins σ H s) (Y:aF F H) (D:sq a b=d_) (n:aR X.K F a x) (m:aR X.K F b y) (l:RelV x u) (k:RelV y v) (h:A.units<FK)
  (r:∀(ds es:List Dat) (j:Nat) (d1 d2:Dat) (x y:V) (u v:l_),(a=.tup ds/\b=.tup es\/a=.lst ds/\b=.lst es)->ds[j]? =a_ d1->es[j]? =a_ d2->aR X.K F d1 x->aR X.K F d2 y->RelV x u->RelV y v->Ie A.in1 s u v (eqD d1 d2)):Ld A s u v (eqD a b):=by
 rcases uJ D with ⟨ds,es,rfl,rfl⟩|⟨ds,es,rfl,rfl⟩
 ·skip;obtain ⟨p,xs,e1,h1,J⟩:=n;subst e1;cases l;obtain ⟨is,w1,p1,_⟩:=I.tuple (Y.tup h1);obtain ⟨o,ys,e2,h2,r2⟩:=m;subst e2;cases k;obtain ⟨g,w2,p2,_⟩:=I.tuple (Y.tup h2);have z:=w1.length;have w:=w2.length;have C:=J.length;have B:=r2.length;have q:=SeqAt.RcAt.tuples (A:=A) (e:=k8 ds es) (show s.heap.IsTuple p is.toArray from p1) (show s.heap.IsTuple o g.toArray from p2) h (fun j h1 h2=>by
   obtain ⟨d,f1,i⟩:=w1.atA h1;obtain ⟨c,f2,g2⟩:=w2.atA h2;obtain ⟨d1,k1,m1⟩:=J.at f1;obtain ⟨d2,k2,f⟩:=r2.at f2;rw [show k8 ds es j=eqD d1 d2 by simp only [k8,k1,k2]];exact r ds es j d1 d2 d c _ _ (.inl ⟨rfl,rfl⟩) k1 k2 m1 f i g2)
  rw [show is.toArray.size=ds.length by simp;omega,show g.toArray.size=es.length by simp;omega,zQ _ (fun j a b h1 h2=>by simp only [k8,h1,h2])] at q;exact q
 ·skip;obtain ⟨p,xs,e1,h1,J⟩:=n;subst e1;cases l;obtain ⟨is,w1,p1,_⟩:=I.list (Y.lst h1);obtain ⟨o,ys,e2,h2,r2⟩:=m;subst e2;cases k;obtain ⟨g,w2,p2,_⟩:=I.list (Y.lst h2);have z:=w1.length;have w:=w2.length;have C:=J.length;have B:=r2.length;by_cases t:ds.length=es.length
  ·have q:=SeqAt.RcAt.lists (A:=A) (e:=k8 ds es) p1.isList p2.isList (by simp;omega) h (fun j h1 h2=>by
   obtain ⟨d,f1,i⟩:=w1.atA h1;obtain ⟨c,f2,g2⟩:=w2.atA h2;obtain ⟨d1,k1,m1⟩:=J.at f1;obtain ⟨d2,k2,f⟩:=r2.at f2;rw [show k8 ds es j=eqD d1 d2 by simp only [k8,k1,k2]];exact r ds es j d1 d2 d c _ _ (.inr ⟨rfl,rfl⟩) k1 k2 m1 f i g2)
   rw [show is.toArray.size=ds.length by simp;omega,ay.all_eq (F:=F) _ t (fun j a b h1 h2=>by simp only [k8,h1,h2])] at q;exact q
  ·rw [show eqD (.lst ds) (.lst es)=b_ from ox t];exact SeqAt.RcAt.lists_lengths (A:=A) p1.isList p2.isList (by simp;omega) h
theorem rcNeAt_S {a b:Dat} {x:V} {v:l_} (I:Inv X pins σ H s) (Y:aF F H) (D:sq a b=d_) (n:aR X.K F a x) (m:aR X.K F b y) (l:RelV x u) (k:RelV y v) (h:A.units<FK)
  (r:∀(ds es:List Dat) (j:Nat) (d1 d2:Dat) (x y:V) (u v:l_),(a=.tup ds/\b=.tup es\/a=.lst ds/\b=.lst es)->ds[j]? =a_ d1->es[j]? =a_ d2->aR X.K F d1 x->aR X.K F d2 y->RelV x u->RelV y v->Ie A.in1 s u v (eqD d1 d2)):Kg A s u v (!eqD a b):=by
 rcases uJ D with ⟨ds,es,rfl,rfl⟩|⟨ds,es,rfl,rfl⟩
 ·skip;obtain ⟨p,xs,e1,h1,J⟩:=n;subst e1;cases l;obtain ⟨is,w1,p1,_⟩:=I.tuple (Y.tup h1);obtain ⟨o,ys,e2,h2,r2⟩:=m;subst e2;cases k;obtain ⟨g,w2,p2,_⟩:=I.tuple (Y.tup h2);have z:=w1.length;have w:=w2.length;have C:=J.length;have B:=r2.length;have q:=SeqAt.RcNeAt.tuples (A:=A) (e:=k8 ds es) (show s.heap.IsTuple p is.toArray from p1) (show s.heap.IsTuple o g.toArray from p2) h (fun j h1 h2=>by
   obtain ⟨d,f1,i⟩:=w1.atA h1;obtain ⟨c,f2,g2⟩:=w2.atA h2;obtain ⟨d1,k1,m1⟩:=J.at f1;obtain ⟨d2,k2,f⟩:=r2.at f2;rw [show k8 ds es j=eqD d1 d2 by simp only [k8,k1,k2]];exact r ds es j d1 d2 d c _ _ (.inl ⟨rfl,rfl⟩) k1 k2 m1 f i g2)
  rw [show is.toArray.size=ds.length by simp;omega,show g.toArray.size=es.length by simp;omega,zQ _ (fun j a b h1 h2=>by simp only [k8,h1,h2])] at q;exact q
 ·skip;obtain ⟨p,xs,e1,h1,J⟩:=n;subst e1;cases l;obtain ⟨is,w1,p1,_⟩:=I.list (Y.lst h1);obtain ⟨o,ys,e2,h2,r2⟩:=m;subst e2;cases k;obtain ⟨g,w2,p2,_⟩:=I.list (Y.lst h2);have z:=w1.length;have w:=w2.length;have C:=J.length;have B:=r2.length;by_cases t:ds.length=es.length
  ·have q:=SeqAt.RcNeAt.lists (A:=A) (e:=k8 ds es) p1.isList p2.isList (by simp;omega) h (fun j h1 h2=>by
   obtain ⟨d,f1,i⟩:=w1.atA h1;obtain ⟨c,f2,g2⟩:=w2.atA h2;obtain ⟨d1,k1,m1⟩:=J.at f1;obtain ⟨d2,k2,f⟩:=r2.at f2;rw [show k8 ds es j=eqD d1 d2 by simp only [k8,k1,k2]];exact r ds es j d1 d2 d c _ _ (.inr ⟨rfl,rfl⟩) k1 k2 m1 f i g2)
   rw [show is.toArray.size=ds.length by simp;omega,ay.all_eq (F:=F) _ t (fun j a b h1 h2=>by simp only [k8,h1,h2])] at q;exact q
  ·rw [show eqD (.lst ds) (.lst es)=b_ from ox t];exact SeqAt.RcNeAt.lists_lengths (A:=A) p1.isList p2.isList (by simp;omega) h
theorem ok_sub {a b:Dat} {j:Nat} {ds es:List Dat} (I:okE a n=d_) (J:okE b n=d_) (h:a=.tup ds/\b=.tup es\/a=.lst ds/\b=.lst es) (k1:ds[j]? =a_ d1) (k2:es[j]? =a_ d2):∃m,n=m+1/\okE d1 m=d_/\okE d2 m=d_:=by
 cases n with
 |zero=>rcases h with ⟨rfl,rfl⟩|⟨rfl,rfl⟩<;>simp [okE] at I
 |succ m=>exact ⟨m,rfl,by rcases h with ⟨rfl,rfl⟩|⟨rfl,rfl⟩<;>simp only [okE] at I J<;>exact ⟨tf I k1,tf J k2⟩⟩
theorem eqAt_N (I:Inv X pins σ H s) (g:aF F H):∀(n:Nat) (a b:Dat) {x y:V} {u v:l_} {A:GH},okE a n=d_->okE b n=d_->aR X.K F a x->aR X.K F b y->RelV x u->RelV y v->A.units+n<FK->Ie A s u v (eqD a b):=by
 intro n
 induction n with
 |zero=>
  intro a b x y u v A Y i J f d c w;refine (eqAt_U (uL I g Y J d) (uL I g i f c) (by omega)).resolve_left fun h=>?_;rcases uJ h with ⟨ds,es,rfl,rfl⟩|⟨ds,es,rfl,rfl⟩<;>simp [okE] at Y
 |succ n t=>
  intro a b x y u v A Y i J f d c w;rcases eqAt_U (A:=A) (uL I g Y J d) (uL I g i f c) (by omega) with h|h
  ·by_cases k:x=y
   ·subst k;cases (show a=b from tT I g (n+1) a b J f Y i);rw [oy Y];rcases uJ h with ⟨ds,es,rfl,_⟩|⟨ds,es,rfl,_⟩<;>(obtain ⟨r,xs,e1,_⟩:=J;subst e1;cases d;cases c;exact SeqAt.EqAt.same _)
   ·have q:=rcAt_S (A:=A) I g h J f d c (by omega) fun ds es j d1 d2 E D K G B k1 k2 m1 p C g2=>by
     obtain ⟨m,e,o,l⟩:=ok_sub Y i B k1 k2;cases e;exact t d1 d2 o l m1 p C g2 (by show A.units+1+n<FK;omega)
    rcases uJ h with ⟨ds,es,rfl,rfl⟩|⟨ds,es,rfl,rfl⟩<;>(obtain ⟨r,xs,e1,_⟩:=J;obtain ⟨L,ys,e2,_⟩:=f;subst e1;subst e2;cases d;cases c;exact SeqAt.EqAt.of_refs (fun z=>k (by rw [z])) q)
  ·exact h
theorem De (I:Inv X pins σ H s) (h:aF F H) (a b:Dat) {x:V} {v:l_} (f:okE a n=d_) (e:okE b n=d_) (d:aR X.K F a x) (c:aR X.K F b y) (Y:RelV x u) (J:RelV y v) (g:A.units+n<FK):Ie A s u v (eqD a b):=eqAt_N I h n a b f e d c Y J g
theorem eqAt_I (I:Inv X pins σ H s) (g:aF F H) {a b:Dat} (Y:okE a n=d_) (J:okE b n=d_) (i:A.units+n<FK) (ds es:List Dat) (j:Nat) (d1 d2:Dat) (x y:V) (u v:l_) (f:a=.tup ds/\b=.tup es\/a=.lst ds/\b=.lst es) (k1:ds[j]? =a_ d1) (k2:es[j]? =a_ d2) (m1:aR X.K F d1 x) (e:aR X.K F d2 y) (h:RelV x u) (g2:RelV y v):Ie A.in1 s u v (eqD d1 d2):=by
 obtain ⟨m,rfl,d,c⟩:=ok_sub Y J f k1 k2;exact De I g d1 d2 d c m1 e h g2 (by show A.units+1+m<FK;omega)
theorem rcAt_D (I:Inv X pins σ H s) (J:aF F H) (a b:Dat) {x:V} {v:l_} (g:okE a n=d_) (f:okE b n=d_) (e:aR X.K F a x) (d:aR X.K F b y) (c:RelV x u) (Y:RelV y v) (i:A.units+n<FK):Ld A s u v (eqD a b):=
 (rcAt_U (uL I J g e c) (uL I J f d Y) (by omega)).elim (fun h=>rcAt_S I J h e d c Y (by omega) (eqAt_I I J g f i)) id
theorem rcNeAt_D (I:Inv X pins σ H s) (J:aF F H) (a b:Dat) {x:V} {v:l_} (g:okE a n=d_) (f:okE b n=d_) (e:aR X.K F a x) (d:aR X.K F b y) (c:RelV x u) (Y:RelV y v) (i:A.units+n<FK):Kg A s u v (!eqD a b):=
 (rcNeAt_U (uL I J g e c) (uL I J f d Y) (by omega)).elim (fun h=>rcNeAt_S I J h e d c Y (by omega) (eqAt_I I J g f i)) id
end
section
variable {W:dZ} {own:Bool}
theorem aC.blS {b:Bool} (p:aC K W own F H (.ok (.bl b)) Q) (J:aF F H) (I:Inv X pins σ H s):EP X pins σ Q (.bool b) s:=⟨.bl b,H,I,rfl,p.bl J⟩
theorem oi (i:X.A.units+64<FK) (g: ~~~(X.K=K)):Op2 K W own X (Es .Eq) eqM:=by
 subst g;intro pins s σ H x y v u Q I d c h;obtain ⟨F,a,b,Y,f,e,p⟩:=h;unfold eqM at p;by_cases J:(okE a 40&&okE b 40)=d_
 ·rw [f_ J] at p;simp only [n_] at J;exact rcAt_D I Y a b J.1 J.2 f e d c (by omega) _ _ _ _ (p.blS Y I)
 ·rw [m_ J] at p;exact p.stuck
theorem tj (i:X.A.units+64<FK) (g: ~~~(X.K=K)):Op2 K W own X (Es .NotEq) neM:=by
 subst g;intro pins s σ H x y v u Q I d c h;obtain ⟨F,a,b,Y,f,e,p⟩:=h;unfold neM at p;by_cases J:(okE a 40&&okE b 40)=d_
 ·rw [f_ J] at p;simp only [n_] at J;exact rcNeAt_D I Y a b J.1 J.2 f e d c (by omega) _ _ _ _ (p.blS Y I)
 ·rw [m_ J] at p;exact p.stuck
end
section
theorem Inv.Bw {t':Nat} {T:e_} {xs:List V} (I:Inv X pins σ H s) (h:∀b∈ch,Bq X pins H b) (k:∀b o,b∉ch->s.heap.get? b=a_ o->h'.get? b=a_ o) (i:s.heap.objs.size<=T)
  (g:xs.length<=g_/\∃its:List l_,Vals xs its/\MU h' T its.toArray):Inv X pins σ (upd H T (.tup xs)) {s with heap:=h',toks:=t'}:=by
 have J:H T=c_:=I.hok.fresh i;have a:∀b u,H b=a_ u->b∉ch:=fun b u e z=>by rw [(h b z).1] at e;cases e
 have f:∀{b:e_} {o:Io},s.heap.get? b=a_ o->b≠T:=fun {b o} e=>EA (Em (y_ e) i);refine I.step (g':=s.gens) (d':=s.drawn) (ch:=ch) (fun b d=>?_) (fun b o _ _ Y e _=>k b o Y e) (fun b o _ _ Y e _=>⟨o.slots,k b o Y e⟩) (fun b o _ e n=>by rw [aq (f e)];exact n)
  (fun b o Y e=>⟨o,k b o Y e⟩) (fun b ys e=>by rw [aq (aL e J)];exact e) (fun b o u e=>by rw [aq (aL e J)];exact e) (fun b ps e=>⟨#[],by rw [aq (aL e J),e];simp⟩) (fun m l=>?_) (fun b u e=>?_) I.bare
 ·obtain ⟨f0,f1,f2,f3,f4,f5⟩:=h b d;exact ⟨f3,f1,f4,f5⟩
 ·obtain ⟨o,es,ep,j,r⟩:=l;exact ⟨o,es,ep,k _ o (fun z=>(h _ z).2.1 rfl) j,r⟩
 ·by_cases d:b=T
  ·subst d;rw [ao] at e;cases e;exact g
  ·rw [aq d] at e;refine (I.hok b u e).wW (fun c v Y q=>k c v ?_ q) (fun c q=>?_) fun c ys q=>?_
   ·rcases Y with z|z
    ·rw [z];exact a b u e
    ·exact a c _ z
   ·rw [aq (aL q J)];exact q
   ·rw [aq (aL q J)];exact q
theorem Inv.Bx {t':Nat} (I:Inv X pins σ H s) (a:∀b∈ch,Bq X pins H b) (k:∀b o,b∉ch->s.heap.get? b=a_ o->h'.get? b=a_ o):Inv X pins σ H {s with heap:=h',toks:=t'}:=by
 have Y:∀b u,H b=a_ u->b∉ch:=fun b u e z=>by rw [(a b z).1] at e;cases e
 refine I.step (g':=s.gens) (d':=s.drawn) (ch:=ch) (fun b g=>?_) (fun b o _ _ J e _=>k b o J e) (fun b o _ _ J e _=>⟨o.slots,k b o J e⟩) (fun b o _ e n=>n)
  (fun b o J e=>⟨o,k b o J e⟩) (fun b ys e=>e) (fun b o u e=>e) (fun b ps e=>⟨#[],by rw [e];simp⟩) (fun m f=>?_) (fun b u e=>?_) I.bare
 ·obtain ⟨f0,f1,f2,f3,f4,f5⟩:=a b g;exact ⟨f3,f1,f4,f5⟩
 ·obtain ⟨o,es,ep,d,r⟩:=f;exact ⟨o,es,ep,k _ o (fun z=>(a _ z).2.1 rfl) d,r⟩
 ·refine (I.hok b u e).wW (fun c v J q=>k c v ?_ q) (fun _ q=>q) fun _ _ q=>q;rcases J with z|z
  ·rw [z];exact Y b u e
  ·exact Y c _ z
end
section
variable {W:dZ} {own:Bool} {a b:Fe} {f:ah->M Dat} {fr:ah->M (List Dat)} 
theorem cH:PTs X [] (tDT K W ia):=fun pins s σ H Q I h=>xA pins s σ H Q I (by
 obtain ⟨F,ρ,r,J,q⟩:=h;exact q F H (Step.refl J))
theorem pQ:PGs X [] (ir []):=sQ
theorem fP {is:List Nat} (a:X.N.Nodup) (h2:PGs X es (ir is)) (hi: ~~~(X.N[i]? =a_ x)) (I:Loc X.env.scope x:=by first|exact Or.inl rfl|exact Or.inr rfl) (Y:autoParam (X.fn x=d_\/X.env.scope.names.lookup x=a_ .local) Jq3)
  (J: ~~~((FW (.Name x p::es) X.env).map (·.2)=HZ (.Name x p) X.env::(FW es X.env).map (·.2))):PGs X (.Name x p::es) (ir (i::is)):=cL (cQ a hi I Y) h2 J
theorem Dx {k:Nat} {is:List Nat} (Y:X.calm=d_) (h:PGs X es (ir is)) (J: ~~~((FW es X.env).length=is.length)) (I: ~~~((FW es X.env).findIdx? (·.1)=c_)) (a: ~~~(X.K=K)):DG K X (.Tuple es k pos) (.tp is):=by
 subst a;exact zt Y h J I
theorem nj {ix:List (Option Nat)}:∀{is:List Nat},(∀i∈is,ix[i]? =a_ c_)->∀vs σ' H' (Q:St->Hp->Prop),ir is vs σ' H' Q->ir is vs σ' H' fun I H2=>Q I H2/\∀(i:Nat) v,σ'[i]? =a_ (a_ v)->(∃j,ix[i]? =a_ (a_ j))->I[i]? =a_ (a_ v)
 |[],_,vs,σ',H',Q,⟨e,q⟩=>⟨e,q,fun _ _ h _=>h⟩
 |i::is,c,vs,σ',H',Q,⟨v,r,e,q⟩=>by
  refine ⟨v,r,e,?_⟩
  have:=nj (ix:=ix) (is:=is) (fun j k=>c j (by simp [k])) r (σ'.set i (a_ v)) H' Q q;have Y:∀{is:List Nat} {vs:List V} {J:St} {H1:Hp} {Q a:St->Hp->Prop},(∀I H2,Q I H2->a I H2)->ir is vs J H1 Q->ir is vs J H1 a:=by
   intro is
   induction is with
   |nil=>rintro vs J H1 Q a m ⟨e,q⟩;exact ⟨e,m _ _ q⟩
   |cons i is g=>rintro vs J H1 Q a m ⟨v,r,e,q⟩;exact ⟨v,r,e,g m q⟩
  refine Y (fun I H2 ⟨f,d⟩=>⟨f,fun j w h ⟨l,b⟩=>d j w ?_ ⟨l,b⟩⟩) this;have:i≠j:=by rintro rfl;rw [c i (by simp)] at b;cases b
  rw [o_ this];exact h
theorem vE {is:List Nat} (h:∀i∈is,ix[i]? =a_ c_):qm ix (gP K (.tp is)):=fun x σ' H' Q ⟨a,xs,e,t,l,q⟩=>⟨a,xs,e,t,l,nj h xs σ' H' Q q⟩
theorem du (Y:N'.Nodup) (hi: ~~~(N'[i]? =a_ x)) (I:Loc (b8 X N' sc L cs s H fp).env.scope x:=by first|exact Or.inl rfl|exact Or.inr rfl)
  (J:autoParam ((b8 X N' sc L cs s H fp).fn x=d_\/(b8 X N' sc L cs s H fp).env.scope.names.lookup x=a_ .local) Jq3):DG K (b8 X N' sc L cs s H fp) (.Name x pos) (.nm i):=pg_c Y hi I J
variable {pt:Pat} 
theorem cI (N':List p_) (ix:List (Option Nat)) (hi:DI K W X tg iter fi) (c:∀L cs s H fp,DG K (b8 X N' sc L cs s H fp) tg pt) (a:qm ix (gP K pt))
  (J:∀L cs s H fp,PTs (b8 X N' sc L cs s H fp) ifs (tDT K W ft)) (d:∀L cs s H fp,DE K W b_ (b8 X N' sc L cs s H fp) elt fe) (e: ~~~(X.calm=d_))
  (I: ~~~(bB X.N X.env.scope N' sc ix=d_)) (b: ~~~(sc.kind=.function)) (Y:autoParam (∀x,Gi iter X.env x=FF x) Jq4) :
  DE K W d_ X (.ListComp elt [⟨tg,iter,ifs,0⟩] sc pos) (dP fi ix pt ft fe):=(xI N' ix e hi c a J d I b Y).imp fun _ _ _=>xo
theorem tD_fr (h:tD K W own f σ H Q):tD K W d_ f σ H Q:=by
 cases own with
 |true=>exact h
 |false=>obtain ⟨F,ρ,r,s,p⟩:=h;exact ⟨F,ρ,r,s,p.frz⟩
theorem tP (own:Bool) (N':List p_) (ix:List (Option Nat)) (j:X.N.Nodup) (hi:DI K W X tg iter fi) (f:∀L cs s H fp,DG K (b8 X N' sc L cs s H fp) tg pt) (c:qm ix (gP K pt))
  (a:∀L cs s H fp,PTs (b8 X N' sc L cs s H fp) ifs (tDT K W ft)) (g:∀L cs s H fp,DE K W b_ (b8 X N' sc L cs s H fp) elt fe) (e: ~~~(X.N[i]? =a_ x)) (Y: ~~~(X.env.scope.names.lookup x=a_ .local)) (h: ~~~(X.calm=d_))
  (I: ~~~(FV (.ListComp elt [⟨tg,iter,ifs,0⟩] sc pos) (a_ (.Name x py)) spos.line X.env=FF d_))
  (J: ~~~(bB X.N X.env.scope N' sc ix=d_)) (d: ~~~(sc.kind=.function)) (b:autoParam (∀x,Gi iter X.env x=FF x) Jq4) :
  DS K W ro X OL O (aft own i O) (.Assign [.Name x py] (.ListComp elt [⟨tg,iter,ifs,0⟩] sc pos) spos) (bH O i (dP fi ix pt ft fe)):=fun F0 H0=>
 (rm N' ix j e Y h hi f c a g I J d b).imp fun D σ H t=>xo (tD_fr (xn t))
theorem ds_setI {r:M4} (g:DE K W b_ X e f) (d:DE K W b_ X b fk) (c:(i∈O)⁻¹) (j: ~~~(X.N[i]? =a_ x)) (hv:autoParam (Vis X.env.scope x) Jq5) (hd:((x==("__debug__":p_))=b_)⁻¹) (Y:((x==("__classdict__":p_))=b_)⁻¹)
  (h:autoParam (∀v,HZ (.Subscript (.Name x p) b q) X.env v=(do
   let I <- HU [v] (Eu (.Name x p) X.env)
   let J <- HU [v,I] (Eu b X.env)
   JC q
   HU [v,I,J] (MH I J v)
   release [v,I,J] [])) Jq4) (a: ~~~(K6 [.Subscript (.Name x p) b q] e r.line X.env=FF b_)) (hw: ~~~(K7 [.Subscript (.Name x p) b q] e X.env=FF c_))
  (h1: ~~~((FW [.Subscript (.Name x p) b q] X.env).map (·.2)=[HZ (.Subscript (.Name x p) b q) X.env])) :
  DS K W ro X OL O O (.Assign [.Subscript (.Name x p) b q] e r) (Ah i fk f):=fun F0 H0=>(zp g (pg_sub (pv i j hv hd Y) d set_list h) a hw h1).imp fun _ _ _=>rs_setI c
theorem ds_unpB {pt:Pat} (Y:DE K W b_ X e f) (J:DG K X tg pt) (n:(∀i∈pt.names,i∉O)⁻¹) (I: ~~~(K6 [tg] e pos.line X.env=FF b_)) (hw: ~~~(K7 [tg] e X.env=FF c_))
  (h1: ~~~((FW [tg] X.env).map (·.2)=[HZ tg X.env])):DS K W ro X OL O O (.Assign [tg] e pos) (xm O pt f):=fun F0 H0=>(zp Y J I hw h1).imp fun _ _ _=>rs_unpB n
def spF (K:Fg) (ro:Bool) (g:List Dat->M Dat) (n:Nat):Sp:=fun vs H Q _=>∃F ds,aF F H/\ay K F ds vs/\ds.length=n/\aC K Wno ro F H (g ds) Q
theorem sI {g:ah->M Flo} {ds:List Dat} (h:ds.length≠n):bL nN n g ds=stk:=by unfold bL;rw [m_ h]
theorem de_call {k:Nat} {g:ah->M Flo} (F:i9 X.prog X.w X.K X.mg X.base CX0 k fad fd ps (spF K ro (bL nN n g) n)) (f:i8 k X.A) (i:X.mg x=a_ (.ref fad)) (j:GD X.K (.ref fad)=d_) (m:Binds X.K fd ps [])
  (o:DA K Wno X (e::es) fr) (l: ~~~(Gl X x)) (a:((x==("__debug__":p_))=b_)⁻¹) (J: ~~~(i_ (e::es) X.env=(b_,Eu e X.env)::i_ es X.env)) (Y: ~~~((EN pos (i_ es X.env)).any (·.1)=b_)) :
  DE K Wno ro X (.Call (.Name x p) (e::es) [] pos) (fL (bL nN n g) fr):=by
 refine PE.imp (ph F f l i j m .nil pj o a J Y) fun σ H Q h=>?_;obtain ⟨F,ρ,r,s,p⟩:=rd_L h;refine ⟨F,ρ,r,s,?_⟩
 cases e1:fr ρ with
 |error z=>rw [e1] at p;exact p
 |ok ds=>
  rw [e1] at p;intro vs F' H' st q;obtain ⟨F1,I,c,d,z⟩:=p vs F' H' st q;show spF K ro (bL nN n g) n (vs++[]) H' Q E0;rw [GK];by_cases b:I.length=n
  ·exact ⟨F1,I,c,d,b,z⟩
  ·rw [sI b] at z;exact aC.stuck z
end
section
variable {base:EY}
theorem uI {ds:List Dat} {d:Dat} (q:ay K F ds vs) (h:(ds.map a_++Fv (N.length-ds.length) c_)[i]? =a_ (a_ d)):∃v,(start N vs)[i]? =a_ (a_ v)/\aR K F d v:=by
 have hi:i<ds.length:=by
  by_cases hi:i<ds.length
  ·exact hi
  ·rw [GY (by simpa using hi),Ic] at h;split at h<;>cases h
 rw [Gb (by simpa using hi),E_] at h;cases e:ds[i]? with
 |none=>rw [e] at h;cases h
 |some d'=>
  rw [e] at h;cases h;obtain ⟨v,e1,I⟩:=q.get e;refine ⟨v,?_,I⟩
  unfold start;rw [Gb (by rw [t_,q.length];exact hi),E_,e1];rfl
theorem fn_D {k:Nat} (F:Fun K x qual st f fd) (S:fK N ps (aD st)) (ro:Bool) (g:ah->M Flo)
  (b:∀(cdv:l_) (A:GH) (outer:List JY) (s:z_) (H:Hp) (E:XK),i8 k (A.deeper (GR qual (aD st) s.heap.objs.size f cdv)) ->
   DSs K Wno ro (yx CX0 P w K mg base N qual (aD st) f cdv A outer s H E).nox [] [] O' (bF st) g):i9 P w K mg base CX0 (k+1) f fd ps (spF K ro (bL N.length ps.length g) ps.length):=by
 have Y:ps.length<=N.length:=by have:=GN Jv S.pre;rw [Gk] at this;omega
 refine F.okX S (fun vs H Q E ⟨F,ds,s,q,l,p⟩=>by rw [q.length,l]) fun cdv A outer s H vs Q E J ⟨F1,ds,I,q,l,p⟩=>⟨_,b cdv A outer s H E J F1 H,F1,F1,ds.map a_++Fv (N.length-ds.length) c_,?_,?_⟩
 ·refine ⟨Step.refl I,aF.refl _,?_,fun i d e _=>uI q e,(fun i d e h=>nomatch h),(fun i j ds es a h=>nomatch h)⟩
  unfold start;rw [Ey,Ey,t_,t_,FH,FH,q.length]
 ·have e1:bL N.length ps.length g ds=(g (ds.map a_++Fv (N.length-ds.length) c_)).bind fun fl=>match fl with
   |.nx _=>.ok .non
   |.rt d=>.ok d
   |_=>stk:=by
    unfold bL;exact f_ l
  rw [e1] at p;cases e2:g (ds.map a_++Fv (N.length-ds.length) c_) with
  |error z=>rw [e2] at p;exact p
  |ok fl=>
   rw [e2] at p;cases fl with
   |nx ρ=>exact fun σ F H r=>p .non F H r.st (by cases ro<;>rfl)
   |rt d=>exact fun v F H st q=>p v F H st q
   |bk ρ=>exact aC.stuck p
   |ct ρ=>exact aC.stuck p
def spLaw (K:Fg):Sp:=fun vs H Q _=>∃(a:e_) (ns:List Int),vs=[.ref a]/\SqL K H a (ns.map V.int)/\ns.length<=63/\∀H',Q (.bl d_) H'
theorem rM {F:Hp}:∀is:List Int,ay K F (is.map Dat.int) (is.map V.int)
 |[]=>rfl
 |i::is=>⟨.int i,is.map V.int,rfl,rfl,rM is⟩
theorem law_ok {k:Nat} {mlaw:Nat->List Dat->M Dat} (F:∀n,i9 P w K mg base CX0 k f fd [x] (spF K ro (mlaw n) 1)) (h:∀ns:List Int,ns.length<=63->∃n,mlaw n [.lst (ns.map .int)]=.ok (.bl d_)):i9 P w K mg base CX0 k f fd [x] (spLaw K):=by
 refine ⟨fun vs H Q E ⟨a,ns,e,_⟩=>by rw [e];rfl,fun A outer s H I us vs Q E J d g hv ⟨a,ns,e,Y,c,q⟩=>?_⟩
 obtain ⟨n,b⟩:=h ns c;refine (F n).run A outer s H I us vs Q E J d g hv ⟨H,[.lst (ns.map .int)],aF.refl _,⟨.ref a,[],e,⟨a,_,rfl,Y,rM ns⟩,rfl⟩,rfl,?_⟩;rw [b];intro v F' H' st z;have:v=.bl d_:=by cases ro<;>exact z
 rw [this];exact q H'
end
structure Kit (K:Fg):Prop where
 Ce:ES K (.type "int") (.type "int")=a_ d_
 Ar:ES K (.type "bool") (.type "int")=a_ d_
 Ao:ES K (.type "list") (.type "int")=a_ b_
 xq:ES K (.type "tuple") (.type "int")=a_ b_
 Cd:ES K (.type "str") (.type "int")=a_ b_
 qF:ES K (.type "NoneType") (.type "int")=a_ b_
 Aq:ES K (.type "int") (.type "bool")=a_ b_
 xy:ES K (.type "bool") (.type "bool")=a_ d_
 xu:ES K (.type "list") (.type "bool")=a_ b_
 ve:ES K (.type "tuple") (.type "bool")=a_ b_
 An:ES K (.type "str") (.type "bool")=a_ b_
 oY:ES K (.type "NoneType") (.type "bool")=a_ b_
 Ap:ES K (.type "int") (.type "list")=a_ b_
 xx:ES K (.type "bool") (.type "list")=a_ b_
 xt:ES K (.type "list") (.type "list")=a_ d_
 uZ:ES K (.type "tuple") (.type "list")=a_ b_
 Am:ES K (.type "str") (.type "list")=a_ b_
 oX:ES K (.type "NoneType") (.type "list")=a_ b_
 xw:ES K (.type "int") (.type "tuple")=a_ b_
 vg:ES K (.type "bool") (.type "tuple")=a_ b_
 vf:ES K (.type "list") (.type "tuple")=a_ b_
 sN:ES K (.type "tuple") (.type "tuple")=a_ d_
 xr:ES K (.type "str") (.type "tuple")=a_ b_
 nP:ES K (.type "NoneType") (.type "tuple")=a_ b_
 q_int_str:ES K (.type "int") (.type "str")=a_ b_
 q_bool_str:ES K (.type "bool") (.type "str")=a_ b_
 q_list_str:ES K (.type "list") (.type "str")=a_ b_
 q_tuple_str:ES K (.type "tuple") (.type "str")=a_ b_
 q_str_str:ES K (.type "str") (.type "str")=a_ d_
 q_NoneType_str:ES K (.type "NoneType") (.type "str")=a_ b_
section
variable {W:dZ} {own:Bool} {a:Fe} 
theorem isi_D {d:Dat} {x:V} {a b bl Y bs:Bool} {Q:Vp} (I:Inv X pins σ H s) (J:aF F H) (q:aR X.K F d x) (r:RelV x u)
  (hi:ES X.K (.type "int") (.type T)=a_ a) (v:ES X.K (.type "bool") (.type T)=a_ b) (p:ES X.K (.type "list") (.type T)=a_ bl) (j:ES X.K (.type "tuple") (.type T)=a_ Y)
  (m:ES X.K (.type "str") (.type T)=a_ bs) (n:ES X.K (.type "NoneType") (.type T)=a_ bn)
  (h:∀k tk,(match d with|.int _=>k=a|.bl _=>k=b|.lst _=>k=bl|.tup _=>k=Y|.str _=>k=bs|.non=>k=bn|.ins _ _=>False|.dic _=>False|.dil _=>False)->Q (.bool k) {s with toks:=tk}) (c:∀C fs,d≠.ins C fs) (g:∀ks,d≠.dic ks) (f:∀ks,d≠.dil ks) :
  Cb (Eg X.prog X.w) X.A (Hw (.builtin "isinstance") [u,.type T]) Q X.xe s:=by
 cases d with
 |non=>cases (show x=.non from q);cases r;exact Gy KQ I.kIn Fl n (fun z=>nomatch z) fun tk=>h _ tk rfl
 |bl y=>cases (show x=.bl y from q);cases r;exact Gy KS I.kIn Fl v (fun z=>nomatch z) fun tk=>h _ tk rfl
 |int i=>cases (show x=.int i from q);obtain ⟨t,rfl⟩:=r;exact Gy La I.kIn Fl hi (fun z=>nomatch z) fun tk=>h _ tk rfl
 |str y=>cases (show x=.str y from q);obtain ⟨t,rfl⟩:=r;exact Gy K_ I.kIn Fl m (fun z=>nomatch z) fun tk=>h _ tk rfl
 |lst ds=>
  obtain ⟨l,xs,e,t,_⟩:=q;subst e;cases r;obtain ⟨its,_,pl,_⟩:=I.list (J.lst t);obtain ⟨o,h1,h2,_⟩:=pl.isList;exact Gy IL I.kIn ⟨o,h1,h2⟩ p (fun z=>nomatch z) fun tk=>h _ tk rfl
 |tup ds=>
  obtain ⟨l,xs,e,t,_⟩:=q;subst e;cases r;obtain ⟨its,_,pl,_⟩:=I.tuple (J.tup t);obtain ⟨o,h1,h2,_⟩:=pl;exact Gy KC I.kIn ⟨o,h1,h2⟩ j (fun z=>nomatch z) fun tk=>h _ tk rfl
 |ins C fs=>exact Ek rfl (c C fs)
 |dic ks=>exact Ek rfl (g ks)
 |dil ks=>exact Ek rfl (f ks)
theorem zW {y:p_} {g:Dat->M Dat} (k:dQ X (.builtin "isinstance") (fun xs H Q=>∃v,xs=[v,.ty T]/\rD1 K W own g v H Q)) (i:X.mg "isinstance"=c_) (c:X.mg y=c_) (Y:F8 y=a_ (.type T)) (l:DE K W b_ X a fa)
  (j: ~~~(Gl X "isinstance")) (e: ~~~(Gl X y)) (f:(y≠"__name__")⁻¹) (hd:((y==("__debug__":p_))=b_)⁻¹)
  (J: ~~~(i_ [a,.Name y p2] X.env=[(b_,Eu a X.env),(b_,Eu (.Name y p2) X.env)])) (I: ~~~(i_ [.Name y p2] X.env=[(b_,Eu (.Name y p2) X.env)])) (b: ~~~((EN pos (i_ [.Name y p2] X.env)).any (·.1)=b_)) :
  DE K W own X (.Call (.Name "isinstance" p) [a,.Name y p2] [] pos) (f1 g fa):=
 (ic k j i HN (au l (au (pe_tyN (pos:=p2) e c Y f hd) aK I) (by rw [J,I])) (by decide) (by decide) (by rw [J,I]) b).imp fun σ H Q h=>by
  obtain ⟨F,ρ,r,s,q⟩:=rd_1 h;refine ⟨F,ρ,r,s,?_⟩
  cases e1:fa ρ with
  |error z=>rw [e1] at q;exact q
  |ok d=>rw [e1] at q;exact fun v F' H' st z=>⟨v,rfl,q v F' H' st z⟩
theorem DX (J:Kit K) (g: ~~~(X.K=K)):dQ X (.builtin "isinstance") (fun xs H Q=>∃v,xs=[v,.ty "int"]/\rD1 K W own ij v H Q):=by
 subst g;intro pins s σ H xs us Q I r h;obtain ⟨v,rfl,F,d,b,q,p⟩:=h;obtain ⟨u,w,rfl,c,Y⟩:=r.two;cases (show w=GU "int" from Y);by_cases hi:(∃C fs,d=.ins C fs)\/(∃ks,d=.dic ks)\/∃ks,d=.dil ks
 ·rcases hi with ⟨C,fs,rfl⟩|⟨ks,rfl⟩|⟨ks,rfl⟩<;>exact aC.stuck p
 ·refine isi_D I b q c J.Ce J.Ar J.Ao J.xq J.Cd J.qF (fun k tk f=>⟨.bl k,H,I.tok tk,rfl,?_⟩) (fun C fs e=>hi (.inl ⟨C,fs,e⟩)) (fun ks e=>hi (.inr (.inl ⟨ks,e⟩))) (fun ks e=>hi (.inr (.inr ⟨ks,e⟩)));cases d<;>first|(have a:k=_:=f;subst a;exact aC.bl (own:=own) p b)|exact Ek (.inl ⟨_,_,rfl⟩) hi|exact Ek (.inr (.inl ⟨_,rfl⟩)) hi|exact Ek (.inr (.inr ⟨_,rfl⟩)) hi
theorem mS (J:Kit K) (e:X.mg "isinstance"=c_) (c:X.mg "int"=c_) (g:DE K W b_ X a fa) (h: ~~~(X.K=K))
  (f: ~~~(Gl X "isinstance")) (d: ~~~(Gl X "int"))
  (Y: ~~~(i_ [a,.Name "int" p2] X.env=[(b_,Eu a X.env),(b_,Eu (.Name "int" p2) X.env)])) (I: ~~~(i_ [.Name "int" p2] X.env=[(b_,Eu (.Name "int" p2) X.env)])) (b: ~~~((EN pos (i_ [.Name "int" p2] X.env)).any (·.1)=b_)) :
  DE K W own X (.Call (.Name "isinstance" p) [a,.Name "int" p2] [] pos) (f1 ij fa):=zW (DX J h) e c (by decide +kernel) g f d (by decide) (by decide) Y I b
theorem Bb (J:Kit K) (g: ~~~(X.K=K)):dQ X (.builtin "isinstance") (fun xs H Q=>∃v,xs=[v,.ty "bool"]/\rD1 K W own jx v H Q):=by
 subst g;intro pins s σ H xs us Q I r h;obtain ⟨v,rfl,F,d,b,q,p⟩:=h;obtain ⟨u,w,rfl,c,Y⟩:=r.two;cases (show w=GU "bool" from Y);by_cases hi:(∃C fs,d=.ins C fs)\/(∃ks,d=.dic ks)\/∃ks,d=.dil ks
 ·rcases hi with ⟨C,fs,rfl⟩|⟨ks,rfl⟩|⟨ks,rfl⟩<;>exact aC.stuck p
 ·refine isi_D I b q c J.Aq J.xy J.xu J.ve J.An J.oY (fun k tk f=>⟨.bl k,H,I.tok tk,rfl,?_⟩) (fun C fs e=>hi (.inl ⟨C,fs,e⟩)) (fun ks e=>hi (.inr (.inl ⟨ks,e⟩))) (fun ks e=>hi (.inr (.inr ⟨ks,e⟩)));cases d<;>first|(have a:k=_:=f;subst a;exact aC.bl (own:=own) p b)|exact Ek (.inl ⟨_,_,rfl⟩) hi|exact Ek (.inr (.inl ⟨_,rfl⟩)) hi|exact Ek (.inr (.inr ⟨_,rfl⟩)) hi
theorem pU (J:Kit K) (e:X.mg "isinstance"=c_) (c:X.mg "bool"=c_) (g:DE K W b_ X a fa) (h: ~~~(X.K=K))
  (f: ~~~(Gl X "isinstance")) (d: ~~~(Gl X "bool"))
  (Y: ~~~(i_ [a,.Name "bool" p2] X.env=[(b_,Eu a X.env),(b_,Eu (.Name "bool" p2) X.env)])) (I: ~~~(i_ [.Name "bool" p2] X.env=[(b_,Eu (.Name "bool" p2) X.env)])) (b: ~~~((EN pos (i_ [.Name "bool" p2] X.env)).any (·.1)=b_)) :
  DE K W own X (.Call (.Name "isinstance" p) [a,.Name "bool" p2] [] pos) (f1 jx fa):=zW (Bb J h) e c (by decide +kernel) g f d (by decide) (by decide) Y I b
theorem Ba (J:Kit K) (g: ~~~(X.K=K)):dQ X (.builtin "isinstance") (fun xs H Q=>∃v,xs=[v,.ty "list"]/\rD1 K W own jw v H Q):=by
 subst g;intro pins s σ H xs us Q I r h;obtain ⟨v,rfl,F,d,b,q,p⟩:=h;obtain ⟨u,w,rfl,c,Y⟩:=r.two;cases (show w=GU "list" from Y);by_cases hi:(∃C fs,d=.ins C fs)\/(∃ks,d=.dic ks)\/∃ks,d=.dil ks
 ·rcases hi with ⟨C,fs,rfl⟩|⟨ks,rfl⟩|⟨ks,rfl⟩<;>exact aC.stuck p
 ·refine isi_D I b q c J.Ap J.xx J.xt J.uZ J.Am J.oX (fun k tk f=>⟨.bl k,H,I.tok tk,rfl,?_⟩) (fun C fs e=>hi (.inl ⟨C,fs,e⟩)) (fun ks e=>hi (.inr (.inl ⟨ks,e⟩))) (fun ks e=>hi (.inr (.inr ⟨ks,e⟩)));cases d<;>first|(have a:k=_:=f;subst a;exact aC.bl (own:=own) p b)|exact Ek (.inl ⟨_,_,rfl⟩) hi|exact Ek (.inr (.inl ⟨_,rfl⟩)) hi|exact Ek (.inr (.inr ⟨_,rfl⟩)) hi
theorem pT (J:Kit K) (e:X.mg "isinstance"=c_) (c:X.mg "list"=c_) (g:DE K W b_ X a fa) (h: ~~~(X.K=K))
  (f: ~~~(Gl X "isinstance")) (d: ~~~(Gl X "list"))
  (Y: ~~~(i_ [a,.Name "list" p2] X.env=[(b_,Eu a X.env),(b_,Eu (.Name "list" p2) X.env)])) (I: ~~~(i_ [.Name "list" p2] X.env=[(b_,Eu (.Name "list" p2) X.env)])) (b: ~~~((EN pos (i_ [.Name "list" p2] X.env)).any (·.1)=b_)) :
  DE K W own X (.Call (.Name "isinstance" p) [a,.Name "list" p2] [] pos) (f1 jw fa):=zW (Ba J h) e c (by decide +kernel) g f d (by decide) (by decide) Y I b
theorem yA (J:Kit K) (g: ~~~(X.K=K)):dQ X (.builtin "isinstance") (fun xs H Q=>∃v,xs=[v,.ty "tuple"]/\rD1 K W own jT v H Q):=by
 subst g;intro pins s σ H xs us Q I r h;obtain ⟨v,rfl,F,d,b,q,p⟩:=h;obtain ⟨u,w,rfl,c,Y⟩:=r.two;cases (show w=GU "tuple" from Y);by_cases hi:(∃C fs,d=.ins C fs)\/(∃ks,d=.dic ks)\/∃ks,d=.dil ks
 ·rcases hi with ⟨C,fs,rfl⟩|⟨ks,rfl⟩|⟨ks,rfl⟩<;>exact aC.stuck p
 ·refine isi_D I b q c J.xw J.vg J.vf J.sN J.xr J.nP (fun k tk f=>⟨.bl k,H,I.tok tk,rfl,?_⟩) (fun C fs e=>hi (.inl ⟨C,fs,e⟩)) (fun ks e=>hi (.inr (.inl ⟨ks,e⟩))) (fun ks e=>hi (.inr (.inr ⟨ks,e⟩)));cases d<;>first|(have a:k=_:=f;subst a;exact aC.bl (own:=own) p b)|exact Ek (.inl ⟨_,_,rfl⟩) hi|exact Ek (.inr (.inl ⟨_,rfl⟩)) hi|exact Ek (.inr (.inr ⟨_,rfl⟩)) hi
theorem vV (J:Kit K) (e:X.mg "isinstance"=c_) (c:X.mg "tuple"=c_) (g:DE K W b_ X a fa) (h: ~~~(X.K=K))
  (f: ~~~(Gl X "isinstance")) (d: ~~~(Gl X "tuple"))
  (Y: ~~~(i_ [a,.Name "tuple" p2] X.env=[(b_,Eu a X.env),(b_,Eu (.Name "tuple" p2) X.env)])) (I: ~~~(i_ [.Name "tuple" p2] X.env=[(b_,Eu (.Name "tuple" p2) X.env)])) (b: ~~~((EN pos (i_ [.Name "tuple" p2] X.env)).any (·.1)=b_)) :
  DE K W own X (.Call (.Name "isinstance" p) [a,.Name "tuple" p2] [] pos) (f1 jT fa):=zW (yA J h) e c (by decide +kernel) g f d (by decide) (by decide) Y I b
end
section
theorem m6 {is:List Nat} (a:N'.Nodup) (h2:PGs (b8 X N' sc L cs s H fp) es (ir is)) (hi: ~~~(N'[i]? =a_ x)) (I:Loc (b8 X N' sc L cs s H fp).env.scope x:=by first|exact Or.inl rfl|exact Or.inr rfl)
  (Y:autoParam ((b8 X N' sc L cs s H fp).fn x=d_\/(b8 X N' sc L cs s H fp).env.scope.names.lookup x=a_ .local) Jq3)
  (J: ~~~((FW (.Name x p::es) (b8 X N' sc L cs s H fp).env).map (·.2)=HZ (.Name x p) (b8 X N' sc L cs s H fp).env::(FW es (b8 X N' sc L cs s H fp).env).map (·.2))):PGs (b8 X N' sc L cs s H fp) (.Name x p::es) (ir (i::is)):=cL (pg_c a hi I Y) h2 J
end
open PySem.W in
section
open PySem.W
end
section
open PySem.W
end
section
open PySem.W
end
noncomputable def yN (t:List Int):Dat:=.tup (t.map .int)
section
variable {lt:α->α->Bool}
structure Ord (lt:α->α->Bool):Prop where
 irr:∀a,lt a a=b_
 tr:∀a b c,lt a b=d_->lt b c=d_->lt a c=d_
 tot:∀a b,lt a b=b_->lt b a=b_->a=b
theorem Ord.le_trans (o:Ord lt) {a b c:α} (h1:lt b a=b_) (h2:lt c b=b_):lt c a=b_:=by
 cases h:lt c a with
 |false=>rfl
 |true=>
  cases I:lt b c with
  |true=>rw [o.tr b c a I h] at h1;cases h1
  |false=>
   have:=o.tot c b h2 I;subst this;rw [h] at h1;cases h1
end
section
open PySem.W
variable {lt:α->α->Bool}
def rk (lt:α->α->Bool) (I:List α) (d:α) (i:Nat):Int:=((I.filter fun z=>lt z (I.getD i d)).length:Int)
end
def cX (n d:Nat):Option Int->Nat
 |none=>d
 |some v=>if v<0 then (v+(n:Int)).toNat else min v.toNat n
def Bp (xs:List α) (lo hi:Option Int):List α:=(xs.drop (cX xs.length 0 lo)).take (cX xs.length xs.length hi-cX xs.length 0 lo)
def dS:Dat->Option Int->Option Int->M Dat
 |.lst ds,lo,hi=>.ok (.lst (Bp ds lo hi))
 |.tup ds,lo,hi=>if (r_ (cX ds.length 0 lo=0)&&r_ (cX ds.length ds.length hi=ds.length))=d_ then stk else .ok (.tup (Bp ds lo hi))
 |_,_,_=>stk
noncomputable def sU:ah->M (Option Int):=fun _=>.ok c_
def kC (f:ah->M Dat):ah->M (Option Int):=fun ρ=>(f ρ).bind fun d=>(asI d).bind fun i=>.ok (a_ i)
noncomputable def fSl (g:Dat->Option Int->Option Int->M Dat) (fa:ah->M Dat) (fl fu:ah->M (Option Int)):ah->M Dat:=fun ρ=>(fa ρ).bind fun a=>(fl ρ).bind fun l=>(fu ρ).bind fun u=>g a l u
def extD (ρ:ah) (i:Nat) (ds:List Dat):Dat->M Flo
 |.lst es=>if ds.length+es.length<=g_ then put ρ i (ds++es) else stk
 |_=>stk
def BU (O:List Nat) (i:Nat) (f:ah->M Dat):ah->M Flo:=fun ρ=>(ju ρ i).bind fun ds=>(f (erase O ρ)).bind fun d=>extD ρ i ds d
def jF (g g' g'':Dat->Dat->M Dat) (fa fb fc fd':ah->M Dat):ah->M Dat:=fun ρ=>(fa ρ).bind fun a=>(fb ρ).bind fun b=>(g a b).bind fun x=>(asB x).bind fun k=>if k=d_ then (fc ρ).bind fun c=>(g' b c).bind fun y=>(asB y).bind fun l=>if l=d_ then (fd' ρ).bind fun d=>g'' c d else .ok (.bl b_) else .ok (.bl b_)
section
variable {W:dZ} {own:Bool} {a b c d:Fe} {lo hi:Option Fe} {y:p_} {p3 r t u:M4} {f fd':ah->M Dat} {fu:ah->M (Option Int)} 
def tDO (K:Fg) (W:dZ) (f:ah->M (Option Int)):TO:=fun σ H Q=>∃F ρ,dB K F σ ρ/\aF F H/\(match f ρ with
 |.ok o=>∀F' H',Step F H F' H'->Q o H'
 |.error e=>W.p e F H)
theorem BH {R:Option Int->Hp->Prop} (r:dB K F σ ρ) (s:aF F H) (J:∀e,fl ρ=.error e->W.p e F H) (I:∀o,fl ρ=.ok o->∀F1 H1,Step F H F1 H1->R o H1):tDO K W fl σ H R:=by
 refine ⟨F,ρ,r,s,?_⟩
 cases e:fl ρ with
 |ok d=>exact I d e
 |error x=>exact J x e
abbrev DP (K:Fg) (W:dZ) (X:Cx) (e:Option Fe) (f:ah->M (Option Int)):Prop:=PO X e (tDO K W f)
theorem PO.imp {t t':TO} (h:PO X lo t) (q:∀σ H Q,t' σ H Q->t σ H Q):PO X lo t':=fun pins s σ H Q I z=>h pins s σ H Q I (q σ H Q z)
theorem mQ:DP K W X c_ sU:=po_none.imp fun σ H Q ⟨F,ρ,r,s,p⟩=>p F H (Step.refl s)
theorem jI (h:DE K W b_ X e f):DP K W X (a_ e) (kC f):=(po_some h).imp fun σ H Q ⟨F,ρ,r,s,p⟩=>by
 refine aO r s (fun e Y=>?_) fun d hd v F1 H1 I J=>?_
 ·have z:kC f ρ=.error e:=by unfold kC;rw [Y];rfl
  rw [z] at p;exact p
 ·have z:kC f ρ=(asI d).bind fun i=>.ok (a_ i):=by unfold kC;rw [hd];rfl
  rw [z] at p;cases d with
  |int i=>exact ⟨i,J,p F1 H1 I⟩
  |_=>exact (W.ns p).elim
def rDS (K:Fg) (W:dZ) (own:Bool) (g:Dat->Option Int->Option Int->M Dat):V->Option Int->Option Int->Hp->VK->Prop:=fun x lo hi H Q=>∃F a,aF F H/\aR K F a x/\aC K W own F H (g a lo hi) Q
theorem rd_sl {g:Dat->Option Int->Option Int->M Dat} (h:tD K W own (fSl g fa fl fu) σ H Q):tSl (rDS K W own g) (tD K W b_ fa) (tDO K W fl) (tDO K W fu) σ H Q:=by
 obtain ⟨F,ρ,r,s,p⟩:=h;refine aO r s (fun e Y=>p.err (by unfold fSl;rw [Y];rfl)) fun a c x F1 H1 I f=>?_;refine BH (r.mono I.ff) I.fh (fun e Y=>(p.step I).err (by unfold fSl;rw [c];show (fl ρ).bind _=_;rw [Y];rfl)) fun l d F2 H2 J=>?_;refine BH ((r.mono I.ff).mono J.ff) J.fh (fun e Y=>(p.step (I.trans J)).err (by unfold fSl;rw [c];show (fl ρ).bind _=_;rw [d];show (fu ρ).bind _=_;rw [Y];rfl)) fun u i j k b=>?_;refine ⟨j,a,b.fh,aR.mono (J.trans b).ff f,?_⟩
 have e:fSl g fa fl fu ρ=g a l u:=by unfold fSl;rw [c];show (fl ρ).bind _=_;rw [d];show (fu ρ).bind _=_;rw [i];rfl
 rw [e] at p;exact p.step ((I.trans J).trans b)
theorem ym {g:Dat->Option Int->Option Int->M Dat} (J:SlR X (rDS K W own g)) (b:DE K W b_ X a fa) (Y:DP K W X lo fl) (I:DP K W X hi fu):DE K W own X (.Subscript a (.Slice lo hi c_ p2) pos) (fSl g fa fl fu):=(pe_slice J b Y I).imp fun _ _ _=>rd_sl
theorem A0 (n d:Nat) (o:Option Int):cX n d o=HT.sIx n d o:=by cases o<;>rfl
theorem ay.cut {ds:List Dat} {xs:List V} {l u:Option Int} (h:ay K F ds xs):ay K F (Bp ds l u) (cutV xs l u):=by
 unfold Bp cutV;rw [A0,A0,h.length];exact ay.take _ (ay.drop _ h)
theorem x_sl (n: ~~~(X.K=K)):SlR X (rDS K W d_ dS):=by
 subst n;intro pins s σ H x v g f lo hi i Q I j m pl k h;refine (SlR.or sl_list sl_tup) pins s σ H x v g f lo hi i Q I j m pl k ?_;obtain ⟨F,a,J,d,p⟩:=h;cases a with
 |lst ds=>
  obtain ⟨l,xs,e,t,z⟩:=d;exact .inl ⟨l,xs,e,J.lst t,fun r b=>aC.lst p J z.cut b⟩
 |tup ds=>
  obtain ⟨l,xs,e,t,z⟩:=d;have Y:aC X.K W d_ F H (if (r_ (cX ds.length 0 lo=0)&&r_ (cX ds.length ds.length hi=ds.length))=d_ then stk else .ok (.tup (Bp ds lo hi))) Q:=p;by_cases c:(r_ (cX ds.length 0 lo=0)&&r_ (cX ds.length ds.length hi=ds.length))=d_
  ·rw [f_ c] at Y;exact Y.stuck
  ·rw [m_ c] at Y;refine .inr ⟨l,xs,e,J.tup t,fun hw=>c ?_,fun r b=>aC.tup Y J z.cut b⟩;rw [A0,A0,<- z.length];simp only [n_,Et];exact hw
 |_=>exact aC.stuck p
theorem rs_ext {D:Ends} (hi:i∈O) (t:tS K W ro F0 H0 OL O O (BU O i f) D σ H):qB (tBM K "list" Cc (bJ i) (aM (tD K W d_ f) dI)) D σ H:=by
 obtain ⟨FB,F,ρ,r,p⟩:=t;cases I:ju ρ i with
 |error e=>
  have:=pB I;subst this;exact p.stuck (by unfold BU;rw [I];rfl)
 |ok ds=>
  obtain ⟨a,xs,e2,g,z⟩:=r.CJ hi (jS I);refine ⟨.ref a,e2,iQ g,?_⟩
  refine aO r.jQ r.st.fh (fun e j=>p.qQ r.st (by unfold BU;rw [I];show (f (erase O ρ)).bind _=_;rw [j];rfl)) fun d hd v F1 H1 J q=>?_;have l:BU O i f ρ=extD ρ i ds d:=by unfold BU;rw [I];show (f (erase O ρ)).bind _=_;rw [hd];rfl
  rw [l] at p;cases d with
  |lst es=>
   obtain ⟨b,h,e3,k,_,_,c⟩:=q;by_cases Y:ds.length+es.length<=g_
   ·have ep:extD ρ i ds (.lst es)=put ρ i (ds++es):=f_ Y;rw [ep] at p;exact ⟨a,b,xs,h,rfl,by rw [e3],J.hh _ _ g,k,by rw [z.length,c.length];exact Y,p σ F1 _ ((r.step J).write hi (jS I) e2 (ay.append (z.mono J.ff) c))⟩
   ·exact p.stuck (m_ Y)
  |_=>exact p.stuck rfl
theorem zR (h:DE K W d_ X e f) (g:(i∈O)⁻¹) (j: ~~~(X.N[i]? =a_ x)) (hv:autoParam (Vis X.env.scope x) Jq5) (hd:((x==("__debug__":p_))=b_)⁻¹) (d:((x==("__classdict__":p_))=b_)⁻¹) (k: ~~~(X.K=K))
  (a: ~~~(i_ [e] X.env=[(b_,Eu e X.env)])) (Y: ~~~(FR (.Name x p) "extend" X.env (Eu (.Name x p) X.env)=Eu (.Name x p) X.env)) (b: ~~~(((EN q (i_ [e] X.env)).all (fun x=> !x.1)&&(GB q (Fz [] X.env)).all (fun x=>x.1.isSome)&&r_ ([e].length+([]:List G2).length+(if ([]:List G2).isEmpty then 0 else 1)<30))=d_)) (I: ~~~((EN q (i_ [] X.env)).any (·.1)=b_)) (J: ~~~((apos.endLine==q.line)=d_)) (c: ~~~(FV (.Call (.Attribute (.Name x p) "extend" apos) [e] [] q) c_ pos.line X.env=FF b_)) :
  DS K W ro X OL O O (.Expr (.Call (.Attribute (.Name x p) "extend" apos) [e] [] q) pos) (BU O i f):=fun F0 H0=>by
 subst k;exact PS.imp (gO (nQ EE KL PySem.F.type_list_extend CG (pv i j hv hd d) (au h aK a) Y b J a I) c) fun _ _ _=>rs_ext g
theorem Cm {r J:R2} (S:OpR X (Es op) r) (f:OpR X (Es op') r') (Y:OpR X (Es op'') J) (Z:PE X a ta) (W:PE X b tb) (U:PE X c tc) (hd:PE X d td)
  (T:Jc [op,op',op''] [b,c,d]=b_:=by with_unfolding_all rfl):PE X (.Compare a [op,op',op''] [b,c,d] pos) (BI r r' J ta tb tc td):=by
 intro pins s σ H Q I h;refine Compare_chain (thn (Z pins s σ H _ I h) fun v E ⟨x,H1,I1,L,R⟩=>Mt (thn (W pins E σ H1 _ I1 R) fun u D ⟨y,H2,I2,r2,P⟩=>
  thn (S pins D σ H2 x y v u _ I2 L r2 P) fun d C ⟨z,q,o,K,k,e,m⟩=>?_)) T
 subst e;cases K;refine Fb ?_;cases k with
 |false=>exact ite_ff ⟨.bl b_,q,o,rfl,m⟩
 |true=>
  refine ite_tt (Mt (thn (U pins C σ q _ o m) fun i B ⟨g,H4,I4,j,O⟩=>thn (f pins B σ H4 y g u i _ I4 r2 j O) fun d' A ⟨z2,p,n,G,k2,e2,l⟩=>?_));subst e2;cases G;refine Fb ?_;cases k2 with
  |false=>exact ite_ff ⟨.bl b_,p,n,rfl,l⟩
  |true=>exact ite_tt (chain_last (thn (hd pins A σ p _ n l) fun w2 w ⟨t,H6,I6,F,N⟩=>Y pins w σ H6 g t i w2 Q I6 j F N))
theorem Ca (h:tD K W b_ (jF g g' g'' fa fb fc fd') σ H Q):BI (rD2 K W b_ g) (rD2 K W b_ g') (rD2 K W b_ g'') (tD K W b_ fa) (tD K W b_ fb) (tD K W b_ fc) (tD K W b_ fd') σ H Q:=by
 obtain ⟨F,ρ,r,s,p⟩:=h;refine aO r s (fun e J=>p.err (by unfold jF;rw [J];rfl)) fun a C x F1 H1 i N=>?_;refine aO (r.mono i.ff) i.fh (fun e J=>(p.step i).err (by unfold jF;rw [C];show (fb ρ).bind _=_;rw [J];rfl)) fun b P y F2 H2 n A=>?_;have z:jF g g' g'' fa fb fc fd' ρ=(g a b).bind fun x=>(asB x).bind fun k=>if k=d_ then (fc ρ).bind fun c=>(g' b c).bind fun y=>(asB y).bind fun l=>if l=d_ then (fd' ρ).bind fun d=>g'' c d else .ok (.bl b_) else .ok (.bl b_):=by unfold jF;rw [C];show (fb ρ).bind _=_;rw [P];rfl
 rw [z] at p;refine ⟨F2,a,b,n.fh,aR.mono n.ff N,A,?_⟩
 have p2:=p.step (i.trans n);have t:=(r.mono i.ff).mono n.ff;cases e:g a b with
 |error x=>rw [e] at p2;exact p2
 |ok w=>
  rw [e] at p2;cases w with
  |bl k=>
   intro v Z T Y G;cases (show v=.bl k from G);have p3:=p2.step Y;refine ⟨k,rfl,?_⟩
   cases k with
   |false=>exact aC.bl p3 Y.fh
   |true=>
    have p3:aC K W b_ Z T ((fc ρ).bind fun c=>(g' b c).bind fun y=>(asB y).bind fun l=>if l=d_ then (fd' ρ).bind fun d=>g'' c d else .ok (.bl b_)) Q:=p3;refine aO (t.mono Y.ff) Y.fh (fun e J=>p3.err (by rw [J];rfl)) fun c O w D S m u=>?_;have I:=p3.step m;rw [O] at I;have I:aC K W b_ D S ((g' b c).bind fun y=>(asB y).bind fun l=>if l=d_ then (fd' ρ).bind fun d=>g'' c d else .ok (.bl b_)) Q:=I;refine ⟨D,b,c,m.fh,aR.mono (Y.trans m).ff A,u,?_⟩
    cases e4:g' b c with
    |error x=>rw [e4] at I;exact I
    |ok w2=>
     rw [e4] at I;cases w2 with
     |bl l=>
      intro E X R f q;cases (show E=.bl l from q);have j:=I.step f;refine ⟨l,rfl,?_⟩
      cases l with
      |false=>exact aC.bl j f.fh
      |true=>
       have j:aC K W b_ X R ((fd' ρ).bind fun d=>g'' c d) Q:=j;refine aO (((t.mono Y.ff).mono m.ff).mono f.ff) f.fh (fun e J=>j.err (by rw [J];rfl)) fun d hd w6 U H6 o L=>?_;have B:=j.step o;rw [hd] at B;exact ⟨U,c,d,o.fh,aR.mono (f.trans o).ff u,L,B⟩
     |_=>exact (W.ns I).elim
  |_=>exact (W.ns p2).elim
theorem Dz (Y:Op2 K W b_ X (Es op) g) (J:Op2 K W b_ X (Es op') g') (I:Op2 K W b_ X (Es op'') g'') (i:DE K W b_ X a fa) (h:DE K W b_ X b fb) (f:DE K W b_ X c fc) (hd:DE K W b_ X d fd')
  (e:Jc [op,op',op''] [b,c,d]=b_:=by with_unfolding_all rfl):DE K W b_ X (.Compare a [op,op',op''] [b,c,d] pos) (jF g g' g'' fa fb fc fd'):=(Cm Y J I i h f hd e).imp fun _ _ _=>Ca
end
section
variable {fu:ah->M (Option Int)}
@[simp] theorem e_pNone:sU ρ=.ok c_:=id rfl
@[simp] theorem e_pSome:kC fa ρ=(fa ρ).bind fun d=>(asI d).bind fun i=>.ok (a_ i):=id rfl
@[simp] theorem e_slF (k:Dat->Option Int->Option Int->M Dat):fSl k fa fl fu ρ=(fa ρ).bind fun a=>(fl ρ).bind fun l=>(fu ρ).bind fun u=>k a l u:=id rfl
@[simp] theorem e_extD (i:Nat) (ds es:List Dat):extD ρ i ds (.lst es)=if ds.length+es.length<=g_ then put ρ i (ds++es) else stk:=id rfl
@[simp] theorem e_ext (O:List Nat) (i:Nat):BU O i fa ρ=(ju ρ i).bind fun ds=>(fa (erase O ρ)).bind fun d=>extD ρ i ds d:=id rfl
@[simp] theorem e_pow {i j:Int} (I:0<=j) (h1:j<=1000000) (h2:i.natAbs<2^64):zr (.int i) (.int j)=.ok (.int (i^j.toNat)):=by
 show (if (r_ (0<=j)&&r_ (j<=1000000)&&r_ (i.natAbs<2^64))=d_ then _ else _)=_;rw [f_ (by simp only [n_,Et];exact ⟨⟨I,h1⟩,h2⟩)]
@[simp] theorem e_eqII (i j:Int):eqM (.int i) (.int j)=.ok (.bl (r_ (i=j))):=by
 show Eo (Dat.bl (i==j))=_;rw [show (i==j)=r_ (i=j) from rfl]
@[simp] theorem e_neII (i j:Int):neM (.int i) (.int j)=.ok (.bl (!decide (i=j))):=by
 show Eo (Dat.bl (!(i==j)))=_;rw [show (i==j)=r_ (i=j) from rfl]
@[simp] theorem e_isiIN:ij .non=.ok (.bl b_):=id rfl
end
def bA (Cs:List e_) (x:p_):Dat->M Dat
 |.ins C fs=>if Cs.contains C=d_ then (match fs.lookup x with
  |some d=>.ok d
  |none=>stk) else stk
 |_=>stk
def isC (C:e_) (m:p_):Dat->Bool
 |.ins D fs=>(D==C)&&(fs.lookup m).isNone
 |_=>b_
def jd (C:e_) (m:p_) (g:List Dat->M Dat) (fo:ah->M Dat) (fr:ah->M (List Dat)):ah->M Dat:=fun ρ=>(fo ρ).bind fun o=>if isC C m o=d_ then (fr ρ).bind fun as=>g (o::as) else stk
def iG (C C2:e_) (m:p_) (g g2:List Dat->M Dat) (fo:ah->M Dat) (fr:ah->M (List Dat)):ah->M Dat:=fun ρ=>(fo ρ).bind fun o=>if isC C m o=d_ then (fr ρ).bind fun as=>g (o::as) else if isC C2 m o=d_ then (fr ρ).bind fun as=>g2 (o::as) else stk
def newR (C:e_) (g:List Dat->M Dat):List Dat->M Dat
 |[d]=>(g [d]).bind fun r=>.ok (.ins C [("gaps",r)])
 |_=>stk
def twoL:Dat->Dat->Bool
 |.lst xs,.lst ys=>r_ (xs.length=ys.length)
 |_,_=>b_
def newP (C:e_) (g:List Dat->M Dat):List Dat->M Dat
 |[d,e]=>(g [d]).bind fun r=>(g [e]).bind fun r2=>if twoL r r2=d_ then .ok (.ins C [("gaps",r),("beside",r2)]) else stk
 |_=>stk
def sStk:ah->M Flo:=fun _=>stk
section
variable {W:dZ} {own:Bool} {a b c d:Fe} {y:p_} {f:ah->M Dat} {fr:ah->M (List Dat)} {Cs:List e_}
theorem ds_stk:DS K W ro X OL O O' st sStk:=fun F0 H0 pins s σ H D I h=>by
 obtain ⟨FB,F,ρ,r,p⟩:=h;exact p.stuck rfl
theorem iO.at {F:Hp} {x:p_}:∀{gs:List (p_×Dat)} {fs:List (p_×V)},iO K F gs fs->(∀d,gs.lookup x=a_ d->∃v,fs.lookup x=a_ v/\aR K F d v)/\(gs.lookup x=c_->fs.lookup x=c_)
 |[],fs,h=>by cases (show fs=[] from h);exact ⟨fun d h=>by simp at h,fun _=>rfl⟩
 |(g,d)::gs,fs,h=>by
  obtain ⟨v,r,rfl,h1,h2⟩:=h;have I:=iO.at (x:=x) h2;rw [w_,w_];cases e:x==g with
  |true=>exact ⟨fun d' h'=>by cases h';exact ⟨v,rfl,h1⟩,fun h'=>by cases h'⟩
  |false=>exact I
theorem eI (k:∀C∈Cs,Cls K C/\b9 K C y) (b:DE K W b_ X e fa) (g: ~~~(FR e y X.env (Eu e X.env)=Eu e X.env)) (j: ~~~(X.K=K)):DE K W b_ X (.Attribute e y pos) (f1 (bA Cs y) fa):=by
 subst j;refine (gQ b g).imp fun σ H Q h=>?_;obtain ⟨F,ρ,r,s,p⟩:=h;refine aO r s (fun e b=>p.err (by unfold f1;rw [b];rfl)) fun a i x F1 H1 J f=>?_;have m:f1 (bA Cs y) fa ρ=bA Cs y a:=by unfold f1;rw [i];rfl
 rw [m] at p;cases a with
 |ins C gs=>
  obtain ⟨l,dx,fs,e1,n,o⟩:=f;have I:aC X.K W b_ F H (if Cs.contains C=d_ then (match gs.lookup y with
   |some d=>.ok d
   |none=>stk) else stk) Q:=p
  by_cases c:Cs.contains C=d_
  ·rw [f_ c] at I;obtain ⟨h1,h2⟩:=k C (by simpa using c);cases Y:gs.lookup y with
   |none=>rw [Y] at I;exact aC.stuck I
   |some d=>
    rw [Y] at I;obtain ⟨v,hv,hd⟩:=o.at.1 d Y;exact ⟨l,C,dx,fs,v,e1,J.fh _ _ n,h1,h2,hv,(I.step J) v F1 H1 (Step.refl J.fh) hd⟩
  ·rw [m_ c] at I;exact aC.stuck I
 |_=>exact aC.stuck p
theorem PE.or {t1 t2:TE} (h1:PE X e t1) (h2:PE X e t2):PE X e (fun σ H Q=>t1 σ H Q\/t2 σ H Q):=fun pins s σ H Q I h=>h.elim (h1 pins s σ H Q I) (h2 pins s σ H Q I)
theorem rd_meth {g:ah->M Flo} (h:tD K Wno ro (jd C m (bL nN n g) fo fr) σ H Q):tMeth C m (spF K ro (bL nN n g) n) [] E0 (tD K Wno b_ fo) (tDA K Wno fr) σ H Q:=by
 obtain ⟨F,ρ,r,s,p⟩:=h;refine aO r s (fun e b=>p.err (by unfold jd;rw [b];rfl)) fun o k x F1 H1 J f=>?_;have t:jd C m (bL nN n g) fo fr ρ=if isC C m o=d_ then (fr ρ).bind fun as=>bL nN n g (o::as) else stk:=by unfold jd;rw [k];rfl
 rw [t] at p;by_cases Y:isC C m o=d_
 ·rw [f_ Y] at p;cases o with
  |ins D gs=>
   obtain ⟨l,dx,fs,e1,u,v⟩:=id f;have I:((D==C)&&(gs.lookup m).isNone)=d_:=Y;rw [n_] at I;obtain ⟨d,q⟩:=I;have d:D=C:=by simpa using d
   subst d;refine ⟨l,dx,fs,e1,J.fh _ _ u,v.at.2 (by simpa using q),?_⟩
   have p:=p.step J;refine oK (r.mono J.ff) J.fh (fun e b=>p.err (by rw [b];rfl)) fun as c vs F2 H2 a j=>?_;rw [c] at p;have p:aC K Wno ro F1 H1 (bL nN n g (.ins D gs::as)) Q:=p;have p:=p.step a;show spF K ro (bL nN n g) n (x::(vs++[])) H2 Q E0;rw [GK];by_cases i:(Dat.ins D gs::as).length=n
   ·exact ⟨F2,.ins D gs::as,a.fh,⟨x,vs,rfl,aR.mono a.ff f,j⟩,i,p⟩
   ·rw [sI i] at p;exact aC.stuck p
  |_=>cases Y
 ·rw [m_ Y] at p;exact aC.stuck p
theorem rd_meth2 {g:ah->M Flo} (h:tD K Wno ro (iG C C2 m (bL nN n g) (bL nN2 n2 g2) fo fr) σ H Q) :
  tD K Wno ro (jd C m (bL nN n g) fo fr) σ H Q\/tD K Wno ro (jd C2 m (bL nN2 n2 g2) fo fr) σ H Q:=by
 obtain ⟨F,ρ,r,s,p⟩:=h;cases I:fo ρ with
 |error e=>
  refine .inl ⟨F,ρ,r,s,?_⟩;have e1:iG C C2 m (bL nN n g) (bL nN2 n2 g2) fo fr ρ=.error e:=by unfold iG;rw [I];rfl
  have e2:jd C m (bL nN n g) fo fr ρ=.error e:=by unfold jd;rw [I];rfl
  rw [e1] at p;rw [e2];exact p
 |ok o=>
  have e1:iG C C2 m (bL nN n g) (bL nN2 n2 g2) fo fr ρ=if isC C m o=d_ then (fr ρ).bind fun as=>bL nN n g (o::as) else if isC C2 m o=d_ then (fr ρ).bind fun as=>bL nN2 n2 g2 (o::as) else stk:=by unfold iG;rw [I];rfl
  have e2:jd C m (bL nN n g) fo fr ρ=if isC C m o=d_ then (fr ρ).bind fun as=>bL nN n g (o::as) else stk:=by unfold jd;rw [I];rfl
  have e3:jd C2 m (bL nN2 n2 g2) fo fr ρ=if isC C2 m o=d_ then (fr ρ).bind fun as=>bL nN2 n2 g2 (o::as) else stk:=by unfold jd;rw [I];rfl
  rw [e1] at p;by_cases J:isC C m o=d_
  ·rw [f_ J] at p e2;exact .inl ⟨F,ρ,r,s,by rw [e2];exact p⟩
  ·rw [m_ J] at p;exact .inr ⟨F,ρ,r,s,by rw [e3];exact p⟩
def Ec (X:Cx) (o:Fe) (m:p_) (apos:M4) (es:List Fe) (pos:M4) (pl:MO Bool):Prop:=Eu (.Call (.Attribute o m apos) es [] pos) X.env=(do let I <- Eu o X.env;JC apos.atName;let (f,first) <- HU [I] (JR I m pl);Kz pos f first (EN pos (i_ es X.env)) (GB pos (Fz [] X.env)))
section
variable {k:Nat} {fad2:e_} {fd2:Gf} {g:ah->M Flo} 
theorem pf (c:Cls X.K C) (M:Meth X.K C m fad) (F:i9 X.prog X.w X.K X.mg X.base CX0 k fad fd ps (spF X.K ro (bL nN n g) n)) (J:i8 k X.A) (a:Binds X.K fd ps []) (Y:DE X.K Wno b_ X o fo)
  (I:Ec X o m apos [] pos pl):DE X.K Wno ro X (.Call (.Attribute o m apos) [] [] pos) (jd C m (bL nN n g) fo aH):=
 (pe_meth0 (pl:=pl) Y c M F J a .nil pj I).imp fun σ H Q h=>by
  obtain ⟨F,ρ,r,s,z⟩:=rd_meth h;refine ⟨F,ρ,r,s,?_⟩
  cases e1:fo ρ with
  |error e=>rw [e1] at z;exact z
  |ok od=>
   rw [e1] at z;intro v F' H' st q;obtain ⟨l,dx,fs,h1,h2,d,b⟩:=z v F' H' st q;exact ⟨l,dx,fs,h1,h2,d,rd_nil b⟩
theorem vU (c:Cls K C) (M:Meth K C m fad) (F:i9 X.prog X.w X.K X.mg X.base CX0 k fad fd ps (spF K ro (bL nN n g) n)) (J:i8 k X.A) (a:Binds X.K fd ps []) (Y:DE K Wno b_ X o fo)
  (b: ~~~(X.K=K)) (I: ~~~(Ec X o m apos [] pos pl)):DE K Wno ro X (.Call (.Attribute o m apos) [] [] pos) (jd C m (bL nN n g) fo aH):=by
 subst b;exact pf c M F J a Y I
theorem pS {k2:Nat} {I:List p_} (c:Cls K C) (M:Meth K C m fad) (F:i9 X.prog X.w X.K X.mg X.base CX0 k fad fd ps (spF K ro (bL nN n g) n)) (d:i8 k X.A) (e:Binds X.K fd ps [])
  (h:Cls K C2) (i:Meth K C2 m fad2) (F2:i9 X.prog X.w X.K X.mg X.base CX0 k2 fad2 fd2 I (spF K ro (bL nN2 n2 g2) n2)) (J:i8 k2 X.A) (Y:Binds X.K fd2 I []) (b:DE K Wno b_ X o fo)
  (f: ~~~(X.K=K)) (a: ~~~(Ec X o m apos [] pos pl)) :
  DE K Wno ro X (.Call (.Attribute o m apos) [] [] pos) (iG C C2 m (bL nN n g) (bL nN2 n2 g2) fo aH):=by
 subst f;exact (PE.or (pf c M F d e b a) (pf h i F2 J Y b a)).imp fun _ _ _=>rd_meth2
end
def spI1 (K:Fg) (C:e_) (g:List Dat->M Dat):Sp:=fun vs H Q _=>∃p dx v F d,vs=[.ref p,v]/\H p=a_ (.ins C dx [])/\F p=c_/\aF F H/\aR K F d v/\(match g [d] with
 |.ok r=>∀w F' H',aF F F'->aF F' H'->F' p=c_->(∀b o,F' b=a_ o->F b=a_ o\/H b=c_)->(∀c o,H c=a_ o->c≠p->H' c=a_ o)->H' p=a_ (.ins C dx [("gaps",w)])->aR K F' r w->Q .non H'
 |.error e=>Wno.p e F H)
def spI2 (K:Fg) (C:e_) (g:List Dat->M Dat):Sp:=fun vs H Q _=>∃p dx v I F d d2,vs=[.ref p,v,I]/\H p=a_ (.ins C dx [])/\F p=c_/\aF F H/\aR K F d v/\aR K F d2 I/\(match (g [d]).bind fun r=>(g [d2]).bind fun r2=>if twoL r r2=d_ then .ok (r,r2) else stk with
 |.ok (r,r2)=>∀w w2 F' H',aF F F'->aF F' H'->F' p=c_->(∀b o,F' b=a_ o->F b=a_ o\/H b=c_)->(∀c o,H c=a_ o->c≠p->H' c=a_ o)->H' p=a_ (.ins C dx [("gaps",w),("beside",w2)])->aR K F' r w->aR K F' r2 w2->Q .non H'
 |.error e=>Wno.p e F H)
theorem Step.born {x dx:e_} {fs:List (p_×V)} (s:aF F H) (Y:H x=c_) (J:H dx=c_) (a:dx≠x) (h1:aF F F') (h2:aF F' H') (i:F' x=c_) (g:∀b o,F' b=a_ o->F b=a_ o\/upd (upd H dx (.own x)) x (.ins C dx []) b=c_)
  (f:∀c o,upd (upd H dx (.own x)) x (.ins C dx []) c=a_ o->c≠x->H' c=a_ o) (d:H' x=a_ (.ins C dx fs)):Step F H (upd F' x (.ins C dx fs)) H' where
 ff:=h1.trans (aF.upd i)
 hh:=fun c o e=>by
  have I:c≠x:=fun h=>by rw [h,Y] at e;cases e
  have hd:c≠dx:=fun h=>by rw [h,J] at e;cases e
  exact f c o (by rw [aq I,aq hd];exact e) I
 fh:=fun c o e=>by
  by_cases I:c=x
  ·subst I;rw [ao] at e;rw [d];exact e
  ·rw [aq I] at e;exact h2 _ _ e
 nw:=fun c o e=>by
  by_cases I:c=x
  ·subst I;exact .inr Y
  ·rw [aq I] at e;rcases g c o e with z|z
   ·exact .inl z
   ·refine .inr ?_;by_cases hd:c=dx
    ·subst hd;exact J
    ·rw [aq I,aq hd] at z;exact z
theorem de_newR {k:Nat} {g:List Dat->M Dat} (n:Mk X.K C fI) (T:i9 X.prog X.w X.K X.mg X.base CX0 k fI fdI ps (spI1 K C g)) (A:i8 (k+1) X.A) (D:X.mg x=a_ (.ref C)) (L:Binds X.K fdI ps [])
  (N:DA K Wno X [e] fr) (E: ~~~(Gl X x)) (l:((x==("__debug__":p_))=b_)⁻¹) (f: ~~~(i_ [e] X.env=(b_,Eu e X.env)::i_ [] X.env)) (i: ~~~((EN pos (i_ [] X.env)).any (·.1)=b_)) :
  DE K Wno b_ X (.Call (.Name x p) [e] [] pos) (fL (newR C g) fr):=by
 refine PE.imp (xG n T A E D L .nil pj N l f i) fun σ H Q h=>?_;obtain ⟨F,ρ,r,s,p⟩:=rd_L h;refine ⟨F,ρ,r,s,?_⟩
 cases e1:fr ρ with
 |error z=>rw [e1] at p;exact p
 |ok ds=>
  rw [e1] at p;intro vs F1 H1 st q;obtain ⟨F2,m,I,y,z⟩:=p vs F1 H1 st q;rcases m with _|⟨d,_|⟨_,_⟩⟩
  ·exact aC.stuck z
  rotate_left
  ·exact aC.stuck z
  ·obtain ⟨v,a,rfl,u,B⟩:=y;cases (show a=[] from B);intro x dx b Y j;refine ⟨x,dx,v,F2,d,rfl,ao,I.free b,fun c o e=>?_,u,?_⟩
   ·have G:c≠x:=fun h=>by rw [h,I.free b] at e;cases e
    have hd:c≠dx:=fun h=>by rw [h,I.free Y] at e;cases e
    rw [aq G,aq hd];exact I _ _ e
   ·have z:aC K Wno b_ F2 H1 ((g [d]).bind fun r=>.ok (.ins C [("gaps",r)])) Q:=z;cases J:g [d] with
    |error e=>rw [J] at z;exact EZ z
    |ok r=>
     rw [J] at z;intro w F' H' h1 h2 t S R P O;refine ⟨rfl,z (.ref x) (upd F' x (.ins C dx [("gaps",w)])) H' (Step.born I b Y j h1 h2 t S R P) ?_⟩
     exact ⟨x,dx,_,rfl,ao,w,[],rfl,aR.mono (aF.upd t) O,rfl⟩
theorem de_newP {k:Nat} {g:List Dat->M Dat} (B:Mk X.K C fI) (FI:i9 X.prog X.w X.K X.mg X.base CX0 k fI fdI ps (spI2 K C g)) (N:i8 (k+1) X.A) (P:X.mg x=a_ (.ref C)) (T:Binds X.K fdI ps [])
  (U:DA K Wno X [e,a] fr) (R: ~~~(Gl X x)) (u:((x==("__debug__":p_))=b_)⁻¹) (m: ~~~(i_ [e,a] X.env=(b_,Eu e X.env)::i_ [a] X.env)) (n: ~~~((EN pos (i_ [a] X.env)).any (·.1)=b_)) :
  DE K Wno b_ X (.Call (.Name x p) [e,a] [] pos) (fL (newP C g) fr):=by
 refine PE.imp (xG B FI N R P T .nil pj U u m n) fun σ H Q h=>?_;obtain ⟨F,ρ,r,s,p⟩:=rd_L h;refine ⟨F,ρ,r,s,?_⟩
 cases e1:fr ρ with
 |error z=>rw [e1] at p;exact p
 |ok ds=>
  rw [e1] at p;intro vs F1 H1 st q;obtain ⟨F2,A,J,L,z⟩:=p vs F1 H1 st q;rcases A with _|⟨d,_|⟨d2,_|⟨_,_⟩⟩⟩
  ·exact aC.stuck z
  ·exact aC.stuck z
  rotate_left
  ·exact aC.stuck z
  ·obtain ⟨v,D,rfl,G,E,f,rfl,i,O⟩:=L;cases (show f=[] from O);intro x dx j b t;refine ⟨x,dx,v,E,F2,d,d2,rfl,ao,J.free j,fun c o e=>?_,G,i,?_⟩
   ·have S:c≠x:=fun h=>by rw [h,J.free j] at e;cases e
    have hd:c≠dx:=fun h=>by rw [h,J.free b] at e;cases e
    rw [aq S,aq hd];exact J _ _ e
   ·have z:aC K Wno b_ F2 H1 ((g [d]).bind fun r=>(g [d2]).bind fun r2=>if twoL r r2=d_ then .ok (.ins C [("gaps",r),("beside",r2)]) else stk) Q:=z;cases Y:g [d] with
    |error e=>rw [Y] at z;exact EZ z
    |ok r=>
     rw [Y,aj] at z;cases I:g [d2] with
     |error e=>rw [I] at z;exact EZ z
     |ok r2=>
      rw [I,aj] at z;by_cases l:twoL r r2=d_
      ·rw [f_ l] at z;rw [aj,aj,f_ l];intro w w2 F' H' h1 h2 y h4 h5 h6 Z W;refine ⟨rfl,z (.ref x) (upd F' x (.ins C dx [("gaps",w),("beside",w2)])) H' (Step.born J j b t h1 h2 y h4 h5 h6) ?_⟩
       exact ⟨x,dx,_,rfl,ao,w,_,rfl,aR.mono (aF.upd y) Z,w2,[],rfl,aR.mono (aF.upd y) W,rfl⟩
      ·rw [m_ l] at z;exact aC.stuck z
end
def Itz (K:Fg) (a b:e_):It:=
 ⟨fun i H=>∃xs ys x y,SqL K H a xs/\SqL K H b ys/\xs[i]? =a_ x/\ys[i]? =a_ y,fun i H v H'=>∃T x y,H T=c_/\v=.ref T/\H'=upd H T (.tup [x,y])/\(∀xs,SqL K H a xs->xs[i]? =a_ x)/\∀ys,SqL K H b ys->ys[i]? =a_ y,fun i H=>∃xs ys,SqL K H a xs/\SqL K H b ys/\(xs.length<=i\/ys.length<=i)⟩
theorem turn_zip {k:Nat} {z f m j g O N:e_} (D:ZipApart z f m j g O N) :
  Turn P w K (.Tuple elts k pos) (Itz K O N) [z,f,m,j,g] z (fun i h=>IsZip h z f m .none/\IsPair h f (.ref j) (.ref g)/\(∃a b,IsPair h m a b)/\h.IsListIter j O i/\h.IsListIter g N i) where
 mem:=by simp
 obj:=fun i h st b J=>by
  obtain ⟨l,Y,⟨a,c,d⟩,⟨o1,e1,c1,d1⟩,⟨o2,e2,c2,d2⟩⟩:=st;simp only [v_,EO,G1] at J;rcases J with rfl|rfl|rfl|rfl|rfl
  ·exact ⟨_,l,fun v q=>by cases q⟩
  ·exact ⟨_,Y,fun v q=>by cases q⟩
  ·exact ⟨_,d,fun v q=>by cases q⟩
  ·exact ⟨o1,e1,fun v q=>by rw [d1] at q;cases q⟩
  ·exact ⟨o2,e2,fun v q=>by rw [d2] at q;cases q⟩
 keep:=fun i h h' st r=>by
  obtain ⟨l,Y,⟨a,c,d⟩,h1,h2⟩:=st;exact ⟨r z (by simp) _ l,r f (by simp) _ Y,⟨a,c,r m (by simp) _ d⟩,h1.at fun o x=>r j (by simp) o x,h2.at fun o x=>r g (by simp) o x⟩
 item:=by
  intro X U hw W hc i pins s σ H E I F st S;subst U hw W;obtain ⟨l,Y,⟨a,c,d⟩,h1,h2⟩:=st;obtain ⟨xs,ys,x,y,C,B,gx,gy⟩:=S;obtain ⟨its,G,p,_⟩:=I.list C;obtain ⟨t,n,p2,_⟩:=I.list B;obtain ⟨u,hu,ru⟩:=G.get gx;obtain ⟨u2,Q,L⟩:=n.get gy;refine wpAny_pyNext_zip_item D l Y d h1 h2 p.isList p2.isList (x:=u) (y:=u2) (by simpa using hu) (by simpa using Q) fun h' a1 a2 a3 a4 a5 a6 a7=>?_;refine ⟨_,rfl,wpAny_letOwnedTupleGo_zip a1 fun Z b1 b2=>?_⟩
  have lz:z<s.heap.objs.size:=y_ l;have lTI:f<s.heap.objs.size:=y_ Y;have lTO:m<s.heap.objs.size:=y_ d;have li1:j<s.heap.objs.size:=by obtain ⟨o,e,_⟩:=h1;exact y_ e
  have li2:g<s.heap.objs.size:=by obtain ⟨o,e,_⟩:=h2;exact y_ e
  have I1:Inv X pins σ (upd H s.heap.objs.size (.tup [x,y])) {s with heap:=Z,toks:=s.toks}:=I.Bw (ch:=[z,f,m,j,g]) F (fun b o J q=>by
    simp only [v_,EO,G1,Ku] at J;exact (b2.2 b J.1).trans (a7 b o J.1 J.2.2.1 J.2.2.2.1 J.2.2.2.2 q)) (u_ _) ⟨by show 2<=g_;decide,[u,u2],.cons ru (.cons L .nil),⟨_,(b2.2 _ (Ip lz)).trans a5,rfl,0,rfl⟩⟩
  refine ⟨.ref s.heap.objs.size,_,I1,rfl,⟨s.heap.objs.size,x,y,I.hok.fresh (u_ _),rfl,rfl,fun zs R=>by rw [I.oo R C];exact gx,fun zs R=>by rw [I.oo R B];exact gy⟩,
   ⟨b1,(b2.2 _ D.TIz).trans (a7 f _ D.TIz D.TITO D.TIi1 D.TIi2 Y),⟨_,_,(b2.2 _ D.TOz).trans a2⟩,a3.at fun o q=>(b2.2 _ D.i1z).trans q,a4.at fun o q=>(b2.2 _ D.i2z).trans q⟩,fun b J=>?_⟩
  have T:=(F b J).1;have:b≠s.heap.objs.size:=by
   simp only [v_,EO,G1] at J;rcases J with rfl|rfl|rfl|rfl|rfl<;>exact EA (by assumption)
  rw [aq this];exact T
 done:=by
  intro X U hw W hc i pins s σ H E I F st S;subst U hw W;obtain ⟨l,Y,⟨a,c,d⟩,h1,h2⟩:=st;obtain ⟨xs,ys,C,B,A⟩:=S;obtain ⟨its,G,p,_⟩:=I.list C;obtain ⟨t,n,p2,_⟩:=I.list B;have e1:=G.length;have e2:=n.length;refine wpAny_pyNext_zip_end (I.ok.hd hc) D l Y d h1 h2 p.isList p2.isList ?_ fun h' hk=>⟨rfl,I.Bx (t':=s.toks) (ch:=[z,f,m,j,g]) F fun b o J q=>?_⟩
  ·rcases A with z|z
   ·exact .inl (Kl (by simp;omega))
   ·exact .inr (Kl (by simp;omega))
  ·simp only [v_,EO,G1,Ku] at J;exact hk b o J.1 J.2.2.1 J.2.2.2.1 J.2.2.2.2 q
 self:=fun _ _ _ _ _ st h=>MX st.1 h
theorem yH:∀(ds es:List Dat) (i:Nat),(nJ ds es)[i]? =(ds[i]?).bind fun d=>(es[i]?).map fun e=>.tup [d,e]
 |[],es,i=>by simp [nJ]
 |d::ds,[],i=>by cases h:(d::ds)[i]?<;>simp [nJ]
 |d::ds,e::es,0=>by simp [nJ]
 |d::ds,e::es,i+1=>by rw [nJ,G8,yH ds es i,G8,G8]
theorem rY:∀(ds es:List Dat),(nJ ds es).length=min ds.length es.length
 |[],es=>by simp [nJ]
 |d::ds,[]=>by simp [nJ]
 |d::ds,e::es=>by rw [nJ,Ex,rY ds es,Ex,Ex];omega
theorem iter_zip {xs ys:List V} {ds es:List Dat} (t:SqL K F a xs) (z:ay K F ds xs) (t2:SqL K F b ys) (e:ay K F es ys):wz K F (Itz K a b) (nJ ds es) where
 go:=fun i F' H' J I hi=>by
  rw [rY] at hi;exact ⟨xs,ys,xs[i]'(by rw [z.length];omega),ys[i]'(by rw [e.length];omega),I.lst (J.lst t),I.lst (J.lst t2),Ez _,Ez _⟩
 yl:=fun i F' H' x H2 d J I hd k=>by
  obtain ⟨T,h,f,g,ex,l,h1,h2⟩:=k;subst ex l;rw [yH] at hd;cases Y:ds[i]? with
  |none=>rw [Y] at hd;cases hd
  |some d1=>
   cases c:es[i]? with
   |none=>rw [Y,c] at hd;cases hd
   |some d2=>
    rw [Y,c] at hd;simp at hd;subst hd;obtain ⟨v,e1,q⟩:=z.get Y;obtain ⟨m,e2,j⟩:=e.get c;have e3:=h1 xs (I.lst (J.lst t));have e4:=h2 ys (I.lst (J.lst t2));rw [e1] at e3;rw [e2] at e4;cases e3;cases e4;refine ⟨upd F' T (.tup [h,f]),Step.lay I g,T,_,rfl,SqT.of ao,?_⟩
    exact ⟨h,[f],rfl,(q.mono J).mono (aF.upd (I.free g)),f,[],rfl,(j.mono J).mono (aF.upd (I.free g)),rfl⟩
 st:=fun F' H' J I=>⟨xs,ys,I.lst (J.lst t),I.lst (J.lst t2),by rw [z.length,e.length,rY];omega⟩
section
variable {W:dZ} {a b:Fe} 
def iZip (K:Fg) (ta tb:TE):TI:=fun σ H R=>ta σ H fun x H1=>tb σ H1 fun y H2=>∃a b,x=.ref a/\y=.ref b/\(∃xs,SqL K H2 a xs)/\(∃ys,SqL K H2 b ys)/\R (Itz K a b) H2
theorem pi_zip {k:Nat} (K:Gl X "zip") (F:X.mg "zip"=c_) (L:PE X a ta) (g:PE X b tb) (z:i_ [a,b] X.env=[(b_,Eu a X.env),(b_,Eu b X.env)]) (Y:i_ [b] X.env=[(b_,Eu b X.env)]) :
  PI X (.Tuple elts k q) (.Call (.Name "zip" p) [a,b] [] pos) (iZip X.K ta tb):=by
 intro pins s σ H R I h;have N:PA X [a,b] (aM ta (aM tb dI)):=au L (au g aK Y) (by rw [z,Y]);refine Call_ (rA I K F boot_zip (Hi (thn (N pos pins s σ H (fun vs H1=>match vs with
  |[x,y]=>∃a b,x=.ref a/\y=.ref b/\(∃xs,SqL X.K H1 a xs)/\(∃ys,SqL X.K H1 b ys)/\R (Itz X.K a b) H1
  |_=>False) I h) fun us J ⟨vs,H1,f,j,C⟩=>?_) (by rw [z,Y]) (by rw [Y];rfl)))
 match vs,j,C with
 |[x,y],j,⟨l,D,e1,e2,⟨xs,E⟩,⟨ys,m⟩,q⟩=>
  subst e1 e2;obtain ⟨u,Q,rfl,B,i⟩:=j.two;cases B;cases i;obtain ⟨its,S,pl,_⟩:=f.list E;obtain ⟨v,A,c,_⟩:=f.list m;have a1:l<J.heap.objs.size:=by obtain ⟨_,e,_⟩:=pl.isList;exact y_ e
  have O:D<J.heap.objs.size:=by obtain ⟨_,e,_⟩:=c.isList;exact y_ e
  refine call_zip_2 pl.isList c.isList fun h' w t r o n hsz G=>?_;have P:Inv X pins σ H1 {J with heap:=h'}:=f.kept (t':=J.toks) G;refine MX w ?_;refine ⟨J.heap.objs.size+4,[J.heap.objs.size+4,J.heap.objs.size+2,J.heap.objs.size+3,J.heap.objs.size,J.heap.objs.size+1],_,_,H1,rfl,P,turn_zip (zipApart_new a1 O),⟨w,t,⟨_,_,r⟩,o,n⟩,fun b g=>?_,q⟩
  have d:J.heap.objs.size<=b:=by
   simp only [v_,EO,G1] at g;rcases g with rfl|rfl|rfl|rfl|rfl
   ·exact Ii _ 4
   ·exact Ii _ 2
   ·exact Ii _ 3
   ·exact u_ _
   ·exact Ii _ 1
  exact f.fpOk d (f.hok.fresh d)
theorem ri_zip {R:It->Hp->Prop} (h:iD K W (Bm fa fb) σ H R):iZip K (tD K W b_ fa) (tD K W b_ fb) σ H R:=by
 obtain ⟨F,ρ,r,s,p⟩:=h;refine aO r s (fun e a=>?_) fun d hd v F1 H1 J i=>?_
 ·have z:Bm fa fb ρ=.error e:=by unfold Bm;rw [a];rfl
  rw [z] at p;exact p
 ·refine aO (r.mono J.ff) J.fh (fun e a=>?_) fun d2 c j F2 H2 I g=>?_
  ·have z:Bm fa fb ρ=.error e:=by unfold Bm;rw [hd,aj,a];rfl
   rw [z] at p;exact W.mono p J
  ·have z:Bm fa fb ρ=(lP d).bind fun ds=>(lP d2).bind fun es=>.ok (nJ ds es):=by unfold Bm;rw [hd,aj,c,aj]
   rw [z] at p;cases d with
   |lst ds=>
    cases d2 with
    |lst es=>
     obtain ⟨b,xs,e,t,f⟩:=i;obtain ⟨b2,ys,e2,t2,Y⟩:=g;have t':=I.ff.lst t;exact ⟨b,b2,e,e2,⟨xs,I.fh.lst t'⟩,⟨ys,I.fh.lst t2⟩,p _ F2 H2 (J.trans I) (iter_zip t' (f.mono I.ff) t2 Y)⟩
    |_=>exact (W.ns p).elim
   |_=>exact (W.ns p).elim
theorem Dw {k:Nat} (Y:X.mg "zip"=c_) (e:DE K W b_ X a fa) (d:DE K W b_ X b fb) (c: ~~~(Gl X "zip")) (J: ~~~(i_ [a,b] X.env=[(b_,Eu a X.env),(b_,Eu b X.env)])) (I: ~~~(i_ [b] X.env=[(b_,Eu b X.env)])) (f: ~~~(X.K=K)) :
  DI K W X (.Tuple elts k q) (.Call (.Name "zip" p) [a,b] [] pos) (Bm fa fb):=by
 subst f;exact (pi_zip c Y e d J I).imp fun _ _ _=>ri_zip
end
theorem zv {n:Nat}:∀{ds:List Dat} {d:Dat},kH ds n=d_->d∈ds->okE d n=d_
 |[],d,_,h=>by simp at h
 |a::ds,d,h,hd=>by
  unfold kH at h;simp only [n_] at h;rcases v_.mp hd with e|e
  ·rw [e];exact h.1
  ·exact zv h.2 e
section
variable {W:dZ} {own:Bool}
open Classical in
theorem has_D (I:Inv X pins σ H s) (hF:aF F H) {ds:List Dat} {xs:List V} {its:List Value} {a:Dat} {x:V} (od:kH ds 40=true) (oa:okE a 40=true) (qs:ay X.K F ds xs) (rv:Vals xs its) (qa:aR X.K F a x) (ra:RelV x u) (hu:A.units+40<cLine) :
  ∃e:Value->Bool,(∀y,y∈its.toArray->SeqAt.EqAt A s y u (e y))/\its.toArray.any e=ds.any fun d=>eqD d a:=by
 have each:∀(i:Nat) (y:Value),its[i]? =some y->∃d,ds[i]? =some d/\SeqAt.EqAt A s y u (eqD d a):=fun i y hy=>by
  have hi:i<its.length:=(List.getElem?_eq_some_iff.mp hy).1;have h1:i<xs.length:=by rw [rv.length];exact hi
  have h2:i<ds.length:=by rw [<- qs.length];exact h1
  obtain ⟨v,e1,q1⟩:=qs.get (List.getElem?_eq_getElem h2);obtain ⟨w,e2,r2⟩:=rv.get e1;rw [hy] at e2;cases e2;exact ⟨_,List.getElem?_eq_getElem h2,De I hF _ a (zv od (List.getElem_mem h2)) oa q1 qa r2 ra hu⟩
 refine ⟨fun y=>decide (∃(i:Nat) (d:Dat),its[i]? =some y/\ds[i]? =some d/\eqD d a=true),fun y hy=>?_,?_⟩
 ·by_cases h:∃(i:Nat) (d:Dat),its[i]? =some y/\ds[i]? =some d/\eqD d a=true
  ·obtain ⟨i,d,h1,h2,h3⟩:=h;obtain ⟨d',h4,h5⟩:=each i y h1;rw [h2] at h4;cases h4;rw [h3] at h5;have:decide (∃(i:Nat) (d:Dat),its[i]? =some y/\ds[i]? =some d/\eqD d a=true)=true:=decide_eq_true ⟨i,d,h1,h2,h3⟩;show SeqAt.EqAt A s y u (decide _);rw [this];exact h5
  ·have hm:y∈its:=by simpa using hy
   obtain ⟨i,hi⟩:=List.getElem?_of_mem hm;obtain ⟨d,h4,h5⟩:=each i y hi;have h6:eqD d a=false:=by
    cases hq:eqD d a with
    |false=>rfl
    |true=>exact absurd ⟨i,d,hi,h4,hq⟩ h
   rw [h6] at h5;show SeqAt.EqAt A s y u (decide _);rw [decide_eq_false h];exact h5
 ·rw [Bool.eq_iff_iff];simp only [List.any_toArray,List.any_eq_true,decide_eq_true_eq];constructor
  ·rintro ⟨y,hy,i,d,h1,h2,h3⟩;exact ⟨d,List.mem_of_getElem? h2,h3⟩
  ·rintro ⟨d,hd,h3⟩;obtain ⟨i,hi⟩:=List.getElem?_of_mem hd;have h2:i<ds.length:=(List.getElem?_eq_some_iff.mp hi).1;have h4:i<its.length:=by rw [<- rv.length,qs.length];exact h2
   exact ⟨its[i],List.getElem_mem h4,i,d,List.getElem?_eq_getElem h4,hi,h3⟩
theorem o_in (r:X.A.units+64<FK) (q: ~~~(X.K=K)):Op2 K W own X (Es .In) inM:=by
 subst q;intro pins s σ H x y v u Q I m k h;obtain ⟨F,a,b,c,o,n,p⟩:=h;have f:X.A.in1.units+40<FK:=by show X.A.units+1+40<FK;omega
 cases b with
 |lst ds=>
  obtain ⟨l,xs,e,t,z⟩:=n;subst e;cases k;have Y:aC X.K W own F H (if (okE a 40&&kH ds 40)=d_ then .ok (.bl (ds.any fun d=>eqD d a)) else stk) Q:=p;by_cases J:(okE a 40&&kH ds 40)=d_
  ·rw [f_ J] at Y;simp only [n_] at J;obtain ⟨its,g,pl,_⟩:=I.list (c.lst t);obtain ⟨e,i,j⟩:=has_D (A:=X.A.in1) I c J.2 J.1 z g o m f;refine SeqAt.in_listAt e pl.isList i ?_;rw [j];exact Y.blS c I
  ·rw [m_ J] at Y;exact Y.stuck
 |tup ds=>
  obtain ⟨l,xs,e,t,z⟩:=n;subst e;cases k;have Y:aC X.K W own F H (if (okE a 40&&kH ds 40)=d_ then .ok (.bl (ds.any fun d=>eqD d a)) else stk) Q:=p;by_cases J:(okE a 40&&kH ds 40)=d_
  ·rw [f_ J] at Y;simp only [n_] at J;obtain ⟨its,g,pl,_⟩:=I.tuple (c.tup t);obtain ⟨e,i,j⟩:=has_D (A:=X.A.in1) I c J.2 J.1 z g o m f;refine SeqAt.in_tupleAt e (show s.heap.IsTuple l its.toArray from pl) i ?_;rw [j];exact Y.blS c I
  ·rw [m_ J] at Y;exact Y.stuck
 |_=>exact aC.stuck p
theorem jo (r:X.A.units+64<FK) (q: ~~~(X.K=K)):Op2 K W own X (Es .NotIn) gR:=by
 subst q;intro pins s σ H x y v u Q I m k h;obtain ⟨F,a,b,c,o,n,p⟩:=h;have f:X.A.in1.units+40<FK:=by show X.A.units+1+40<FK;omega
 cases b with
 |lst ds=>
  obtain ⟨l,xs,e,t,z⟩:=n;subst e;cases k;have Y:aC X.K W own F H (if (okE a 40&&kH ds 40)=d_ then .ok (.bl (!ds.any fun d=>eqD d a)) else stk) Q:=p;by_cases J:(okE a 40&&kH ds 40)=d_
  ·rw [f_ J] at Y;simp only [n_] at J;obtain ⟨its,g,pl,_⟩:=I.list (c.lst t);obtain ⟨e,i,j⟩:=has_D (A:=X.A.in1) I c J.2 J.1 z g o m f;refine SeqAt.notIn_listAt e pl.isList i ?_;rw [j];exact Y.blS c I
  ·rw [m_ J] at Y;exact Y.stuck
 |tup ds=>
  obtain ⟨l,xs,e,t,z⟩:=n;subst e;cases k;have Y:aC X.K W own F H (if (okE a 40&&kH ds 40)=d_ then .ok (.bl (!ds.any fun d=>eqD d a)) else stk) Q:=p;by_cases J:(okE a 40&&kH ds 40)=d_
  ·rw [f_ J] at Y;simp only [n_] at J;obtain ⟨its,g,pl,_⟩:=I.tuple (c.tup t);obtain ⟨e,i,j⟩:=has_D (A:=X.A.in1) I c J.2 J.1 z g o m f;refine SeqAt.notIn_tupleAt e (show s.heap.IsTuple l its.toArray from pl) i ?_;rw [j];exact Y.blS c I
  ·rw [m_ J] at Y;exact Y.stuck
 |_=>exact aC.stuck p
end
abbrev ZRec (h:EY) (z p q:e_) (m k:l_):Prop:=h.get? z=a_ {cls:=.type "zip",dict:=c_,data:=.fields #[m,k,.bool b_,.ref p,.ref q],slots:=#[]}
structure Zs (z p q u v l m:e_) (r k a b:l_) (i j:Nat) (xs ys:Array l_) (h:EY):Prop where
 me:ZRec h z p q r k
 its:IsPair h p (.ref u) (.ref v)
 own:IsPair h q a b
 one:h.IsListIter u l i
 two:h.IsListIter v m j
 xl:h.IsList l xs
 yl:h.IsList m ys
def Off (z q u v:e_) (h h':EY):Prop:=∀c o,c≠z->c≠q->c≠u->c≠v->h.get? c=a_ o->h'.get? c=a_ o
section
variable {z q u v:e_} {a b:l_} {g:EY}
theorem Off.then (A:Off z q u v h h') (B:Off z q u v h' g):Off z q u v h g:=fun c o a b d e x=>B c o a b d e (A c o a b d e x)
end
theorem Step.stays {o:HO} (s:Step F H F' H') (n:F a=c_) (h:H a=a_ o):F' a=c_:=by
 cases e:F' a with
 |none=>rfl
 |some u=>
  rcases s.nw a u e with z|z
  ·rw [n] at z;cases z
  ·rw [h] at z;cases z
structure Bf (K:Fg) (F G H:Hp) (ds:List Dat) (vs:List V):Prop where
 len:vs.length=ds.length
 get:∀(k:Nat) (d:Dat),ds[k]? =a_ d->∃a xs es,vs[k]? =a_ (.ref a)/\d=.lst es/\H a=a_ (.lst xs)/\F a=c_/\G a=c_/\ay K F es xs
 ap:∀(j k:Nat) (a:e_),vs[j]? =a_ (.ref a)->vs[k]? =a_ (.ref a)->j=k
section
variable {ds:List Dat} 
theorem Bf.step (o:Bf K F G H ds vs) (s:Step F H F' H'):Bf K F' G H' ds vs where
 len:=o.len
 get:=fun k d e=>by
  obtain ⟨a,xs,es,h1,h2,I,b,Y,J⟩:=o.get k d e;exact ⟨a,xs,es,h1,h2,s.hh _ _ I,s.stays b I,Y,J.mono s.ff⟩
 ap:=o.ap
theorem Bf.at (o:Bf K F G H ds vs) {k:Nat} {a:e_} (h:vs[k]? =a_ (.ref a)):∃xs es,ds[k]? =a_ (.lst es)/\H a=a_ (.lst xs)/\F a=c_/\G a=c_/\ay K F es xs:=by
 have I:k<ds.length:=by rw [<- o.len];exact (A1.mp h).1
 obtain ⟨b,xs,es,h1,h2,d,c,Y,J⟩:=o.get k ds[k] (by simp [I]);rw [h] at h1;cases h1;exact ⟨xs,es,by rw [<- h2];simp [I],d,c,Y,J⟩
end
def rowAt (rs:List Dat) (a:Int):M (Nat×List Dat):=match ixN rs.length a with
 |some j=>(match rs[j]? with
  |some (.lst es)=>.ok (j,es)
  |_=>.error .stuck)
 |none=>.error .stuck
def setRow (rs:List Dat) (I:Nat×List Dat) (b:Int) (x:Dat):M (List Dat):=match ixN I.2.length b with
 |some k=>.ok (rs.set I.1 (.lst (I.2.set k x)))
 |none=>.error .stuck
def rows3 (i:Nat) (rs:List Dat) (x:Dat) (J:Nat×List Dat) (Y:ah->M Dat) (ρ:ah):M Flo:=(Y (ρ.set i c_)).bind fun b=>(asI b).bind fun b=>(setRow rs J b x).bind fun I=>.ok (.nx (ρ.set i (a_ (.lst I))))
def rows2 (i:Nat) (rs:List Dat) (x:Dat) (Y J:ah->M Dat) (ρ:ah):M Flo:=(Y (ρ.set i c_)).bind fun a=>(asI a).bind fun a=>(rowAt rs a).bind fun I=>rows3 i rs x I J ρ
structure RepR (K:Fg) (F0 H0 FB:Hp) (i:Nat) (a:e_) (ys:List V) (rs:List Dat) (F H:Hp) (σ:St) (ρ:ah):Prop where
 r:Rep K F0 H0 FB [] F H σ ρ
 sl:σ[i]? =a_ (a_ (.ref a))
 hp:H a=a_ (.lst ys)
 fa:F a=c_
 ha:H0 a=c_
 nm:∀m:Nat,ys[m]?≠a_ (.ref a)
 ow:Bf K F H0 H rs ys
section
variable {ys:List V} {rs:List Dat} 
theorem RepR.step (h:RepR K F0 H0 FB i a ys rs F H σ ρ) (s:Step F H F1 H1):RepR K F0 H0 FB i a ys rs F1 H1 σ ρ:=
 ⟨h.r.step s,h.sl,s.hh _ _ h.hp,s.stays h.fa h.hp,h.ha,h.nm,h.ow.step s⟩
theorem RepR.base {I:Hp} (h:RepR K F0 H0 FB i a ys rs F H σ ρ) (s:aF I FB):RepR K F0 H0 I i a ys rs F H σ ρ:=⟨h.r.base s,h.sl,h.hp,h.fa,h.ha,h.nm,h.ow⟩
end
section
variable {κ:Type} [DecidableEq κ]
noncomputable def uj (kvs:List (κ×V)) (k:κ):Option V:=(kvs.find? fun I=>r_ (I.1=k)).map (·.2)
noncomputable def putK (kvs:List (κ×V)) (k:κ) (v:V):List (κ×V):=
 if (kvs.any fun I=>r_ (I.1=k))=d_ then kvs.map (fun I=>if I.1=k then (I.1,v) else I) else kvs++[(k,v)]
noncomputable def dropK (kvs:List (κ×V)) (k:κ):List (κ×V):=kvs.filter fun I=>r_ (I.1≠k)
theorem yL {k:κ}:uj ([]:List (κ×V)) k=c_:=rfl
theorem lu {p:κ×V} {r:List (κ×V)} {k:κ} (e:p.1=k):uj (p::r) k=a_ p.2:=by simp [uj,Ff,e]
theorem lA {p:κ×V} {r:List (κ×V)} {k:κ} (e:¬p.1=k):uj (p::r) k=uj r k:=by simp [uj,Ff,e]
theorem o7 (k:κ):∀kvs:List (κ×V),(kvs.any fun I=>r_ (I.1=k))=(uj kvs k).isSome
 |[]=>rfl
 |p::r=>by
  rw [Ka];by_cases e:p.1=k
  ·simp only [lu e,q_ e,MW,KY]
  ·rw [lA e,j_ e,Bool.false_or];exact o7 k r
theorem kM (kvs:List (κ×V)) (k:κ) (v:V):(putK kvs k v).length<=kvs.length+1:=by
 unfold putK;split
 ·rw [t_];omega
 ·rw [Ey,Ex,Jy];omega
theorem zi {kvs:List (κ×V)} {k:κ} (v:V) (h:uj kvs k=c_):putK kvs k v=kvs++[(k,v)]:=by
 unfold putK;rw [o7,h];exact m_ (by decide)
theorem oA.vJ {o:Option V} {u:Option l_} (r:oA o u):o.isSome=u.isSome:=by
 cases o with
 |none=>cases u with
  |none=>rfl
  |some _=>exact (show False from r).elim
 |some _=>cases u with
  |none=>exact (show False from r).elim
  |some _=>rfl
theorem oA.getD {o:Option V} {u:Option l_} {d:V} {d':l_} (r:oA o u) (I:RelV d d'):RelV (o.getD d) (u.getD d'):=by
 cases o with
 |none=>cases u with
  |none=>exact I
  |some _=>exact (show False from r).elim
 |some _=>cases u with
  |none=>exact (show False from r).elim
  |some _=>exact r
theorem KV.val {kvs:List (κ×V)} {vs:List (κ×l_)} (r:KV kvs vs) (k:κ):oA (uj kvs k) (JB vs k):=by
 unfold KV at r
 induction r with
 |nil=>exact Fl
 |@cons p q ps I h t Y=>
  obtain ⟨h1,h2⟩:=h;by_cases e:p.1=k
  ·have J:q.1=k:=h1.symm.trans e;have b:JB (q::I) k=a_ q.2:=by simp [JB,Ff,J]
   rw [lu e,b];exact h2
  ·have J:¬q.1=k:=fun z=>e (h1.trans z);have b:JB (q::I) k=JB I k:=by simp [JB,Ff,J]
   rw [lA e,b];exact Y
theorem KV.any {kvs:List (κ×V)} {vs:List (κ×l_)} (r:KV kvs vs) (k:κ):(kvs.any fun I=>r_ (I.1=k))=vs.any fun I=>r_ (I.1=k):=by
 unfold KV at r
 induction r with
 |nil=>rfl
 |cons h t J=>rw [Ka,Ka,J,h.1]
theorem KV.repl {kvs:List (κ×V)} {vs:List (κ×l_)} (r:KV kvs vs) (k:κ) (J:RelV y u) :
  KV (kvs.map fun I=>if I.1=k then (I.1,y) else I) (vs.map fun I=>if I.1=k then (I.1,u) else I):=by
 unfold KV at r ⊢
 induction r with
 |nil=>exact .nil
 |@cons p q ps a h t Y=>
  rw [Eh,Eh];refine .cons ?_ Y;obtain ⟨h1,h2⟩:=h;by_cases e:p.1=k
  ·rw [f_ e,f_ (h1.symm.trans e)];exact ⟨h1,J⟩
  ·rw [m_ e,m_ (fun z=>e (h1.trans z))];exact ⟨h1,h2⟩
theorem KV.put {kvs:List (κ×V)} {vs:List (κ×l_)} (r:KV kvs vs) (k:κ) (I:RelV y u):KV (putK kvs k y) (stored vs k u):=by
 unfold putK stored;rw [r.any k];by_cases e:(vs.any fun J=>r_ (J.1=k))=d_
 ·rw [f_ e,f_ e];exact r.repl k I
 ·rw [m_ e,m_ e];exact Kp r ⟨rfl,I⟩
theorem KV.drop {kvs:List (κ×V)} {vs:List (κ×l_)} (r:KV kvs vs) (k:κ):KV (dropK kvs k) (without vs k):=by
 unfold KV at r ⊢;unfold dropK without
 induction r with
 |nil=>exact .nil
 |@cons p q ps Y h t I=>
  obtain ⟨h1,h2⟩:=h;rw [LZ,LZ];by_cases e:p.1=k
  ·have a:¬r_ (p.1≠k)=d_:=by simp [e]
   have b:¬r_ (q.1≠k)=d_:=by simp [h1.symm.trans e]
   rw [m_ a,m_ b];exact I
  ·have J:¬q.1=k:=fun z=>e (h1.trans z);have a:r_ (p.1≠k)=d_:=by simp [e]
   have b:r_ (q.1≠k)=d_:=by simp [J]
   rw [f_ a,f_ b];exact .cons ⟨h1,h2⟩ I
theorem KV.length {kvs:List (κ×V)} {vs:List (κ×l_)} (r:KV kvs vs):kvs.length=vs.length:=HQ r
end
theorem CV {k:Key} (r:RelV (kV k) u):(cG P w).is k u=d_:=by
 cases k with
 |inl i=>obtain ⟨t,e⟩:=(show ∃t,u=Hj i t from r);subst e;exact xT P w i t
 |inr x=>obtain ⟨t,e⟩:=(show ∃t,u=FJ x t from r);subst e;exact xS P w x t
theorem vH {P:Fp} {w:Fu}:∀{ks:List Key} {us:List l_},Vals (ks.map kV) us->ItemsAre (cG P w) ks us
 |[],_,r=>by rw [GA] at r;cases r;exact .nil
 |k::ks,_,r=>by
  rw [Eh] at r;cases r with
  |cons h t=>exact .cons (CV h) (vH t)
abbrev KT (H:Hp):List (List Key×V)->List (List Key×e_×l_)->Prop:=Hu fun p q=>p.1=q.1/\H q.2.1=a_ (.tup (p.1.map kV))/\RelV p.2 q.2.2
theorem KT.val {xs:List (List Key×e_×l_)} (r:KT H kvs xs) (k:List Key):oA (uj kvs k) ((IG xs k).map (·.2)):=by
 induction r with
 |nil=>exact Fl
 |@cons p q ps I h t Y=>
  obtain ⟨h1,_,h2⟩:=h;by_cases e:p.1=k
  ·have J:q.1=k:=h1.symm.trans e;have b:IG (q::I) k=a_ q.2:=by simp [IG,Ff,J]
   rw [lu e,b];exact h2
  ·have J:¬q.1=k:=fun z=>e (h1.trans z);have b:IG (q::I) k=IG I k:=by simp [IG,Ff,J]
   rw [lA e,b];exact Y
theorem KT.repl {xs:List (List Key×e_×l_)} (r:KT H kvs xs) (k:List Key) (J:RelV y u) :
  KT H (kvs.map fun I=>if I.1=k then (I.1,y) else I) (xs.map (putAt k u)):=by
 induction r with
 |nil=>exact .nil
 |@cons p q ps b h t Y=>
  rw [Eh,Eh];refine .cons ?_ Y;obtain ⟨h1,h2,a⟩:=h;unfold putAt;by_cases e:p.1=k
  ·rw [f_ e,f_ (h1.symm.trans e)];exact ⟨h1,h2,J⟩
  ·rw [m_ e,m_ (fun z=>e (h1.trans z))];exact ⟨h1,h2,a⟩
theorem KT.put {xs:List (List Key×e_×l_)} (r:KT H kvs xs) (k:List Key) (Y:H b=a_ (.tup (k.map kV))) (I:RelV y u) :
  KT H (putK kvs k y) (ME xs k b u):=by
 have e:(kvs.any fun J=>r_ (J.1=k))=(IG xs k).isSome:=by
  rw [o7,(r.val k).vJ,G9]
 unfold putK ME;rw [e];by_cases q:(IG xs k).isSome=d_
 ·rw [f_ q,f_ q];exact r.repl k I
 ·rw [m_ q,m_ q];exact Kp r ⟨rfl,Y,I⟩
theorem KT.keeps {xs:List (List Key×e_×l_)} (r:KT H kvs xs) (I:∀b ys,H b=a_ (.tup ys)->H' b=a_ (.tup ys)):KT H' kvs xs:=
 Paired.mapP r fun _ _ z=>⟨z.1,I _ _ z.2.1,z.2.2⟩
section
theorem rd_of {u:HO} (I:HOk P w H h) (e:Rd H a u):cA P w H h a u:=e.ok I
theorem Dq {kvs:List (Key×V)} (I:HOk P w H h) (e:Rd H a (.dK kvs)):kvs.length<=g_/\(a==Fj)=b_/\∃vs,KV kvs vs/\h.DictOf (cG P w) a vs:=
 show cA P w H h a (.dK kvs) from rd_of I e
theorem dk_of {kvs:List (Key×V)} (I:HOk P w H h) (e:H a=a_ (.dK kvs)):kvs.length<=g_/\(a==Fj)=b_/\∃vs,KV kvs vs/\h.DictOf (cG P w) a vs:=Dq I (.inl e)
theorem zD {ks:List Key} (I:HOk P w H h) (e:H a=a_ (.tup (ks.map kV))):(Iv (cG P w)).is h ks a:=by
 obtain ⟨_,its,r,o,h1,h2,n,J⟩:=(show cA P w H h a (.tup (ks.map kV)) from I a _ e)
 exact ⟨o,its.toArray,n,h1,h2,J,by simpa using vH r⟩
theorem Dl (Y:HOk P w H h) (e:Rd H a (.dT kvs)):kvs.length<=g_/\(a==Fj)=b_ /\
  ∃xs,KT H kvs xs/\h.DictOfH (Iv (cG P w)) a xs:=by
 obtain ⟨z,y,xs,r,o,es,ep,h1,h2,g,f,d⟩:=(show cA P w H h a (.dT kvs) from rd_of Y e)
 refine ⟨z,y,xs,r,o,es,ep,h1,h2,g,f,fun x I=>?_,d⟩
 have J:∀{l:List (List Key×V)} {m:List (List Key×e_×l_)},KT H l m->∀x∈m,(Iv (cG P w)).is h x.1 x.2.1:=by
  intro l m q
  induction q with
  |nil=>intro x I;exact nomatch I
  |@cons p q ps i b t c=>
   intro x I;rcases v_.mp I with e|I
   ·subst e;exact zD Y (by rw [<- b.1];exact b.2.1)
   ·exact c x I
 exact J r x I
theorem dt_of (I:HOk P w H h) (e:H a=a_ (.dT kvs)):kvs.length<=g_/\(a==Fj)=b_ /\
  ∃xs,KT H kvs xs/\h.DictOfH (Iv (cG P w)) a xs:=Dl I (.inl e)
end
def wD (H:Hp) (a:e_) (y:V) (r:Option V):Prop:=
 (∃kvs k,Rd H a (.dK kvs)/\y=kV k/\r=uj kvs k)\/∃kvs k b,Rd H a (.dT kvs)/\y=.ref b/\H b=a_ (.tup (k.map kV))/\r=uj kvs k
def DPut (H:Hp) (a:e_) (y v:V) (H':Hp):Prop:=
 (∃kvs k,H a=a_ (.dK kvs)/\y=kV k/\kvs.length<g_/\H'=upd H a (.dK (putK kvs k v))) \/
 ∃kvs k b,H a=a_ (.dT kvs)/\y=.ref b/\H b=a_ (.tup (k.map kV))/\kvs.length<g_/\H'=upd H a (.dT (putK kvs k v))
theorem wD.k {H:Hp} {a:e_} {kvs:List (Key×V)} {k:Key} (e:H a=a_ (.dK kvs)):wD H a (kV k) (uj kvs k):=.inl ⟨kvs,k,.inl e,rfl,rfl⟩
theorem wD.t {k:List Key} (e:H a=a_ (.dT kvs)) (I:H b=a_ (.tup (k.map kV))):wD H a (.ref b) (uj kvs k):=.inr ⟨kvs,k,b,.inl e,rfl,I,rfl⟩
theorem DPut.t {k:List Key} (e:H a=a_ (.dT kvs)) (J:H b=a_ (.tup (k.map kV))) (I:kvs.length<g_) :
  DPut H a (.ref b) v (upd H a (.dT (putK kvs k v))):=.inr ⟨kvs,k,b,e,rfl,J,I,rfl⟩
section
variable {r:l_} {o:Option V} {E:Vp}
theorem Inv.big (I:Inv X pins σ H s):Fj<s.heap.objs.size:=by
 have h:EG<s.heap.objs.size:=(I.mod.glob.keeps I.bk).lt;exact Iq (by decide) h
theorem DF {Q:Vp} (j:A.units+1<FK) (I:Inv X pins σ H s) (g:wD H a y (a_ v)) (i:RelV y u) (h:∀c s',Inv X pins σ H s'->RelV v c->Q c s') :
  Cb (Eg X.prog X.w) A (Jd (.ref a) u) Q E s:=by
 rcases g with ⟨kvs,k,e,f,l⟩|⟨kvs,k,b,e,f,n,l⟩
 ·subst f;obtain ⟨z,hd,vs,Y,dd⟩:=Dq I.hok e;obtain ⟨c,hw,J⟩:=oA.some_of (v:=v) (o:=JB vs k) (by rw [l];exact Y.val k);exact wpAny_getItem_of (CV i) dd.mapOf hw (h c _ (I.tok _) J)
 ·subst f;cases (show u=D_ b from i);obtain ⟨z,hd,xs,Y,dd⟩:=Dl I.hok e;obtain ⟨c,hw,J⟩:=oA.some_of (v:=v) (o:=(IG xs k).map (·.2)) (by rw [l];exact Y.val k);obtain ⟨p,m,d⟩:=J_.mp hw;refine wpAny_getItem_heap (Hf j) (zD I.hok n) dd m ?_;rw [d];exact h c _ (I.tok _) J
theorem yo {t':Nat} {J:HO} (I:Inv X pins σ H s) (c:Mut (H a)) (d:HC a s.heap h') (f:∃q,h'.get? a=a_ q) (Y:cA X.prog X.w (upd H a J) h' a J) :
  Inv X pins σ (upd H a J) {s with heap:=h',toks:=t'}:=
 I.write (x:=a) (e:=a) c (.inl rfl) (fun b q g z=>(d.2 b g).trans z) f Y
theorem dk_new {kvs:List (Key×V)} {vs:List (Key×l_)} (z:kvs.length<=g_) (hd:(a==Fj)=b_) (I:KV kvs vs) (dd:h'.DictOf (cG P w) a vs) :
  cA P w H' h' a (.dK kvs):=⟨z,hd,vs,I,dd⟩
theorem DC {Q:Unit->z_->Prop} (x:A.units+1<FK) (I:Inv X pins σ H s) (g:DPut H a y v H') (o:RelV y u) (p:RelV v r) (h:∀s',Inv X pins σ H' s'->Q () s') :
  Cb (Eg X.prog X.w) A (MH (.ref a) u r) Q E s:=by
 rcases g with ⟨kvs,k,e,m,l,n⟩|⟨kvs,k,b,e,m,w,l,n⟩
 ·subst m n;obtain ⟨z,hd,vs,J,dd⟩:=dk_of I.hok e;have f:vs.length<=g_:=by rw [<- J.length];exact z
  have j:(putK kvs k v).length<=g_:=by have:=kM kvs k v;omega
  refine wpAny_setItem_pairs (hsz:=f) (CV o) dd fun h' Y i=>h _ ?_;have B:∃q,h'.get? a=a_ q:=let ⟨q,_,_,d,_⟩:=Y;⟨q,d⟩;exact yo I (by rw [e];exact Fl) i B (dk_new j hd (J.put k p) Y)
 ·subst m n;cases (show u=D_ b from o);obtain ⟨z,hd,xs,J,dd⟩:=dt_of I.hok e;have f:xs.length<=g_:=by rw [<- HQ J];exact z
  have j:(putK kvs k v).length<=g_:=by have:=kM kvs k v;omega
  refine Mj (hsz:=f) (Hf x) (zD I.hok w) dd fun h' Y i=>h _ ?_;obtain ⟨q,es,ep,d,h2,F,D,_,C⟩:=Y;refine yo I (by rw [e];exact Fl) i ⟨q,d⟩ ⟨j,hd,_,(J.put k w p).keeps fun c ys t=>?_,q,es,ep,d,h2,F,D,C⟩;rw [aq (ne_of t e (fun z=>nomatch z))];exact t
end
def NoSl (i:Fe):Prop:=∀I J,J1 i b_ I J=operate [I,J] (Jd I J)
theorem subD_of {E:Vp} {I:Fe} {id:String} {Q:Vp}
  (g:Mn (.type T) "__getitem__"=FF (a_ (.builtin id))) (f:NoSl I)
  (h:Cb (Eg prog w) A (Eu value env) (fun o b=>Cb (Eg prog w) A (Eu I env) (fun i J=>J.TypeIs o T/\Cb (Eg prog w) A (Jd o i) Q E J) E b) E s) :
  Cb (Eg prog w) A (Eu (.Subscript value I pos) env) Q E s:=by
 refine Mu (EV h (fun o b d=>EV d (fun i J Y=>?_) fun _ _ x=>x) fun _ _ x=>x);obtain ⟨e,Y⟩:=Y;unfold Le;refine k_ ?_;rw [getitemInPython_of_ne e.not_modules];refine k_ (wpAny_specialOf e g ?_);have fin:Cb (Eg prog w) A (J1 I b_ o i) (fun r a=>Cb (Eg prog w) A (letTemporaryGo value o r >>= fun _=>FF r) Q E a) E J:=by
  rw [f o i];exact wpAny_operating (EV Y (fun r a c=>k_ (wpAny_letTemporaryGo (A_ c))) fun _ _ x=>x)
 first
  |exact A_ (k_ fin)
  |exact wpAny_bind (wpAny_pure (wpAny_bind fin))
  |exact wpAny_bind fin
theorem yk {o:Option V} (I:Inv X pins σ H s) (g:wD H a y o):s.TypeIs (.ref a) "dict":=by
 rcases g with ⟨kvs,k,e,_,_⟩|⟨kvs,k,b,e,_,_,_⟩
 ·obtain ⟨_,_,vs,_,dd⟩:=Dq I.hok e;exact dd.typeIs
 ·obtain ⟨_,_,xs,_,dd⟩:=Dl I.hok e;exact dd.typeIs
def tDGet (td ty:TE):TE:=fun σ H Q=>td σ H fun x H1=>ty σ H1 fun y H2=>∃a v,x=.ref a/\wD H2 a y (a_ v)/\Q v H2
def sDPut (td ty tv:TE):TS:=fun D σ H=>tv σ H fun v H1=>td σ H1 fun x H2=>ty σ H2 fun y J=>∃a I,x=.ref a/\DPut J a y v I/\D.nx σ I
section
variable {i:Fe} {ty:TE}
theorem xH (j:X.A.units+1<FK) (l:PE X o td) (hi:PE X i ty) (k:NoSl i):PE X (.Subscript o i pos) (tDGet td ty):=by
 intro pins s σ H Q I h;refine subD_of PySem.F.slot_dict_getitem.lookup k (thn (l pins s σ H _ I h) fun u b ⟨x,H1,n,d,f⟩=>thn (hi pins b σ H1 _ n f) fun t r ⟨y,H2,Y,c,a,v,ex,g,e⟩=>?_);subst ex;obtain rfl:u=D_ a:=d;exact ⟨yk Y g,DF j Y g c fun p q m J=>⟨v,H2,m,J,e⟩⟩
theorem ps_dput (k:X.A.units+1<FK) (m:PE X o td) (hi:PE X i ty) (hv:PE X value tv) (l:FV value (a_ (.Subscript o i pos')) pos.line X.env=FF b_) :
  PS X (.Assign [.Subscript o i pos'] value pos) (sDPut td ty tv):=by
 intro pins s σ H D I h;refine LB (thn (hv pins s σ H _ I h) fun r Y ⟨v,H1,t,d,j⟩=>thn (m pins Y σ H1 _ t j) fun u J ⟨x,H2,q,c,f⟩=>thn (hi pins J σ H2 _ q f) fun B A ⟨y,C,p,b,a,w,ex,g,e⟩=>?_) l;subst ex;obtain rfl:u=D_ a:=c;exact DC k p g b d fun z n=>⟨σ,w,n,e⟩
end
theorem dk_empty (h:EY) (I:Fj<h.objs.size):cA P w H (h.push {cls:=.type "dict",data:=.dict #[]}) h.objs.size (.dK []):=
 ⟨FX _,FQ.mpr (EI (EA I)),[],.nil,Heap.DictOf.new h⟩
theorem dt_empty (h:EY) (I:Fj<h.objs.size):cA P w H (h.push {cls:=.type "dict",data:=.dict #[]}) h.objs.size (.dT []):=
 ⟨FX _,FQ.mpr (EI (EA I)),[],.nil,_,#[],0,Ei _ rfl,⟨rfl,rfl,rfl⟩,rfl,rfl,Iz⟩
def yT:TE:=fun _ H Q=>∀p,H p=c_->Q (.ref p) (upd H p (.dT []))
section
theorem sS:PE X (.Dict [] [] pos) yT:=fun pins s σ H Q I h=>
 M0 ⟨.ref s.heap.objs.size,_,I.laid (a:=s.heap.objs.size) (o:=.dT []) (t':=s.toks) (fun _ _ q=>s_ _ q) (u_ _) (dt_empty s.heap I.big),rfl,h _ (I.hok.fresh (u_ _))⟩
end
def BE:List (TE×TE)->St->Hp->(List (V×V)->Hp->Prop)->Prop
 |[],_,H,Q=>Q [] H
 |(tk,tv)::r,σ,H,Q=>tk σ H fun x H1=>tv σ H1 fun y H2=>BE r σ H2 fun ps I=>Q ((x,y)::ps) I
abbrev VV:List (V×V)->List (l_×l_)->Prop:=Hu fun p q=>RelV p.1 q.1/\RelV p.2 q.2
def PPs (X:Cx) (pos:M4) (J:List (Option Fe)) (I:List Fe) (trs:List (TE×TE)):Prop:=
 ∀(pins:Pn) (s:z_) (σ:St) (H:Hp) (Q:List (V×V)->Hp->Prop),Inv X pins σ H s->BE trs σ H Q ->
  Cb (Eg X.prog X.w) X.A (evalPairs (pairTrees J I X.env pos)) (fun vs s'=>∃ps H',Inv X pins σ H' s'/\VV ps vs/\Q ps H') X.xe s
theorem pps_nil:PPs X pos [] [] []:=fun pins s σ H Q I h=>pairTrees_nil_walk ⟨[],H,I,.nil,h⟩
theorem zq {k v:Fe} {ks:List (Option Fe)} {vs:List Fe} {tk:TE} (i:PE X k tk) (hv:PE X v tv) (g:PPs X pos ks vs trs) :
  PPs X pos (a_ k::ks) (v::vs) ((tk,tv)::trs):=fun pins s σ H Q I h=>
 pairTrees_cons_walk (thn (i pins s σ H _ I h) fun u a ⟨x,H1,m,c,f⟩=>thn (hv pins a σ H1 _ m f) fun w2 Y ⟨y,H2,l,b,e⟩=>
  thn (g pins Y σ H2 _ l e) fun ws o ⟨ps,n,j,J,d⟩=>⟨(x,y)::ps,n,j,.cons ⟨c,b⟩ J,d⟩)
def nh (kvs I:List (Key×V)):List (Key×V):=I.foldl (fun J Y=>putK J Y.1 Y.2) kvs
theorem KV.merge:∀{I:List (Key×V)} {rs:List (Key×l_)} {kvs:List (Key×V)} {vs:List (Key×l_)},KV I rs->KV kvs vs->KV (nh kvs I) (merged vs rs):=by
 intro I rs kvs vs r;unfold KV at r
 induction r generalizing kvs vs with
 |nil=>intro q;exact q
 |@cons p q ps a h t Y=>
  intro J;have e:KV (putK kvs p.1 p.2) (stored vs q.1 q.2):=by
   have:=J.put p.1 h.2;rw [<- h.1];exact this
  exact Y e
theorem lO:∀(I kvs:List (Key×V)),(nh kvs I).length<=kvs.length+I.length
 |[],kvs=>by show kvs.length<=kvs.length+0;omega
 |p::r,kvs=>by
  have h1:=lO r (putK kvs p.1 p.2);have h2:=kM kvs p.1 p.2;show (nh (putK kvs p.1 p.2) r).length<=_;rw [Ex];omega
theorem rR {P:Fp} {w:Fu}:∀{kvs:List (Key×V)} {ws:List (l_×l_)},VV (kvs.map fun I=>(kV I.1,I.2)) ws->∃rs,Carries (cG P w) ws rs/\KV kvs rs
 |[],_,r=>by rw [GA] at r;cases r;exact ⟨[],Fl,.nil⟩
 |p::kvs,_,r=>by
  rw [Eh] at r;cases r with
  |@cons a b as bs h t=>
   obtain ⟨rs,c,q⟩:=rR (P:=P) (w:=w) t;obtain ⟨b1,b2⟩:=b;exact ⟨(p.1,b2)::rs,⟨CV h.1,rfl,c⟩,.cons ⟨rfl,h.2⟩ q⟩
def tDisp (trs:List (TE×TE)):TE:=fun σ H Q=>∀p,H p=c_->BE trs σ (upd H p (.dK [])) fun ps H2=>H2 p=a_ (.dK [])/\∃kvs:List (Key×V),ps=kvs.map (fun I=>(kV I.1,I.2))/\kvs.length<=15/\Q (.ref p) (upd H2 p (.dK (nh [] kvs)))
theorem pe_disp {J:List (Option Fe)} {Y:List Fe} (h:PPs X pos J Y trs) (b:J.all (·.isSome)=d_) (u:J.length=Y.length) (x:J≠[])
  (g:J.length<=15):PE X (.Dict J Y pos) (tDisp trs):=by
 intro pins s σ H Q I q;have t:=I.hok.fresh (u_ s.heap.objs.size);have y:=I.laid (a:=s.heap.objs.size) (o:=.dK []) (h':=s.heap.push {cls:=.type "dict",data:=.dict #[]}) (t':=s.toks) (fun _ _ q=>s_ _ q) (u_ _) (dk_empty s.heap I.big);refine wpAny_Dict_walk (knd:=cG X.prog X.w) b u x g (thn (h pins _ σ _ _ y (q _ t)) fun ws A ⟨ps,H2,i,f,e,kvs,ep,B,m⟩=>?_);subst ep;obtain ⟨rs,c,k⟩:=rR (P:=X.prog) (w:=X.w) f;obtain ⟨z,hd,j,l,dd⟩:=dk_of i.hok e;cases l;refine ⟨rs,c,dd,fun h' d p=>⟨.ref s.heap.objs.size,_,?_,rfl,m⟩⟩
 have n:(nh [] kvs).length<=g_:=by
  have h1:=lO kvs [];rw [Jy] at h1;rw [Er];omega
 have v:∃q,h'.get? s.heap.objs.size=a_ q:=let ⟨q,_,_,r,_⟩:=d;⟨q,r⟩;exact yo i (by rw [e];exact Fl) p v (dk_new n hd (k.merge .nil) d)
structure M2 (X:Cx) (o:Fe) (m:p_) (apos:M4) (e f:Fe) (cpos:M4):Prop where
 base:FR o m X.env (Eu o X.env)=Eu o X.env
 few:((EN cpos (i_ [e,f] X.env)).all (fun x=> !x.1)&&(GB cpos (Fz [] X.env)).all (fun x=>x.1.isSome)
  &&r_ (([e,f]:List Fe).length+([]:List G2).length+(if ([]:List G2).isEmpty then 0 else 1)<30))=d_
 line:(apos.endLine==cpos.line)=d_
 trees:EN cpos (i_ [e,f] X.env)=[(b_,Eu e X.env),(b_,Eu f X.env)]
def IsD (H:Hp) (a:e_):Prop:=(∃kvs,Rd H a (.dK kvs))\/∃kvs,Rd H a (.dT kvs)
theorem isD_at (I:Inv X pins σ H s) (d:IsD H a) :
  s.TypeIs (.ref a) "dict"/\(∀b,D_ a=.ref b->∃J,s.heap.get? b=a_ J/\J.dict=c_)/\(a==Fj)=b_:=by
 rcases d with ⟨kvs,e⟩|⟨kvs,e⟩
 ·obtain ⟨_,hd,vs,_,dd⟩:=Dq I.hok e;refine ⟨dd.typeIs,fun b q=>?_,hd⟩
  cases q;obtain ⟨J,_,_,h1,h2,_⟩:=dd;exact ⟨J,h1,h2.2.1⟩
 ·obtain ⟨_,hd,xs,_,dd⟩:=Dl I.hok e;refine ⟨dd.typeIs,fun b q=>?_,hd⟩
  cases q;obtain ⟨J,_,_,h1,h2,_⟩:=dd;exact ⟨J,h1,h2.2.1⟩
section
variable {d:V} {r:l_} {o:Option V} {E:Vp}
theorem d_get2 {Q:Vp} (j:A.units+1<FK) (I:Inv X pins σ H s) (g:wD H a y o) (f:RelV y u) (i:RelV d r) (h:∀c s',Inv X pins σ H s'->RelV (o.getD d) c->Q c s') :
  Cb (Eg X.prog X.w) A (Hw (.builtin "dict.get") [.ref a,u,r]) Q E s:=by
 rcases g with ⟨kvs,k,e,Y,l⟩|⟨kvs,k,b,e,Y,m,l⟩
 ·subst Y;obtain ⟨z,hd,vs,J,dd⟩:=Dq I.hok e;refine LH GG dd.typeIs Ia (HW _ _ _) (meets_dict_get_default (cG X.prog X.w) a (CV f) hd r) ⟨_,dd.mapOf,h _ _ (I.tok _) ?_⟩;rw [l];exact (J.val k).getD i
 ·subst Y;cases (show u=D_ b from f);obtain ⟨z,hd,xs,J,dd⟩:=Dl I.hok e;refine LH GG dd.typeIs Ia (HW _ _ _) (Lm (Iv (cG X.prog X.w)) a b hd r) ⟨Hf j,k,xs,zD I.hok m,dd,h _ _ (I.tok _) ?_⟩;rw [l];exact (J.val k).getD i
end
def tDGet2 (td ty tx:TE):TE:=fun σ H Q=>td σ H fun x H1=>∃a,x=.ref a/\IsD H1 a/\ty σ H1 fun y H2=>tx σ H2 fun z I=>∃o,wD I a y o/\Q (o.getD z) I
section
variable {f:Fe} {ty tx:TE}
theorem pe_dget2 (q:X.A.units+1<FK) (r:PE X o td) (v:PE X e ty) (t:PE X f tx) (m:M2 X o "get" apos e f cpos):PE X (.Call (.Attribute o "get" apos) [e,f] [] cpos) (tDGet2 td ty tx):=by
 intro pins s σ H Q I h;refine MB m.base m.few m.line JM GG J6 (thn (r pins s σ H _ I h) fun u c ⟨x,H1,Y,k,a,ex,d,p⟩=>?_);subst ex;obtain rfl:u=D_ a:=k;obtain ⟨t1,t2,_⟩:=isD_at Y d;refine ⟨t1,t2,?_⟩
 rw [m.trees];refine Ig rfl (Iy (Gx (thn (v pins c σ H1 _ Y p) fun K b ⟨y,H2,B,j,n⟩=>
  Gx (thn (t pins b σ H2 _ B n) fun L F ⟨z,C,A,i,G,g,l⟩=>HR ?_))))
 exact d_get2 q A g j i fun D E w J=>⟨_,C,w,J,l⟩
end
noncomputable def keysI (ks:List Int):List (Key×V):=ks.map fun k=>(IE k,.bl d_)
structure RepK (K:Fg) (F0 H0 FB:Hp) (i:Nat) (a:e_) (ks:List Int) (F H:Hp) (σ:St) (ρ:ah):Prop where
 r:Rep K F0 H0 FB [] F H σ ρ
 sl:σ[i]? =a_ (a_ (.ref a))
 hp:H a=a_ (.dK (keysI ks))
 fa:F a=c_
 ha:H0 a=c_
section
variable {ks:List Int} 
theorem RepK.step (h:RepK K F0 H0 FB i a ks F H σ ρ) (s:Step F H F1 H1):RepK K F0 H0 FB i a ks F1 H1 σ ρ:=
 ⟨h.r.step s,h.sl,s.hh _ _ h.hp,s.stays h.fa h.hp,h.ha⟩
end
structure ExA (h:EY) (e:e_) (C:l_) (dx hd:Option e_):Prop where
 ob:∃oe vs,h.get? e=a_ oe/\oe.cls=C/\oe.dict=dx/\oe.data=.fields vs/\vs[1]? =a_ (hd.elim GV D_)
 tb:∀T,hd=a_ T->T≠e/\∃oT ts,h.get? T=a_ oT/\oT.data=.fields ts/\ts[3]? =a_ .none
theorem dictMapF (f:Array l_->Array l_) (o:Io):(o.mapFields f).dict=o.dict:=by
 obtain ⟨c,d,I,J⟩:=o;cases I<;>rfl
theorem size3 {l:List l_} (h:3<l.length):3<l.toArray.size:=by rw [B_];exact h
section
variable {M:Jl} {E:Vp} 
theorem mkEntry {Y I:l_} {pl:List l_} {Q:Vp} (J:IsPlace pl) (h:∀(o:Io) (ts:Array l_),o.data=.fields ts->3<ts.size->o.isFreed=b_->Q (.ref s.heap.objs.size) {s with heap:=s.heap.push o}) :
  Cb M A (Il hv Y .none I .none pl) Q E s:=by
 unfold Il newFields;refine JA (h _ _ rfl (size3 ?_) ?_) (J.sizeOk5 _ _ _ _ _)
 ·simp
 ·exact Ho rfl
structure Left (fs:List e_) (e:e_) (hd:Option e_) (h h':EY):Prop where
 keep:∀b o,h.get? b=a_ o->b∉fs->b≠e->(∀T,hd=a_ T->b≠T)->h'.get? b=a_ o
 slot:∀b o,h.get? b=a_ o->b∈fs->∃sl,h'.get? b=a_ {o with slots:=sl}
 size:h.objs.size<=h'.objs.size
theorem entry_at {base:EY} {e:e_} {C:l_} {vs:Array l_} {Q:Unit->z_->Prop}
  (l:A.frames=a_ (env::outer)) (B:s.heap.FunFrames base (env::outer)) (P:env.frame=a_ L) (D:s.heap.get? e=a_ oe) (R:oe.cls=C) (p:oe.dict=dx) (hd:oe.data=.fields vs) (j:1<vs.size)
  (h:∀h' T,ExA h' e C dx (a_ T)->s.heap.objs.size<=T->Left (frs (env::outer)) e c_ s.heap h'->Q () {s with heap:=h'}) :
  Cb M A (frameOf env >>= fun a=>entryPlaceOf L bn >>= fun pl=>Il hv a .none (Jq L) .none pl >>= fun b=>setField (.ref e) 1 b) (fun _ s'=>Cb M A (Jb (.ref e) c_) Q E s') E s:=by
 have c:∀b o,b∈frs (env::outer)->s.heap.get? b=a_ o->∀vs,o.data≠.fields vs:=fun b o k q=>by
  obtain ⟨_,o',J,n⟩:=B.mem k;rw [q] at J;cases J;exact n
 have Y:e∉frs (env::outer):=fun k=>c e oe k D vs hd;refine k_ (wpAny_frameOf_fun l B P fun h1 K=>?_);obtain ⟨w,v,H⟩:=K;refine k_ (wpAny_entryPlaceOf fun pl O=>?_);refine k_ (mkEntry O fun o ts y F m=>?_);have e1:h1.get? e=a_ oe:=by rw [v e Y];exact D
 have i:h1.objs.size≠e:=fun z=>Ek (y_ e1) (by rw [z];exact Fi _);have e2:(h1.push o).get? e=a_ oe:=s_ o e1;have t2:(h1.push o).get? h1.objs.size=a_ o:=Ei h1 m;refine IV e2 hd j ?_;have u:=I9 hd (·.setIfInBounds 1 (D_ h1.objs.size));have e3:=GQ (h:=h1.push o) (IS (·.setIfInBounds 1 (D_ h1.objs.size))) e2 (Ho u);have t3:((h1.push o).update e (IS (·.setIfInBounds 1 (D_ h1.objs.size)))).get? h1.objs.size=a_ o:=by
  rw [EC _ _ (EI i)];exact t2
 unfold Jb;refine k_ (Hg e3 u (x:=.ref h1.objs.size) (by simp [j]) ?_);rw [f_ (by simp)];refine IV t3 y F ?_;have G:=I9 y (·.setIfInBounds 3 ((c_:Option e_).elim GV fun f=>Jq f));refine h _ h1.objs.size ⟨⟨_,_,by rw [EC _ _ i];exact e3,by rw [Obj.cls_mapFields];exact R,by rw [dictMapF];exact p,u,by simp [j]⟩,fun T S=>?_⟩ (by rw [w];exact u_ _) ⟨fun b o' q t r _=>?_,fun b o' q t=>?_,?_⟩
 ·cases S;exact ⟨i,_,_,GQ _ t3 (Ho G),G,by simp [F]⟩
 ·have I:h1.get? b=a_ o':=by rw [v b t];exact q
  have g:h1.objs.size≠b:=fun z=>Ek (y_ I) (by rw [z];exact Fi _);rw [EC _ _ g,EC _ _ (EI r)];exact s_ o I
 ·obtain ⟨N,I⟩:=H b o' q;have g:h1.objs.size≠b:=fun z=>Ek (y_ I) (by rw [z];exact Fi _);have d:e≠b:=fun z=>Y (z▸t);refine ⟨N,?_⟩
  rw [EC _ _ g,EC _ _ d];exact s_ o I
 ·rw [Hq,Hq,FC,w];exact EK _
theorem leave2 {base:EY} {e:e_} {C:l_} {hd:Option e_} {Q:Unit->z_->Prop}
  (i:A.frames=a_ (env::outer)) (p:s.heap.FunFrames base (env::outer)) (r:env.frame=a_ L) (x:ExA s.heap e C dx hd)
  (h:∀h' T,ExA h' e C dx (a_ T)->s.heap.objs.size<=T->Left (frs (env::outer)) e hd s.heap h'->Q () {s with heap:=h'}):Cb M A (Ll (.ref e) env) (fun _ s'=>Cb M A (Jb (.ref e) c_) Q E s') E s:=by
 obtain ⟨oe,vs,k,B,j,J,h1⟩:=x.ob;have y:1<vs.size:=(HG.mp h1).1;unfold Ll;simp only [r];cases hd with
 |none=>
  refine k_ (Hg k J h1 ?_);rw [m_ (by decide)];exact entry_at i p r k B j J y fun h' T a b c=>h h' T a b c
 |some T=>
  obtain ⟨l,G,ts,v,Y,D⟩:=x.tb T rfl;have m:3<ts.size:=(HG.mp D).1;refine k_ (Hg k J h1 ?_);rw [f_ (by simp)];refine k_ (Hg (x:=.none) v Y D ?_);rw [m_ (by simp [Jq])];refine k_ (IV v Y m ?_);have I:∀b,b≠T->(s.heap.update T (IS (·.setIfInBounds 3 GV))).get? b=s.heap.get? b:=fun b d=>EC _ _ (EI d);have w:∀b o,s.heap.get? b=a_ o->(∀vs,o.data≠.fields vs)->b≠T:=fun b o q n z=>by
   subst z;rw [v] at q;cases q;exact n ts Y
  refine entry_at i (p.of_keeps fun b o q n=>⟨o,by rw [I b (w b o q n)];exact q,rfl⟩) r (by rw [I e (EI l)];exact k) B j J y fun h' F a b c=>?_;refine h h' F a (by rw [Hq] at b;exact b) ⟨fun f o q d t u=>c.keep f o (by rw [I f (u T rfl)];exact q) d t (fun _ z=>nomatch z),fun f o q d=>?_,?_⟩
  ·obtain ⟨_,o',g,n⟩:=p.mem d;rw [q] at g;cases g;exact c.slot f o (by rw [I f (w f o q n)];exact q) d
  ·have:=c.size;rw [Hq] at this;exact this
theorem leave_at {base:EY} {e:e_} {C:l_} {hd:Option e_} {Q:Unit->z_->Prop}
  (I:A.frames=a_ (env::outer)) (J:s.heap.FunFrames base (env::outer)) (Y:env.frame=a_ L) (x:ExA s.heap e C dx hd)
  (h:∀h' T,ExA h' e C dx (a_ T)->s.heap.objs.size<=T->Left (frs (env::outer)) e hd s.heap h'->Q () {s with heap:=h'}):Cb M A (MJ env (.ref e)) Q E s:=by
 unfold MJ;exact k_ (leave2 I J Y x h)
end
structure CXs (P:Fp) (w:Fu) (outer:List JY) (H:Hp) (s:z_) (E:XK) (a T:e_) (C:l_) (dx:Option e_) (H':Hp) (s':z_):Prop where
 ex:ExA s'.heap a C dx (a_ T)
 na:s.heap.get? a=c_
 nT:s.heap.get? T=c_
 fa:H' a=c_
 fT:H' T=c_
 os:s'.os=s.os
 bare:Im s'.gens
 un:Un (frs outer) [] H H' s.heap s'.heap
 hok:HOk P w H' s'.heap
 want:E C dx H'
def CXd (P:Fp) (w:Fu):CXT:=fun outer H s E e s'=>∃(a T:e_) (C:l_) (dx:Option e_) (H':Hp),e=.ref a/\CXs P w outer H s E a T C dx H' s'
theorem get_none (z:h.objs.size<=a):h.get? a=c_:=by
 cases e:h.get? a with
 |none=>rfl
 |some o=>exact Ek (y_ e) (JZ.mpr z)
theorem Inv.yK (I:Inv X pins σ H s) (J:X.ex=[]) (e:s.heap.get? a=c_):X.s₀.heap.get? a=c_:=by
 cases q:X.s₀.heap.get? a with
 |none=>rfl
 |some o=>
  obtain ⟨o',z⟩:=I.base.there a o q (by rw [J];exact fun z=>nomatch z);rw [e] at z;cases z
theorem cA.is {o:HO} (x:cA P w H h a o):∃u,h.get? a=a_ u:=by
 cases o with
 |lst xs=>obtain ⟨_,_,_,_,e⟩:=x;exact ⟨_,e⟩
 |tup xs=>obtain ⟨_,_,_,I,e,_⟩:=x;exact ⟨_,e⟩
 |dK kvs=>obtain ⟨_,_,_,_,o,_,_,e,_⟩:=x;exact ⟨_,e⟩
 |dT kvs=>obtain ⟨_,_,_,_,o,_,_,e,_⟩:=x;exact ⟨_,e⟩
 |set S n=>obtain ⟨o,_,_,_,e,_⟩:=x;exact ⟨_,e⟩
 |ins C dx fs=>obtain ⟨_,_,_,e,_⟩:=x;exact ⟨_,e⟩
 |own y=>exact x
 |xd fs=>obtain ⟨_,⟨_,_,_,e,_⟩,_⟩:=x;exact ⟨_,e⟩
 |rng lo hi=>obtain ⟨_,_,_,e⟩:=x;exact ⟨_,e⟩
 |frz I u=>obtain ⟨e,_⟩:=x;exact ⟨_,e⟩
 |tbl ps=>exact ⟨_,show h.get? a=a_ _ from x⟩
 |met f y=>exact ⟨_,show h.get? a=a_ _ from x⟩
 |ext J=>obtain ⟨_,e,_⟩:=x;exact e
section
variable {base:EY} 
theorem xe_of {s':z_} {C:l_} {hd:Option e_} (J:Inv (yx (CXd P w) P w K mg base N qual scope f cd A outer s H E) pins σ H' s') (x:ExA s'.heap a C dx hd)
  (r:s.heap.get? a=c_) (F:∀T,hd=a_ T->s.heap.get? T=c_/\H' T=c_) (fa:H' a=c_) (q:E C dx H'):(yx (CXd P w) P w K mg base N qual scope f cd A outer s H E).xe (.ref a) s':=by
 have e0:=J.env0;have y:∀b∈frs (GR qual scope s.heap.objs.size f cd::outer),H' b=c_:=e0.frf;have p:∀b o,s.heap.get? b=a_ o->b≠a/\(∀T,hd=a_ T->b≠T)/\b<s.heap.objs.size:=fun b o e=>by
  have Y:=y_ e;exact ⟨fun z=>(by subst z;rw [e] at r;cases r),fun T i z=>(by subst z;have:=(F _ i).1;rw [e] at this;cases this),Y⟩
 have j:∀b,b<s.heap.objs.size->b∈frs (GR qual scope s.heap.objs.size f cd::outer)->b∈frs outer:=fun b Y t=>by
  rcases Gz.mp t with ⟨v,hv,e⟩
  rcases v_.mp hv with z|z
  ·subst z;have:s.heap.objs.size=b:=by simpa [GR] using e
   omega
  ·exact Gz.mpr ⟨v,z,e⟩
 have d:∀b,b∈frs outer->b∈frs (GR qual scope s.heap.objs.size f cd::outer):=fun b t=>by
  rcases Gz.mp t with ⟨v,hv,e⟩
  exact Gz.mpr ⟨v,C_ _ hv,e⟩
 have I:Un (frs outer) [] H H' s.heap s'.heap:=J.base;show Cb (Eg P w) (A.deeper (GR qual scope s.heap.objs.size f cd)) (MJ (GR qual scope s.heap.objs.size f cd) (.ref a)) (fun _ g=>CXd P w outer H s E (.ref a) g) (fun B g=>CXd P w outer H s E B g) s';refine leave_at (base:=base) e0.frames e0.vO rfl x fun h' T Q i l=>⟨a,T,C,dx,H',rfl,Q,r,get_none (EJ (show s.heap.objs.size<=s'.heap.objs.size from J.sz) i),fa,?_,J.os,J.bare,?_,?_,q⟩
 ·exact J.hok.fresh i
 ·have D:∀b o,s.heap.get? b=a_ o->∀o',s'.heap.get? b=a_ o'->b∉frs outer->h'.get? b=a_ o':=fun b o e o' B Y=>by
   obtain ⟨O,L,G⟩:=p b o e;exact l.keep b o' B (fun z=>Y (j b G z)) O L
  refine ⟨fun b o e n Y k=>D b o e o (I.keep b o e n Y k) Y,fun b o e n Y k=>?_,I.free,fun b o e k=>?_,I.tups,I.frzs,I.tbls⟩
  ·obtain ⟨R,e1⟩:=I.slot b o e n Y k;obtain ⟨m,e2⟩:=l.slot b _ e1 (d b Y);exact ⟨m,e2⟩
  ·obtain ⟨o',e1⟩:=I.there b o e k;by_cases Y:b∈frs outer
   ·obtain ⟨R,e2⟩:=l.slot b o' e1 (d b Y);exact ⟨_,e2⟩
   ·exact ⟨o',D b o e o' e1 Y⟩
 ·intro b o e;refine (J.hok b o e).wW (fun c u S e1=>?_) (fun _ z=>z) fun _ _ z=>z;have h:H' c≠c_:=by
   rcases S with z|z
   ·rw [z,e];exact fun z=>nomatch z
   ·rw [z];exact fun z=>nomatch z
  exact l.keep c u e1 (fun z=>h (y c z)) (fun z=>h (by rw [z];exact fa)) fun T i z=>h (by rw [z];exact (F T i).2)
end
def WE (K:Fg) (E:XK):dZ where
 p:=fun e F H=>match e with
  |.stuck=>False
  |.exc C fs=>∀F' H',Step F H F' H'->match fs with
   |[]=>E (.ref C) c_ H'
   |fs=>∀d gs,F' d=a_ (.xd gs)->iO K F' fs gs->E (.ref C) (a_ d) H'
 mono:=fun {e F H F' H'} h s=>by
  cases e with
  |stuck=>exact h
  |exc C fs=>exact fun F2 H2 I=>h F2 H2 (s.trans I)
 ns:=fun h=>h
def noX {α:Type}:M α->M α
 |.ok d=>.ok d
 |.error _=>.error .stuck
@[simp] theorem noX_ok {α:Type} (d:α):noX (.ok d:M α)=.ok d:=id rfl
def fNoX (f:ah->M α):ah->M α:=fun ρ=>noX (f ρ)
section
variable {W:dZ} 
theorem dss_lift {st:List Fh} {g:ah->M Flo} (h:DSs K Wno ro X.nox OL O O' st g):DSs K W ro X OL O O' st (fNoX g):=fun F0 H0=>PSs.imp (PSs.nox (h F0 H0)) fun D σ H ⟨FB,F,ρ,r,p⟩=>by
 refine ⟨FB,F,ρ,r,?_⟩
 have p:iN K W ro F0 H0 FB OL O' D (noX (g ρ)):=p;unfold iN at p ⊢;cases e:g ρ with
 |ok fl=>
  rw [e] at p;cases fl<;>exact p
 |error x=>rw [e] at p;exact (W.ns p).elim
end
def spX (K:Fg) (ro:Bool) (g:List Dat->M Dat) (n:Nat):Sp:=fun vs H Q E=>∃F ds,aF F H/\ay K F ds vs/\ds.length=n/\aC K (WE K E) ro F H (g ds) Q
section
variable {base:EY}
theorem fn_X {k:Nat} (F:Fun K x qual st f fd) (S:fK N ps (aD st)) (ro:Bool) (g:ah->M Flo)
  (c:∀(cdv:l_) (A:GH) (outer:List JY) (s:z_) (H:Hp) (E:XK),i8 k (A.deeper (GR qual (aD st) s.heap.objs.size f cdv)) ->
   DSs K (WE K E) ro (yx (CXd P w) P w K mg base N qual (aD st) f cdv A outer s H E) [] [] O' (bF st) g):i9 P w K mg base (CXd P w) (k+1) f fd ps (spX K ro (bL N.length ps.length g) ps.length):=by
 obtain ⟨oc,od,kV,doc,pm,an,cdv,ct,osl,rfl,Y,I⟩:=F.ex;refine fn_of Y I S (fun vs H Q E ⟨F,ds,s,q,l,p⟩=>by rw [q.length,l]) fun A outer s H vs Q E b ⟨F1,ds,J,q,l,p⟩=>⟨_,c cdv A outer s H E b F1 H,F1,F1,ds.map a_++Fv (N.length-ds.length) c_,?_,?_⟩
 ·refine ⟨Step.refl J,aF.refl _,?_,fun i d e _=>uI q e,(fun i d e h=>nomatch h),(fun i j ds es a h=>nomatch h)⟩
  unfold start;rw [Ey,Ey,t_,t_,FH,FH,q.length]
 ·have e1:bL N.length ps.length g ds=(g (ds.map a_++Fv (N.length-ds.length) c_)).bind fun fl=>match fl with
   |.nx _=>.ok .non
   |.rt d=>.ok d
   |_=>stk:=by
    unfold bL;exact f_ l
  rw [e1] at p;cases e2:g (ds.map a_++Fv (N.length-ds.length) c_) with
  |error z=>rw [e2] at p;exact p
  |ok fl=>
   rw [e2] at p;cases fl with
   |nx ρ=>exact fun σ F H r=>p .non F H r.st (by cases ro<;>rfl)
   |rt d=>exact fun v F H st q=>p v F H st q
   |bk ρ=>exact aC.stuck p
   |ct ρ=>exact aC.stuck p
end
section
variable {C:l_} {hd:Option e_}
structure Apart (X:Cx) (pins:Pn) (H:Hp) (s:z_) (a:e_) (hd:Option e_):Prop where
 na:X.s₀.heap.get? a=c_
 fa:H a=c_
 pa:∀p∈X.pn++pins,p.1≠a
 nT:∀T,hd=a_ T->X.s₀.heap.get? T=c_/\H T=c_/\∀p∈X.pn++pins,p.1≠T
theorem Inv.left (I:Inv X pins σ H s) (hx:X.ex=[]) (x:ExA s.heap a C dx hd) (h:Apart X pins H s a hd) (d:Left (frs X.stack) a hd s.heap h'):Inv X pins σ H {s with heap:=h'}:=by
 have e0:=I.env0;obtain ⟨oe,vs,U,_,_,G,_⟩:=x.ob;have E:∀b o,s.heap.get? b=a_ o->(∀vs,o.data≠.fields vs)->b≠a/\∀T,hd=a_ T->b≠T:=fun b o e n=>by
  refine ⟨fun z=>?_,fun T g z=>?_⟩
  ·subst z;rw [U] at e;cases e;exact n vs G
  ·subst z;obtain ⟨_,oT,ts,h1,h2,_⟩:=x.tb _ g;rw [h1] at e;cases e;exact n ts h2
 have D:∀b∈frs X.stack,H b=c_:=e0.frf;have B:∀b o,s.heap.get? b=a_ o->(∀vs,o.data≠.fields vs)->∃t,h'.get? b=a_ {o with slots:=t}:=fun b o e n=>by
  obtain ⟨k,j⟩:=E b o e n;by_cases Y:b∈frs X.stack
  ·exact d.slot b o e Y
  ·exact ⟨o.slots,d.keep b o e Y k j⟩
 have w:∀b o,X.s₀.heap.get? b=a_ o->b≠a/\∀T,hd=a_ T->b≠T:=fun b o e=>
  ⟨fun z=>(by subst z;rw [h.na] at e;cases e),fun T g z=>(by subst z;rw [(h.nT _ g).1] at e;cases e)⟩
 have O:s.heap.UpToSlots h':=B;have y:X.s₀.heap.get? X.env.locals=c_:=get_none I.ok.above;have out:∀b,b≠X.env.locals->b∉X.fs->b∉frs X.stack:=fun b h1 h2 Z=>by
  rcases v_.mp (I.qY b Z) with z|z
  ·exact h1 z
  ·exact h2 z
 have A:∀c v,s.heap.IsCell c v->h'.IsCell c v:=fun c v ⟨o,h1,h2⟩=>by
  obtain ⟨t,z⟩:=B c o h1 (fun vs q=>by rw [h2] at q;cases q);exact ⟨_,z,h2⟩
 refine ⟨I.ok,I.os,I.bare,?_,?_,fun x c e=>?_,I.free,I.freeC,fun p F=>?_,?_,I.len⟩
 ·have L:∀b o,X.s₀.heap.get? b=a_ o->∀o',s.heap.get? b=a_ o'->∃t,h'.get? b=a_ {o' with slots:=t}:=fun b o e o' N=>by
   obtain ⟨k,j⟩:=w b o e;by_cases Y:b∈frs X.stack
   ·exact d.slot b o' N Y
   ·exact ⟨o'.slots,d.keep b o' N Y k j⟩
  refine ⟨fun b o e n Y J=>?_,fun b o e n Y J=>?_,I.base.free,fun b o e J=>?_,I.base.tups,I.base.frzs,I.base.tbls⟩
  ·obtain ⟨k,j⟩:=w b o e;exact d.keep b o (I.base.keep b o e n Y J) (out b (fun z=>by rw [z,y] at e;cases e) Y) k j
  ·obtain ⟨t,e1⟩:=I.base.slot b o e n Y J;obtain ⟨l,e2⟩:=L b o e _ e1;exact ⟨l,e2⟩
  ·obtain ⟨o',e1⟩:=I.base.there b o e J;obtain ⟨l,e2⟩:=L b o e _ e1;exact ⟨_,e2⟩
 ·obtain ⟨m,R,S⟩:=I.loc;refine ⟨m,O.ns R,fun i x v e1 e2 e3=>?_⟩
  obtain ⟨u,r,Q⟩:=S i x v e1 e2 e3;refine ⟨u,r,?_⟩
  rcases Q with z|⟨z,c,c1,c2⟩
  ·exact .inl z
  ·exact .inr ⟨z,c,c1,A c _ c2⟩
 ·obtain ⟨v,z⟩:=I.cell x c e;exact ⟨v,A c v z⟩
 ·obtain ⟨p1,p2,p3,K,P⟩:=I.pin p F;exact ⟨d.keep p.1 p.2 p1 (out p.1 p3 K) (h.pa p F) fun T g=>(h.nT T g).2.2 p F,p2,p3,K,P⟩
 ·intro b o e;refine (I.hok b o e).wW (fun c u W e1=>?_) (fun _ z=>z) fun _ _ z=>z;have f:H c≠c_:=by
   rcases W with z|z
   ·rw [z,e];exact fun z=>nomatch z
   ·rw [z];exact fun z=>nomatch z
  exact d.keep c u e1 (fun z=>f (D c z)) (fun z=>f (by rw [z];exact h.fa)) fun T g z=>f (by rw [z];exact (h.nT T g).2.1)
end
def PEat (X:Cx) (pins:Pn) (σ:St) (e:Fe) (t:TE):Prop:=∀(s:z_) (H:Hp) (Q:VK),Inv X pins σ H s->t σ H Q->Cb (Eg X.prog X.w) X.A (Eu e X.env) (EP X pins σ Q) X.xe s
def PSat (X:Cx) (pins:Pn) (σ:St) (st:Fh) (t:TS):Prop:=∀(s:z_) (H:Hp) (D:Ends),Inv X pins σ H s->t D σ H->Cb (Eg X.prog X.w) X.A (exec st X.env) (SP X pins D) X.xe s
def PSsAt (X:Cx) (pins:Pn) (σ:St) (st:List Fh) (t:TS):Prop:=∀(s:z_) (H:Hp) (D:Ends),Inv X pins σ H s->t D σ H->Cb (Eg X.prog X.w) X.A (execs st X.env) (SP X pins D) X.xe s
def jW (CX:CXT) (X:Cx) (pins:Pn) (σ:St) (E:XK):Prop:=∀(H:Hp) (s:z_) (e:l_) (s':z_),Inv X pins σ H s->CX X.stack H s E e s'->X.xe e s'
section
variable {t:TS} 
theorem at_one (h:PSat X pins σ st t):PSsAt X pins σ [st] t:=fun s H D I q=>by
 refine JO (thn (h s H D I q) fun f J z=>?_);cases f with
 |next=>exact HK z
 |_=>exact z
theorem at_set (f:X.N.Nodup) (hi:X.N[i]? =a_ x) (a:Loc X.env.scope x) (d:PEat X pins σ e te) (b: ~~~(FV e (a_ (.Name x pos')) pos.line X.env=FF b_)) (c:autoParam (X.fn x=d_\/X.env.scope.names.lookup x=a_ .local) Jq3) :
  PSat X pins σ (.Assign [.Name x pos'] e pos) (qq te (bX i)):=fun s H D I q=>
 MC (thn (d s H _ I q) fun v k ⟨y,H1,h,J,Y⟩=>lE h f hi a J (fun j g=>⟨_,H1,g,Y⟩) c) b
end
section
variable {k:Nat} {ds:List l_} {t:TA}
theorem at_run (F:i9 X.prog X.w X.K X.mg X.base CX k f fd ps sp) (b:i8 k X.A) (c:Binds X.K fd ps ds) (hd:Vals dvs ds) (a:jW CX X pins σ E)
  (I:Inv X pins σ H s) (r:Vals vs us) (h:sp (vs++dvs) H Q E):Cb (Eg X.prog X.w) X.A (Hw (.ref f) us) (EP X pins σ Q) X.xe s:=by
 have Y:=r.append hd;refine IC (Gj (F.run _ _ s H ⟨us,[]⟩ _ _ Q E b I.env0 (c s us I.kIn (Y.length.symm.trans (F.len _ _ _ _ h))) Y h) fun z s' J=>?_);cases z with
 |error e=>exact a H s e s' I J
 |ok fl=>
  cases fl with
  |ret u=>exact I.after J
  |_=>exact EZ J
theorem at_call (F:i9 X.prog X.w X.K X.mg X.base CX k f fd ps sp) (c:jW CX X pins σ E) (d:i8 k X.A) (g:X.mg x=a_ (.ref f)) (h:GD X.K (.ref f)=d_) (l:Binds X.K fd ps ds) (hd:Vals dvs ds) (m:PA X (e::es) t) (i: ~~~(Gl X x))
  (Y:((x==("__debug__":p_))=b_)⁻¹) (j: ~~~(i_ (e::es) X.env=(b_,Eu e X.env)::i_ es X.env)) (J: ~~~((EN pos (i_ es X.env)).any (·.1)=b_)) :
  PEat X pins σ (.Call (.Name x p) (e::es) [] pos) (gz sp dvs E t):=fun s H Q I q=>
 FP (iW I i g (Js (h₀:=X.base) I.ok.mod.kin h (thn (m pos pins s σ H _ I q) fun us n ⟨vs,H1,a,r,b⟩=>⟨a.kIn,at_run F d l hd c a r b⟩) j J) Y)
end
section
theorem Inv.names {m:Mq} (I:Inv X pins σ H s) (t:h'.Ns X.env.locals m) (Y:HC X.env.locals s.heap h') (w:σ'.length=X.N.length)
  (hv:∀(i:Nat) (x:p_) (v:V),X.N[i]? =a_ x->σ'[i]? =a_ (a_ v)->Vis X.env.scope x->∃u,RelV v u/\Look X.env s.heap m x u):Inv X pins σ' H {s with heap:=h'}:=by
 have J:∀b o,X.s₀.heap.get? b=a_ o->b≠X.env.locals:=fun b o e z=>by
  subst z;exact Ek (y_ e) (JZ.mpr I.ok.above)
 have d:∀x c v,X.env.cells.lookup x=a_ c->s.heap.IsCell c v->h'.IsCell c v:=fun x c v e z=>z.sameBut Y (I.cne x c e);refine ⟨I.ok,I.os,I.bare,⟨fun b o e n f a=>?_,fun b o e n f a=>?_,I.base.free,fun b o e a=>?_,I.base.tups,I.base.frzs,I.base.tbls⟩,⟨m,t,fun i x v e1 e2 e3=>?_⟩,fun x c e=>?_,I.free,I.freeC,fun p q=>?_,fun b o e=>?_,w⟩
 ·show h'.get? b=_;rw [Y.2 b (J b o e)];exact I.base.keep b o e n f a
 ·obtain ⟨h,z⟩:=I.base.slot b o e n f a;refine ⟨h,?_⟩
  show h'.get? b=_;rw [Y.2 b (J b o e)];exact z
 ·obtain ⟨o',z⟩:=I.base.there b o e a;refine ⟨o',?_⟩
  show h'.get? b=_;rw [Y.2 b (J b o e)];exact z
 ·obtain ⟨u,r,l⟩:=hv i x v e1 e2 e3;refine ⟨u,r,?_⟩
  rcases l with z|⟨z,c,g,B⟩
  ·exact .inl z
  ·exact .inr ⟨z,c,g,d x c _ g B⟩
 ·obtain ⟨v,z⟩:=I.cell x c e;exact ⟨v,d x c v e z⟩
 ·obtain ⟨p1,p2,p3,k,j⟩:=I.pin p q;refine ⟨?_,p2,p3,k,j⟩
  show h'.get? p.1=_;rw [Y.2 p.1 p3];exact p1
 ·refine (I.hok b o e).wW (fun c u A e1=>?_) (fun _ z=>z) fun _ _ z=>z;show h'.get? c=_;rw [Y.2 c fun z=>?_]
  ·exact e1
  ·rcases A with y|y
   ·rw [<- y,z,I.free] at e;cases e
   ·rw [z,I.free] at y;cases y
theorem tL {M:Jl} {E:Vp} {Q:Unit->z_->Prop} (I:Inv X pins σ H s) (l:X.N.Nodup) (hi:X.N[i]? =a_ x) (Y:X.env.scope.names.lookup x=a_ .local)
  (h:∀s',Inv X pins (σ.set i c_) H s'->Q () s'):Cb M A (do bindName X.env x .none;L7 X.env x pos) Q E s:=by
 have b:(X.env.scope.kind==.class||(X.env.scope.kind==.module&&X.env.locals != X.env.globals))=b_:=by rw [I.ok.kind];rfl
 have a:i<σ.length:=by rw [I.len];exact (A1.mp hi).1
 refine k_ (wpAny_bindName (lE I l hi (.inl Y) (v:=.non) rfl (fun C n=>?_) (.inr Y)));unfold L7;refine wpAny_onRaise ?_;obtain ⟨m,t,k⟩:=id n.loc;obtain ⟨u,_,c⟩:=k i x .non hi (by rw [x_ a]) (.inl Y);have f:m x=a_ u:=by
  rcases c with z|⟨z,_⟩
  ·exact z.2
  ·have g:X.env.kindOf x=a_ .local:=Y;rw [g] at z;rcases z with z|z<;>cases z
 refine wpAny_unbindName_local Y t f b fun h' B e q=>h _ (n.names e q (by rw [En];exact I.len) fun j y v e1 e2 e3=>?_);have J:i≠j:=fun z=>by
  subst z;rw [x_ a] at e2;cases e2
 rw [o_ J] at e2;obtain ⟨w,r,c⟩:=k j y v e1 (by rw [o_ J];exact e2) e3;refine ⟨w,r,?_⟩
 rcases c with ⟨p,o⟩|z
 ·have d:y≠x:=fun z=>J (tm l hi (z▸e1));exact .inl ⟨p,by simp [d,o]⟩
 ·exact .inr z
end
def wy (K:Fg) (C:e_) (bmB:List l_):Prop:=∀h:EY,K.In h->∃tl N nm I bs hdct sn sub ab col dd k0 k1 k2 k3 k5 newId,h.get? C=a_ (IW nm I C N bs tl hdct sn sub ab col dd k0 k1 k2 k3 k5 newId)/\MP h bmB tl
noncomputable abbrev Cx.hand (X:Cx) (a:e_) (oe:Io):Cx:={X with A:=X.A.mark (a_ (.ref a)),calm:=b_,xe:=fun _ _=>False,pn:=(a,oe)::X.pn}
section
variable {T:e_} {C:l_} 
theorem Inv.hand {vs:Array l_} (I:Inv X pins σ H s) (Y:s.heap.get? a=a_ oe) (hd:oe.data=.fields vs) (b:X.s₀.heap.get? a=c_) (fa:H a=c_):Inv (X.hand a oe) pins σ H s:=by
 have J:=I.ok;refine ⟨⟨J.mod,J.kind,J.glob,J.blt,J.above,J.inj,J.has,J.cab,(fun z=>nomatch z),J.frames,J.stk,J.exf,J.bs,J.bsz,J.noex,J.exfs,J.vO,J.frf⟩,I.os,I.bare,I.base,I.loc,I.cell,I.free,I.freeC,fun p c=>?_,I.hok,I.len⟩
 rcases v_.mp (show p∈(a,oe)::(X.pn++pins) from c) with z|z
 ·subst z;refine ⟨Y,fa,fun z=>?_,fun d=>?_,fun v z=>?_⟩
  ·obtain ⟨m,⟨o,es,ep,h1,h2,_⟩,_⟩:=I.loc;have z:a=X.env.locals:=z;rw [<- z,Y] at h1;cases h1;rw [hd] at h2;cases h2
  ·obtain ⟨_,o,h1,_⟩:=J.vO.mem d;have h1:X.s₀.heap.get? a=a_ o:=h1;rw [b] at h1;cases h1
  ·have z:oe.data=.cell v:=z;rw [hd] at z;cases z
 ·exact I.pin p z
theorem Inv.yM (J:Inv (X.hand a oe) pins σ H s) (I:X.Ok):Inv X pins σ H s:=
 ⟨I,J.os,J.bare,J.base,J.loc,J.cell,J.free,J.freeC,fun p Y=>J.pin p (C_ _ Y),J.hok,J.len⟩
theorem D8 {M:Jl} {E:Vp} {base:EY} {l:List JY} {Q:Unit->z_->Prop} (t:s.heap.FunFrames base l) (x:ExA s.heap a C dx (a_ T))
  (h:∀h',ExA h' a C dx (a_ T)->Left (frs l) a (a_ T) s.heap h'->h'.get? a=s.heap.get? a->Q () {s with heap:=h'}):Cb M A (Jb (.ref a) c_) Q E s:=by
 obtain ⟨o,vs,p,u,i,d,h1⟩:=x.ob;obtain ⟨g,w,ts,m,J,v⟩:=x.tb T rfl;have Y:3<ts.size:=(HG.mp v).1;unfold Jb;refine k_ (Hg p d (x:=.ref T) h1 ?_);rw [f_ (by simp)];refine IV m J Y ?_;have I:∀b,b≠T->(s.heap.update T (IS (·.setIfInBounds 3 ((c_:Option e_).elim GV fun f=>Jq f)))).get? b=s.heap.get? b:=fun b e=>EC _ _ (EI e);have r:=I9 J (·.setIfInBounds 3 ((c_:Option e_).elim GV fun f=>Jq f));refine h _ ⟨⟨o,vs,by rw [I a (EI g)];exact p,u,i,d,h1⟩,fun B k=>?_⟩ ⟨fun b o' q _ _ e=>by rw [I b (e T rfl)];exact q,fun b o' q e=>?_,?_⟩ (I a (EI g))
 ·cases k;exact ⟨g,_,_,GQ _ m (Ho r),r,by simp [Y]⟩
 ·obtain ⟨_,y,c,n⟩:=t.mem e;have j:b≠T:=fun z=>by
   subst z;rw [m] at c;cases c;exact n ts J
  exact ⟨o'.slots,by rw [I b j];exact q⟩
 ·rw [Hq];exact u_ _
end
def Ends.less (D:Ends) (i:Nat):Ends:={nx:=fun σ H=>D.nx (σ.set i c_) H,rt:=D.rt,bk:=fun σ H=>D.bk (σ.set i c_) H,ct:=fun σ H=>D.ct (σ.set i c_) H}
section
variable {T:e_} {c n:p_} {ts:TS} {D:Ends} 
theorem E9 (I:Inv X pins σ H s) (x:ExA s.heap a (.ref C) dx (a_ T)) (m:Apart X pins H s a (a_ T)) (p:X.ex=[]) (P:wy X.K C bmB) (Q:bmB.contains (.type "BaseException")=d_)
  (O:Gl X c) (L:X.mg c=a_ (.ref C)) (k:X.N.Nodup) (hi:X.N[i]? =a_ n) (h:X.env.scope.names.lookup n=a_ .local)
  (K:∀oe:Io,oe.cls=.ref C->oe.dict=dx->(∃vs,oe.data=.fields vs)->PSs (X.hand a oe) (b₀::suite) ts) (q:ts (D.less i) (σ.set i (a_ (.ref a))) H) (A:((c==("__debug__":p_))=b_)⁻¹) :
  Cb (Eg X.prog X.w) X.A (handleBy (.ref a) X.env [.ExceptHandler (a_ (.Name c np)) (a_ n) (b₀::suite) pos]) (SP X pins D) X.xe s:=by
 obtain ⟨oe,vs,w,j,y,b,h1⟩:=x.ob;have J:=I.hand w b m.na m.fa;refine wpAny_handleBy_cons (codeAny_handlers_test (iW (X:=X.hand a oe) J O L ?_ A)) (by intro z;cases z);obtain ⟨tl,N,nm,qn,bs,hdct,sn,sub,ab,col,dd,k0,k1,k2,k3,k5,newId,F,E⟩:=P _ I.kIn;have e0:=I.env0;obtain ⟨hh,gg,d,tk,os⟩:=s;refine wpAny_excMatches_sub_self F w j (E.hasType Q) (codeAny_handlers_suite_as ?_);refine D8 (base:=X.base) (l:=X.stack) e0.vO x fun h' Z G R=>?_;have W:=I.left p x m G;have t:h'.get? a=a_ oe:=by rw [R];exact w
 have U:=W.hand t b m.na m.fa;refine lE (X:=X.hand a oe) U k hi (.inl h) (v:=.ref a) rfl (fun B S=>?_) (.inr h);refine EV (K oe j y ⟨vs,b⟩ pins B _ H (D.less i) S q) (fun f s4 z=>?_) fun _ _ z=>z.elim;cases f with
 |next=>
  obtain ⟨σ',H',e,Y⟩:=z;exact tL (e.yM I.ok) k hi h fun o g=>⟨_,H',g,Y⟩
 |brk=>
  obtain ⟨σ',H',e,Y⟩:=z;exact tL (e.yM I.ok) k hi h fun o g=>⟨_,H',g,Y⟩
 |cont=>
  obtain ⟨σ',H',e,Y⟩:=z;exact tL (e.yM I.ok) k hi h fun o g=>⟨_,H',g,Y⟩
 |ret u=>
  obtain ⟨v,σ',H',e,r,Y⟩:=z;exact tL (e.yM I.ok) k hi h fun o g=>⟨v,_,H',g,r,Y⟩
end
def EH (i:Nat) (C:e_) (ts:e_->Option e_->TS) (D:Ends) (σ:St):XK:=fun I dx H'=>I=.ref C/\∀a,H' a=c_->ts a dx (D.less i) (σ.set i (a_ (.ref a))) H'
def tTry (tb:XK->TS) (i:Nat) (C:e_) (ts:e_->Option e_->TS):TS:=fun D σ H=>tb (EH i C ts D σ) D σ H
section
variable {c n:p_} {tb:XK->TS} 
theorem ps_try (Q:∀(pins:Pn) (σ:St) (E:XK) (B:Vp),jW (CXd X.prog X.w) (X.ux B) pins σ E->PSsAt (X.ux B) pins σ body (tb E))
  (L:∀(a:e_) (oe:Io),oe.cls=.ref C->(∃vs,oe.data=.fields vs)->PSs (X.hand a oe) (b₀::suite) (ts a oe.dict))
  (S:wy X.K C bmB) (U:bmB.contains (.type "BaseException")=d_) (N:X.mg c=a_ (.ref C)) (R:X.N.Nodup) (hi: ~~~(X.N[i]? =a_ n)) (O: ~~~(X.env.scope.names.lookup n=a_ .local))
  (P: ~~~(Gl X c)) (Y: ~~~(X.ex=[])) (d: ~~~(X.stack=X.env::X.outer)) (u: ~~~(X.env.frame=a_ X.env.locals)) (v:((c==("__debug__":p_))=b_)⁻¹) :
  PS X (.Try body [.ExceptHandler (a_ (.Name c np)) (a_ n) (b₀::suite) hpos] [] [] pos) (tTry tb i C ts):=by
 intro pins s σ H D I h;refine wpAny_Try_except (thn (Q pins σ (EH i C ts D σ) (fun e k=>Cb (Eg X.prog X.w) X.A (Ll e X.env) (fun _ j=>Cb (Eg X.prog X.w) X.A (Jb e c_) (fun _ g=>Cb (Eg X.prog X.w) X.A (handleBy e X.env [.ExceptHandler (a_ (.Name c np)) (a_ n) (b₀::suite) hpos]) (SP X pins D) X.xe g) X.xe j) X.xe k) ?_ s H D (I.ux _) h) fun f F z=>?_)
 ·rintro H1 F e s' A ⟨a,T,Cv,dx,H',rfl,z⟩;have r:=A.kb;obtain ⟨rfl,q⟩:=z.want;have J:Inv X pins σ H' s':=r.call' z.os z.un z.hok z.bare (fun _ h=>nomatch h);have l:∀b,F.heap.get? b=c_->∀p∈X.pn++pins,p.1≠b:=fun b e p t w=>by
   have:=(r.pin p t).1;rw [w,e] at this;cases this
  have o:Apart X pins H' s' a (a_ T):=⟨r.yK Y z.na,z.fa,l a z.na,fun T' m=>by cases m;exact ⟨r.yK Y z.nT,z.fT,l T z.nT⟩⟩
  have e0:=J.env0;have f1:=e0.frames;have f2:=e0.vO;rw [d] at f1 f2;refine leave2 (base:=X.base) f1 f2 u z.ex fun h' Z K m G=>?_;rw [<- d] at G;have I2:=J.left Y z.ex o G;have y:Apart X pins H' {s' with heap:=h'} a (a_ Z):=⟨o.na,o.fa,o.pa,fun T' x=>by
   cases x;refine ⟨get_none (EJ J.sz m),J.hok.fresh m,fun p t w=>?_⟩
   have:=y_ (J.pin p t).1;rw [w] at this;exact Ek this (JZ.mpr m)⟩
  exact E9 I2 K y Y S U P N R hi O (fun oe h1 h2 W=>by rw [<- h2];exact L a oe h1 W) (q a z.fa) v
 ·have z:=SP.kb z;cases f with
  |next=>exact HK z
  |_=>exact z
end
section
open PySem.W
variable {E:Vp} {g:Array GenState} {d:Drawn} {t:Nat} {od:Option Io} {K:Mr} 
theorem xcls_by {Q:Vp} (FB:Ik B bmB) (J:K.In h) (I:Gw h a oe C od) (e1:Ep K (.ref C) "__getattribute__"=a_ (a_ (.builtin "BaseException.__getattribute__")))
  (e3:Ep K (.ref C) "__getattr__"=a_ c_)
  (b:∀R:LM->z_->Prop,R (.ok (.ret (.ref C))) ⟨h,g,d,t,os⟩->Ht (Eg prog w) A (.call (.builtin "BaseException.__getattribute__") ⟨[.ref a,.str "__class__" tk],[]⟩) R ⟨h,g,d,t,os⟩) (q:Q (.ref C) ⟨h,g,d,t,os⟩) :
  Cb (Eg prog w) A (M3 (.ref a) (.str "__class__" tk) b_) Q E ⟨h,g,d,t,os⟩:=by
 have Y:=I.type (M:=Eg prog w);have m1:=G5 (M:=Eg prog w) J e1;have c:=G5 (M:=Eg prog w) J e3;have b3:=FB.ga.bind (.ref a);have e:(Hm "BaseException.__getattribute__"==Hm "object.__getattribute__")=b_:=by decide +kernel
 unfold M3
 repeat (any_goals (first|assumption|with_reducible refine Y.at ?_|with_reducible refine m1.at ?_|with_reducible refine c.at ?_|wp_step))
 all_goals (refine b _ ?_)
 repeat (any_goals (first|wp_step|assumption))
theorem qW {M:Jl} {J:l_} {Q:Unit->z_->Prop} (c:K.In h) (I:Gw h a oe C od) (i:GC K C (.type "BaseException")=a_ d_) (f:Q () ⟨h,g,d,t,os⟩) :
  Cb M A (JS "BaseException.__getattribute__" ⟨[.ref a,J],[]⟩) Q E ⟨h,g,d,t,os⟩:=by
 have b:builtinKind "BaseException.__getattribute__"=a_ .slot:=by decide +kernel
 have e:splitId "BaseException.__getattribute__"=a_ ("BaseException","__getattribute__"):=by decide +kernel
 have Y:=I.type (M:=M);have m1:=looks_mroIn (M:=M) c i;have j:=F.args_bexc_ga (.ref a) J;simp only [JS,e,b];refine k_ ?_;unfold Mo
 repeat (first|with_reducible refine Y.at ?_|with_reducible refine m1.at ?_|wp_step)
 exact f
theorem A5 {Q:Fin->z_->Prop} (J:K.In h) (I:Gw h a oe C od) (e2:Ep K (.ref C) "__class__"=a_ (a_ (.builtin "object.__class__"))) (b:GC K C (.type "object")=a_ d_) (i:Q (.done (.ret (.ref C))) ⟨h,g,d,t,os⟩) :
  Cb (Eg prog w) A (Builtin.«object.__getattribute__» ⟨[.ref a,.str "__class__" tk],[]⟩) Q E ⟨h,g,d,t,os⟩:=by
 have tc:Shared.TypeIs ⟨h,g,d,t,os⟩ (.builtin "object.__class__") "getset_descriptor":=Lu;have Y:=I.type (M:=Eg prog w);have m1:=G5 (M:=Eg prog w) J e2;have f:=Lu;have e:=F.slot_gs_get.lookup;have c:=F.slot_gs_set.lookup
 repeat (any_goals (first|assumption|with_reducible refine Y.at ?_|with_reducible refine m1.at ?_|wp_step))
 refine W.class_get (s:=⟨h,g,d,t,os⟩) J I b ?_
 repeat (any_goals (first|wp_step|assumption))
theorem Br {Q:Option l_->z_->Prop} (FB:Ik B bmB) (J:K.In h) (I:Gw h a oe C od) (e1:Ep K (.ref C) "__getattribute__"=a_ (a_ (.builtin "BaseException.__getattribute__"))) (e2:Ep K (.ref C) "__class__"=a_ (a_ (.builtin "object.__class__"))) (e3:Ep K (.ref C) "__getattr__"=a_ c_)
  (c:GC K C (.type "BaseException")=a_ d_) (b:GC K C (.type "object")=a_ d_) (Y:Q (a_ (.ref C)) ⟨h,g,d,t+1,os⟩):Cb (Eg prog w) A (getAttr? (.ref a) "__class__") Q E ⟨h,g,d,t,os⟩:=by
 unfold getAttr? getAttrBy?;refine k_ (wpAny_mkText (k_ (wpAny_attempt (xcls_by FB J I e1 e3 (fun R e=>G0 FB.ga.plain MS (qW J I c (A5 J I e2 b e))) ?_))));exact A_ Y
structure XIsi (K:Mr) (C:e_):Prop where
 ga:Ep K (.ref C) "__getattribute__"=a_ (a_ (.builtin "BaseException.__getattribute__"))
 cl:Ep K (.ref C) "__class__"=a_ (a_ (.builtin "object.__class__"))
 gt:Ep K (.ref C) "__getattr__"=a_ c_
 bs:GC K C (.type "BaseException")=a_ d_
 ob:GC K C (.type "object")=a_ d_
 is:∃cd,JV K C=a_ cd
theorem zC (FB:Ik B bmB) (Z:XIsi K C):KitX K (.ref a) (.ref C) (fun h=>Gw h a oe C od) where
 ty:=fun _ _ _ I=>I.type
 it:=fun _ _ X _=>by
  obtain ⟨cd,J⟩:=Z.is;unfold JV at J;split at J
  ·next b=>
   intro l j E' s' k q;unfold isType loadHead;refine k_ (Kv (k C _ (X C _ b)) ?_);exact A_ q
  ·cases J
 ne:=fun hh c d1 is i f X Y=>by
  obtain ⟨cd,J⟩:=Z.is;refine Bool.eq_false_iff.mpr (fun q=>?_);have e:C=c:=Value.ref.inj (Ge.mp q);subst e;unfold JV at J;split at J
  ·next b=>
   cases (X C _ b).symm.trans Y
  ·cases J
 ca:=fun {_ _ _ _ _ s} X I k=>by
  obtain ⟨h,g,d,t,os⟩:=s;exact Br FB X I Z.ga Z.cl Z.gt Z.bs Z.ob k
end
theorem ze:∀{ys:List e_} {its:List l_},Vals (ys.map V.ref) its->its=ys.map D_
 |[],_,.nil=>rfl
 |y::ys,_,.cons r rs=>by rw [ze rs,show _=D_ y from r];rfl
def tRefs (ys:List e_):TA:=fun _ H Q=>Q (ys.map V.ref) H
section
variable {D:e_} {y:p_} {ys:List e_} 
theorem pa_refs0:PA X [] (tRefs []):=aK
theorem kB (Y:PA X es (tRefs ys)) (b:X.mg y=a_ (.ref D)) (a: ~~~(Gl X y)) (hd:((y==("__debug__":p_))=b_)⁻¹) (J: ~~~(i_ (.Name y p::es) X.env=(b_,Eu (.Name y p) X.env)::i_ es X.env)):PA X (.Name y p::es) (tRefs (D::ys)):=
 fun ps pins s σ H Q I h=>au (sR (v:=.ref D) a b rfl hd) Y J ps pins s σ H Q I h
end
def DEat (K:Fg) (E:XK) (own:Bool) (X:Cx) (pins:Pn) (σ:St) (e:Fe) (f:ah->M Dat):Prop:=PEat X pins σ e (tD K (WE K E) own f)
def DSat (K:Fg) (E:XK) (ro:Bool) (X:Cx) (OL O O':List Nat) (pins:Pn) (σ:St) (st:List Fh) (g:ah->M Flo):Prop:=∀F0 H0,PSsAt X pins σ st (tS K (WE K E) ro F0 H0 OL O O' g)
theorem PEat.imp {t u:TE} (h:PEat X pins σ e t) (k:∀H Q,u σ H Q->t σ H Q):PEat X pins σ e u:=fun s H Q I q=>h s H Q I (k H Q q)
theorem PSat.imp {t u:TS} (h:PSat X pins σ st t) (k:∀D H,u D σ H->t D σ H):PSat X pins σ st u:=fun s H D I q=>h s H D I (k D H q)
section
variable {fr:ah->M (List Dat)} 
theorem dea_call {k:Nat} {g:ah->M Flo} (F:i9 X.prog X.w X.K X.mg X.base CX k fad fd ps (spX K ro (bL nN n g) n)) (f:jW CX X pins σ E) (i:i8 k X.A) (j:X.mg x=a_ (.ref fad)) (l:GD X.K (.ref fad)=d_) (o:Binds X.K fd ps [])
  (t:DA K (WE K E) X (e::es) fr) (m: ~~~(Gl X x)) (a:((x==("__debug__":p_))=b_)⁻¹) (J: ~~~(i_ (e::es) X.env=(b_,Eu e X.env)::i_ es X.env)) (Y: ~~~((EN pos (i_ es X.env)).any (·.1)=b_)) :
  DEat K E ro X pins σ (.Call (.Name x p) (e::es) [] pos) (fL (bL nN n g) fr):=by
 refine PEat.imp (at_call F f i j l o .nil t m a J Y) fun H Q h=>?_;obtain ⟨F,ρ,r,s,p⟩:=rd_L h;refine ⟨F,ρ,r,s,?_⟩
 cases e1:fr ρ with
 |error z=>rw [e1] at p;exact p
 |ok ds=>
  rw [e1] at p;intro vs F' H' st q;obtain ⟨F1,I,c,d,z⟩:=p vs F' H' st q;show spX K ro (bL nN n g) n (vs++[]) H' Q E;rw [GK];by_cases b:I.length=n
  ·exact ⟨F1,I,c,d,b,z⟩
  ·rw [sI b] at z;exact aC.stuck z
end
section
variable {own:Bool} {f:ah->M Dat} 
theorem dsa_set (a:X.N.Nodup) (h:DEat K E own X pins σ e f) (hi: ~~~(X.N[i]? =a_ x)) (I:Loc X.env.scope x:=by first|exact Or.inl rfl|exact Or.inr rfl) (J: ~~~(FV e (a_ (.Name x pos')) pos.line X.env=FF b_)) (Y:autoParam (X.fn x=d_\/X.env.scope.names.lookup x=a_ .local) Jq3) :
  DSat K E ro X OL O (aft own i O) pins σ [.Assign [.Name x pos'] e pos] (bH O i f):=fun F0 H0=>at_one (PSat.imp (at_set a hi I h J Y) fun D H z=>xn z)
end
theorem Rep.back {K:Fg} {F0 H0 F1 H1 FB F H:Hp} {O:List Nat} {σ:St} {ρ:ah} (r:Rep K F1 H1 FB O F H σ ρ) (s:Step F0 H0 F1 H1):Rep K F0 H0 FB O F H σ ρ:=
 ⟨s.trans r.st,r.fb,r.len,r.fz,fun i d e h=>let ⟨v,z,q⟩:=r.ow i d e h;⟨v,z,q.back s.hh⟩,r.ap⟩
noncomputable abbrev xArgs (vs:List l_):Io:={cls:=.type "tuple",data:=.seq vs.toArray}
noncomputable abbrev Bs (C t:e_):Io:={cls:=.ref C,data:=.fields #[.ref t,.none,.none,.none,.bool b_,.none]}
abbrev rZ (h:EY) (C:e_) (vs:List l_):EY:=(h.push (xArgs vs)).push (Bs C h.objs.size)
section
variable {E:Vp} 
variable {g:Array GenState} {d:Drawn} {t:Nat} 
variable {q:p_} {N:e_} {bs:List l_} {k1:Option l_} {mN:Mq} {oI:Io}
theorem oE {o:Io} (e:h.get? b=a_ o):(rZ h C us).get? b=a_ o:=s_ _ (s_ _ e)
theorem ur:(rZ h C us).get? (h.objs.size+1)=a_ (Bs C h.objs.size):=by
 have z:=Ei (h.push (xArgs us)) (o:=Bs C h.objs.size) rfl
 rwa [FC] at z
theorem x_type (F:ID B newId initId bmB) (T:MP h bmB tl) (I:h.get? C=a_ (IW nm q C N bs tl hdct sn sub ab col dd k0 k1 k2 k3 k5 newId)) (a:h.Ns N mN) (hi:mN "__init__"=a_ (.ref fI))
  (i:h.get? fI=a_ oI) (J:oI.cls=.type "function") (j:us.length<=g_) {Q:Fin->z_->Prop}
  (z:Cb (Eg prog w) A (Hw (.ref fI) (.ref (h.objs.size+1)::us)) (fun r s'=>r=.none/\Q (.done (.ret (.ref (h.objs.size+1)))) s') E ⟨rZ h C us,g,d,t,os⟩) :
  Cb (Eg prog w) A (Builtin.«type.__call__» ⟨.ref C::us,[]⟩) Q E ⟨h,g,d,t,os⟩:=by
 have k:∀b o,h.get? b=a_ o->(rZ h C us).get? b=a_ o:=fun b o e=>oE e;have Y:=k _ _ I;have f:(D_ C::tl).contains (.ref C)=d_:=by simp
 have c:(rZ h C us).get? (h.objs.size+1)=a_ (Bs C h.objs.size):=ur
 repeat (first|with_reducible refine wpAny_madeBy_exc I ?_|with_reducible refine Hs I ?_|wp_step)
 refine codeAny_call_builtin_code (IT _ F.quiet) (wpAny_check_new_subT F T I (codeAny_exc_new_subT F T I ?_ j));show Cb _ _ _ _ _ (⟨rZ h C us,g,d,t,os⟩:z_);unfold Mo
 repeat (first|(with_reducible refine Me Y ?_;rw [f])|with_reducible refine Hs c ?_|wp_step)
 refine wpAny_typeLookup_tail Y (a.keeps k) (T.keeps k) F.mroIs F.init.lookup ?_;rw [hi];unfold bindSpecial;refine Ha (k_ (k_ (wpAny_typeOf (T:="function") ⟨_,k _ _ i,J⟩ ?_)));rw [f_ (by decide)];refine A_ (k_ (thn z fun r s' y=>?_));obtain ⟨e,y⟩:=y;subst e
 wp_walk
 exact y
theorem x_call (F:ID B newId initId bmB) (T:MP h bmB tl) (I:h.get? C=a_ (IW nm q C N bs tl hdct sn sub ab col dd k0 k1 k2 k3 k5 newId)) (Y:h.Ns N mN) (hi:mN "__init__"=a_ (.ref fI))
  (a:h.get? fI=a_ oI) (J:oI.cls=.type "function") (b:us.length<=g_) {Q:Vp}
  (z:Cb (Eg prog w) (A.under (.builtin "type.__call__" ⟨.ref C::us,[]⟩)) (Hw (.ref fI) (.ref (h.objs.size+1)::us)) (fun r s'=>r=.none/\Q (.ref (h.objs.size+1)) s') E ⟨rZ h C us,g,d,t,os⟩) :
  Cb (Eg prog w) A (Hw (.ref C) us) Q E ⟨h,g,d,t,os⟩:=by
 have e:=tc_lookup;have c:=tc_bind (.ref C);have ty:(⟨h,g,d,t,os⟩:z_).TypeIs (.ref C) "type":=⟨_,I,rfl⟩
 refine IC (codeAny_of_tree ?_);show Cb _ _ (callAny (.ref C) _) _ _ _
 (repeat (any_goals (first|assumption|with_reducible refine Hs I ?_|wp_step)));exact ⟨rfl,codeAny_call_builtin_at (IT _ (by decide +kernel)) entry_typeCall (wpAny_check_type_call_sub I (x_type F T I Y hi a J b z))⟩
end
theorem ns_some {N:e_} {m:Mq} {n:p_} {v:l_} (X:K.In h) (G:h.Ns N m) (e:Mb K N n=a_ (a_ v)):m n=a_ v:=by
 obtain ⟨o,es,ep,J,g2,_,I⟩:=G;unfold Mb at e;cases q:K.lookup N with
 |none=>rw [q] at e;exact nomatch e
 |some b=>
  have z:=X _ _ q;rw [J] at z;cases z;obtain ⟨c,d,Y,a⟩:=o;cases (show Y=.dict es ep from g2);rw [q] at e;dsimp only at e;cases f:es.toList.find? (·.key.isStr n) with
  |none=>rw [f] at e;dsimp only at e;split at e<;>cases e
  |some g=>
   rw [f] at e;cases e;rw [<- I];unfold nsFind findBy;rw [<- Li,f];rfl
noncomputable def Kzc:Data->Option ClassData
 |.cls c=>a_ c
 |_=>c_
theorem Kzd {d:Data} {c:ClassData} (h:Kzc d=a_ c):d=.cls c:=by
 cases d<;>cases h;rfl
def nF (K:Fg) (C:e_) (bmB:List l_) (newId:String) (f:e_):Bool:=(K.lookup C).any fun o=>(Kzc o.data).any fun c=>c.mro.head? ==a_ (.ref C)&&(o.cls==.type "type"&&(!c.hasDel&&(PySem.W.nsOkIn K c.ns&&(PySem.W.tailIn K bmB c.mro.tail&&(Mb K c.ns "__init__"==a_ (a_ (.ref f))&&(o.slots.toList.length==6&&o.slots.toList[4]? ==a_ (a_ (.builtin newId))))))))
theorem Kz6 {l:List α} {x:α} (h:l.length=6) (I:l[4]? =a_ x):∃a b c d e,l=[a,b,c,d,x,e]:=by
 obtain ⟨k0,l,rfl⟩:=EU (n:=5) h;obtain ⟨k1,l,rfl⟩:=EU (n:=4) (Ft h);obtain ⟨k2,l,rfl⟩:=EU (n:=3) (Ft (Ft h));obtain ⟨k3,l,rfl⟩:=EU (n:=2) (Ft (Ft (Ft h)));have b:=Ft (Ft (Ft (Ft h)));obtain ⟨J,l,rfl⟩:=EU (n:=1) b;obtain ⟨k5,l,rfl⟩:=EU (n:=0) (Ft b);cases I;rw [List.eq_nil_of_length_eq_zero (Ft (Ft b))];exact ⟨_,_,_,_,_,rfl⟩
theorem tO (X:K.In h) (q:nF K C bmB newId f=d_) :
  ∃tl N nm Y bs hdct sn sub ab col dd k0 k1 k2 k3 k5 mN,h.get? C=a_ (IW nm Y C N bs tl hdct sn sub ab col dd k0 k1 k2 k3 k5 newId)/\h.Ns N mN/\mN "__init__"=a_ (.ref f)/\MP h bmB tl:=by
 obtain ⟨⟨oc,dd,u,⟨l⟩⟩,d,q⟩:=(KZ _ _).mp q;obtain ⟨⟨o,n,a,m,k,j,i,g,c,I,b⟩,e,q⟩:=(KZ _ _).mp q;cases Kzd e;simp only [n_,Ge,Jh] at q;obtain ⟨a1,rfl,rfl,J,t,s,r,p⟩:=q;obtain ⟨tl,rfl⟩:=List.head?_eq_some_iff.mp a1;obtain ⟨k0,k1,k2,k3,k5,rfl⟩:=Kz6 r p;exact ⟨tl,m,o,k,n,j,i,g,c,I,dd,k0,k1,k2,k3,k5,_,X _ _ d,.of_isNs (KD X J),ns_some X (.of_isNs (KD X J)) s,PySem.W.tail_of_in X t⟩
theorem xnamed2 (q:nF K C bmB newId f=d_):wy K C bmB:=fun _ X=>by
 obtain ⟨tl,N,nm,I,bs,hdct,sn,sub,ab,col,dd,k0,k1,k2,k3,k5,mN,Y,b,a,J⟩:=tO X q;exact ⟨tl,N,nm,I,bs,hdct,sn,sub,ab,col,dd,k0,k1,k2,k3,k5,newId,Y,J⟩
noncomputable def Ozi:l_->Bool
 |.ref _=>d_
 |_=>b_
def uz (l:List l_):Bool:=l.dropWhile Ozi==[.type "ValueError",.type "Exception",.type "BaseException",.type "object"]
theorem Ozj {P:List l_->Prop} (J:P [.type "ValueError",.type "Exception",.type "BaseException",.type "object"]) (h1:∀a l,P l->P (.ref a::l)):∀l:List l_,uz l=d_->P l:=fun l=>by
 induction l with
 |nil=>exact fun e=>nomatch (Ge.mp e:([]:List l_)=_)
 |cons v r I=>
  intro e;unfold uz at e;rw [List.dropWhile_cons] at e;cases v with
  |ref a=>exact h1 a r (I e)
  |_=>rw [show (_::r)=_ from Ge.mp e];exact J
theorem ve_pass (I:l_) {l:List l_}:uz l=d_->refuseLoop I "__setattr__" l=FF ():=Ozj (P:=fun l=>refuseLoop I "__setattr__" l=FF ()) (PySem.F.store_ValueError.passes I) (fun _ _ h=>by rw [refuseLoop_ref];exact h) l
theorem ve_obj {l:List l_}:uz l=d_->l.contains (.type "object")=d_:=Ozj (P:=fun l=>l.contains (.type "object")=d_) (by decide +kernel) (fun _ _ h=>by rw [Lz,h,Kt]) l
structure Ea (K:Fg) (C:e_) (f:p_):Prop where
 sa:Ep K (.ref C) "__setattr__"
   =a_ (a_ (.builtin "object.__setattr__"))
 no:Ep K (.ref C) f=a_ c_
 cd:((JV K C).any fun cd=>uz cd.mro&&cd.hasDict)=d_
section
open PySem.W
variable {E:Vp} {od:Option Io} {K:Mr} {f:p_} {v:l_}
theorem x_open {R:LM->z_->Prop} (X:K.In s.heap) (I:Gw s.heap a oe C od) (Z:Ea K C f)
  (z:∀b,Cb (Eg prog w) A.in1 (LU (.ref a) (.ref C) (.str f tk) f v b)
   (fun c s'=>match c with|.done y=>R (.ok y) s'|.again g=>g.quiet=d_/\Ht (Eg prog w) A g R s') (fun e s'=>R (.error e) s') s) :
  Ht (Eg prog w) A (.call (.builtin "object.__setattr__") ⟨[.ref a,.str f tk,v],[]⟩) R s:=by
 have Y:=PySem.F.store_object;obtain ⟨cd,d,J⟩:=Ke Z.cd;rw [n_] at J;have i:cd.mro.isEmpty=b_:=by cases q:cd.mro with|nil=>rw [q] at J;cases J.1|cons _ _=>rfl
 have h:Looks (Eg prog w) s.heap (Mo (.ref a) (.type "object")) d_:=I.type.andThen (looks_mroIn X (by unfold GC;rw [d,Option.bind_some,m_ (by rw [i];decide),ve_obj J.1]));refine G0 Y.slot.plain Y.entry (@check_slot (Eg prog w) _ _ s "object.__setattr__" "object" "__setattr__" (.ref a) [.str f tk,v] [] _ Y.kind Y.split h (Y.args (.ref a) (.str f tk) v) ?_);rw [osa_eq,refuse_eq];have j:Looks (Eg prog w) s.heap (mroOf (.ref C)) cd.mro:=(Kd X d).andThen .now;refine k_ (k_ (I.type.here (k_ (j.here ?_))));rw [ve_pass _ J.1];exact A_ (k_ (I.type.here (k_ ((G5 X Z.no).here (k_ (A_ (z _)))))))
theorem x_set1 {vs:Array l_} {Q:Unit->z_->Prop} (X:K.In s.heap) (Z:Ea K C f) (J:s.heap.get? a=a_ ⟨.ref C,c_,.fields vs,#[]⟩)
  (z:∀h',h'.get? a=a_ ⟨.ref C,a_ s.heap.objs.size,.fields vs,#[]⟩->h'.Ns1 s.heap.objs.size (fun y=>if y=f then a_ v else c_)->(∀b o,b≠a->s.heap.get? b=a_ o->h'.get? b=a_ o)->Q () {s with heap:=h',toks:=s.toks+2}) :
  Cb (Eg prog w) A (MI (.ref a) f v) Q E s:=by
 have I:Gw s.heap a ⟨.ref C,c_,.fields vs,#[]⟩ C c_:=⟨J,rfl,rfl,trivial⟩
 refine MM X I Z.sa (x_open (s:={s with toks:=s.toks+1}) X I Z fun b=>?_);obtain ⟨cd,h,g⟩:=Ke Z.cd;rw [n_] at g;refine k_ (A_ (k_ (k_ (Kv J (k_ (Lc (s:={s with toks:=s.toks+1}) (Kd X h) ?_))))));rw [g.2];have c:a≠s.heap.objs.size:=EA (y_ J);have h1:(s.heap.push Fd).get? a=a_ ⟨.ref C,c_,.fields vs,#[]⟩:=s_ _ J;refine k_ (wpAny_alloc' (k_ (wpAny_update' h1 (A_ ?_))));have h2:((s.heap.push Fd).update a fun o=>{o with dict:=a_ s.heap.objs.size}).get? s.heap.objs.size=a_ Fd:=by
  rw [EC _ _ c];exact Ei s.heap rfl
 have j:((s.heap.push Fd).update a fun o=>{o with dict:=a_ s.heap.objs.size}).get? a=a_ ⟨.ref C,a_ s.heap.objs.size,.fields vs,#[]⟩:=GQ _ h1 rfl;refine k_ (A_ (k_ (wpAny_nsSet1 (m:=fun _=>c_) (KJ ⟨Fd,#[],_,h2,rfl,(fun e J=>Ek J (by simp)),fun _=>rfl⟩) fun h' d Y=>?_)));obtain ⟨t,k,l,r,p,n⟩:=d.count (K9 f v Within.nil);refine k_ (MY r (by rw [p];exact M1 (EJ n (by rw [Ex,Jy,Er];omega))) (A_ ?_));exact z h' ((Y.2 a c).trans j) d fun b o i q=>(Y.2 b (EA (y_ q))).trans (by rw [EC _ _ (EI i)];exact s_ _ q)
end
section
open PySem.W
variable {E:Vp} {od:Io} {K:Mr} {f:p_} {v:l_} 
theorem Ea.hd (Z:Ea K C f):GO K C=d_:=by
 obtain ⟨cd,J,I⟩:=Ke Z.cd;rw [n_] at I;unfold GO;rw [J];exact I.2
theorem x_ga {Q:Fin->z_->Prop} (X:K.In s.heap) (I:Gw s.heap a oe C (a_ od)) (Y:Ea K C f) (b:HL f od=a_ (a_ v)) (q:Q (.done (.ret v)) s) :
  Cb (Eg prog w) A (Builtin.«object.__getattribute__» ⟨[.ref a,.str f tk],[]⟩) Q E s:=by
 have J:=I.type (M:=Eg prog w);have m1:=looks_find (M:=Eg prog w) X I (Mf Y.hd Y.no rfl b);unfold Builtin.«object.__getattribute__»;exact k_ (A_ (k_ (A_ (k_ (J.here (k_ (m1.here (A_ q))))))))
theorem x_get {ex:Bool} {Q:Vp} (FB:Ik B bmB) (X:K.In s.heap) (I:Gw s.heap a oe C (a_ od)) (Z:XIsi K C) (Y:Ea K C f) (i:HL f od=a_ (a_ v)) (hh:JT v=d_) (q:Q v {s with toks:=s.toks+1}) :
  Cb (Eg prog w) A (LG (.ref a) f ex) Q E s:=by
 obtain ⟨h,g,d,t,os⟩:=s;have e:=I.type (M:=Eg prog w);have m1:=G5 (M:=Eg prog w) X Z.ga;have c:=G5 (M:=Eg prog w) X Z.gt;have b3:=FB.ga.bind (.ref a);have k:(Hm "BaseException.__getattribute__"==Hm "object.__getattribute__")=b_:=by decide +kernel
 have J:∀{b:GH} (R:LM->z_->Prop),R (.ok (.ret v)) ⟨h,g,d,t+1,os⟩->Ht (Eg prog w) b (.call (.builtin "BaseException.__getattribute__") ⟨[.ref a,.str f t],[]⟩) R ⟨h,g,d,t+1,os⟩:=fun {b} R j=>
  G0 FB.ga.plain MS (qW X I Z.bs (x_ga (s:=⟨h,g,d,t+1,os⟩) X I Y i j))
 have ho:=handedOut_of hh;unfold LG M3;refine k_ (wpAny_mkText ?_);repeat (any_goals (first|assumption|with_reducible refine e.at ?_|with_reducible refine m1.at ?_|with_reducible refine c.at ?_|wp_step))
 rw [show (ex&&onTheHeap (Hm "BaseException.__getattribute__"))=b_ by rw [show onTheHeap (Hm "BaseException.__getattribute__")=b_ from rfl,Gm],m_ Fc]
 repeat (any_goals (first|wp_step|assumption))
 all_goals (refine J _ ?_)
 repeat (any_goals (first|wp_step|assumption))
 all_goals (first|(rw [ho];exact wpAny_pure q)|exact q)
end
noncomputable def XO (a C:e_) (dx:Option e_):HO:=.ext fun h=>∃vs:Array l_,vs[1]? =a_ .none/\h.get? a=a_ ⟨.ref C,dx,.fields vs,#[]⟩
def XD (d:e_) (fs:List (p_×V)):HO:=.ext fun h=>∃mA,h.Ns1 d mA/\(∀f,oA (fs.lookup f) (mA f))/\Hz mA (fs.map (·.1))
section
variable {d:e_} {fs:List (p_×V)}
theorem xo_ok {vs:Array l_} (h1:vs[1]? =a_ .none) (e:h.get? a=a_ ⟨.ref C,dx,.fields vs,#[]⟩):cA P w H h a (XO a C dx):=⟨⟨vs,h1,e⟩,⟨_,e⟩,fun _ _ ⟨vs,q,e⟩ k=>⟨vs,q,k _ e⟩⟩
theorem xd_ok {mA:Mq} (n:h.Ns1 d mA) (r:∀f,oA (fs.lookup f) (mA f)) (wi:Hz mA (fs.map (·.1))):cA P w H h d (XD d fs):=
 ⟨⟨mA,n,r,wi⟩,(let ⟨o,_,_,e,_⟩:=n;⟨o,e⟩),fun _ _ ⟨m,q,z⟩ k=>⟨m,q.at k,z⟩⟩
theorem xo_get (x:cA P w H h a (XO a C dx)):∃vs:Array l_,vs[1]? =a_ .none/\h.get? a=a_ ⟨.ref C,dx,.fields vs,#[]⟩:=x.1
theorem xd_get (x:cA P w H h d (XD d fs)):∃mA,h.Ns1 d mA/\(∀f,oA (fs.lookup f) (mA f))/\Hz mA (fs.map (·.1)):=x.1
end
section
theorem Inv.turn {t':Nat} (I:Inv X pins σ H s) (S:e_->Prop) (k:∀b o,¬S b->s.heap.get? b=a_ o->h'.get? b=a_ o) (J:∀b,¬S b->H' b=H b)
  (Y:∀b,S b->(∃f,H b=a_ (.ext f))\/s.heap.get? b=c_) (a:∀b o,S b->s.heap.get? b=a_ o->∃o',h'.get? b=a_ o') (g:∀b o,S b->H' b=a_ o->cA X.prog X.w H' h' b o) :
  Inv X pins σ H' {s with heap:=h',toks:=t'}:=by
 have out:∀b u,H b=a_ u->(∀f,u≠.ext f)->¬S b:=fun b u e n z=>by
  rcases Y b z with ⟨f,q⟩|q
  ·rw [e] at q;cases q;exact n f rfl
  ·obtain ⟨o,r⟩:=(I.hok b u e).is;rw [r] at q;cases q
 have d:∀b o,s.heap.get? b=a_ o->H b=c_->¬S b:=fun b o e n z=>by
  rcases Y b z with ⟨f,q⟩|q
  ·rw [n] at q;cases q
  ·rw [e] at q;cases q
 refine I.un ⟨fun b o e n _ _=>k b o (d b o e n) e,fun b o e n _ _=>⟨o.slots,k b o (d b o e n) e⟩,fun b o e n _=>by rw [J b (d b o e n)];exact n,fun b o e _=>?_,fun b xs e=>?_,fun b o u e=>?_,fun b ps e=>?_⟩ fun b u e=>?_
 ·by_cases z:S b
  ·exact a b o z e
  ·exact ⟨o,k b o z e⟩
 ·rw [J b (out b _ e fun _ z=>nomatch z)];exact e
 ·rw [J b (out b _ e fun _ z=>nomatch z)];exact e
 ·exact ⟨#[],by rw [J b (out b _ e fun _ z=>nomatch z),Array.append_empty];exact e⟩
 ·by_cases z:S b
  ·exact g b u z e
  ·rw [J b z] at e;refine (I.hok b u e).wW (fun c v h q=>k c v ?_ q) (fun c q=>?_) fun c xs q=>?_
   ·rcases h with rfl|h
    ·exact z
    ·exact out c _ h fun _ z=>nomatch z
   ·rw [J c (out c _ q fun _ z=>nomatch z)];exact q
   ·rw [J c (out c _ q fun _ z=>nomatch z)];exact q
end
section
variable {E:Vp} {d:e_} {f:p_} 
theorem xset1_ok {Q:Unit->z_->Prop} (I:Inv X pins σ H s) (e:H a=a_ (XO a C c_)) (Z:Ea X.K C f) (i:RelV y u)
  (z:∀d s',H d=c_->d≠a->Inv X pins σ (upd (upd H d (XD d [(f,y)])) a (XO a C (a_ d))) s'->Q () s'):Cb (Eg X.prog X.w) A (MI (.ref a) f u) Q E s:=by
 obtain ⟨vs,v1,m⟩:=xo_get (I.hok a _ e);have fr:=I.hok.fresh (u_ s.heap.objs.size);have h:s.heap.objs.size≠a:=fun q=>by rw [q,e] at fr;cases fr
 refine x_set1 I.kIn Z m fun h' e1 j k=>z s.heap.objs.size _ fr h ?_;refine I.turn (fun b=>b=a\/b=s.heap.objs.size) (fun b o c q=>k b o (fun r=>c (.inl r)) q) (fun b c=>by rw [aq fun r=>c (.inl r),aq fun r=>c (.inr r)]) (fun b Y=>?_) (fun b o Y q=>?_) fun b o Y q=>?_
 ·rcases Y with rfl|rfl
  ·exact .inl ⟨_,e⟩
  ·exact .inr (get_none (u_ _))
 ·rcases Y with rfl|rfl
  ·exact ⟨_,e1⟩
  ·rw [get_none (u_ _)] at q;cases q
 ·rcases Y with rfl|rfl
  ·rw [ao] at q;cases q;exact xo_ok v1 e1
  ·rw [aq h,ao] at q;cases q;refine xd_ok j (fun g=>?_) fun g l=>?_
   ·show oA (EM g [(f,y)]) (if g=f then a_ u else c_);rw [w_];by_cases J:g=f
    ·rw [f_ J,show (g==f)=d_ from Ge.mpr J];exact i
    ·rw [m_ J,show (g==f)=b_ from FQ.mpr J];trivial
   ·by_cases J:g=f
    ·exact v_.mpr (.inl J)
    ·exact Ek (show (if g=f then a_ u else c_)=c_ from m_ J) l
end
def sX1 (C:e_) (ta tv:TE) (f:p_):TS:=fun D σ H=>tv σ H fun y H1=>ta σ H1 fun x H2=>∃a,x=.ref a/\H2 a=a_ (XO a C c_)/\∀d,H2 d=c_->d≠a->D.nx σ (upd (upd H2 d (XD d [(f,y)])) a (XO a C (a_ d)))
section
variable {f:p_} 
theorem ps_x1 (i:PE X o ta) (hv:PE X value tv) (Z:Ea X.K C f) (g: ~~~(FV value (a_ (.Attribute o f pos')) pos.line X.env=FF b_)):PS X (.Assign [.Attribute o f pos'] value pos) (sX1 C ta tv f):=by
 intro pins s σ H D I h;refine JK (thn (hv pins s σ H _ I h) fun u J ⟨y,H1,m,Y,q⟩=>thn (i pins J σ H1 _ m q) fun e p ⟨x,H2,l,b,a,ex,j,c⟩=>?_) g;subst ex;cases (show e=D_ a from b);exact xset1_ok l j Z Y fun d n h1 h2 k=>⟨σ,_,k,c d h1 h2⟩
end
theorem upd_low {d:e_} {x y z:HO}:upd (upd (upd H a x) d y) a z=upd (upd H d y) a z:=by
 funext b
 by_cases I:b=a
 ·subst I;rw [ao,ao]
 ·rw [aq I,aq I];by_cases hd:b=d
  ·subst hd;rw [ao,ao]
  ·rw [aq hd,aq hd,aq I]
theorem fn_at (X:K.In h) (e:KA K (.ref f)=a_ (.type "function")):∃o,h.get? f=a_ o/\o.cls=.type "function":=by
 unfold KA at e;cases q:K.lookup f with
 |none=>simp only [q] at e;cases e
 |some o=>
  simp only [q] at e;exact ⟨o,X _ _ q,by simpa using e⟩
theorem wN {M:Jl} {E:Vp} {q:p_} {N:e_} {bs:List l_} {k1:Option l_} 
  {x:MO l_} {Q:Flow->z_->Prop} (j:tl.contains (.type "BaseException")=d_) (hh:A.handled=c_)
  (z:Cb M A x (fun v I=>∃e oe,v=.ref e/\I.heap.get? C=a_ (IW nm q C N bs tl hdct sn sub ab col dd k0 k1 k2 k3 k5 newId)/\I.heap.get? e=a_ oe/\oe.cls=.ref C/\(∃vs,oe.data=.fields vs/\vs[1]? =a_ .none)/\E (.ref e) I) E s) :
  Cb M A
    (raiseStmt env (a_ x) c_) Q E s:=by
 have k:(D_ C::tl).contains (.type "BaseException")=d_:=by rw [Lz,j,Kt]
 unfold raiseStmt;refine k_ (thn z fun v I J=>?_);obtain ⟨e,oe,rfl,b,h,a,⟨vs,hd,Y⟩,i⟩:=J;obtain ⟨oc,c,f,osl⟩:=oe;dsimp only at a hd;subst a hd;obtain ⟨l,g,d,tk,os⟩:=I;repeat (first|(with_reducible refine Me b ?_;rw [k])|with_reducible refine Hs h ?_|with_reducible refine Hs b ?_|wp_step)
 rw [Y];refine A_ ?_;rw [m_ (by decide)];exact A_ (wpAny_raiseNew_none hh i)
def XEq2 (X:Cx) (E:XK) (C:e_):Prop:=∀(pins:Pn) (σ:St) (H:Hp) (s':z_) (a d:e_),Inv X pins σ H s'->ExA s'.heap a (.ref C) (a_ d) c_->X.s₀.heap.get? a=c_->H a=c_->E (.ref C) (a_ d) H->X.xe (.ref a) s'
section
variable {base:EY} 
theorem xeqD2:XEq2 (yx (CXd P w) P w K mg base N qual scope f cd A outer s H E) E C:=fun _ _ _ _ _ _ J x I fa q=>xe_of J x I (fun T Y=>nomatch Y) fa q
end
def tFldX (i:Nat) (a d:e_) (f:p_):TE:=fun σ H Q=>σ[i]? =a_ (a_ (.ref a))/\∃gs v,H d=a_ (.xd gs)/\gs.lookup f=a_ v/\Q v H
section
variable {d:e_} {n f:p_} 
theorem pe_xfld (FB:Ik B bmB) (Z:XIsi X.K C) (Y:Ea X.K C f) (E:oe.cls=.ref C) (hd:∃vs,oe.data=.fields vs) (w:oe.dict=a_ d)
  (G: ~~~(X.N[i]? =a_ n)) (hv:autoParam (Vis X.env.scope n) Jq5) (j:((n==("__debug__":p_))=b_)⁻¹) (g:((n==("__classdict__":p_))=b_)⁻¹)
  (F: ~~~(FR (.Name n p1) f X.env (Eu (.Name n p1) X.env)=Eu (.Name n p1) X.env)):PE (X.hand a oe) (.Attribute (.Name n p1) f pos) (tFldX i a d f):=by
 intro pins s σ H Q I h;obtain ⟨e1,gs,v,D,A,q⟩:=h;refine E8 (env:=(X.hand a oe).env) F (thn (pv (X:=X.hand a oe) i G hv j g pins s σ H (fun x H1=>x=.ref a/\H1=H) I ⟨.ref a,e1,rfl,rfl⟩) fun u k ⟨x,H1,b,m,ex,K⟩=>?_);subst ex K;cases (show u=D_ a from m);have p:=(b.pin (a,oe) (EB ..)).1;obtain ⟨mA,t,r⟩:=(show cA X.prog X.w H1 k.heap d (.xd gs) from b.hok d _ D)
 obtain ⟨od,z,c⟩:=vA t;obtain ⟨L,y,l⟩:=oA.some_of (v:=v) (o:=mA f) (by rw [<- A];exact r f);obtain ⟨vs,e⟩:=hd;have J:Gw k.heap a oe C (a_ od):=⟨p,E,by unfold LI;rw [e],by rw [w];exact z⟩
 exact x_get FB b.kIn J Z Y (by rw [c,y]) (vK l) ⟨v,H1,b.tok _,l,q⟩
end
def oU (O:List Nat) (C:e_) (fb:ah->M Flo) (fx:List (p_×Dat)->ah->M ah):ah->M Flo:=fun ρ=>match fb (erase O ρ) with
 |.ok fl=>.ok fl
 |.error (.exc I (f::fs))=>if I=C then (fx (f::fs) ρ).bind fun ρ'=>.ok (.nx ρ') else .error .stuck
 |.error _=>.error .stuck
theorem vS {fb:ah->M Flo} {fl:Flo} (h:fb (erase O ρ)=.ok fl):oU O C fb fx ρ=.ok fl:=by unfold oU;rw [h]
theorem rL {fb:ah->M Flo} {f:p_×Dat} {fs:List (p_×Dat)} (h:fb (erase O ρ)=.error (.exc C (f::fs))):oU O C fb fx ρ=(fx (f::fs) ρ).bind fun ρ'=>.ok (.nx ρ'):=by unfold oU;rw [h];exact f_ rfl
section
variable {D:Ends} {fb:ah->M Flo} 
theorem rs_tryF (Y:∀(a d:e_) (gs:List (p_×V)) (fs:List (p_×Dat)) (FB F H:Hp) (ρ:ah),Rep K F0 H0 FB O F H σ ρ->F d=a_ (.xd gs)->iO K F fs gs->iN K Wno ro F0 H0 FB OL O D ((fx fs ρ).bind fun ρ'=>.ok (.nx ρ'))->ts a (a_ d) (D.less i) (σ.set i (a_ (.ref a))) H)
  (t:tS K Wno ro F0 H0 OL O O (oU O C fb fx) D σ H):tTry (fun E D σ H=>∃F1 H1,tS K (WE K E) ro F1 H1 OL [] O fb D σ H) i C ts D σ H:=by
 obtain ⟨FB,F,ρ,r,p⟩:=t;have I:=r.jQ;refine ⟨F,H,FB,F,erase O ρ,⟨Step.refl r.st.fh,r.fb,I.len,fun m d e _=>I.sl m d e,(fun m d e h=>nomatch h),(fun m n d1 d2 c h=>nomatch h)⟩,?_⟩
 cases e:fb (erase O ρ) with
 |ok fl=>
  rw [vS e] at p;cases fl with
  |nx ρ'=>exact fun σ' F' H' r'=>p σ' F' H' (r'.back r.st)
  |rt d=>exact fun v F' H' s' q=>p v F' H' (r.st.trans s') (q.back r.st.hh)
  |bk ρ'=>exact fun σ' F' H' r'=>p σ' F' H' (r'.back r.st)
  |ct ρ'=>exact fun σ' F' H' r'=>p σ' F' H' (r'.back r.st)
 |error x=>
  cases x with
  |stuck=>exact p.stuck (by unfold oU;rw [e])
  |exc g fs=>
   cases fs with
   |nil=>exact p.stuck (by unfold oU;rw [e])
   |cons f fs=>
    by_cases J:g=C
    ·subst J;rw [rL e] at p;exact fun F' H' s' d gs hd b=>⟨rfl,fun a _=>Y a d gs _ FB F' H' ρ (r.step s') hd b p⟩
    ·exact p.stuck (by unfold oU;rw [e];exact m_ J)
end
section
variable {c n:p_} {fb:ah->M Flo} 
theorem ds_tryF (m:∀(pins:Pn) (σ:St) (E:XK) (Y:Vp),jW (CXd X.prog X.w) (X.ux Y) pins σ E->DSat K E ro (X.ux Y) OL [] O pins σ body fb)
  (g:∀(a:e_) (oe:Io),oe.cls=.ref C->(∃vs,oe.data=.fields vs)->PSs (X.hand a oe) (b₀::suite) (ts a oe.dict))
  (o:∀(F0 H0:Hp) (D:Ends) (σ:St) (a d:e_) (gs:List (p_×V)) (fs:List (p_×Dat)) (FB F H:Hp) (ρ:ah),σ.length=X.N.length->Rep K F0 H0 FB O F H σ ρ->F d=a_ (.xd gs)->iO K F fs gs->iN K Wno ro F0 H0 FB OL O D ((fx fs ρ).bind fun ρ'=>.ok (.nx ρ'))->ts a (a_ d) (D.less i) (σ.set i (a_ (.ref a))) H)
  (u:wy X.K C bmB) (v:bmB.contains (.type "BaseException")=d_) (j:X.mg c=a_ (.ref C)) (t:X.N.Nodup) (hi: ~~~(X.N[i]? =a_ n)) (k: ~~~(X.env.scope.names.lookup n=a_ .local))
  (l: ~~~(Gl X c)) (e: ~~~(X.ex=[])) (J: ~~~(X.stack=X.env::X.outer)) (b: ~~~(X.env.frame=a_ X.env.locals)) (f:((c==("__debug__":p_))=b_)⁻¹) :
  DS K Wno ro X OL O O (.Try body [.ExceptHandler (a_ (.Name c np)) (a_ n) (b₀::suite) hpos] [] [] pos) (oU O C fb fx):=fun F0 H0 pins s σ H D I z=>
 ps_try (tb:=fun E D σ H=>∃F1 H1,tS K (WE K E) ro F1 H1 OL [] O fb D σ H) (fun pins σ E Y h s H D I ⟨F1,H1,q⟩=>m pins σ E Y h F1 H1 s H D I q) g u v j t hi k l e J b f pins s σ H D I (rs_tryF (fun a d gs fs FB F H ρ r h1 h2 p=>o F0 H0 D σ a d gs fs FB F H ρ I.len r h1 h2 p) z)
end
structure XMk (K:Fg) (mg:Mq) (x:p_) (C f:e_):Prop where
 mg:mg x=a_ (.ref C)
 ex:nF K C [.type "ValueError",.type "Exception",.type "BaseException",.type "object"] "ValueError.__new__" f=d_
 fn:KA K (.ref f)=a_ (.type "function")
 kp:GD K (.ref C)
   =d_
structure XTry (K:Fg) (mg:Mq) (x:p_) (C:e_):Prop where
 mg:mg x=a_ (.ref C)
 nm:wy K C [.type "ValueError",.type "Exception",.type "BaseException",.type "object"]
 isi:XIsi K C
def rIsi (K:Fg) (C a:e_) (R:Hp->Prop):List V->Hp->VK->Prop:=fun xs H Q=>R H/\∃v b,xs=[.ref a,v] /\
  ((∃c,RelV v c/\(∀u,RelV v u->u=c)/\ES K (.ref C) c=a_ b)\/∃(I:e_) (ys:List e_),v=.ref I/\H I=a_ (.tup (ys.map V.ref))/\kitAny K (.ref C) (ys.map D_)=a_ b)/\Q (.bl b) H
def XDk (d:e_):Hp->Prop:=fun H=>∃gs,H d=a_ (.xd gs)
noncomputable def tIsiR (i:Nat) (a:e_) (R:Hp->Prop) (b:Bool):TE:=fun σ H Q=>σ[i]? =a_ (a_ (.ref a))/\R H/\Q (.bl b) H
def tIsiTR (i:Nat) (a:e_) (R:Hp->Prop) (ys:List e_) (b:Bool):TE:=fun σ H Q=>σ[i]? =a_ (a_ (.ref a))/\∀p,H p=c_->R (upd H p (.tup (ys.map V.ref)))/\Q (.bl b) (upd H p (.tup (ys.map V.ref)))
section
variable {d:e_} 
theorem DY (FB:Ik B bmB) (Z:XIsi X.K C) (O:oe.cls=.ref C) (hd:∃vs,oe.data=.fields vs) (G:oe.dict=a_ d):dQ (X.hand a oe) (.builtin "isinstance") (rIsi X.K C a (XDk d)):=by
 intro pins s σ H xs us Q I r h;obtain ⟨⟨gs,N⟩,v,b,rfl,h1,q⟩:=h;obtain ⟨u,w,rfl,A,f⟩:=r.two;cases (show u=D_ a from A);have D:=(I.pin (a,oe) (EB ..)).1;obtain ⟨vs,k⟩:=hd;obtain ⟨mA,⟨od,es,ep,L,j⟩,_⟩:=(show cA X.prog X.w H s.heap d (.xd gs) from I.hok d _ N)
 have J:Gw s.heap a oe C (a_ od):=⟨D,O,by unfold LI;rw [k],by rw [G];exact L⟩
 rcases h1 with ⟨c,R,Y,e⟩|⟨g,ys,rfl,K,e⟩
 ·cases Y w f;exact Gy (zC FB Z) I.kIn J e (fun z=>nomatch z) fun tk=>⟨.bl b,H,I.tok tk,rfl,q⟩
 ·cases (show w=D_ g from f);obtain ⟨_,its,y,F,x,t⟩:=(show cA X.prog X.w H s.heap g (.tup (ys.map V.ref)) from I.hok g _ K)
  obtain ⟨p,n,o⟩:=t;have P:its=ys.map D_:=ze y;subst P;obtain ⟨oc,E,i,osl⟩:=F;have m:oc=GU "tuple":=p;have l:i=.seq (ys.map D_).toArray n:=o;subst m l;exact PySem.W.kia_tup (zC FB Z) I.kIn J x e (fun z=>nomatch z) fun tk=>⟨.bl b,H,I.tok tk,rfl,q⟩
end
section
variable {D:e_} {R:Hp->Prop} {n y:p_} {b:Bool} {ys:List e_} 
theorem pe_isO (j:dQ (X.hand a oe) (.builtin "isinstance") (rIsi X.K C a R)) (m:X.mg "isinstance"=c_) (w:X.mg y=a_ (.ref D)) (r:ES X.K (.ref C) (.ref D)=a_ b)
  (v: ~~~(X.N[i]? =a_ n)) (hv:autoParam (Vis X.env.scope n) Jq5) (g:((n==("__debug__":p_))=b_)⁻¹) (f:((n==("__classdict__":p_))=b_)⁻¹)
  (o: ~~~(Gl (X.hand a oe) "isinstance")) (d: ~~~(Gl (X.hand a oe) y)) (e:((y==("__debug__":p_))=b_)⁻¹)
  (Y: ~~~(i_ [.Name n p1,.Name y p2] X.env=[(b_,Eu (.Name n p1) X.env),(b_,Eu (.Name y p2) X.env)])) (J: ~~~(i_ [.Name y p2] X.env=[(b_,Eu (.Name y p2) X.env)])) (c: ~~~((EN pos (i_ [.Name y p2] X.env)).any (·.1)=b_)) :
  PE (X.hand a oe) (.Call (.Name "isinstance" p) [.Name n p1,.Name y p2] [] pos) (tIsiR i a R b):=by
 have k:PE (X.hand a oe) (.Name y p2) (tC (.ref D)):=fun pins s σ H Q I h=>iW I d w ⟨.ref D,H,I,rfl,h⟩ e;refine PE.imp (ic (X:=X.hand a oe) j o m HN (au (pv i v hv g f) (au k aK J) (by rw [Y,J])) (by decide) (by decide) (by rw [Y,J]) c) fun σ H Q h=>?_;obtain ⟨e1,t,q⟩:=h;exact ⟨.ref a,e1,t,.ref D,b,rfl,.inl ⟨.ref D,rfl,fun u l=>l,r⟩,q⟩
theorem pe_isB (k:dQ (X.hand a oe) (.builtin "isinstance") (rIsi X.K C a R)) (o:X.mg "isinstance"=c_) (d:X.mg y=c_) (Y:F8 y=a_ (.type T)) (s:ES X.K (.ref C) (.type T)=a_ b)
  (v: ~~~(X.N[i]? =a_ n)) (hv:autoParam (Vis X.env.scope n) Jq5) (j:((n==("__debug__":p_))=b_)⁻¹) (g:((n==("__classdict__":p_))=b_)⁻¹)
  (r: ~~~(Gl (X.hand a oe) "isinstance")) (e: ~~~(Gl (X.hand a oe) y)) (l:(y≠"__name__")⁻¹) (f:((y==("__debug__":p_))=b_)⁻¹)
  (J: ~~~(i_ [.Name n p1,.Name y p2] X.env=[(b_,Eu (.Name n p1) X.env),(b_,Eu (.Name y p2) X.env)])) (I: ~~~(i_ [.Name y p2] X.env=[(b_,Eu (.Name y p2) X.env)])) (c: ~~~((EN pos (i_ [.Name y p2] X.env)).any (·.1)=b_)) :
  PE (X.hand a oe) (.Call (.Name "isinstance" p) [.Name n p1,.Name y p2] [] pos) (tIsiR i a R b):=by
 refine PE.imp (ic (X:=X.hand a oe) k r o HN (au (pv i v hv j g) (au (pe_tyN (X:=X.hand a oe) (pos:=p2) e d Y l f) aK I) (by rw [J,I])) (by decide) (by decide) (by rw [J,I]) c) fun σ H Q h=>?_;obtain ⟨e1,t,q⟩:=h;exact ⟨.ref a,e1,t,.ty T,b,rfl,.inl ⟨.type T,rfl,fun u m=>m,s⟩,q⟩
theorem pe_isT {j} (g:dQ (X.hand a oe) (.builtin "isinstance") (rIsi X.K C a R)) (k:X.mg "isinstance"=c_) (r:PA (X.hand a oe) es (tRefs ys)) (l:ys.length<=g_) (o:kitAny X.K (.ref C) (ys.map D_)=a_ b)
  (s: ~~~(X.N[i]? =a_ n)) (hv:autoParam (Vis X.env.scope n) Jq5) (f:((n==("__debug__":p_))=b_)⁻¹) (e:((n==("__classdict__":p_))=b_)⁻¹)
  (m: ~~~(Gl (X.hand a oe) "isinstance"))
  (Y: ~~~(i_ [.Name n p1,.Tuple es j p2] X.env=[(b_,Eu (.Name n p1) X.env),(b_,Eu (.Tuple es j p2) X.env)])) (I: ~~~(i_ [.Tuple es j p2] X.env=[(b_,Eu (.Tuple es j p2) X.env)])) (d: ~~~((EN pos (i_ [.Tuple es j p2] X.env)).any (·.1)=b_)) :
  PE (X.hand a oe) (.Call (.Name "isinstance" p) [.Name n p1,.Tuple es j p2] [] pos) (tIsiTR i a R ys b):=by
 refine PE.imp (ic (X:=X.hand a oe) g m k HN (au (pv i s hv f e) (au (vm r) aK I) (by rw [Y,I])) (by decide) (by decide) (by rw [Y,I]) d) fun σ H Q h=>?_;obtain ⟨e1,q⟩:=h;exact ⟨.ref a,e1,by rw [t_];exact l,fun c J=>⟨(q c J).1,.ref c,b,rfl,.inr ⟨c,ys,rfl,ao,o⟩,(q c J).2⟩⟩
end
section
variable {j:Nat} 
theorem Rep.toldG {ds:List Dat} (r:Rep K F0 H0 FB O F H σ ρ) (p:i≠j) (hi:i<σ.length) (g:j<σ.length) (b:i∉O) (Y:j∉O) (st:Step F H (upd F l (.lst vs)) H') (o:F l=c_) (s:ay K F ds vs) :
  Rep K F0 H0 FB O (upd F l (.lst vs)) H' (((σ.set i (a_ (.ref a))).set j (a_ (.ref l))).set i c_) ((ρ.set j (a_ (.lst ds))).set i c_):=by
 have q:aF F (upd F l (.lst vs)):=aF.upd o;have r2:=r.step st;have out:∀m,m≠i->m≠j->(((σ.set i (a_ (.ref a))).set j (a_ (.ref l))).set i c_)[m]? =σ[m]?:=fun m h1 h2=>by
  rw [o_ (EI h1),o_ (EI h2),o_ (EI h1)]
 have I:∀m,m≠i->m≠j->((ρ.set j (a_ (.lst ds))).set i c_)[m]? =ρ[m]?:=fun m h1 h2=>by
  rw [o_ (EI h1),o_ (EI h2)]
 have d:∀dd,((ρ.set j (a_ (.lst ds))).set i c_)[i]?≠a_ (a_ dd):=fun dd e=>by
  rw [x_ (by rw [En,r.len];exact hi)] at e;cases e
 refine ⟨r2.st,r2.fb,by simp only [En];exact r.len,fun m dd e J=>?_,fun m dd e J=>?_,fun m n d1 d2 c J f e1 e2 e3 e4=>?_⟩
 ·by_cases h1:m=i
  ·subst h1;exact (d _ e).elim
  ·by_cases h2:m=j
   ·subst h2;rw [o_ (EI h1),x_ (by rw [r.len];exact g)] at e;cases e;refine ⟨.ref l,by rw [o_ (EI h1),x_ (by rw [En];exact g)],l,vs,rfl,SqL.of ao,ay.mono q s⟩
   ·rw [I m h1 h2] at e;rw [out m h1 h2];exact r2.fz m dd e J
 ·have h1:m≠i:=fun z=>b (z▸J);have h2:m≠j:=fun z=>Y (z▸J);rw [I m h1 h2] at e;rw [out m h1 h2];exact r2.ow m dd e J
 ·have h1:m≠i:=fun z=>b (z▸J);have h2:m≠j:=fun z=>Y (z▸J);have k:n≠i:=fun z=>b (z▸f);have h:n≠j:=fun z=>Y (z▸f);rw [I m h1 h2] at e1;rw [I n k h] at e2;rw [out m h1 h2] at e3;rw [out n k h] at e4;exact r2.ap m n d1 d2 c J f e1 e2 e3 e4
theorem step_app {p:e_} {xs:List V} {Y:HO} (a:aF F H) (J:H l=c_) (b:H p=c_) (d:p≠l):Step F H (upd F l (.lst (xs++[y]))) (upd (upd (upd H l (.lst xs)) p Y) l (.lst (xs++[y]))):=by
 have hh:aF H (upd (upd (upd H l (.lst xs)) p Y) l (.lst (xs++[y]))):=fun c o e=>by
  rw [aq (aL e J),aq (aL e b),aq (aL e J)];exact e
 refine ⟨aF.upd (a.free J),hh,fun c o e=>?_,fun c o e=>?_⟩
 ·by_cases I:c=l
  ·subst I;rw [ao] at e ⊢;exact e
  ·rw [aq I] at e;exact hh c o (a c o e)
 ·by_cases I:c=l
  ·subst I;exact .inr J
  ·rw [aq I] at e;exact .inl e
end
structure Yd (P:Fp) (w:Fu) (K:Fg) (mg:Mq) (base:EY) (CX:CXT) (k:Nat) (x:p_) (st:Fh) (ps:List p_) (sp:Sp) (f:e_) (fd:Gf):Prop where
 d:Def K mg x st ps f fd
 o:i9 P w K mg base CX k f fd ps sp
section
open PySem.W
end
section
open PySem.W
end
section
open PySem.SetTable
end
section
open PySem
end
section
open PySem
end
section
open PySem
end
section
open PySem
end
section
open PySem
end
section
open PySem
end
section
open PySem
end
section
open PySem.W
end
structure Abt (p:e_) (F H F' H':Hp):Prop where
 ff:aF F F'
 fh:aF F' H'
 fp:F' p=c_
 nw:∀b o,F' b=a_ o->F b=a_ o\/H b=c_
 hh:∀c o,H c=a_ o->c≠p->H' c=a_ o
theorem Abt.step {x dx:e_} (Y:H x=c_) (I:H dx=c_) (z:Abt x F (upd (upd H dx (.own x)) x (.ins C dx [])) F' H'):Step F H F' H' where
 ff:=z.ff
 hh:=fun c o e=>by
  have J:c≠x:=fun h=>by rw [h,Y] at e;cases e
  have hd:c≠dx:=fun h=>by rw [h,I] at e;cases e
  exact z.hh c o (by rw [aq J,aq hd];exact e) J
 fh:=z.fh
 nw:=fun c o e=>by
  rcases z.nw c o e with q|q
  ·exact .inl q
  ·refine .inr ?_;by_cases J:c=x
   ·subst J;exact Y
   ·by_cases hd:c=dx
    ·subst hd;exact I
    ·rw [aq J,aq hd] at q;exact q
def isiC (tb:List (e_×Bool)):Dat->M Dat
 |.ins C _=>match tb.lookup C with
  |some b=>.ok (.bl b)
  |none=>stk
 |_=>stk
section
variable {W:dZ} {own:Bool} {a:Fe} {y:p_} {D:e_} {tb:List (e_×Bool)}
theorem c_isiC (g:∀C b,tb.lookup C=a_ b->(∃x,Kls K X.mg x C)/\ES K (.ref C) (.ref D)=a_ b) (i: ~~~(X.K=K)):dQ X (.builtin "isinstance") (fun xs H Q=>∃v,xs=[v,.ref D]/\rD1 K W own (isiC tb) v H Q):=by
 subst i;intro pins s σ H xs us Q I r h;obtain ⟨v,rfl,F,d,a,q,p⟩:=h;obtain ⟨u,w,rfl,c,J⟩:=r.two;cases (show w=D_ D from J);cases d with
 |ins C fs=>
  cases Y:tb.lookup C with
  |none=>
   have p:aC X.K W own F H (match tb.lookup C with
    |some b=>.ok (.bl b)
    |none=>stk) Q:=p
   rw [Y] at p;exact aC.stuck p
  |some b=>
   have p:aC X.K W own F H (match tb.lookup C with
    |some b=>.ok (.bl b)
    |none=>stk) Q:=p
   rw [Y] at p;obtain ⟨⟨x,e⟩,f⟩:=g C b Y;obtain ⟨l,dx,gs,e1,j,k⟩:=q;subst e1;exact D0 I c (e.ty (a _ _ j)) f fun tk=>⟨.bl b,H,I.tok tk,rfl,aC.bl (own:=own) p a⟩
 |_=>exact aC.stuck p
theorem Dy (i:∀C b,tb.lookup C=a_ b->(∃x,Kls K X.mg x C)/\ES K (.ref C) (.ref D)=a_ b) (e:X.mg "isinstance"=c_) (k:X.mg y=a_ (.ref D)) (g:DE K W b_ X a fa) (j: ~~~(X.K=K))
  (f: ~~~(Gl X "isinstance")) (c: ~~~(Gl X y)) (hd:((y==("__debug__":p_))=b_)⁻¹)
  (J: ~~~(i_ [a,.Name y p2] X.env=[(b_,Eu a X.env),(b_,Eu (.Name y p2) X.env)])) (I: ~~~(i_ [.Name y p2] X.env=[(b_,Eu (.Name y p2) X.env)])) (Y: ~~~((EN pos (i_ [.Name y p2] X.env)).any (·.1)=b_)) :
  DE K W own X (.Call (.Name "isinstance" p) [a,.Name y p2] [] pos) (f1 (isiC tb) fa):=
 (ic (c_isiC i j) f e HN (au g (au (sR (v:=.ref D) (pos:=p2) c k rfl hd) aK I) (by rw [J,I])) (by decide) (by decide) (by rw [J,I]) Y).imp fun σ H Q h=>by
  obtain ⟨F,ρ,r,s,q⟩:=rd_1 h;refine ⟨F,ρ,r,s,?_⟩
  cases e1:fa ρ with
  |error z=>rw [e1] at q;exact q
  |ok d=>rw [e1] at q;exact fun v F' H' st z=>⟨v,rfl,q v F' H' st z⟩
theorem isi2 {P:e_->Bool->Prop} (h1:P C1 b1) (h2:P C2 b2):∀C b,EM C [(C1,b1),(C2,b2)]=a_ b->P C b:=fun C b h=>by
 rw [w_] at h;cases e:C==C1 with
 |true=>
  rw [e] at h;cases h;rw [Ge.mp e];exact h1
 |false=>
  rw [e] at h;have h:EM C [(C2,b2)]=a_ b:=h;rw [w_] at h;cases e2:C==C2 with
  |true=>
   rw [e2] at h;cases h;rw [Ge.mp e2];exact h2
  |false=>rw [e2] at h;cases h
end
noncomputable abbrev tKind (P:Fp) (w:Fu):HeapKind P w (List Int):=Iv (JD P w)
theorem uF {P:Fp} {w:Fu}:∀{k:List Int} {us:List l_},Vals (k.map V.int) us->ItemsAre (JD P w) k us
 |[],_,.nil=>.nil
 |i::k,_,.cons r t=>by
  obtain ⟨t',rfl⟩:=(show ∃t,_=Hj i t from r)
  exact .cons (by simp [JD,KG]) (uF t)
theorem mW.at {xs:List mj} (z:mW h a xs ep) (e:∀o,h.get? a=a_ o->h'.get? a=a_ o):mW h' a xs ep:=
 let ⟨vs,r,hd,J,I,o,es,h1,h2⟩:=z;⟨vs,r,hd,J,I,o,es,e o h1,h2⟩
theorem Dt {xs:List mj} (z:mW h a xs ep):cA P w H h a (wA a xs ep):=
 ⟨z,let ⟨_,_,_,_,_,o,_,e,_⟩:=z;⟨o,e⟩,fun _ _ z e=>z.at e⟩
def qo (K:Fg) (H:Hp) (xs:List mj):Prop:=∀x∈xs,SqT K H x.2.1 (x.1.map V.int)
theorem qo.mono {xs:List mj} (z:qo K H xs) (s:aF H H'):qo K H' xs:=fun x I=>s.tup (z x I)
theorem cJ.key {K:Fg} {F:Hp}:∀{ks:List (List Int×Dat)} {xs:List mj},cJ K F ks xs->qo K F xs
 |[],_,h,x,I=>by rw [show _=[] from h] at I;cases I
 |(k,d)::ks,_,⟨b,v,r,e,t,q,z⟩,x,I=>by
  subst e;rcases v_.mp I with rfl|I
  ·exact t
  ·exact cJ.key z x I
theorem cJ.length {K:Fg} {F:Hp}:∀{ks:List (List Int×Dat)} {xs:List mj},cJ K F ks xs->xs.length=ks.length
 |[],_,h=>by rw [show _=[] from h];rfl
 |(k,d)::ks,_,⟨b,v,r,e,t,q,z⟩=>by rw [e,Ex,Ex,cJ.length z]
noncomputable def Bl (ks:List (List Int×Dat)) (k:List Int):Option Dat:=(ks.find? fun p=>r_ (p.1=k)).map (·.2)
def D5 (xs:List mj) (k:List Int):Option V:=(xs.find? fun p=>r_ (p.1=k)).map (·.2.2)
def As (ks:List (List Int×Dat)) (k:List Int) (d:Dat):List (List Int×Dat):=if (Bl ks k).isSome=d_ then ks.map (fun p=>if p.1=k then (p.1,d) else p) else ks++[(k,d)]
def putR (xs:List mj) (k:List Int) (b:e_) (v:V):List mj:=if (D5 xs k).isSome=d_ then xs.map (fun x=>if x.1=k then (x.1,x.2.1,v) else x) else xs++[(k,b,v)]
theorem xW (xs:List mj) (k:List Int) (b:e_) (v:V):(putR xs k b v).length<=xs.length+1:=by
 unfold putR;split
 ·rw [t_];omega
 ·rw [Ey];exact u_ _
theorem sM {k:List Int}:∀{xs:List mj} {vs:List (List Int×e_×l_)},Hu mh xs vs->oA (D5 xs k) ((IG vs k).map (·.2))
 |_,_,.nil=>Fl
 |x::xs,q::vs,.cons h t=>by
  obtain ⟨h1,h2,J⟩:=h;by_cases e:x.1=k
  ·have I:q.1=k:=h1.symm.trans e;simp only [D5,IG,Ff,e,I,decide_true,Ih];exact J
  ·have I:¬q.1=k:=fun z=>e (h1.trans z);have:=sM (k:=k) t;simpa only [D5,IG,Ff,e,I,K4] using this
theorem cJ.at {K:Fg} {F:Hp} {k:List Int}:∀{ks:List (List Int×Dat)} {xs:List mj},cJ K F ks xs->(Bl ks k=c_/\D5 xs k=c_)\/∃d v,Bl ks k=a_ d/\D5 xs k=a_ v/\aR K F d v
 |[],_,h=>by rw [show _=[] from h];exact .inl ⟨rfl,rfl⟩
 |(I,d)::ks,_,⟨b,v,r,e,t,q,z⟩=>by
  subst e;by_cases e:I=k
  ·exact .inr ⟨d,v,by simp [Bl,e],by simp [D5,e],q⟩
  ·have:=cJ.at (k:=k) z;simpa only [Bl,D5,Ff,e,K4] using this
theorem cJ.isSome {K:Fg} {F:Hp} {k:List Int} {ks:List (List Int×Dat)} {xs:List mj} (z:cJ K F ks xs):(D5 xs k).isSome=(Bl ks k).isSome:=by
 rcases z.at (k:=k) with ⟨e1,e2⟩|⟨d,v,e1,e2,_⟩<;>rw [e1,e2]<;>rfl
theorem cJ.repl {K:Fg} {F:Hp} {k:List Int} {d:Dat} {v:V} (q:aR K F d v):∀{ks:List (List Int×Dat)} {xs:List mj},cJ K F ks xs->cJ K F (ks.map fun p=>if p.1=k then (p.1,d) else p) (xs.map fun x=>if x.1=k then (x.1,x.2.1,v) else x)
 |[],_,h=>by rw [show _=[] from h];rfl
 |(Y,d')::ks,_,⟨b,I,r,e,t,J,z⟩=>by
  subst e;rw [Eh,Eh];by_cases e:Y=k
  ·rw [f_ e,f_ e];exact ⟨b,v,_,rfl,t,q,cJ.repl q z⟩
  ·rw [m_ e,m_ e];exact ⟨b,I,_,rfl,t,J,cJ.repl q z⟩
theorem cJ.snoc {K:Fg} {F:Hp} {k:List Int} {b:e_} {d:Dat} {v:V} (t:SqT K F b (k.map V.int)) (q:aR K F d v):∀{ks:List (List Int×Dat)} {xs:List mj},cJ K F ks xs->cJ K F (ks++[(k,d)]) (xs++[(k,b,v)])
 |[],_,h=>by rw [show _=[] from h];exact ⟨b,v,[],rfl,t,q,rfl⟩
 |(a,d')::ks,_,⟨Y,I,r,e,t',J,z⟩=>by subst e;exact ⟨Y,I,_,rfl,t',J,cJ.snoc t q z⟩
theorem cJ.put {k:List Int} {d:Dat} {xs:List mj} (z:cJ K F ks xs) (t:SqT K F b (k.map V.int)) (q:aR K F d v):cJ K F (As ks k d) (putR xs k b v):=by
 unfold As putR;rw [z.isSome];by_cases h:(Bl ks k).isSome=d_
 ·rw [f_ h,f_ h];exact z.repl q
 ·rw [m_ h,m_ h];exact z.snoc t q
theorem uV {k:List Int} {v:V} {u:l_} (I:RelV v u):∀{xs:List mj} {vs:List (List Int×e_×l_)},Hu mh xs vs->Hu mh (xs.map fun x=>if x.1=k then (x.1,x.2.1,v) else x) (vs.map (putAt k u))
 |_,_,.nil=>.nil
 |x::xs,q::vs,.cons h t=>by
  rw [Eh,Eh];refine .cons ?_ (uV I t);obtain ⟨h1,h2,J⟩:=h;unfold putAt;by_cases e:x.1=k
  ·rw [f_ e,f_ (h1.symm.trans e)];exact ⟨h1,h2,I⟩
  ·rw [m_ e,m_ (fun z=>e (h1.trans z))];exact ⟨h1,h2,J⟩
theorem rows_put {k:List Int} (I:RelV v u) {xs:List mj} {vs:List (List Int×e_×l_)} (r:Hu mh xs vs):Hu mh (putR xs k b v) (ME vs k b u):=by
 have e:(D5 xs k).isSome=(IG vs k).isSome:=by rw [(sM r).vJ,G9]
 unfold putR ME;rw [e];by_cases h:(IG vs k).isSome=d_
 ·rw [f_ h,f_ h];exact uV I r
 ·rw [m_ h,m_ h];exact Kp r ⟨rfl,rfl,I⟩
theorem za:∀{xs:List mj} {vs:List (List Int×e_×l_)},Hu mh xs vs->∀q∈vs,∃x∈xs,x.1=q.1/\x.2.1=q.2.1
 |_,_,.nil,_,h=>nomatch h
 |x::xs,q::vs,.cons h t,y,I=>by
  rcases v_.mp I with rfl|I
  ·exact ⟨x,by simp,h.1,h.2.1⟩
  ·obtain ⟨J,h1,h2⟩:=za t y I;exact ⟨J,by simp [h1],h2⟩
section
variable {xs:List mj} {k:List Int}
theorem wO (I:Inv X pins σ H s) (h:SqT X.K H b (k.map V.int)):(tKind X.prog X.w).is s.heap k b:=by
 obtain ⟨its,r,⟨o,h1,h2,n,J⟩,_⟩:=I.tuple h;exact ⟨o,its.toArray,n,h1,h2,J,by simpa using uF r⟩
theorem zT (I:Inv X pins σ H s) (e:H a=a_ (wA a xs ep)):mW s.heap a xs ep:=(show mW s.heap a xs ep/\_ from I.hok a _ e).1
theorem dic_at (I:Inv X pins σ H s) (e:H a=a_ (wA a xs ep)) (z:qo X.K H xs):∃vs,Hu mh xs vs/\(a==Fj)=b_/\xs.length<=g_/\s.heap.DictOfH (tKind X.prog X.w) a vs:=by
 obtain ⟨vs,r,hd,c,b,o,es,h1,h2,f,d⟩:=zT I e;refine ⟨vs,r,hd,c,o,es,ep,h1,h2,f,d,fun q Y=>?_,b⟩
 obtain ⟨x,J,e1,e2⟩:=za r q Y;rw [<- e1,<- e2];exact wO I (z x J)
theorem dic_ty (I:Inv X pins σ H s) (e:H a=a_ (wA a xs ep)):s.TypeIs (.ref a) "dict"/\(∀b,D_ a=.ref b->∃J,s.heap.get? b=a_ J/\J.dict=c_):=by
 obtain ⟨_,_,_,_,_,o,_,h1,h2,_⟩:=zT I e;exact ⟨⟨o,h1,h2.1⟩,fun c q=>by cases q;exact ⟨o,h1,h2.2.1⟩⟩
theorem dicOk_of {vs:List (List Int×e_×l_)} (dd:h.DictOfH (tKind P w) a vs) (r:Hu mh xs vs) (hd:(a==Fj)=b_) (I:xs.length<=g_):∃ep,mW h a xs ep:=by
 obtain ⟨o,es,ep,h1,h2,b,Y,_,J⟩:=dd;exact ⟨ep,vs,r,hd,I,J,o,es,h1,h2,b,Y⟩
end
def sPut (K:Fg) (td ty tv:TE):TS:=fun D σ H=>tv σ H fun v H1=>td σ H1 fun x H2=>ty σ H2 fun y I=>∃a b k xs ep,x=.ref a/\y=.ref b/\I a=a_ (wA a xs ep)/\qo K I xs/\SqT K I b (k.map V.int)/\xs.length<g_/\∀ep',D.nx σ (upd I a (wA a (putR xs k b v) ep'))
def tGet2 (K:Fg) (td ty tx:TE):TE:=fun σ H Q=>td σ H fun x H1=>∃a xs ep,x=.ref a/\H1 a=a_ (wA a xs ep)/\ty σ H1 fun y H2=>tx σ H2 fun z I=>∃b k,y=.ref b/\I a=a_ (wA a xs ep)/\qo K I xs/\SqT K I b (k.map V.int)/\Q ((D5 xs k).getD z) I
def tNewK:TE:=fun _ H Q=>∀p,H p=c_->Q (.ref p) (upd H p (wA p [] 0))
section
variable {i f:Fe} {ty tx:TE}
theorem Dv (h:EY) (I:Fj<h.objs.size):mW (h.push {cls:=.type "dict",data:=.dict #[]}) h.objs.size [] 0:=
 ⟨[],.nil,FQ.mpr (EI (EA I)),FX _,Iz,_,#[],Ei _ rfl,⟨rfl,rfl,rfl⟩,rfl,rfl⟩
theorem xE:PE X (.Dict [] [] pos) tNewK:=fun pins s σ H Q I h=>
 M0 ⟨.ref s.heap.objs.size,_,I.laid (a:=s.heap.objs.size) (o:=wA s.heap.objs.size [] 0) (t':=s.toks) (fun _ _ q=>s_ _ q) (u_ _) (Dt (Dv s.heap I.big)),rfl,h _ (I.hok.fresh (u_ _))⟩
theorem Inv.dic {xs ys:List mj} {t':Nat} (I:Inv X pins σ H s) (e:H a=a_ (wA a xs ep)) (J:HC a s.heap h') (z:mW h' a ys ep'):Inv X pins σ (upd H a (wA a ys ep')) {s with heap:=h',toks:=t'}:=
 I.write (x:=a) (e:=a) (by rw [e];exact Fl) (.inl rfl) (fun c q Y w=>(J.2 c Y).trans w) (let ⟨_,_,_,_,_,o,_,w,_⟩:=z;⟨o,w⟩) (Dt z)
theorem ps_put (C:X.A.units+1<FK) (F:PE X o td) (hi:PE X i ty) (hv:PE X value tv) (E:FV value (a_ (.Subscript o i pos')) pos.line X.env=FF b_):PS X (.Assign [.Subscript o i pos'] value pos) (sPut X.K td ty tv):=by
 intro pins s σ H D I h;refine LB (thn (hv pins s σ H _ I h) fun r j ⟨v,H1,N,n,w⟩=>thn (F pins j σ H1 _ N w) fun u g ⟨x,H2,L,m,q⟩=>thn (hi pins g σ H2 _ L q) fun A O ⟨y,Q,d,l,a,b,k,xs,ep,ex,K,f,G,t,P,p⟩=>?_) E;subst ex K;cases (show u=D_ a from m);cases (show A=D_ b from l);obtain ⟨vs,e,hd,B,dd⟩:=dic_at d f G;have J:vs.length<=g_:=by rw [<- HQ e];exact B
 refine Mj (hsz:=J) (Hf C) (wO d t) dd fun h' c Y=>?_;obtain ⟨ep',z⟩:=dicOk_of c (rows_put n e) hd (by have:=xW xs k b v;omega);exact ⟨σ,_,d.dic f Y z,p ep'⟩
theorem pe_get2 (w:X.A.units+1<FK) (A:PE X o td) (D:PE X e ty) (C:PE X f tx) (m:M2 X o "get" apos e f cpos):PE X (.Call (.Attribute o "get" apos) [e,f] [] cpos) (tGet2 X.K td ty tx):=by
 intro pins s σ H Q I h;refine MB m.base m.few m.line JM GG J6 (thn (A pins s σ H _ I h) fun u g ⟨x,H1,c,l,a,xs,ep,ex,G,r⟩=>?_);subst ex;cases (show u=D_ a from l);obtain ⟨t1,t2⟩:=dic_ty c G;refine ⟨t1,t2,?_⟩
 rw [m.trees];refine Ig rfl (Iy (Gx (thn (D pins g σ H1 _ c r) fun v d ⟨y,H2,K,j,q⟩=>
  Gx (thn (C pins d σ H2 _ K q) fun E N ⟨z,L,Y,i,b,k,F,J,B,t,p⟩=>HR ?_))))
 subst F;cases (show v=D_ b from j);obtain ⟨vs,n,hd,O,dd⟩:=dic_at Y J B;exact LH GG dd.typeIs Ia (HW _ _ _) (Lm (tKind X.prog X.w) a b hd E) ⟨Hf w,k,vs,wO Y t,dd,_,L,Y.tok _,(sM n).getD i,p⟩
end
def keyD:Dat->M (List Int)
 |.tup ds=>jz ds
 |_=>stk
noncomputable def isDic:Dat->Bool
 |.dic _=>d_
 |_=>b_
def D7:Dat->Dat->Dat->M Dat
 |.dic ks,I,x=>(keyD I).bind fun k=>.ok ((Bl ks k).getD x)
 |_,_,_=>stk
def vP (fd fk fx:ah->M Dat):ah->M Dat:=fun ρ=>(fd ρ).bind fun d=>if isDic d=d_ then (fk ρ).bind fun k=>(fx ρ).bind fun x=>D7 d k x else stk
theorem keyD_err {d:Dat} {e:Err} (h:keyD d=.error e):e=.stuck:=by
 cases d with
 |tup ds=>exact lR h
 |_=>cases h;rfl
theorem keyD_at {d:Dat} {k:List Int} (h:keyD d=.ok k) (q:aR K F d v):∃b,v=.ref b/\SqT K F b (k.map V.int):=by
 cases d with
 |tup ds=>
  obtain ⟨b,xs,e,t,z⟩:=q;have:=lQ z h;subst this;exact ⟨b,e,t⟩
 |_=>cases h
section
variable {W:dZ} {fd fx:ah->M Dat} 
theorem rd_getD (h:tD K W b_ (vP fd fk fx) σ H Q):tGet2 K (tD K W b_ fd) (tD K W b_ fk) (tD K W b_ fx) σ H Q:=by
 obtain ⟨F,ρ,r,s,p⟩:=h;refine aO r s (fun e i=>p.err (by unfold vP;rw [i];rfl)) fun d hd x F1 H1 f B=>?_;have E:vP fd fk fx ρ=if isDic d=d_ then (fk ρ).bind fun k=>(fx ρ).bind fun x=>D7 d k x else stk:=by unfold vP;rw [hd];rfl
 rw [E] at p;cases d with
 |dic ks=>
  have p:aC K W b_ F H ((fk ρ).bind fun k=>(fx ρ).bind fun x=>D7 (.dic ks) k x) Q:=p;obtain ⟨a,xs,e,⟨ep,n⟩,z⟩:=B;refine ⟨a,xs,ep,e,f.fh _ _ n,?_⟩
  refine aO (r.mono f.ff) f.fh (fun e i=>(p.step f).err (by rw [i];rfl)) fun l C y F2 H2 j A=>?_;rw [C] at p;have p:aC K W b_ F H ((fx ρ).bind fun x=>D7 (.dic ks) l x) Q:=p;have I:=f.trans j;refine aO (r.mono I.ff) I.fh (fun e i=>(p.step I).err (by rw [i];rfl)) fun c D w o G Y u=>?_;rw [D] at p;have p:aC K W b_ F H ((keyD l).bind fun k=>.ok ((Bl ks k).getD c)) Q:=p;cases J:keyD l with
  |error e=>
   rw [J] at p;have:=keyD_err J;subst this;exact aC.stuck p
  |ok k=>
   rw [J] at p;obtain ⟨b,rfl,t⟩:=keyD_at J A;have g:=I.trans Y;have m:=(z.mono j.ff).mono Y.ff;refine ⟨b,k,rfl,Y.hh _ _ (j.hh _ _ (f.fh _ _ n)),m.key.mono Y.fh,Y.fh.tup (Y.ff.tup t),p _ o G g ?_⟩
   show aR K o _ _;rcases m.at (k:=k) with ⟨e1,e2⟩|⟨d,v,e1,e2,q⟩
   ·rw [e1,e2];exact u
   ·rw [e1,e2];exact q
 |_=>exact aC.stuck p
end
section
variable {W:dZ} {ek ex:Fe} {fd fx:ah->M Dat} 
theorem de_newK:DE K W d_ X (.Dict [] [] pos) (fC (.dic [])):=xE.imp fun σ H Q h=>by
 obtain ⟨F,ρ,r,s,q⟩:=h;exact fun a I=>q (.ref a) F _ (Step.grow s I) ⟨a,[],rfl,⟨0,ao⟩,s.free I,I,rfl⟩
theorem de_getD (e:X.A.units+64<FK) (J:DE K W b_ X o fd) (b:DE K W b_ X ek fk) (a:DE K W b_ X ex fx) (d: ~~~(X.K=K))
  (c: ~~~(FR o "get" X.env (Eu o X.env)=Eu o X.env))
  (hw: ~~~(((EN cpos (i_ [ek,ex] X.env)).all (fun x=> !x.1)&&(GB cpos (Fz [] X.env)).all (fun x=>x.1.isSome)&&r_ (([ek,ex]:List Fe).length+([]:List G2).length+(if ([]:List G2).isEmpty then 0 else 1)<30))=d_))
  (Y: ~~~((apos.endLine==cpos.line)=d_)) (I: ~~~(EN cpos (i_ [ek,ex] X.env)=[(b_,Eu ek X.env),(b_,Eu ex X.env)])):DE K W b_ X (.Call (.Attribute o "get" apos) [ek,ex] [] cpos) (vP fd fk fx):=by
 subst d;exact (pe_get2 (by omega) J b a ⟨c,hw,Y,I⟩).imp fun _ _ _=>rd_getD
end
section
open PySem
end
section
open PySem
end
section
open PySem
end
section
theorem Du (z:mW h l [] ep):(l==Fj)=b_/\h.DictOf (JD P w) l []:=by
 obtain ⟨vs,r,hd,a,Y,o,es,h1,h2,J,I⟩:=z;cases r;obtain ⟨es⟩:=es;cases (show es=[] from I);exact ⟨hd,o,_,ep,h1,h2,J,fun i hi=>Ek hi (by simp),.nil,.nil⟩
end
section
open PySem.W hiding kindOf
end
section
open PySem.W hiding kindOf
variable {key:Nat->Int}
def Srt (key:Nat->Int) (l:List Nat):Prop:=l.Pairwise fun x y=>key x<=key y
def rX (st I:KN):Prop:=∃g,I=SortSt.mk' (kindOf st) (arrOf st) (HA st) g (failedOf st)
theorem rX.trans {a b c:KN} (h:rX a b) (k:rX b c):rX a c:=by
 obtain ⟨g,rfl⟩:=h;obtain ⟨g',rfl⟩:=k;exact ⟨g',rfl⟩
theorem rX.kind {a b:KN} (h:rX a b):kindOf b=kindOf a:=by obtain ⟨g,rfl⟩:=h;rfl
end
section
open PySem.W hiding kindOf
end
section
open PySem.W hiding kindOf
end
section
open PySem.W hiding kindOf
variable {f:Nat->Keyed} 
structure SS (κ:SortKind) (f:Nat->Keyed) (n:Nat) (st:KN) (p:List Nat):Prop where
 kind:kindOf st=κ
 ok:failedOf st=c_
 arr:arrOf st=(p.map f).toArray
 perm:p.Perm (Fm n)
end
section
open PySem.W hiding kindOf
variable {key:Nat->Int}
noncomputable def kG (key:Nat->Int) (p:List Nat) (i:Nat):Int:=key (p.getD i 0)
def Sg (key:Nat->Int) (p:List Nat) (lo hi:Nat):Prop:=∀i j,lo<=i->i<=j->j<hi->kG key p i<=kG key p j
def Dg (key:Nat->Int) (p:List Nat) (lo hi:Nat):Prop:=∀i j,lo<=i->i<=j->j<hi->kG key p j<=kG key p i
def Fx (lo:Nat) (p I:List Nat):Prop:=∀i,i<lo->I.getD i 0=p.getD i 0
theorem Fx.trans {lo:Nat} {p q r:List Nat} (h:Fx lo p q) (k:Fx lo q r):Fx lo p r:=fun i hi=>(k i hi).trans (h i hi)
theorem Sg.step {p:List Nat} {m:Nat} (h:Sg key p lo (lo+m)) (h1:1<=m) (b:¬kG key p (lo+m)<kG key p (lo+m-1)):Sg key p lo (lo+(m+1)):=fun i j hi J c=>by
 by_cases I:j<lo+m
 ·exact h i j hi J I
 ·have a:j=lo+m:=by omega
  subst a;by_cases Y:i=lo+m
  ·subst Y;exact Jz _
  ·have:=h i (lo+m-1) hi (by omega) (by omega);omega
theorem Dg.step {p:List Nat} {m:Nat} (h:Dg key p lo (lo+m)) (h1:1<=m) (b:kG key p (lo+m)<=kG key p (lo+m-1)):Dg key p lo (lo+(m+1)):=fun i j hi J c=>by
 by_cases I:j<lo+m
 ·exact h i j hi J I
 ·have a:j=lo+m:=by omega
  subst a;by_cases Y:i=lo+m
  ·subst Y;exact Jz _
  ·have:=h i (lo+m-1) hi (by omega) (by omega);omega
end
section
open PySem.W hiding kindOf
end
section
open PySem.W hiding kindOf
variable {f:Nat->Keyed} {key:Nat->Int} 
noncomputable def mkP:Nat->List (List Nat×Nat)->List (Nat×Nat×Nat)
 |_,[]=>[]
 |a,(l,w)::r=>(a,l.length,w)::mkP (a+l.length) r
noncomputable def flt (gs:List (List Nat×Nat)):List Nat:=(gs.map Prod.fst).flatten
theorem flt_cons (g:List Nat×Nat) (y:List (List Nat×Nat)):flt (g::y)=g.1++flt y:=by simp [flt]
theorem xR:∀(x:List (List Nat×Nat)) (a:Nat) (y:List (List Nat×Nat)),mkP a (x++y)=mkP a x++mkP (a+(flt x).length) y
 |[],a,y=>by simp [mkP,flt]
 |(l,w)::x,a,y=>by
  show (a,l.length,w)::mkP (a+l.length) (x++y)=(a,l.length,w)::(mkP (a+l.length) x++_)
  rw [xR x,flt_cons,Ey,MV]
theorem xQ:∀(x:List (List Nat×Nat)) (a:Nat),(mkP a x).length=x.length
 |[],_=>rfl
 |(l,w)::x,a=>by simp [mkP,xQ x]
structure RI (κ:SortKind) (f:Nat->Keyed) (key:Nat->Int) (n:Nat) (st:KN) (gs:List (List Nat×Nat)) (rest:List Nat):Prop where
 ss:SS κ f n st (flt gs++rest)
 pd:HA st=(mkP 0 gs).toArray
 ok:∀g∈gs,Srt key g.1/\0<g.1.length
theorem RI.size {st:KN} {gs:List (List Nat×Nat)} {rest:List Nat} (h:RI κ f key n st gs rest):(HA st).size=gs.length:=by rw [h.pd];simp [xQ]
noncomputable def rePw (I:Nat):Nat×Nat×Nat->Nat×Nat×Nat
 |(s,l,_)=>(s,l,I)
theorem RI.last {st:KN} {gs:List (List Nat×Nat)} {rest:List Nat} {Y:Nat} (h:RI κ f key n st gs rest):∃J,J.length=gs.length/\flt J=flt gs/\RI κ f key n (setPending st ((HA st).modify ((HA st).size-1) (rePw Y))) J rest:=by
 by_cases e:gs=[]
 ·subst e;refine ⟨[],rfl,rfl,⟨h.ss.kind,h.ss.ok,h.ss.arr,h.ss.perm⟩,?_,h.ok⟩
  show (HA st).modify ((HA st).size-1) (rePw Y)=_;rw [h.pd];rfl
 ·obtain ⟨I,b,m⟩:∃I b,gs=I++[b]:=⟨gs.dropLast,gs.getLast e,(List.dropLast_concat_getLast e).symm⟩
  subst m;obtain ⟨b,j⟩:=b;have a:flt (I++[(b,Y)])=flt (I++[(b,j)]):=by simp [flt]
  refine ⟨I++[(b,Y)],by simp,a,⟨h.ss.kind,h.ss.ok,?_,?_⟩,?_,fun g l=>?_⟩
  ·rw [a];exact h.ss.arr
  ·rw [a];exact h.ss.perm
  ·show (HA st).modify ((HA st).size-1) (rePw Y)=_;rw [h.size,h.pd,xR,xR];have k:=xQ I 0;apply Array.ext_getElem?;intro i;rw [Array.getElem?_modify];simp only [Ey,KO,Nat.add_sub_cancel,KP,mkP];by_cases c:I.length=i
   ·subst c;rw [f_ rfl,<- k,GY (u_ _),GY (u_ _),Nat.sub_self];rfl
   ·rw [m_ c];rcases Nat.lt_or_ge i I.length with d|d
    ·rw [Gb (by omega),Gb (by omega)]
    ·rw [Hl (by simp;omega),Hl (by simp;omega)]
  ·rcases Fw.mp l with e|e
   ·exact h.ok g (IA _ e)
   ·have:=Fy.mp e;subst this;exact h.ok (b,j) (by simp)
end
section
open PySem.W hiding kindOf
end
section
open PySem.W hiding kindOf
end
noncomputable def hkT (k:List Int):Int:=Kw (FZ (k.map MK))
noncomputable def goodT (t:SetTable) (n:Nat):Bool:=t.fits n&&(t.mask%2==1)&&r_ (t.place.toList.Pairwise (·<·))&&t.plain&&r_ (n<4096)
def addS (st:SetTable×List (List Int)) (k:List Int):Option (SetTable×List (List Int)):=
 match st.1.probe (fun i=>((st.2.map hkT)[i]?).getD 0) (hkT k) (st.1.probeStart (hkT k)) with
 |some (.empty j c_)=>if goodT (st.1.put j).1 (st.2.length+1)=d_ then
   (if (st.1.put j).1.tooFull=d_ then match (st.1.put j).1.relaid ((st.2.take (st.1.put j).2++k::st.2.drop (st.1.put j).2).map hkT).toArray (Ls (st.2.length+1)) with
    |some (t,o)=>if (goodT t (st.2.length+1)&&o.toList.isPerm (Fm (st.2.length+1))&&r_ (SetTable.sizeAbove (Ls (st.2.length+1))<=g_))=d_ then a_ (t,o.toList.filterMap fun i=>(st.2.take (st.1.put j).2++k::st.2.drop (st.1.put j).2)[i]?) else c_
    |none=>c_
   else a_ ((st.1.put j).1,st.2.take (st.1.put j).2++k::st.2.drop (st.1.put j).2)) else c_
 |some (.candidate _ i _)=>if st.2[i]? =a_ k then a_ st else c_
 |_=>c_
section
open PySem SetTable
end
section
open PySem
end
section
open PySem
end
section
open PySem
end
section
open PySem SetTable
end
section
open PySem.W
end
section
open PySem
end
section
open PySem
variable {κ μ:Type} [DecidableEq κ] [DecidableEq μ]
end
section
open PySem
end
section
open PySem.W
end
section
open PySem PySem.W
end
section
open PySem PySem.W
end
mutual
noncomputable def pe:Dat->Bool
 |.tup ds=>pb ds
 |.lst ds=>pb ds
 |.ins _ _=>b_
 |.dic _=>b_
 |.dil _=>b_
 |_=>d_
noncomputable def pb:List Dat->Bool
 |[]=>d_
 |d::ds=>pe d&&pb ds
end
mutual
theorem aR.plain {K:Fg} {F F':Hp} (s:∀a xs,SqT K F a xs->SqT K F' a xs) (t:∀a xs,SqL K F a xs->SqL K F' a xs):∀{d:Dat} {v:V},pe d=d_->aR K F d v->aR K F' d v
 |.non,_,_,h=>h
 |.bl _,_,_,h=>h
 |.int _,_,_,h=>h
 |.str _,_,_,h=>h
 |.tup ds,_,f,⟨a,xs,e,q,r⟩=>⟨a,xs,e,s _ _ q,ay.plain s t (by simpa [pe] using f) r⟩
 |.lst ds,_,f,⟨a,xs,e,q,r⟩=>⟨a,xs,e,t _ _ q,ay.plain s t (by simpa [pe] using f) r⟩
 |.ins _ _,_,f,_=>by simp [pe] at f
 |.dic _,_,f,_=>by simp [pe] at f
 |.dil _,_,f,_=>by simp [pe] at f
theorem ay.plain {K:Fg} {F F':Hp} (s:∀a xs,SqT K F a xs->SqT K F' a xs) (t:∀a xs,SqL K F a xs->SqL K F' a xs):∀{ds:List Dat} {xs:List V},pb ds=d_->ay K F ds xs->ay K F' ds xs
 |[],_,_,h=>h
 |d::ds,_,f,⟨v,vs,e,q,r⟩=>by
  simp only [pb,n_] at f;exact ⟨v,vs,e,aR.plain s t f.1 q,ay.plain s t f.2 r⟩
end
section
open PySem PySem.W
end
structure B7 where
 f:e_
 c:l_
 A:GH
 o:List JY
 s:z_
 H:Hp
 E:XK
section
variable {base:EY} {q:p_} {k:Nat} {g:ah->M Flo}
def YO (_:∃f fd,Def K mg x st ps f fd) (P:Fp) (w:Fu) (base:EY) (k:Nat) (ro:Bool) (m:List Dat->M Dat):Prop:=∃f fd,Yd P w K mg base CX0 k x st ps (spF K ro m ps.length) f fd
def YX (_:∃f fd,Def K mg x st ps f fd) (P:Fp) (w:Fu) (base:EY) (k:Nat) (ro:Bool) (m:List Dat->M Dat):Prop:=∃f fd,Yd P w K mg base (CXd P w) k x st ps (spX K ro m ps.length) f fd
def YM (_:∃f fd,Mth K C x q st ps f fd) (P:Fp) (w:Fu) (mg:Mq) (base:EY) (k:Nat) (ro:Bool) (m:List Dat->M Dat):Prop:=∃f fd,Mth K C x q st ps f fd/\i9 P w K mg base CX0 k f fd ps (spF K ro m ps.length)
theorem fY (N:List p_) {h:∃f fd,Def K mg x st ps f fd}
  (J:∀z:B7,N.Nodup->i8 k (z.A.deeper (GR x (aD st) z.s.heap.objs.size z.f z.c))->DSs K Wno ro (yx CX0 P w K mg base N x (aD st) z.f z.c z.A z.o z.s z.H z.E).nox [] [] [] (bF st) g)
  (S:fK N ps (aD st):=by exact ⟨rfl,rfl,rfl,by decide +kernel,rfl,by decide +kernel,by decide +kernel⟩):YO h P w base (k+1) ro (bL N.length ps.length g):=
 let ⟨f,fd,D⟩:=h
 ⟨f,fd,D,fn_D D.fn S ro g fun c A o s H E I=>J ⟨f,c,A,o,s,H,E⟩ S.nd I⟩
theorem fX (N:List p_) {h:∃f fd,Def K mg x st ps f fd}
  (J:∀z:B7,N.Nodup->i8 k (z.A.deeper (GR x (aD st) z.s.heap.objs.size z.f z.c))->DSs K (WE K z.E) ro (yx (CXd P w) P w K mg base N x (aD st) z.f z.c z.A z.o z.s z.H z.E) [] [] [] (bF st) g)
  (S:fK N ps (aD st):=by exact ⟨rfl,rfl,rfl,by decide +kernel,rfl,by decide +kernel,by decide +kernel⟩):YX h P w base (k+1) ro (bL N.length ps.length g):=
 let ⟨f,fd,D⟩:=h
 ⟨f,fd,D,fn_X D.fn S ro g fun c A o s H E I=>J ⟨f,c,A,o,s,H,E⟩ S.nd I⟩
theorem fM (N:List p_) {h:∃f fd,Mth K C x q st ps f fd}
  (J:∀z:B7,N.Nodup->i8 k (z.A.deeper (GR q (aD st) z.s.heap.objs.size z.f z.c))->DSs K Wno ro (yx CX0 P w K mg base N q (aD st) z.f z.c z.A z.o z.s z.H z.E).nox [] [] [] (bF st) g)
  (S:fK N ps (aD st):=by exact ⟨rfl,rfl,rfl,by decide +kernel,rfl,by decide +kernel,by decide +kernel⟩):YM h P w mg base (k+1) ro (bL N.length ps.length g):=
 let ⟨f,fd,D⟩:=h
 ⟨f,fd,D,fn_D D.fn S ro g fun c A o s H E I=>J ⟨f,c,A,o,s,H,E⟩ S.nd I⟩
end
section
variable {W:dZ} {a b d:Fe} {f:ah->M Dat} {fr:ah->M (List Dat)}
theorem dY {j k:Nat} {g:ah->M Flo} (Y:∃f fd,Yd X.prog X.w X.K X.mg X.base CX0 k x st ps (spF K ro (bL nN n g) n) f fd) (b:i8 j X.A)
  (h:DA K Wno X (e::es) fr) (c:(k<=j)⁻¹) (d: ~~~(Gl X x)) (a:((x==("__debug__":p_))=b_)⁻¹) (I: ~~~(i_ (e::es) X.env=(b_,Eu e X.env)::i_ es X.env)) (J: ~~~((EN pos (i_ es X.env)).any (·.1)=b_)) :
  DE K Wno ro X (.Call (.Name x p) (e::es) [] pos) (fL (bL nN n g) fr):=let ⟨_,_,Y⟩:=Y;de_call Y.o (b.mono c) Y.d.mg Y.d.fn.kp Y.d.bd h d a I J
theorem da1 (J:DE K W b_ X a fa) (I: ~~~(i_ [a] X.env=[(b_,Eu a X.env)])):DA K W X [a] (aa fa aH):=cb J iK I
theorem da2 (c:DE K W b_ X a fa) (Y:DE K W b_ X b fb) (J: ~~~(i_ [a,b] X.env=[(b_,Eu a X.env),(b_,Eu b X.env)])) (I: ~~~(i_ [b] X.env=[(b_,Eu b X.env)])):DA K W X [a,b] (aa fa (aa fb aH)):=cb c (da1 Y I) (by rw [J,I])
theorem da3 {f1 f2:ah->M Dat} (h1:DE K W b_ X e1 f1) (h2:DE K W b_ X e2 f2) (a:DE K W b_ X e3 f3) (Y: ~~~(i_ [e1,e2,e3] X.env=(b_,Eu e1 X.env)::i_ [e2,e3] X.env)) (J: ~~~(i_ [e2,e3] X.env=(b_,Eu e2 X.env)::i_ [e3] X.env)) (I: ~~~(i_ [e3] X.env=(b_,Eu e3 X.env)::i_ [] X.env)):DA K W X [e1,e2,e3] (aa f1 (aa f2 (aa f3 aH))):=(cb h1 (cb h2 (cb a iK I) J) Y)
theorem da4 {f1 f2 f4:ah->M Dat} (h1:DE K W b_ X e1 f1) (h2:DE K W b_ X e2 f2) (c:DE K W b_ X e3 f3) (b:DE K W b_ X e4 f4) (a: ~~~(i_ [e1,e2,e3,e4] X.env=(b_,Eu e1 X.env)::i_ [e2,e3,e4] X.env)) (Y: ~~~(i_ [e2,e3,e4] X.env=(b_,Eu e2 X.env)::i_ [e3,e4] X.env)) (J: ~~~(i_ [e3,e4] X.env=(b_,Eu e3 X.env)::i_ [e4] X.env)) (I: ~~~(i_ [e4] X.env=(b_,Eu e4 X.env)::i_ [] X.env)):DA K W X [e1,e2,e3,e4] (aa f1 (aa f2 (aa f3 (aa f4 aH)))):=(cb h1 (cb h2 (cb c (cb b iK I) J) Y) a)
theorem da5 {f1 f2 f4:ah->M Dat} (h1:DE K W b_ X e1 f1) (h2:DE K W b_ X e2 f2) (e:DE K W b_ X e3 f3) (d:DE K W b_ X e4 f4) (c:DE K W b_ X e5 f5) (b: ~~~(i_ [e1,e2,e3,e4,e5] X.env=(b_,Eu e1 X.env)::i_ [e2,e3,e4,e5] X.env)) (a: ~~~(i_ [e2,e3,e4,e5] X.env=(b_,Eu e2 X.env)::i_ [e3,e4,e5] X.env)) (Y: ~~~(i_ [e3,e4,e5] X.env=(b_,Eu e3 X.env)::i_ [e4,e5] X.env)) (J: ~~~(i_ [e4,e5] X.env=(b_,Eu e4 X.env)::i_ [e5] X.env)) (I: ~~~(i_ [e5] X.env=(b_,Eu e5 X.env)::i_ [] X.env)):DA K W X [e1,e2,e3,e4,e5] (aa f1 (aa f2 (aa f3 (aa f4 (aa f5 aH))))):=(cb h1 (cb h2 (cb e (cb d (cb c iK I) J) Y) a) b)
theorem da6 {I:Fe} {f1 f2 f4 J:ah->M Dat} (h1:DE K W b_ X e1 f1) (h2:DE K W b_ X e2 f2) (i:DE K W b_ X e3 f3) (h:DE K W b_ X e4 f4) (g:DE K W b_ X e5 f5) (f:DE K W b_ X I J) (e: ~~~(i_ [e1,e2,e3,e4,e5,I] X.env=(b_,Eu e1 X.env)::i_ [e2,e3,e4,e5,I] X.env)) (d: ~~~(i_ [e2,e3,e4,e5,I] X.env=(b_,Eu e2 X.env)::i_ [e3,e4,e5,I] X.env)) (c: ~~~(i_ [e3,e4,e5,I] X.env=(b_,Eu e3 X.env)::i_ [e4,e5,I] X.env)) (b: ~~~(i_ [e4,e5,I] X.env=(b_,Eu e4 X.env)::i_ [e5,I] X.env)) (a: ~~~(i_ [e5,I] X.env=(b_,Eu e5 X.env)::i_ [I] X.env)) (Y: ~~~(i_ [I] X.env=(b_,Eu I X.env)::i_ [] X.env)):DA K W X [e1,e2,e3,e4,e5,I] (aa f1 (aa f2 (aa f3 (aa f4 (aa f5 (aa J aH)))))):=(cb h1 (cb h2 (cb i (cb h (cb g (cb f iK Y) a) b) c) d) e)
theorem fE (b:X.N.Nodup) (a:DE K W b_ X e f) (hi: ~~~(X.N[i]? =a_ x)) (I:Loc X.env.scope x:=by first|exact Or.inl rfl|exact Or.inr rfl) (J: ~~~(FV e (a_ (.Name x pos')) pos.line X.env=FF b_)) (Y:autoParam (X.fn x=d_\/X.env.scope.names.lookup x=a_ .local) Jq3) :
  DS K W ro X OL O (aft b_ i O) (.Assign [.Name x pos'] e pos) (bH O i f):=Dm b a hi I J Y
theorem ds_sT (b:X.N.Nodup) (a:DE K W d_ X e f) (hi: ~~~(X.N[i]? =a_ x)) (I:Loc X.env.scope x:=by first|exact Or.inl rfl|exact Or.inr rfl) (J: ~~~(FV e (a_ (.Name x pos')) pos.line X.env=FF b_)) (Y:autoParam (X.fn x=d_\/X.env.scope.names.lookup x=a_ .local) Jq3) :
  DS K W ro X OL O (aft d_ i O) (.Assign [.Name x pos'] e pos) (bH O i f):=Dm b a hi I J Y
end
section
variable {q:p_} {kV:l_}
theorem dF (J:K.In h) (G:h.Ns EG mg) (a:autoParam (Mb K EG x=a_ (a_ (.ref f))) Jq2) (l:autoParam (K.lookup f=a_ ⟨oc,od,.func (Ji x x (dA st) (bF st) (aD st) .none kV doc pm an cdv ct),osl⟩) Jq2) (c:autoParam (JU K cdv x=d_) Jq2) (k:autoParam (GD K (.ref f)=d_) Jq2)
  (I:∀(kV doc pm:l_) (an:Option e_) (cdv ct:l_) (us:List l_),us.length=ps.length->IX (Ji x x (dA st) (bF st) (aD st) .none kV doc pm an cdv ct) ⟨us,[]⟩=FF (ps.zip us):=by
   intro _ _ _ _ _ _ us hl;rcases us with _|⟨_,_|⟨_,_|⟨_,_|⟨_,_|⟨_,_|⟨_,_|⟨_,us⟩⟩⟩⟩⟩⟩⟩<;>first|(simp at hl;done)|rfl):∃f fd,Def K mg x st ps f fd:=⟨_,_,def_of J G a l c k I⟩
theorem mF (a:autoParam (Ep K (.ref C) x=a_ (a_ (.ref f))) Jq2) (i:autoParam (isFn K (.ref f)=d_) Jq2) (l:autoParam (K.lookup f=a_ ⟨oc,od,.func (Ji x q (dA st) (bF st) (aD st) .none kV doc pm an cdv ct),osl⟩) Jq2) (c:autoParam (JU K cdv q=d_) Jq2) (k:autoParam (GD K (.ref f)=d_) Jq2)
  (I:∀(kV doc pm:l_) (an:Option e_) (cdv ct:l_) (us:List l_),us.length=ps.length->IX (Ji x q (dA st) (bF st) (aD st) .none kV doc pm an cdv ct) ⟨us,[]⟩=FF (ps.zip us):=by
   intro _ _ _ _ _ _ us hl;rcases us with _|⟨_,_|⟨_,_|⟨_,_|⟨_,_|⟨_,_|⟨_,_|⟨_,us⟩⟩⟩⟩⟩⟩⟩<;>first|(simp at hl;done)|rfl):∃f fd,Mth K C x q st ps f fd:=⟨_,_,mth_of a i l c k I⟩
theorem kF (g:K.In h) (G:h.Ns EG mg) (a:autoParam (Mb K EG x=a_ (a_ (.ref C))) Jq2) (Y:autoParam (JG K C Gr=d_) Jq2) (hd:autoParam (GO K C=d_) Jq2) (J:autoParam (Lq K C=d_) Jq2)
  (I:autoParam (Ep K (.ref C) "__setattr__"=a_ (a_ (.builtin "object.__setattr__"))) Jq2) (mk:autoParam (LJ K C=d_) Jq2) (b:autoParam (GD K (.ref C)=d_) Jq2)
  (f:autoParam (Ep K (.ref C) "__class__"=a_ (a_ (.builtin "object.__class__"))) Jq2) (e:autoParam (Je K (.builtin "object.__class__") "__get__"=a_ (a_ (.builtin "getset_descriptor.__get__"))) Jq2)
  (d:autoParam (ML K (.builtin "object.__class__")=a_ d_) Jq2) (c:autoParam (GC K C (.type "object")=a_ d_) Jq2):Kls K mg x C:=kls_of g G a Y hd J I mk b f e d c
theorem xF (c:K.In h) (G:h.Ns EG mg) (a:autoParam (Mb K EG x=a_ (a_ (.ref C))) Jq2) (i:autoParam (Ep K (.ref C) "__init__"=a_ (a_ (.ref f))) Jq2) (ex:nF K C [.type "ValueError",.type "Exception",.type "BaseException",.type "object"] "ValueError.__new__" f=d_:=by first|k_is|kernel_rfl)
  (Y:autoParam (Ep K (.ref C) "__getattribute__"=a_ (a_ (.builtin "BaseException.__getattribute__"))) Jq2) (b:autoParam (Ep K (.ref C) "__class__"=a_ (a_ (.builtin "object.__class__"))) Jq2) (J:autoParam (Ep K (.ref C) "__getattr__"=a_ c_) Jq2)
  (bs:autoParam (GC K C (.type "BaseException")=a_ d_) Jq2) (I:autoParam (GC K C (.type "object")=a_ d_) Jq2) (is:(JV K C).isSome=d_:=by first|k_is|kernel_rfl):XTry K mg x C:=
 ⟨mg_of c G a,xnamed2 ex,⟨Y,b,J,bs,I,Gg.mp is⟩⟩
theorem xM (J:K.In h) (G:h.Ns EG mg) (N:∃f fd,Mth K C "__init__" q st ps f fd) (a:autoParam (Mb K EG x=a_ (a_ (.ref C))) Jq2) (i:autoParam (Ep K (.ref C) "__init__"=a_ (a_ (.ref f))) Jq2) (ex:nF K C [.type "ValueError",.type "Exception",.type "BaseException",.type "object"] "ValueError.__new__" f=d_:=by first|k_is|kernel_rfl)
  (fn:autoParam (isFn K (.ref f)=d_) Jq2) (I:autoParam (GD K (.ref C)=d_) Jq2):∃f fd,Mth K C "__init__" q st ps f fd/\XMk K mg x C f:=by
 obtain ⟨Y,fd,M⟩:=N;have e:=M.mt.1.symm.trans i;cases e;exact ⟨_,fd,M,mg_of J G a,ex,Ge.mp fn,I⟩
theorem lF {y:p_} (Y:K.In h) (G:h.Ns EG mg) (a:autoParam (Mb K EG x=a_ (a_ (.ref f))) Jq2) (l:autoParam (K.lookup f=a_ ⟨oc,od,.func (Ji x x (dA st) (bF st) (aD st) .none kV doc pm an cdv ct),osl⟩) Jq2) (c:autoParam (JU K cdv x=d_) Jq2) (k:autoParam (GD K (.ref f)=d_) Jq2)
  (I:∀(kV doc pm:l_) (an:Option e_) (cdv ct:l_) (v:l_),IX (Ji x x (dA st) (bF st) (aD st) .none kV doc pm an cdv ct) ⟨[v],[]⟩=FF [(y,v)]:=by intros;rfl):∃f fd,Def K mg x st [y] f fd/\∀(s:z_) (v:l_),Jf s fd ⟨[v],[]⟩ [(y,v)]:=
 ⟨_,_,def_of Y G a l c k fun _ _ _ _ _ _ us J=>match us,J with|[_],_=>I ..,fun _ _=>.of_eq (I ..)⟩
theorem Fun.uniq {fd':Gf} (a:Fun K x q st f fd) (b:Fun K x q st f fd'):fd=fd':=by
 obtain ⟨oc,od,kV,doc,pm,an,cdv,ct,osl,rfl,i,_⟩:=a.ex;obtain ⟨h,g,j,Y,d,l,c,k,J,rfl,I,_⟩:=b.ex;have e:=i.symm.trans I;cases e;rfl
theorem rS (N:∃f fd,Mth K C x q st ps f fd) (a:autoParam (Ep K (.ref C) x=a_ (a_ (.ref f))) Jq2) (b:Je K (.ref C) "__getattribute__"=a_ (a_ (.builtin "type.__getattribute__")):=by first|k_is|kernel_rfl) (Y:Lp K C mc=d_:=by first|k_is|kernel_rfl)
  (J:Lr K (.ref C) mc x=a_ (.val (.ref f)):=by first|k_is|kernel_rfl) (I:autoParam (GD K (.ref f)=d_) Jq2):∃f fd,Mth K C x q st ps f fd/\Stat K C mc x f:=by
 obtain ⟨c,fd,M⟩:=N;have e:=M.mt.1.symm.trans a;cases e;exact ⟨_,fd,M,b,Y,J,I⟩
end
def gr:List Dat->M (List p_)
 |[]=>.ok []
 |.str x::ds=>(gr ds).bind fun r=>.ok (x::r)
 |_::_=>stk
@[simp] theorem e_strs0:gr []=.ok []:=id rfl
@[simp] theorem e_strs1 (x:p_) (ds:List Dat):gr (.str x::ds)=(gr ds).bind fun r=>.ok (x::r):=id rfl
noncomputable def isS:Dat->Bool
 |.str _=>d_
 |_=>b_
def nX:Dat->Dat->M Dat
 |.str I,.lst ds=>(gr ds).bind fun xs=>if (xs.map (·.length)).sum+xs.length*I.length<=g_ then .ok (.str (FE I xs)) else stk
 |_,_=>stk
@[simp] theorem Dk (I:p_) (ds:List Dat):nX (.str I) (.lst ds)=(gr ds).bind fun xs=>if (xs.map (·.length)).sum+xs.length*I.length<=g_ then .ok (.str (FE I xs)) else stk:=id rfl
def fSM (g:Dat->Dat->M Dat) (fo fe:ah->M Dat):ah->M Dat:=fun ρ=>(fo ρ).bind fun a=>if isS a=d_ then (fe ρ).bind fun b=>g a b else stk
@[simp] theorem e_fSM (g:Dat->Dat->M Dat) (fo fe:ah->M Dat) (ρ:ah):fSM g fo fe ρ=(fo ρ).bind fun a=>if isS a=d_ then (fe ρ).bind fun b=>g a b else stk:=id rfl
@[simp] theorem e_isS (x:p_):isS (.str x)=d_:=id rfl
def rSM (K:Fg) (W:dZ) (own:Bool) (g:Dat->Dat->M Dat):V->List V->Hp->VK->Prop:=fun x vs H Q=>∃F z b y,aF F H/\x=.str z/\vs=[y]/\aR K F b y/\aC K W own F H (g (.str z) b) Q
theorem rC {M:Jl} {A:GH} {E:Vp} {Q R:p_->z_->Prop}:∀{ps:List (MO l_)} {I:p_} {s:z_},Joins M A E ps I Q s->(∀z s,Q z s->R z s)->Joins M A E ps I R s
 |[],I,s,h,k=>k _ _ h
 |x::ps,I,s,h,k=>EV h (fun v J ⟨y,t,e,l,q⟩=>⟨y,t,e,l,rC q k⟩) fun _ _ z=>z
section
variable {W:dZ} {own:Bool} {name:p_} {id:String} 
theorem tU (t:MtR X id (rSM X.K W own g)) (c:Slot "str" name id) (j:typeOf (.builtin id)=FF (.type "method_descriptor")) (q:DE K W b_ X o fo) (f:DE K W b_ X e fe) (w: ~~~(X.K=K)) (Y: ~~~(FR o name X.env (Eu o X.env)=Eu o X.env))
  (d: ~~~(((EN cpos (i_ [e] X.env)).all (fun x=> !x.1)&&(GB cpos (Fz [] X.env)).all (fun x=>x.1.isSome)&&r_ ([e].length+([]:List G2).length+(if ([]:List G2).isEmpty then 0 else 1)<30))=d_))
  (J: ~~~((apos.endLine==cpos.line)=d_)) (l: ~~~(i_ [e] X.env=(b_,Eu e X.env)::i_ [] X.env)) (I: ~~~((EN cpos (i_ [] X.env)).any (·.1)=b_)) :
  DE K W own X (.Call (.Attribute o name apos) [e] [] cpos) (fSM g fo fe):=by
 subst w;refine PE.imp (nQ PySem.F.plainAttrs_str c j t q (au f aK (by rw [l])) Y d J l I) fun σ H Q h=>?_;obtain ⟨F,ρ,r,s,p⟩:=h;refine aO r s (fun e f=>p.err (by unfold fSM;rw [f];rfl)) fun a v x F1 H1 i n=>?_;have A:fSM g fo fe ρ=if isS a=d_ then (fe ρ).bind fun b=>g a b else stk:=by unfold fSM;rw [v];rfl
 rw [A] at p;have p:=p.step i;cases a with
 |str z=>
  have p:aC X.K W own F1 H1 ((fe ρ).bind fun b=>g (.str z) b) Q:=p;cases (show x=V.str z from n);refine ⟨rfl,?_⟩
  refine aO (r.mono i.ff) i.fh (fun e f=>p.err (by rw [f];rfl)) fun b u y F2 H2 k m=>?_;rw [u] at p;exact ⟨F2,z,b,y,k.fh,rfl,rfl,m,p.step k⟩
 |_=>exact aC.stuck p
theorem oM {F:Hp}:∀{ds:List Dat} {xs:List V} {I:List p_},ay K F ds xs->gr ds=.ok I->xs=I.map V.str
 |[],_,_,q,e=>by cases e;exact q
 |d::ds,_,I,⟨v,vs,e1,q,r⟩,e=>by
  cases d with
  |str z=>
   cases e2:gr ds with
   |error x=>rw [gr,e2] at e;cases e
   |ok r2=>
    rw [gr,e2] at e;cases e;rw [e1,oM r e2,show v=.str z from q];rfl
  |_=>cases e
theorem oN:∀{ds:List Dat} {e:Err},gr ds=.error e->e=.stuck
 |[],_,h=>by cases h
 |d::ds,e,h=>by
  cases d with
  |str z=>
   cases e2:gr ds with
   |error x=>rw [gr,e2] at h;cases h;exact oN e2
   |ok r2=>rw [gr,e2] at h;cases h
  |_=>cases h;rfl
theorem oF:∀{I:List p_} {us:List l_},Vals (I.map V.str) us->∃l:List (p_×Mh),us=GX l/\l.map (·.1)=I
 |[],_,.nil=>⟨[],rfl,rfl⟩
 |x::I,_,.cons r rs=>by
  obtain ⟨t,rfl⟩:=(show ∃t,_=FJ x t from r)
  obtain ⟨l,rfl,e⟩:=oF rs;exact ⟨(x,t)::l,rfl,by rw [Eh,e]⟩
theorem tw:MtR X "str.join" (rSM X.K W own nX):=by
 intro pins s σ H x vs v us Q I g i h;obtain ⟨F,J,b,y,f,rfl,rfl,k,p⟩:=h;obtain ⟨u,rfl,j⟩:=i.one;obtain ⟨t,rfl⟩:=(show ∃t,v=FJ J t from g)
 cases b with
 |lst ds=>
  obtain ⟨l,xs,rfl,q,z⟩:=k;cases j;cases e1:gr ds with
  |error e=>rw [nX,e1] at p;rw [oN e1] at p;exact aC.stuck p
  |ok c=>
   rw [nX,e1] at p;have p:aC X.K W own F H (if (c.map (·.length)).sum+c.length*J.length<=g_ then .ok (.str (FE J c)) else stk) Q:=p;have m:=oM z e1;subst m;obtain ⟨its,r,pl,n⟩:=I.list (f.lst q);obtain ⟨L,rfl,rfl⟩:=oF r;by_cases d:((L.map (·.1)).map (·.length)).sum+(L.map (·.1)).length*J.length<=g_
   ·rw [f_ d] at p;have Y:=p.str f;refine Jr GF (Jp _ _ _) PySem.F.entry_str_join (PySem.F.args_str_join_2 _ _) (meets_str_join_list J t l L (by rw [StrLaws.joinTotal];exact j_ (JZ.mpr d))) ⟨pl.isList,?_⟩;have a:(Builtin.Str.glued J (L.map (·.1))).length<=g_:=by
     rw [size_glued];have:=Nat.mul_le_mul_right J.length (Nat.sub_le (L.map (·.1)).length 1);omega
    have e:=StrLaws.glued_eq_join J (L.map (·.1))
    match L,Y,a,e with
    |[],Y,a,e=>exact ⟨a,.str _,H,I.tok _,⟨_,rfl⟩,by rw [e];exact Y⟩
    |[p],Y,_,_=>exact ⟨.str _,H,I,⟨_,rfl⟩,Y⟩
    |p1::p2::L,Y,a,e=>exact ⟨a,.str _,H,I.tok _,⟨_,rfl⟩,by rw [e];exact Y⟩
   ·rw [m_ d] at p;exact aC.stuck p
 |_=>exact aC.stuck p
noncomputable def gV (i:Int):p_:=toString i
def strD:List Dat->M Dat
 |[.int i]=>if i.natAbs.log2<1920 then .ok (.str (gV i)) else stk
 |_=>stk
@[simp] theorem e_strD (i:Int):strD [.int i]=if i.natAbs.log2<1920 then .ok (.str (gV i)) else stk:=id rfl
theorem c_str:qp K W own X (.type "str") strD:=wj.imp fun xs H Q h=>by
 obtain ⟨F,d,x,s,e,q,p⟩:=mE (fun ds=>by match ds with|[d]=>exact .inl ⟨d,rfl⟩|[]=>exact .inr rfl|a::b::c=>exact .inr (by cases a<;>rfl)) h;cases d with
 |int i=>
  have p:aC K W own F H (if i.natAbs.log2<1920 then .ok (.str (gV i)) else stk) Q:=p;by_cases I:i.natAbs.log2<1920
  ·rw [f_ I] at p;exact ⟨i,by rw [e,show x=.int i from q],I,p.str s⟩
  ·rw [m_ I] at p;exact aC.stuck p
 |_=>exact aC.stuck p
def AR:Dat->Dat->M Dat
 |.str z,.int i=>if z.length<=g_ then (match atI z.cps.toList i with
  |some c=>.ok (.str ⟨#[c]⟩)
  |none=>stk) else stk
 |_,_=>stk
theorem uq:IxR X (rD2 K W own AR):=ix_str.imp fun x y H Q h=>by
 obtain ⟨F,a,b,s,d,Y,p⟩:=h;cases a with
 |str z=>cases b with
  |int i=>
   have p:aC K W own F H (if z.length<=g_ then (match atI z.cps.toList i with
    |some c=>.ok (.str ⟨#[c]⟩)
    |none=>stk) else stk) Q:=p
   by_cases I:z.length<=g_
   ·rw [f_ I] at p;cases J:atI z.cps.toList i with
    |none=>rw [J] at p;exact aC.stuck p
    |some c=>rw [J] at p;exact ⟨z,i,c,d,Y,I,J,p.str s⟩
   ·rw [m_ I] at p;exact aC.stuck p
  |_=>exact aC.stuck p
 |_=>exact aC.stuck p
def mM:Dat->M Dat
 |.int i=>if i.natAbs.log2<1920 then .ok (.str (gV i)) else stk
 |.str z=>if z.length<=g_ then .ok (.str z) else stk
 |_=>stk
@[simp] theorem e_fmtI (i:Int):mM (.int i)=if i.natAbs.log2<1920 then .ok (.str (gV i)) else stk:=id rfl
@[simp] theorem e_fmtS (z:p_):mM (.str z)=if z.length<=g_ then .ok (.str z) else stk:=id rfl
theorem pV (Y:DE K W b_ X e fe):DE K W own X (.FormattedValue e (-1) c_ pos) (f1 mM fe):=by
 intro pins s σ H Q I h;obtain ⟨F,ρ,r,j,p⟩:=h;refine wpAny_FormattedValue_plain (thn (Y pins s σ H (fun v H1=>∃a F1,fe ρ=.ok a/\Step F H F1 H1/\aR K F1 a v) I (aO r j (fun e Y=>p.err (by show (fe ρ).bind mM=_;rw [Y];rfl)) fun a b v F1 H1 d k=>⟨a,F1,b,d,k⟩)) fun v d ⟨x,H1,c,f,a,F1,b,st,q⟩=>?_);have p:aC K W own F H (mM a) Q:=by
  have p:aC K W own F H ((fe ρ).bind mM) Q:=p;rw [b] at p;exact p
 have p:=p.step st;cases a with
 |int i=>
  have p:aC K W own F1 H1 (if i.natAbs.log2<1920 then .ok (.str (gV i)) else stk) Q:=p;cases (show x=V.int i from q);obtain ⟨t,rfl⟩:=(show ∃t,v=Hj i t from f)
  by_cases J:i.natAbs.log2<1920
  ·rw [f_ J] at p;exact wpAny_formatField_int J ⟨.str (gV i),H1,(c.tok _).tok _,⟨_,rfl⟩,p.str st.fh⟩
  ·rw [m_ J] at p;exact aC.stuck p
 |str z=>
  have p:aC K W own F1 H1 (if z.length<=g_ then .ok (.str z) else stk) Q:=p;cases (show x=V.str z from q);obtain ⟨t,rfl⟩:=(show ∃t,v=FJ z t from f)
  by_cases J:z.length<=g_
  ·rw [f_ J] at p;have g:=p.str st.fh;exact wpAny_formatField_str ⟨.str z,H1,c,⟨_,rfl⟩,g⟩ ⟨.str z,H1,c.tok _,⟨_,rfl⟩,g⟩ J
  ·rw [m_ J] at p;exact aC.stuck p
 |_=>exact aC.stuck p
def nW (fs:List (ah->M Dat)) (ρ:ah):p_->M p_:=match fs with
 |[]=>fun I=>.ok I
 |f::fs=>fun I=>(f ρ).bind fun d=>match d with
  |.str z=>if (I++z).length<=g_ then nW fs ρ (I++z) else stk
  |_=>stk
def fJ (fs:List (ah->M Dat)):ah->M Dat:=fun ρ=>(nW fs ρ Gr).bind fun z=>.ok (.str z)
def tJ (K:Fg) (W:dZ) (fs:List (ah->M Dat)) (I:p_) (σ:St) (H:Hp) (Q:p_->Hp->Prop):Prop:=∃F ρ,dB K F σ ρ/\aF F H/\(match nW fs ρ I with
 |.ok z=>∀F' H',Step F H F' H'->Q z H'
 |.error e=>W.p e F H)
def DJ (K:Fg) (W:dZ) (X:Cx) (es:List Fe) (fs:List (ah->M Dat)):Prop:=∀(pins:Pn) (s:z_) (σ:St) (H:Hp) (I:p_) (Q:p_->Hp->Prop),I.length<=g_->Inv X pins σ H s->tJ K W fs I σ H Q ->
 Joins (Eg X.prog X.w) X.A X.xe (Ma es X.env) I (fun out J=>out.length<=g_/\∃H1,Inv X pins σ H1 J/\Q out H1) s
theorem Ds (Y: ~~~(Ma [] X.env=[])):DJ K W X [] []:=fun pins s σ H b Q a I ⟨F,ρ,r,J,p⟩=>by rw [Y];exact ⟨a,H,I,p F H (Step.refl J)⟩
theorem fF {fs:List (ah->M Dat)} (c:DE K W b_ X e fe) (k:DJ K W X es fs) (j: ~~~(Ma (e::es) X.env=Eu e X.env::Ma es X.env)):DJ K W X (e::es) (fe::fs):=fun pins s σ H J Q f I ⟨F,ρ,r,g,p⟩=>by
 rw [j];have p:(match (fe ρ).bind (fun d=>match d with
  |.str z=>if (J++z).length<=g_ then nW fs ρ (J++z) else stk
  |_=>stk) with
  |.ok z=>∀F' H',Step F H F' H'->Q z H'
  |.error e=>W.p e F H):=p
 refine thn (c pins s σ H (fun v H1=>∃a F1,fe ρ=.ok a/\Step F H F1 H1/\aR K F1 a v) I (aO r g (fun e c=>by rw [c] at p;exact p) fun a f v F1 H1 b i=>⟨a,F1,f,b,i⟩)) fun v b ⟨x,H1,m,h,a,F1,l,st,q⟩=>?_;rw [l] at p;cases a with
 |str z=>
  cases (show x=V.str z from q);obtain ⟨t,rfl⟩:=(show ∃t,v=FJ z t from h)
  have p:(match (if (J++z).length<=g_ then nW fs ρ (J++z) else stk) with
   |.ok z=>∀F' H',Step F H F' H'->Q z H'
   |.error e=>W.p e F H):=p
  by_cases Y:(J++z).length<=g_
  ·rw [f_ Y] at p;refine ⟨z,t,rfl,Y,k pins b σ H1 (J++z) Q Y m ⟨F1,ρ,r.mono st.ff,st.fh,?_⟩⟩
   cases e1:nW fs ρ (J++z) with
   |ok y=>rw [e1] at p;exact fun F' H' s'=>p F' H' (st.trans s')
   |error e=>rw [e1] at p;exact W.mono p st
  ·rw [m_ Y] at p;exact (W.ns p).elim
 |_=>exact (W.ns p).elim
theorem yn {fs:List (ah->M Dat)} (h:DJ K W X (e1::e2::es) fs):DE K W own X (.JoinedStr (e1::e2::es) pos) (fJ fs):=by
 intro pins s σ H Q I ⟨F,ρ,r,J,p⟩;have p:aC K W own F H ((nW fs ρ Gr).bind fun z=>.ok (.str z)) Q:=p;refine wpAny_JoinedStr ?_;refine rC (h pins s σ H Gr (fun z H1=>Q (.str z) H1) (by decide) I ⟨F,ρ,r,J,?_⟩) fun out b ⟨Y,H1,a,q⟩=>⟨Y,.str out,H1,a.tok _,⟨_,rfl⟩,q⟩
 cases e1:nW fs ρ Gr with
 |ok z=>rw [e1] at p;exact fun F' H' s'=>(p.step s').str s'.fh
 |error e=>rw [e1] at p;exact p
end
def newS (C:e_) (g:List Dat->M Dat):List Dat->M Dat
 |[.lst Y,I,.lst d1,.lst d2,.lst J]=>(g [.lst Y,I,.lst d1,.lst d2,.lst J]).bind fun t=>match t with
  |.str z=>.ok (.ins C [("kinds",.lst Y),("rules",I),("names",.lst d1),("flights",.lst d2),("closed",.lst J),("text",.str z)])
  |_=>stk
 |_=>stk
def spIS (K:Fg) (C:e_) (g:List Dat->M Dat):Sp:=fun vs H Q _=>∃(p dx l b1 b2 b3:e_) (b:V) (a Y J I:List V) (F:Hp) (k d1 d2 j:List Dat) (i:Dat) (z:p_),
 vs=[.ref p,.ref l,b,.ref b1,.ref b2,.ref b3]/\H p=a_ (.ins C dx [])/\F p=c_/\aF F H/\(SqL K F l a/\ay K F k a)/\aR K F i b/\(SqL K F b1 Y/\ay K F d1 Y)/\(SqL K F b2 J/\ay K F d2 J)/\(SqL K F b3 I/\ay K F j I) /\
 g [.lst k,i,.lst d1,.lst d2,.lst j]=.ok (.str z)/\∀(h f e d:e_) (H':Hp),(∀c o,H c=a_ o->c≠p->H' c=a_ o)->H h=c_->H f=c_->H e=c_->H d=c_->H' h=a_ (.lst a)->H' f=a_ (.lst Y)->H' e=a_ (.lst J)->H' d=a_ (.lst I) ->
  H' p=a_ (.ins C dx [("kinds",.ref h),("rules",b),("names",.ref f),("flights",.ref e),("closed",.ref d),("text",.str z)])->Q .non H'
theorem Step.own (s:Step F H F1 H1) {o:HO} (J:H l=c_) (h1:H1 l=a_ o):Step F H (upd F1 l o) H1 where
 ff:=fun b u e=>by
  by_cases I:b=l
  ·subst I;rw [ao,<- h1,s.fh _ _ (s.ff _ _ e)]
  ·rw [aq I];exact s.ff _ _ e
 hh:=s.hh
 fh:=fun b u e=>by
  by_cases I:b=l
  ·subst I;rw [ao] at e;rw [h1];exact e
  ·rw [aq I] at e;exact s.fh _ _ e
 nw:=fun b u e=>by
  by_cases I:b=l
  ·subst I;exact .inr J
  ·rw [aq I] at e;exact s.nw _ _ e
theorem Step.pk (s:Step F H F1 H1) {o:HO} (h1:H1 l=a_ o):aF F1 (upd F1 l o):=fun b u e=>by
 by_cases I:b=l
 ·subst I;rw [ao,<- h1,s.fh _ _ e]
 ·rw [aq I];exact e
theorem born_S {x dx b m1 a Y:e_} {q:V} {j i g f:List V} {y d1 d2 w:List Dat} {v:Dat} {t:p_} (B:aF F H1) (r:H1 x=c_) (k:H1 dx=c_) (T:ay K F y j) (L:aR K F v q) (S:ay K F d1 i) (R:ay K F d2 g) (Q:ay K F w f)
  (k0:∀c o,upd (upd H1 dx (.own x)) x (.ins C dx []) c=a_ o->c≠x->H' c=a_ o) (P:upd (upd H1 dx (.own x)) x (.ins C dx []) b=c_) (O:upd (upd H1 dx (.own x)) x (.ins C dx []) m1=c_) (n2:upd (upd H1 dx (.own x)) x (.ins C dx []) a=c_) (N:upd (upd H1 dx (.own x)) x (.ins C dx []) Y=c_)
  (k1:H' b=a_ (.lst j)) (k2:H' m1=a_ (.lst i)) (k3:H' a=a_ (.lst g)) (n:H' Y=a_ (.lst f)) (k5:H' x=a_ (.ins C dx [("kinds",.ref b),("rules",q),("names",.ref m1),("flights",.ref a),("closed",.ref Y),("text",.str t)])) :
  ∃G,Step F H1 G H'/\aR K G (.ins C [("kinds",.lst y),("rules",v),("names",.lst d1),("flights",.lst d2),("closed",.lst w),("text",.str t)]) (.ref x):=by
 have I:∀{c:e_},upd (upd H1 dx (.own x)) x (.ins C dx []) c=c_->H1 c=c_:=fun {c} h=>by
  cases m:H1 c with
  |none=>rfl
  |some o=>
   have h1:c≠x:=fun h=>by rw [h,r] at m;cases m
   have h2:c≠dx:=fun h=>by rw [h,k] at m;cases m
   rw [aq h1,aq h2,m] at h;cases h
 have u:aF H1 H':=fun c o e=>by
  have h1:c≠x:=fun h=>by rw [h,r] at e;cases e
  have h2:c≠dx:=fun h=>by rw [h,k] at e;cases e
  exact k0 c o (by rw [aq h1,aq h2];exact e) h1
 have U:Step F H1 F H':=⟨aF.refl _,u,B.trans u,fun _ _ h=>.inl h⟩
 have A:=U.own (I P) k1;have s:=A.own (I O) k2;have p:=s.own (I n2) k3;have z:=p.own (I N) n;have d:=z.own r k5;have J:∀{l:e_} {o:HO},upd (upd (upd (upd F b (.lst j)) m1 (.lst i)) a (.lst g)) Y (.lst f) l=a_ o->upd (upd (upd (upd (upd F b (.lst j)) m1 (.lst i)) a (.lst g)) Y (.lst f)) x (.ins C dx [("kinds",.ref b),("rules",q),("names",.ref m1),("flights",.ref a),("closed",.ref Y),("text",.str t)]) l=a_ o:=fun {l o} h=>z.pk k5 l o h;have H:=J (p.pk n _ _ (s.pk k3 _ _ (A.pk k2 b _ ao)));have E:=J (p.pk n _ _ (s.pk k3 m1 _ ao));have r2:=J (p.pk n a _ ao);have D:=J (l:=Y) ao;exact ⟨_,d,x,dx,_,rfl,ao,_,_,rfl,⟨b,j,rfl,SqL.of H,ay.mono d.ff T⟩,_,_,rfl,aR.mono d.ff L,_,_,rfl,⟨m1,i,rfl,SqL.of E,ay.mono d.ff S⟩,_,_,rfl,⟨a,g,rfl,SqL.of r2,ay.mono d.ff R⟩,_,_,rfl,⟨Y,f,rfl,SqL.of D,ay.mono d.ff Q⟩,_,_,rfl,rfl,rfl⟩
section
variable {e0:Fe} {fr:ah->M (List Dat)}
theorem de_newS {k:Nat} {g:List Dat->M Dat} (m:Mk X.K C fI) (FI:i9 X.prog X.w X.K X.mg X.base CX0 k fI fdI ps (spIS K C g)) (hr:i8 (k+1) X.A) (hm:X.mg x=a_ (.ref C)) (hb:Binds X.K fdI ps [])
  (ha:DA K Wno X [e0,e1,e2,e3,e4] fr) (hg: ~~~(Gl X x)) (l:((x==("__debug__":p_))=b_)⁻¹) (i: ~~~(i_ [e0,e1,e2,e3,e4] X.env=(b_,Eu e0 X.env)::i_ [e1,e2,e3,e4] X.env)) (j: ~~~((EN pos (i_ [e1,e2,e3,e4] X.env)).any (·.1)=b_)) :
  DE K Wno b_ X (.Call (.Name x p) [e0,e1,e2,e3,e4] [] pos) (fL (newS C g) fr):=by
 refine PE.imp (xG m FI hr hg hm hb .nil pj ha l i j) fun σ H Q h=>?_;obtain ⟨F,ρ,r,s,p⟩:=rd_L h;refine ⟨F,ρ,r,s,?_⟩
 cases e1:fr ρ with
 |error z=>rw [e1] at p;exact p
 |ok ds=>
  rw [e1] at p;intro vs F1 H1 st q;obtain ⟨F2,es1,J,N,z⟩:=p vs F1 H1 st q;unfold newS at z;split at z
  ·rename_i d a d1 d2 b;obtain ⟨_,_,rfl,⟨b0,E,rfl,Z,y⟩,L,_,rfl,n,_,_,rfl,⟨b1,D,rfl,W,w⟩,_,_,rfl,⟨b2,B,rfl,U,v⟩,_,_,rfl,⟨b3,A,rfl,T,u⟩,hn⟩:=N;cases hn;have z:aC K Wno b_ F2 H1 ((g [.lst d,a,.lst d1,.lst d2,.lst b]).bind fun t=>match t with
    |.str z=>.ok (.ins C [("kinds",.lst d),("rules",a),("names",.lst d1),("flights",.lst d2),("closed",.lst b),("text",.str z)])
    |_=>stk) Q:=z
   cases I:g [.lst d,a,.lst d1,.lst d2,.lst b] with
   |error e=>rw [I] at z;exact EZ z
   |ok t=>
    rw [I] at z;cases t with
    |str t=>
     intro x dx f Y hne;refine ⟨x,dx,b0,b1,b2,b3,L,E,D,B,A,F2,d,d1,d2,b,a,t,rfl,ao,J.free f,fun c o e=>?_,⟨Z,y⟩,n,⟨W,w⟩,⟨U,v⟩,⟨T,u⟩,I,?_⟩
     ·have hc:c≠x:=fun h=>by rw [h,J.free f] at e;cases e
      have hd:c≠dx:=fun h=>by rw [h,J.free Y] at e;cases e
      rw [aq hc,aq hd];exact J _ _ e
     ·intro m0 m1 m2 m3 H' k0 R P n2 O k1 k2 k3 k4 k5;obtain ⟨G,S,q⟩:=born_S J f Y y n w v u k0 R P n2 O k1 k2 k3 k4 k5;exact ⟨rfl,z (.ref x) G H' S q⟩
    |_=>exact aC.stuck z
  ·exact aC.stuck z
end
def RLst (K:Fg):List V->Hp->VK->Prop:=fun xs H Q=>∃p ys,xs=[.ref p]/\(SqL K H p ys\/SqT K H p ys)/\∀l,H l=c_->Q (.ref l) (upd H l (.lst ys))
theorem lK (f:p_) (v:V):∀fs:List (p_×V),f∉fs.map (·.1)->rl f v fs=fs++[(f,v)]
 |[],_=>rfl
 |(g,x)::r,h=>by
  have h1:¬g=f:=fun e=>h (by simp [e]);have h2:f∉r.map (·.1):=fun e=>h (by simp at e ⊢;exact .inr e);show (if g=f then _ else _)=_;rw [m_ h1,lK f v r h2];rfl
structure Cu (F H Hc:Hp) (p C dx:e_) (fs:List (p_×V)):Prop where
 f0:F p=c_
 sf:aF F Hc
 kp:∀c o,H c=a_ o->c≠p->Hc c=a_ o
 ob:Hc p=a_ (.ins C dx fs)
section
variable {p dx:e_} {fs:List (p_×V)} {f:p_} {D:Ends} 
theorem Cu.put (c:Cu F H Hc p C dx fs) (f:p_) (v:V):Cu F H (upd Hc p (.ins C dx (fs++[(f,v)]))) p C dx (fs++[(f,v)]) where
 f0:=c.f0
 sf:=fun b u e=>by
  have:b≠p:=fun z=>by rw [z,c.f0] at e;cases e
  rw [aq this];exact c.sf _ _ e
 kp:=fun b o e I=>by rw [aq I];exact c.kp b o e I
 ob:=ao
theorem Cu.lay (c:Cu F H Hc p C dx fs) {o:HO} (I:Hc l=c_):Cu F H (upd Hc l o) p C dx fs where
 f0:=c.f0
 sf:=fun b u e=>by
  have:b≠l:=fun z=>by rw [z,c.sf.free I] at e;cases e
  rw [aq this];exact c.sf _ _ e
 kp:=fun b u e J=>by
  have h1:=c.kp b u e J;have:b≠l:=fun z=>by rw [z,I] at h1;cases h1
  rw [aq this];exact h1
 ob:=by
  have:p≠l:=fun z=>by have h:=c.ob;rw [z,I] at h;cases h
  rw [aq this];exact c.ob
theorem Cu.new (c:Cu F H Hc p C dx fs) (I:Hc l=c_):H l=c_:=by
 cases h:H l with
 |none=>rfl
 |some o=>
  have:l≠p:=fun z=>by have h:=c.ob;rw [<- z,I] at h;cases h
  rw [c.kp l o h this] at I;cases I
theorem Cu.list (c:Cu F H Hc p C dx fs) (r:Cls K C) (d:b9 K C f) (g:f∉fs.map (·.1)) (k:fs.length<1000) (n:σ[0]? =a_ (a_ (.ref p))) {y:List V} (hi:σ[i]? =a_ (a_ (.ref b))) (q:SqL K F b y)
  (I:∀l Y,H l=c_->Cu F H Y p C dx (fs++[(f,.ref l)])->Y l=a_ (.lst y)->(∀m o,Hc m=a_ o->m≠p->Y m=a_ o)->D.nx σ Y):yY K (bJ 0) (tCB (RLst K) (aM (bJ i) dI)) f D σ Hc:=by
 refine ⟨.ref b,hi,b,y,rfl,.inl (c.sf.lst q),fun l J=>⟨.ref p,n,p,C,dx,fs,rfl,(c.lay J).ob,r,d,k,?_⟩⟩
 rw [lK f _ fs g];have a:l≠p:=fun z=>by have h:=c.ob;rw [<- z,J] at h;cases h
 refine I l _ (c.new J) ((c.lay J).put f (.ref l)) (by rw [aq a,ao]) fun m o e j=>?_
 have:m≠l:=fun z=>by rw [z,J] at e;cases e
 rw [aq j,aq this];exact e
end
theorem rs_initS {g:List Dat->M Dat} (b:Cls K C) (Y:∀y∈(["kinds","rules","names","flights","closed","text"]:List p_),b9 K C y) (h:spIS K C g vs H Q E) :
  dC (yY K (bJ 0) (tCB (RLst K) (aM (bJ 1) dI)) "kinds") (dC (yY K (bJ 0) (bJ 2) "rules") (dC (yY K (bJ 0) (tCB (RLst K) (aM (bJ 3) dI)) "names") (dC (yY K (bJ 0) (tCB (RLst K) (aM (bJ 4) dI)) "flights")
   (dC (yY K (bJ 0) (tCB (RLst K) (aM (bJ 5) dI)) "closed") (yY K (bJ 0) (gz (spF K b_ g 5) [] E' (aM (bJ 1) (aM (bJ 2) (aM (bJ 3) (aM (bJ 4) (aM (bJ 5) dI)))))) "text")))))
   {nx:=fun _ H'=>Q .non H',rt:=Q} (start ["self","kinds","rules","names","flights","closed"] vs) H:=by
 obtain ⟨p,dx,G,b1,b2,b3,J,P,O,N,L,F,Z,d1,d2,X,W,z,rfl,B,U,R,⟨s,c0⟩,S,⟨r,c1⟩,⟨n,c2⟩,⟨k,c3⟩,T,q⟩:=h;have C0:Cu F H H p C dx []:=⟨U,R,fun _ _ e _=>e,B⟩
 refine C0.list b (Y _ (by simp)) (by simp) (by decide) rfl rfl s fun f H1 a C1 a0 k1=>?_;refine ⟨J,rfl,.ref p,rfl,p,C,dx,_,rfl,C1.ob,b,Y _ (by simp),by simp,?_⟩
 rw [lK _ J _ (by show ("rules":p_)∉(["kinds"]:List p_);decide +kernel)];have C2:=C1.put "rules" J;have e0:∀{l:e_},H l=c_->l≠p:=fun {l} h z=>by rw [z,B] at h;cases h
 have k2:∀m o,H1 m=a_ o->m≠p->upd H1 p (.ins C dx ((([]:List (p_×V))++[(("kinds":p_),V.ref f)])++[(("rules":p_),J)])) m=a_ o:=fun m o e i=>by rw [aq i];exact e
 refine C2.list b (Y _ (by simp)) (by show ("names":p_)∉(["kinds","rules"]:List p_);decide +kernel) (by simp) rfl rfl r fun x H3 d C3 a1 k3=>?_;refine C3.list b (Y _ (by simp)) (by show ("flights":p_)∉(["kinds","rules","names"]:List p_);decide +kernel) (by simp) rfl rfl n fun w H4 n2 C4 a2 A=>?_;refine C4.list b (Y _ (by simp)) (by show ("closed":p_)∉(["kinds","rules","names","flights"]:List p_);decide +kernel) (by simp) rfl rfl k fun u H5 t j a3 k5=>?_;refine ⟨.ref G,rfl,J,rfl,.ref b1,rfl,.ref b2,rfl,.ref b3,rfl,F,[.lst Z,W,.lst d1,.lst d2,.lst X],j.sf,⟨_,_,rfl,⟨G,P,rfl,s,c0⟩,_,_,rfl,S,_,_,rfl,⟨b1,O,rfl,r,c1⟩,_,_,rfl,⟨b2,N,rfl,n,c2⟩,_,_,rfl,⟨b3,L,rfl,k,c3⟩,rfl⟩,rfl,?_⟩
 rw [T];intro v F' H' st hv;cases (show v=.str z from hv);refine ⟨.ref p,rfl,p,C,dx,_,rfl,st.hh _ _ j.ob,b,Y _ (by simp),by simp,?_⟩
 rw [lK _ _ _ (by show ("text":p_)∉(["kinds","rules","names","flights","closed"]:List p_);decide +kernel)];have I:∀m o,H5 m=a_ o->m≠p->upd H' p (.ins C dx (((((([]:List (p_×V))++[(("kinds":p_),V.ref f)])++[(("rules":p_),J)])++[(("names":p_),V.ref x)])++[(("flights":p_),V.ref w)])++[(("closed":p_),V.ref u)]++[(("text":p_),V.str z)])) m=a_ o:=fun m o e i=>by rw [aq i];exact st.hh _ _ e
 exact q f x w u _ (fun c o e D=>I c o (j.kp c o e D) D) a d n2 t (I _ _ (k5 _ _ (A _ _ (k3 _ _ (k2 _ _ a0 (e0 a)) (e0 a)) (e0 a)) (e0 a)) (e0 a)) (I _ _ (k5 _ _ (A _ _ a1 (e0 d)) (e0 d)) (e0 d)) (I _ _ (k5 _ _ a2 (e0 n2)) (e0 n2)) (I _ _ a3 (e0 t)) ao
theorem isi1 {P:e_->Bool->Prop} (h1:P C1 b1):∀C b,EM C [(C1,b1)]=a_ b->P C b:=fun C b h=>by
 rw [w_] at h;cases e:C==C1 with
 |true=>
  rw [e] at h;cases h;rw [Ge.mp e];exact h1
 |false=>rw [e] at h;cases h
structure Lent (K:Fg) (H0 G H:Hp) (hh:e_) (bs:List e_) (ys:List (List V)) (ds:List (List Dat)):Prop where
 sg:aF G H
 s0:aF H0 H
 top:H hh=a_ (.lst (bs.map .ref))
 gh:G hh=c_
 h0:H0 hh=c_
 nt:hh∉bs
 own:∀(j:Nat) (b:e_),bs[j]? =a_ b->G b=c_/\H0 b=c_/\∃y d,ys[j]? =a_ y/\ds[j]? =a_ d/\H b=a_ (.lst y)/\ay K G d y
section
variable {hh:e_} {bs:List e_} {ys:List (List V)} {ds:List (List Dat)}
theorem Lent.step {I:Hp} (l:Lent K H0 G H hh bs ys ds) (s:Step G H I H'):Lent K H0 I H' hh bs ys ds where
 sg:=s.fh
 s0:=l.s0.trans s.hh
 top:=s.hh _ _ l.top
 gh:=by
  cases e:I hh with
  |none=>rfl
  |some o=>
   rcases s.nw _ _ e with z|z
   ·rw [l.gh] at z;cases z
   ·rw [l.top] at z;cases z
 h0:=l.h0
 nt:=l.nt
 own:=fun j b e=>by
  obtain ⟨h1,h2,y,d,c,a,J,Y⟩:=l.own j b e;refine ⟨?_,h2,y,d,c,a,s.hh _ _ J,ay.mono s.ff Y⟩
  cases e:I b with
  |none=>rfl
  |some o=>
   rcases s.nw _ _ e with z|z
   ·rw [h1] at z;cases z
   ·rw [J] at z;cases z
open Classical in
end
section
theorem dB.hide (r:dB K F σ ρ) (i:Nat) (v:Option V):dB K F (σ.set i v) (ρ.set i c_):=
 ⟨by rw [En,En,r.len],fun j d e=>by
  by_cases I:i=j
  ·subst I;by_cases hi:i<ρ.length
   ·rw [x_ hi] at e;cases e
   ·rw [Hl (by rw [En];omega)] at e;cases e
  ·rw [o_ I] at e;obtain ⟨v,h1,h2⟩:=r.sl j d e;exact ⟨v,by rw [o_ I];exact h1,h2⟩⟩
theorem dB.tell (r:dB K F σ ρ) {d:Dat} (e:σ[i]? =a_ (a_ v)) (q:aR K F d v):dB K F σ (ρ.set i (a_ d)):=
 ⟨by rw [En,r.len],fun j d' I=>by
  by_cases J:i=j
  ·subst J;by_cases hi:i<ρ.length
   ·rw [x_ hi] at I;cases I;exact ⟨v,e,q⟩
   ·rw [Hl (by rw [En];omega)] at I;cases I
  ·rw [o_ J] at I;exact r.sl j d' I⟩
end
noncomputable def unF:HO->HO
 |.frz _ u=>u
 |o=>o
open Classical in
section
theorem Rep.ofE (r:dB K F σ ρ) (st:Step F0 H0 F H) (fb:aF FB F):Rep K F0 H0 FB [] F H σ ρ:=
 ⟨st,fb,r.len,fun i d e _=>r.sl i d e,(fun _ _ _ h=>nomatch h),(fun _ _ _ _ _ h=>nomatch h)⟩
end
def mZ:Dat->Dat->M Dat
 |.str x,.str y=>if (r_ (y.length=1)&&r_ (x.length+2<=g_))=d_ then .ok (.lst ((Gq x y).map .str)) else stk
 |_,_=>stk
@[simp] theorem e_splitD (x y:p_):mZ (.str x) (.str y)=if (r_ (y.length=1)&&r_ (x.length+2<=g_))=d_ then .ok (.lst ((Gq x y).map .str)) else stk:=id rfl
def my:Dat->Dat->M Dat
 |.str x,.str y=>.ok (.bl (FD x y))
 |_,_=>stk
@[simp] theorem e_startsD (x y:p_):my (.str x) (.str y)=.ok (.bl (FD x y)):=id rfl
noncomputable def yV:Dat->M (List Dat)
 |.str x=>.ok (x.cps.toList.map fun c=>.str ⟨#[c]⟩)
 |_=>.error .stuck
def fItS (fa:ah->M Dat):ah->M (List Dat):=fun ρ=>(fa ρ).bind yV
@[simp] theorem e_fItS (fa:ah->M Dat) (ρ:ah):fItS fa ρ=(fa ρ).bind yV:=id rfl
@[simp] theorem e_signsD (x:p_):yV (.str x)=.ok (x.cps.toList.map fun c=>.str ⟨#[c]⟩):=id rfl
def inSD:Dat->Dat->M Dat
 |.str a,.str b=>.ok (.bl (!(ED b a 0 b.length 1).isEmpty))
 |_,_=>stk
def jq:Dat->Dat->M Dat
 |.str a,.str b=>.ok (.bl (!(!(ED b a 0 b.length 1).isEmpty)))
 |_,_=>stk
@[simp] theorem e_inSD (c:Nat) (b:p_):inSD (.str ⟨#[c]⟩) (.str b)=.ok (.bl (r_ (c∈b.cps.toList))):=by
 show Eo (Dat.bl (!(ED b ⟨#[c]⟩ 0 b.length 1).isEmpty))=_;rw [KU]
@[simp] theorem e_notInSD (c:Nat) (b:p_):jq (.str ⟨#[c]⟩) (.str b)=.ok (.bl (!decide (c∈b.cps.toList))):=by
 show Eo (Dat.bl (!(!(ED b ⟨#[c]⟩ 0 b.length 1).isEmpty)))=_;rw [KU]
def D2:List Dat->M Dat
 |[.str x]=>if x.length<=640 then (match GS x with
  |some n=>.ok (.int n)
  |none=>stk) else stk
 |_=>stk
@[simp] theorem e_intSD (x:p_):D2 [.str x]=if x.length<=640 then (match GS x with
  |some n=>.ok (.int n)
  |none=>stk) else stk:=id rfl
def vC:List Dat->M Dat
 |[.str z]=>if z.length<=g_ then .ok (.int z.length) else stk
 |_=>stk
@[simp] theorem e_lenSD (z:p_):vC [.str z]=if z.length<=g_ then .ok (.int z.length) else stk:=id rfl
noncomputable def Its (x:p_):It:=⟨fun i _=>i<x.cps.size,fun i H v H'=>H'=H/\∃c,x.cps[i]? =a_ c/\v=.str ⟨#[c]⟩,fun i _=>i=x.cps.size⟩
theorem turn_str {nm:String} (j:nm="str_ascii_iterator"\/nm="str_iterator") (x:p_) (t:Mh) (it:e_):Turn P w K tg (Its x) [it] it (fun i h=>h.IsStrIter it nm x t i):=by
 have W:∀A:GH,A.handled=c_->Walks P w A it [it] [it] x.cps.size (SignAt x) (fun i h=>h.IsStrIter it nm x t i):=fun A p=>by
  rcases j with rfl|rfl
  ·exact Walks.strAscii p it x t
  ·exact Walks.strWide p it x t
 have q:["enumerate","zip","dict_itemiterator","dict_reverseitemiterator","odict_iterator","itertools.zip_longest","itertools.pairwise"].contains nm=b_:=by rcases j with rfl|rfl<;>decide
 refine ⟨by simp,fun i h st b J=>?_,fun i h h' st k=>?_,?_,?_,fun A i s Q E st h=>?_⟩
 ·obtain rfl:b=it:=by simpa using J
  obtain ⟨o,e,c,d⟩:=st;exact ⟨o,e,fun v z=>by rw [d] at z;cases z⟩
 ·obtain ⟨o,e,r⟩:=st;exact ⟨o,k it (by simp) o e,r⟩
 ·intro X m hw n l i pins s σ H E I f st a;subst m hw n;obtain ⟨f0,f1,_,f3,f4,f5⟩:=f it (by simp);refine (W X.A (I.ok.hd l)).item i s _ _ a st fun v h' tk ⟨c,u,y,B⟩ Y g=>?_;have D:Inv X pins σ H {s with heap:=h',toks:=tk}:=I.turned (fun b o J e=>g b o (by simpa using J) e) f0 f1 f3 f4 f5;obtain ⟨o,e,C,d⟩:=id Y;exact ⟨v,rfl,go_of (s:={s with heap:=h',toks:=tk}) e C d q ⟨.str ⟨#[c]⟩,H,D,⟨u,B⟩,⟨rfl,c,y,rfl⟩,Y,fun b J=>(f b J).1⟩⟩
 ·intro X m hw n l i pins s σ H E I f st a;subst m hw n;obtain ⟨f0,f1,_,f3,f4,f5⟩:=f it (by simp);have a:i=x.cps.size:=a;subst a;exact (W X.A (I.ok.hd l)).done s _ _ st fun h' tk g=>⟨rfl,I.turned (fun b o J e=>g b o (by simpa using J) e) f0 f1 f3 f4 f5⟩
 ·rcases j with rfl|rfl
  ·exact wpAny_pyIter_striter_ascii st h
  ·exact wpAny_pyIter_striter_wide st h
theorem iter_str (x:p_):wz K F (Its x) (x.cps.toList.map fun c=>.str ⟨#[c]⟩) where
 go:=fun i F' H' _ _ hi=>by show i<x.cps.size;simpa using hi
 yl:=fun i F' H' v H2 d b J hd Y=>by
  obtain ⟨rfl,c,a,rfl⟩:=Y;have I:x.cps.toList[i]? =a_ c:=by simpa using a
  rw [E_,I] at hd;cases hd;exact ⟨F',Step.refl J,rfl⟩
 st:=fun F' H' _ _=>by show _=_;simp
section
variable {W:dZ} {own:Bool} 
theorem zU (k:DE K W b_ X e fa) (n: ~~~(X.K=K)):DI K W X tg e (fItS fa):=by
 subst n;intro pins s σ H R I ⟨F,ρ,r,g,p⟩;have p:(match (fa ρ).bind yV with
  |.ok ds=>∀J F1 H1,Step F H F1 H1->wz X.K F1 J ds->R J H1
  |.error e=>W.p e F H):=p
 refine thn (k pins s σ H (fun v H1=>∃a F1,fa ρ=.ok a/\Step F H F1 H1/\aR X.K F1 a v) I (aO r g (fun e l=>by rw [l] at p;exact p) fun a d v F1 H1 Y i=>⟨a,F1,d,Y,i⟩)) fun v Y ⟨y,H1,f,h,a,F1,u,st,q⟩=>?_;rw [u] at p;cases a with
 |str z=>
  cases (show y=V.str z from q);obtain ⟨t,rfl⟩:=(show ∃t,v=FJ z t from h)
  have c:∀nm,(nm="str_ascii_iterator"\/nm="str_iterator")->PIE X pins σ tg R (.ref Y.heap.objs.size) {Y with heap:=Y.heap.push {cls:=.type nm,data:=.fields #[.str z t,.int 0 0]}}:=fun nm j=>by
   refine ⟨Y.heap.objs.size,[Y.heap.objs.size],_,_,H1,rfl,f.kept (t':=Y.toks) fun b o e=>s_ _ e,turn_str j z t _,⟨_,Ei _ rfl,rfl,rfl⟩,fun b m=>?_,p (Its z) F1 H1 st (iter_str z)⟩
   obtain rfl:b=Y.heap.objs.size:=by simpa using m
   exact f.fpOk (u_ _) (f.hok.fresh (u_ _))
  cases d:z.cps.all (·<128)
  ·exact wpAny_pyIter_wide d (c _ (.inr rfl))
  ·exact wpAny_pyIter_ascii d (c _ (.inl rfl))
 |_=>exact (W.ns p).elim
theorem oj:MtR X "str.split" (rSM X.K W d_ mZ):=by
 intro pins s σ H x vs v us Q I r w h;obtain ⟨F,z,b,y,j,rfl,rfl,B,p⟩:=h;obtain ⟨u,rfl,A⟩:=w.one;obtain ⟨t,rfl⟩:=(show ∃t,v=FJ z t from r)
 cases b with
 |str J=>
  cases (show y=V.str J from B);obtain ⟨t2,rfl⟩:=(show ∃t,u=FJ J t from A)
  have p:aC X.K W d_ F H (if (r_ (J.length=1)&&r_ (z.length+2<=g_))=d_ then .ok (.lst ((Gq z J).map .str)) else stk) Q:=p;by_cases e:(r_ (J.length=1)&&r_ (z.length+2<=g_))=d_
  ·rw [f_ e] at p;rw [n_,Et,Et] at e;have G:=split_le z J;have i:∀l:List p_,ay X.K F (l.map .str) (l.map V.str):=fun l=>by
    induction l with
    |nil=>rfl
    |cons a l f=>exact ⟨.str a,_,rfl,rfl,f⟩
   have vs:∀l:List (p_×Mh),Vals ((l.map (·.1)).map V.str) (GX l):=fun l=>by
    induction l with
    |nil=>exact .nil
    |cons a l f=>exact .cons ⟨a.2,rfl⟩ f
   have c:∀(l:List (p_×Mh)) (k:Nat),l.map (·.1)=Gq z J->EP X pins σ Q (.ref s.heap.objs.size) {s with toks:=k,heap:=s.heap.push {cls:=.type "list",data:=.seq (GX l).toArray}}:=fun l k D=>by
    have d:((Gq z J).map V.str).length<=g_:=by rw [t_];omega
    refine ⟨.ref s.heap.objs.size,_,I.laid (t':=k) (o:=.lst ((Gq z J).map V.str)) (fun _ _ q=>s_ _ q) (u_ _) ⟨d,GX l,0,by rw [<- D];exact vs l,Ei _ rfl⟩,rfl,?_⟩
    have Y:=I.hok.fresh (u_ s.heap.objs.size);exact p (.ref s.heap.objs.size) F _ (Step.grow j Y) ⟨_,_,rfl,ao,j.free Y,Y,i _⟩
   have n:(J.length==0)=b_:=by rw [e.1];rfl
   have C:(Jj z (ED z J 0 z.length (z.length+1)) J.length).length<=g_:=by
    have:=StrLaws.occ_length_le z J 0 z.length (z.length+1);rw [length_partsBetween];omega
   have g:∀{S:PySem.Spec},Meets (Builtin.«str.split» ⟨[.str z t,.str J t2],[]⟩) S->S X.A (wants (EP X pins σ Q) X.xe) s->Cb (Eg X.prog X.w) X.A (Hw (.builtin "str.split") [.str z t,.str J t2]) (EP X pins σ Q) X.xe s:=fun m E=>Jr Gs (Jp _ _ _) PySem.F.entry_str_split (PySem.F.args_str_split_2 _ _) m E;cases h1:(r_ (z.length<J.length)||r_ (JN z<JN J))
   ·cases Y:(ED z J 0 z.length (z.length+1)).isEmpty
    ·refine g (meets_str_split_sep z J t t2 h1 n Y (by omega) C) ?_;show wants _ _ _ {s with toks:=_,heap:=s.heap.push {cls:=.type "list",data:=.seq (strsFrom s.toks (Jj z (ED z J 0 z.length (z.length+1)) J.length)).toArray}};rw [strsFrom_eq];exact c (numbered s.toks _) _ ((numbered_texts _ _).trans ((m_ (by rw [h1];decide)).trans (m_ (by rw [Y];decide))).symm)
    ·exact g (meets_str_split_not_found z J t t2 h1 n Y) (c [(z,t)] s.toks ((m_ (by rw [h1];decide)).trans (f_ Y)).symm)
   ·exact g (meets_str_split_cannot_occur z J t t2 h1) (c [(z,t)] s.toks (f_ h1).symm)
  ·rw [m_ e] at p;exact aC.stuck p
 |_=>exact aC.stuck p
theorem CC:MtR X "str.startswith" (rSM X.K W own my):=by
 intro pins s σ H x vs v us Q I a c h;obtain ⟨F,z,b,y,Y,rfl,rfl,e,p⟩:=h;obtain ⟨u,rfl,d⟩:=c.one;obtain ⟨t,rfl⟩:=(show ∃t,v=FJ z t from a)
 cases b with
 |str J=>
  cases (show y=V.str J from e);obtain ⟨t2,rfl⟩:=(show ∃t,u=FJ J t from d)
  have p:aC X.K W own F H (.ok (.bl (FD z J))) Q:=p;exact call_gives Jm (Jp _ _ _) PySem.F.entry_str_startswith (PySem.F.args_str_startswith_2 _ _) (gives_str_startswith z J t t2) ⟨.bl _,H,I,rfl,p (.bl _) F H (Step.refl Y) (by cases own<;>rfl)⟩
 |_=>exact aC.stuck p
theorem o_inS:Op2 K W own X (Es .In) inSD:=OpR.imp Cn fun x y H Q ⟨F,a,b,s,J,I,p⟩=>by
 cases a with
 |str i=>cases b with
  |str j=>
   have p:aC K W own F H (.ok (.bl (!(ED j i 0 j.length 1).isEmpty))) Q:=p;exact ⟨i,j,J,I,p (.bl _) F H (Step.refl s) (by cases own<;>rfl)⟩
  |_=>exact aC.stuck p
 |_=>exact aC.stuck p
theorem oh:Op2 K W own X (Es .NotIn) jq:=OpR.imp vn fun x y H Q ⟨F,a,b,s,J,I,p⟩=>by
 cases a with
 |str i=>cases b with
  |str j=>
   have p:aC K W own F H (.ok (.bl (!(!(ED j i 0 j.length 1).isEmpty)))) Q:=p;exact ⟨i,j,J,I,p (.bl _) F H (Step.refl s) (by cases own<;>rfl)⟩
  |_=>exact aC.stuck p
 |_=>exact aC.stuck p
theorem rT:qp K W own X (.builtin "len") vC:=wk.imp fun xs H Q h=>by
 obtain ⟨F,d,x,s,e,q,p⟩:=mE (fun ds=>by match ds with|[d]=>exact .inl ⟨d,rfl⟩|[]=>exact .inr rfl|a::b::c=>exact .inr (by cases a<;>rfl)) h;cases d with
 |str z=>
  have p:aC K W own F H (if z.length<=g_ then .ok (.int z.length) else stk) Q:=p;by_cases I:z.length<=g_
  ·rw [f_ I] at p;exact ⟨z,by rw [e,show x=.str z from q],I,p (.int _) F H (Step.refl s) (by cases own<;>rfl)⟩
  ·rw [m_ I] at p;exact aC.stuck p
 |_=>exact aC.stuck p
theorem DU:dQ X (.type "int") (fun xs H Q=>∃z n,xs=[.str z]/\z.length<=640/\GS z=a_ n/\Q (.int n) H):=by
 intro pins s σ H xs us Q I r ⟨z,n,e,a,Y,q⟩;subst e;obtain ⟨u,rfl,J⟩:=vals1 r;obtain ⟨t,rfl⟩:=(show ∃t,u=FJ z t from J)
 exact PySem.W.KIN.call_text Y a ⟨.int n,H,I.tok _,⟨_,rfl⟩,q⟩
theorem DZ:qp K W own X (.type "int") D2:=DU.imp fun xs H Q h=>by
 obtain ⟨F,d,x,s,e,q,p⟩:=mE (fun ds=>by match ds with|[d]=>exact .inl ⟨d,rfl⟩|[]=>exact .inr rfl|a::b::c=>exact .inr (by cases a<;>rfl)) h;cases d with
 |str z=>
  have p:aC K W own F H (if z.length<=640 then (match GS z with
   |some n=>.ok (.int n)
   |none=>stk) else stk) Q:=p
  by_cases J:z.length<=640
  ·rw [f_ J] at p;cases I:GS z with
   |none=>rw [I] at p;exact aC.stuck p
   |some n=>rw [I] at p;exact ⟨z,n,by rw [e,show x=.str z from q],J,I,p (.int _) F H (Step.refl s) (by cases own<;>rfl)⟩
  ·rw [m_ J] at p;exact aC.stuck p
 |_=>exact aC.stuck p
theorem tV (I:∃t,X.mg x=a_ (.str z t)) (J: ~~~(Gl X x)) (hd:((x==("__debug__":p_))=b_)⁻¹):DE K W b_ X (.Name x pos) (fC (.str z)):=by
 obtain ⟨t,e⟩:=I;exact (sR (v:=.str z) J e ⟨t,rfl⟩ hd).imp fun _ _ _=>rd_c fun _=>rfl
end
def zI (xs:List p_) (k:p_):Option Nat:=xs.findIdx? (·==k)
def mI:Dat->Dat->M Dat
 |.lst ds,.str k=>(gr ds).bind fun xs=>match zI xs k with
  |some j=>.ok (.int j)
  |none=>stk
 |_,_=>stk
@[simp] theorem e_indexS (ds:List Dat) (k:p_):mI (.lst ds) (.str k)=(gr ds).bind fun xs=>match zI xs k with
  |some j=>.ok (.int j)
  |none=>stk:=id rfl
def gu (fo fe:ah->M Dat):ah->M Dat:=fun ρ=>(fo ρ).bind fun a=>if isL a=d_ then (fe ρ).bind fun b=>mI a b else stk
@[simp] theorem e_fIndexS (fo fe:ah->M Dat) (ρ:ah):gu fo fe ρ=(fo ρ).bind fun a=>if isL a=d_ then (fe ρ).bind fun b=>mI a b else stk:=id rfl
def rIndexS (K:Fg):V->List V->Hp->VK->Prop:=fun x vs H Q=>∃l is k j,x=.ref l/\vs=[.str k]/\SqL K H l (is.map V.str)/\zI is k=a_ j/\Q (.int j) H
noncomputable def isKS (k:p_):l_->Bool
 |.str i _=>i==k
 |_=>b_
section
variable {W:dZ}
theorem CF (R:X.A.units+64<FK):MtR X "list.index" (rIndexS X.K):=by
 intro pins s σ H x vs v us Q I C D ⟨l,is,k,j,ex,P,O,N,q⟩;subst ex P;cases C;obtain ⟨u,rfl,E⟩:=D.one;obtain ⟨its,r,pl,G⟩:=I.list O;obtain ⟨⟨oc,d,c,osl⟩,n,e,J,p,Y⟩:=id pl;obtain ⟨t,rfl⟩:=(show ∃t,u=FJ k t from E)
 obtain ⟨i,o,f⟩:=G_.mp N;obtain ⟨L,rfl,rfl⟩:=oF r;have hsz:=Er;have B:(GX L).length=L.length:=by unfold GX;rw [t_]
 have a:∀m (b:m<(GX L).length),(GX L)[m]=.str ((L.map (·.1))[m]'(by rw [t_];omega)) (L[m]'(by omega)).2:=fun m b=>by simp [GX]
 rw [t_] at i;refine Jr JL ⟨_,e,J⟩ PySem.F.entry_list_index (PySem.F.args_list_index_2 _ _) (SeqAt.list_indexAt l (GX L).toArray n d osl (.str k t) (isKS k) j (by rw [B_];omega) (by have:=G;rw [t_,t_] at this;omega) ?_ ?_) ⟨?_,fun y K=>?_,⟨.int j,H,I.tok _,⟨_,rfl⟩,q⟩⟩
 ·rw [K1,a j (by omega)];exact o
 ·intro m b h;rw [B_] at b;rw [K1,a m b];simpa [isKS] using f m h
 ·rw [e];cases (show oc=.type "list" from J);cases (show c=.seq (GX L).toArray n from Y);rfl
 ·obtain ⟨m,g,rfl⟩:=II (show y∈GX L by simpa using K);rw [a m g];generalize (L.map (·.1))[m]'(by rw [t_];omega)=z;have w:=De (F:=H) (x:=.str z) (y:=.str k) (A:=X.A.in1) I (aF.refl H) (.str z) (.str k) rfl rfl rfl rfl ⟨(L[m]'(by omega)).2,rfl⟩ ⟨t,rfl⟩ (by show X.A.units+1+40<FK;omega);have e2:eqD (.str z) (.str k)=isKS k (.str z (L[m]'(by omega)).2):=by simp [eqD,isKS]
  rw [e2] at w;exact w
theorem m7 (u:X.A.units+64<FK) (v:DE K W b_ X o fo) (d:DE K W b_ X e fe) (B: ~~~(X.K=K)) (Y: ~~~(FR o "index" X.env (Eu o X.env)=Eu o X.env))
  (c: ~~~(((EN cpos (i_ [e] X.env)).all (fun x=> !x.1)&&(GB cpos (Fz [] X.env)).all (fun x=>x.1.isSome)&&r_ ([e].length+([]:List G2).length+(if ([]:List G2).isEmpty then 0 else 1)<30))=d_))
  (J: ~~~((apos.endLine==cpos.line)=d_)) (i: ~~~(i_ [e] X.env=(b_,Eu e X.env)::i_ [] X.env)) (I: ~~~((EN cpos (i_ [] X.env)).any (·.1)=b_)) :
  DE K W b_ X (.Call (.Attribute o "index" apos) [e] [] cpos) (gu fo fe):=by
 subst B;refine PE.imp (nQ EE JL PySem.F.type_list_index (CF u) v (au d aK (by rw [i])) Y c J i I) fun σ H Q ⟨F,ρ,r,s,p⟩=>?_;refine aO r s (fun e d=>p.err (by unfold gu;rw [d];rfl)) fun a A x F1 H1 g n=>?_;rw [show gu fo fe ρ=if isL a=d_ then (fe ρ).bind fun b=>mI a b else stk by unfold gu;rw [A];rfl] at p;have p:=p.step g;cases a with
 |lst ds=>
  have p:aC X.K W b_ F1 H1 ((fe ρ).bind fun b=>mI (.lst ds) b) Q:=p;obtain ⟨l,xs,rfl,t,z⟩:=id n;refine ⟨.inl ⟨rfl,_,g.fh.lst t⟩,aO (r.mono g.ff) g.fh (fun e d=>p.err (by rw [d];rfl)) fun b w y F2 H2 f m=>?_⟩
  rw [w] at p;have p:aC X.K W b_ F1 H1 (mI (.lst ds) b) Q:=p;have p:=p.step f;cases b with
  |str k=>
   have p:aC X.K W b_ F2 H2 ((gr ds).bind fun xs=>match zI xs k with
    |some j=>.ok (.int j)
    |none=>stk) Q:=p
   cases hi:gr ds with
   |error e=>rw [hi] at p;rw [oN hi] at p;exact aC.stuck p
   |ok is=>
    rw [hi] at p;have p:aC X.K W b_ F2 H2 (match zI is k with
     |some j=>.ok (.int j)
     |none=>stk) Q:=p
    have q:=oM z hi;subst q;cases h:zI is k with
    |none=>rw [h] at p;exact aC.stuck p
    |some j=>
     rw [h] at p;cases (show y=V.str k from m);exact ⟨l,is,k,j,rfl,rfl,f.fh.lst (f.ff.lst t),h,p (.int j) F2 H2 (Step.refl f.fh) rfl⟩
  |_=>exact aC.stuck p
 |_=>exact aC.stuck p
end
abbrev k1 (t:Mh):List (p_×l_):=[(h_ "start",.int 1 t)]
theorem lst_it (h:EY) (l:e_):(h.push {cls:=.type "list_iterator",data:=.fields #[.ref l,.int 0 0]}).objs.size=h.objs.size+1:=FC ..
theorem CA (l:e_) (I:Array l_) (n:Nat) (t:Mh) (Y:Option e_) (e:Array (Option l_)) :
  Meets (Builtin.«enumerate.__new__» ⟨[.type "enumerate",.ref l],k1 t⟩) (fun _ R s=>s.heap.get? l=a_ {cls:=.type "list",dict:=Y,data:=.seq I n,slots:=e} /\
   R (.ok (.ret (.ref (s.heap.objs.size+1)))) {s with heap:=(s.heap.push {cls:=.type "list_iterator",data:=.fields #[.ref l,.int 0 0]}).push {cls:=.type "enumerate",data:=.fields #[.none,.bool b_,.ref s.heap.objs.size,Jq 1,.none,.none]}}):=
 MQ fun P w A R s ⟨J,h⟩=>by
  obtain ⟨a,g,d,tk,os⟩:=s;rw [<- lst_it a l] at h;have z:=sub_enumerate;have b:Heap.IsList (Shared.heap ⟨a,g,d,tk,os⟩) l I:=⟨_,J,rfl,n,rfl⟩
  wp_walk using HI J
  refine wpAny_stack_any fun st=>A_ ?_;split
  ·rename_i c _ _ _ _ _;cases (c==GU "enumerate")<;>(wp_walk using HI J,Hr b)<;>exact ⟨_,rfl,h⟩
  ·wp_walk using HI J,Hr b
   exact ⟨_,rfl,h⟩
theorem ini_k1 {I a:l_} {t:Mh} (c:Mn (.type "enumerate") "__init__"=FF (a_ (.builtin "object.__init__"))) (b:Bind.madeBy (.type "enumerate")=FF (a_ "enumerate.__new__")) :
  Meets (Builtin.«object.__init__» ⟨[I,a],k1 t⟩) (fun _ R s=>s.TypeIs I "enumerate"/\R (.ok (.ret .none)) s):=MQ fun P w A R s ⟨d,J⟩=>by
 have Y:(a_ "enumerate.__new__" != a_ "object.__new__")=d_:=by decide
 repeat (any_goals (first|assumption|wp_step))
 exact ⟨_,rfl,J⟩
section
variable {E:Vp} {Q:Vp}
theorem B9 {J:Array l_} {t:Mh} (N:s.heap.IsList l J)
  (h:∀h',IsEnum h' (s.heap.objs.size+1) s.heap.objs.size 1 .none->h'.IsListIter s.heap.objs.size l 0->(∀b o,s.heap.get? b=a_ o->h'.get? b=a_ o)->Q (.ref (s.heap.objs.size+1)) {s with heap:=h'}) :
  Cb (Eg prog w) A (Hw (.type "enumerate") [.ref l] (k1 t)) Q E s:=by
 obtain ⟨⟨c,m,O,z⟩,G,K,n,hd⟩:=N;cases (show c=.type "list" from K);cases (show O=.seq J n from hd);have ft:=F.called_enumerate;obtain ⟨c,tl,y⟩:=ft.mro;have a:=ft.made;have u:=ft.sub;have h1:=ft.notType;have h2:=ft.canCreate;have H:checkTypeCall "enumerate" ⟨[.ref l],k1 t⟩=FF ():=by kernel_rfl
 have k:JS "enumerate.__new__" ⟨[.type "enumerate",.ref l],k1 t⟩=FF ():=by kernel_rfl
 have g:∀Y,argsOk "object.__init__" ⟨[Y,.ref l],k1 t⟩:=fun Y=>by unfold argsOk;kernel_rfl
 have D:=lst_it s.heap l;have j:IsEnum ((s.heap.push {cls:=.type "list_iterator",data:=.fields #[.ref l,.int 0 0]}).push {cls:=.type "enumerate",data:=.fields #[.none,.bool b_,.ref s.heap.objs.size,Jq 1,.none,.none]}) (s.heap.objs.size+1) s.heap.objs.size 1 .none:=by
  rw [<- D];exact Ei _ rfl
 refine IC (codeAny_of_tree (show Cb _ _ (callAny (.type "enumerate") _) _ _ _ from A_ ⟨IT _ (by decide +kernel),codeAny_builtin F.entry_type_call ?_⟩));rw [Around.under_plain (weight_type_call_type "enumerate" [.ref l] (k1 t)) (units_type_call_type "enumerate" [.ref l] (k1 t))]
 repeat (any_goals (first|assumption|wp_step))
 refine Gj (G0 ft.plain F.entry_enumerate_new (wpAny_of_eq k (CA l J n t m z prog w A.in1 (wants (fun v C=>v=.ref (s.heap.objs.size+1)/\C={s with heap:=(s.heap.push {cls:=.type "list_iterator",data:=.fields #[.ref l,.int 0 0]}).push {cls:=.type "enumerate",data:=.fields #[.none,.bool b_,.ref s.heap.objs.size,Jq 1,.none,.none]}}) E) s ⟨G,rfl,rfl⟩))) fun r q f=>?_
 match r,f with
 |.error e,f=>exact f
 |.ok (.ret Y),f=>
  obtain ⟨rfl,rfl⟩:=f;have i:=ft.init.lookup;have L:=ft.init.bind (.ref (s.heap.objs.size+1))
  repeat (any_goals (first|assumption|wp_step))
  refine Gj (G0 ft.init.plain F.entry_object_init (ft.init.check _ _ _ _ _ _ _ _ ⟨_,j,rfl⟩ (g _) (ini_k1 i a prog w A.in1 (wants (fun r B=>r=.none/\B=_) E) _ ⟨⟨_,j,rfl⟩,rfl,rfl⟩))) fun d p I=>?_
  match d,I with
  |.error e,I=>exact I
  |.ok (.ret r),I=>
   obtain ⟨rfl,rfl⟩:=I
   repeat (any_goals (first|assumption|wp_step))
   exact h _ j ⟨_,s_ _ (Ei _ rfl),rfl,rfl⟩ fun b o x=>s_ _ (s_ _ x)
end
theorem draws1 (hh:A.handled=c_) (c:l≠it) (I:Array l_):Draws prog w A it [it,l] (I.size+1) (fun k v=>∃j,k=j+1/\I[j]? =a_ v) (fun k h=>∃j,k=j+1/\h.IsListIter it l j/\h.IsList l I) where
 live:=fun i h ⟨j,_,⟨o,e,_⟩,_⟩=>⟨o,e⟩
 frame:=fun i h h' ⟨j,e,⟨o,a1,m⟩,⟨Y,b1,b2⟩⟩ k=>⟨j,e,⟨o,k it (by simp) _ a1,m⟩,⟨Y,k l (by simp) _ b1,b2⟩⟩
 item:=fun i s Q E hi ⟨j,e,a,b⟩ f=>by
  subst e;have J:j<I.size:=by omega
  refine wpAny_nextOf_list_item a b (x:=I[j]) (by simp [J]) fun h' n d=>f _ h' s.toks ⟨j,rfl,by simp [J]⟩ ⟨j+1,rfl,n,?_⟩ d;obtain ⟨Y,b1,b2⟩:=b;exact ⟨Y,(d.2 l c).trans b1,b2⟩
 done:=fun s Q E ⟨j,e,a,b⟩ g=>by
  have J:j=I.size:=by omega
  subst J;exact wpAny_nextOf_list_end hh a b (by simp) g
def Ite1 (K:Fg) (a:e_):It:=
 ⟨fun i H=>∃xs x,SqL K H a xs/\xs[i]? =a_ x,fun i H x H'=>∃T y,H T=c_/\x=.ref T/\H'=upd H T (.tup [.int (i+1:Nat),y])/\∀xs,SqL K H a xs->xs[i]? =a_ y,fun i H=>∃xs,SqL K H a xs/\xs.length=i⟩
theorem A9 {k:Nat} (a e it:e_) (n:e≠it):Turn P w K (.Tuple elts k pos) (Ite1 K a) [e,it] e (fun i h=>(∃J,IsEnum h e it (i+1:Nat) J)/\h.IsListIter it a i):=by
 have l:∀{i:Nat} {h:EY} {J:l_} {its:Array l_},IsEnum h e it (i+1:Nat) J->h.IsListIter it a i->h.IsList a its->a≠it/\e∉[it,a]:=fun {i h J its} f Y ⟨ol,h1,r,_⟩=>by
  obtain ⟨o,h2,C,_⟩:=Y;refine ⟨fun z=>?_,fun z=>?_⟩
  ·subst z;rw [h1] at h2;cases h2;rw [r] at C;exact Ek C (by decide)
  ·simp only [v_,EO,G1] at z;rcases z with z|z
   ·exact n z
   ·subst z;rw [f] at h1;cases h1;exact Ek (show GU "enumerate"=GU "list" from r) (by decide)
 refine ⟨by simp,fun i h ⟨⟨J,f⟩,o,e1,c,d⟩ b g=>?_,fun i h h' ⟨⟨J,f⟩,Y⟩ T=>⟨⟨J,T e (by simp) _ f⟩,Y.at fun o x=>T it (by simp) o x⟩,?_,?_,fun _ _ _ _ _ ⟨⟨J,f⟩,_⟩ h=>Mz f h⟩
 ·rcases v_.mp g with rfl|g
  ·exact ⟨_,f,fun v z=>by cases z⟩
  ·obtain rfl:b=it:=by simpa using g
   exact ⟨o,e1,fun v z=>by rw [d] at z;cases z⟩
 ·intro X t hw S r i pins s σ H E I G ⟨⟨J,f⟩,Y⟩ ⟨xs,x,F,O⟩;subst t hw S;obtain ⟨its,L,p,hz⟩:=I.list F;obtain ⟨u,U,W⟩:=L.get O;obtain ⟨N,n2⟩:=l f Y p.isList;have hil:i<its.length:=(A1.mp U).1;refine wpAny_pyNext_enum_itemD (i:=i+1) (draws1 (A:=X.A.in1) (I.ok.hd r) N its.toArray) f ⟨i,rfl,Y,p.isList⟩ (by simp;omega) n n2 fun v h1 tk ⟨j,ej,t⟩ ho ⟨Z,ej2,B,_⟩ hT hsz hk=>?_;obtain rfl:j=i:=by omega
  obtain rfl:Z=j+1:=by omega
  obtain rfl:v=u:=by rw [KP,U] at t;exact (Ew t).symm
  refine ⟨_,rfl,wpAny_letOwnedTupleGo_enum ho fun h2 R m=>?_⟩
  have Q:e<s.heap.objs.size:=y_ f;have D:s.heap.objs.size≠e:=Ip Q;have I1:Inv X pins σ (upd H s.heap.objs.size (.tup [.int (j+1:Nat),x])) {s with heap:=h2,toks:=tk+1}:=I.Bw (ch:=[e,it]) G (fun b o g q=>by
    have h3:=hk b o (fun z=>g (by simp [z])) (fun z=>g (by simp [z])) q;exact (m.2 b (fun z=>g (by simp [z]))).trans h3) (u_ _) ⟨by show 2<=g_;decide,[.int (j+1:Nat) tk,v],.cons ⟨_,rfl⟩ (.cons W .nil),⟨_,(m.2 _ D).trans hT,rfl,0,rfl⟩⟩
  refine ⟨.ref s.heap.objs.size,_,I1,rfl,⟨s.heap.objs.size,x,I.hok.fresh (u_ _),rfl,rfl,fun ys hy=>by rw [I.oo hy F];exact O⟩,⟨⟨v,by simpa using R⟩,B.at fun o y=>(m.2 it n.symm).trans y⟩,fun b g=>?_⟩
  have:b≠s.heap.objs.size:=by
   rcases v_.mp g with rfl|g
   ·exact D.symm
   ·obtain rfl:b=it:=by simpa using g
    obtain ⟨o,e1,_⟩:=Y;exact EA (y_ e1)
  rw [aq this];exact (G b g).1
 ·intro X t hw S r i pins s σ H E I G ⟨⟨J,f⟩,Y⟩ ⟨xs,F,O⟩;subst t hw S;obtain ⟨its,L,p,hz⟩:=I.list F;obtain ⟨N,n2⟩:=l f Y p.isList;have hl:=L.length;refine wpAny_pyNext_enum_endD (draws1 (A:=X.A.in1) (I.ok.hd r) N its.toArray) f ⟨i,by simp;omega,Y,p.isList⟩ fun h2 eb=>⟨rfl,I.Bx (t':=s.toks) (ch:=[e,it]) G fun b o g q=>eb b o (fun z=>g (by simp [z])) q⟩
section
variable {W:dZ} {a:Fe} 
theorem wm {M:Jl} {E:Vp} {J:List G2} {Q:Vp}
  (h:Cb M A (MF (EN pos (i_ [e] env))) (fun vs I=>Cb M A (evalAll ((GB pos (Fz J env)).map (·.2))) (fun kvs Y=>Cb M A (Hw (.type T) vs (((GB pos (Fz J env)).filterMap (·.1)).zip kvs)) Q E Y) E I) E s)
  (g:i_ [e] env=[(b_,Eu e env)]) (c:(GB pos (Fz J env)).all (·.1.isSome)=d_) (d:(GB pos (Fz J env)).any (·.1.isNone)=b_) :
  Cb M A (Kz pos (.type T) [] (EN pos (i_ [e] env)) (GB pos (Fz J env))) Q E s:=by
 have j:(EN pos (i_ [e] env)).any (·.1)=b_:=by rw [g];rfl
 have f:∃x,EN pos (i_ [e] env)=[(b_,x)]:=by rw [g];exact ⟨_,rfl⟩
 obtain ⟨x,f⟩:=f;unfold Kz;refine k_ (Ha (EV (Q:=fun a I=>Cb M A (Hw (.type T) ([]++a.pos) a.kw) Q E I) ?_ (fun a I b=>k_ (HB ?_)) fun _ _ z=>z))
 ·rw [f] at h ⊢;exact PyProof.Rows.evalArgs_kwB c h
 ·rw [j,d];exact k_ (A_ (k_ (EV b (fun r Y i=>k_ (Ha (wpAny_point (A_ i)))) fun _ _ z=>z)))
def D3 (K:Fg) (tl:TE):TI:=fun σ H R=>tl σ H fun x H1=>∃a,x=.ref a/\(∃xs,SqL K H1 a xs)/\R (Ite1 K a) H1
theorem pi_enum1 {k:Nat} {A n:M4} {j} {tl:TE} (F:Gl X "enumerate") (C:X.mg "enumerate"=c_) (D:PE X a tl) (g: ~~~(i_ [a] X.env=[(b_,Eu a X.env)])) :
  PI X (.Tuple elts k q) (.Call (.Name "enumerate" p) [a] [⟨a_ (h_ "start"),.Constant (.int 1) j n,A⟩] pos) (D3 X.K tl):=by
 intro pins s σ H R I h;have G:PA X [a] (aM tl dI):=au D aK g;refine FP (rA I F C boot_enumerate ?_);refine wm (thn (G pos pins s σ H (fun vs H1=>match vs with
  |[x]=>∃a,x=.ref a/\(∃xs,SqL X.K H1 a xs)/\R (Ite1 X.K a) H1
  |_=>False) I h) fun us o ⟨vs,H1,L,d,z⟩=>?_) g rfl rfl
 match vs,d,z with
 |[x],d,⟨l,e1,⟨xs,B⟩,q⟩=>
  subst e1;obtain ⟨u,rfl,r⟩:=d.one;cases r;refine kws_cons (thn (zu (X:=X) (i:=1) (j:=j) (pos:=n) pins o σ H1 (fun v H2=>v=.int 1/\H2=H1) L ⟨rfl,rfl⟩) fun w J ⟨y,H2,c,r2,e2,e3⟩=>kws_nil ?_);subst e2 e3;obtain ⟨t,rfl⟩:=(show ∃t,w=Hj 1 t from r2)
  obtain ⟨its,N,pl,O⟩:=c.list B;refine B9 pl.isList fun h2 m e E=>?_;have K:Inv X pins σ H2 {J with heap:=h2}:=c.kept (t':=J.toks) E;refine Mz m ⟨J.heap.objs.size+1,[J.heap.objs.size+1,J.heap.objs.size],_,_,H2,rfl,K,A9 l _ _ (Nat.succ_ne_self _),⟨⟨_,m⟩,e⟩,fun b f=>?_,q⟩;have Y:J.heap.objs.size<=b:=by
   rcases v_.mp f with rfl|f
   ·exact EK _
   ·obtain rfl:b=J.heap.objs.size:=by simpa using f
    exact u_ _
  exact c.fpOk Y (c.hok.fresh Y)
end
structure Cells (K:Fg) (F H:Hp) (xs:List e_) (ds:List Dat):Prop where
 fh:aF F H
 nd:xs.Nodup
 len:xs.length=ds.length
 own:∀(j:Nat) (x:e_) (d:Dat),xs[j]? =a_ x->ds[j]? =a_ d->isO d=d_/\lq K F (fun _=>c_) H d (.ref x)
structure lh (xs:List e_) (F H F' H':Hp):Prop where
 ff:aF F F'
 hh:∀b o,b∉xs->H b=a_ o->H' b=a_ o
 fh:aF F' H'
 nw:∀b o,F' b=a_ o->F b=a_ o\/H b=c_
section
variable {xs:List e_} {ds:List Dat}
theorem Step.toC (s:Step F H F' H'):lh xs F H F' H':=⟨s.ff,fun b o _ h=>s.hh b o h,s.fh,s.nw⟩
theorem lh.trans {F2 H2:Hp} (a:lh xs F H F' H') (b:lh xs F' H' F2 H2) (J:∀x∈xs,∃o,H' x=a_ o):lh xs F H F2 H2:=
 ⟨a.ff.trans b.ff,fun c o n h=>b.hh c o n (a.hh c o n h),b.fh,fun c o h=>(b.nw c o h).elim (fun z=>a.nw c o z) fun z=>.inr (by
  cases e:H c with
  |none=>rfl
  |some u=>
   by_cases I:c∈xs
   ·obtain ⟨o',Y⟩:=J c I;rw [Y] at z;cases z
   ·rw [a.hh c u I e] at z;cases z)⟩
theorem Cells.at (c:Cells K F H xs ds) {x:e_} (J:x∈xs):F x=c_/\∃o,H x=a_ o/\isMu o=d_:=by
 obtain ⟨j,I,rfl⟩:=II J;have hd:j<ds.length:=by rw [<- c.len];exact I
 obtain ⟨h1,h2⟩:=c.own j xs[j] ds[j] (Ez I) (Ez hd);obtain ⟨a,o,e,p,m,f,_⟩:=h2.top h1;cases e;exact ⟨f,o,p,m⟩
theorem Cells.step (c:Cells K F H xs ds) (s:Step F H F' H'):Cells K F' H' xs ds:=⟨s.fh,c.nd,c.len,fun j x d e1 e2=>by
 obtain ⟨h1,h2⟩:=c.own j x d e1 e2;obtain ⟨a,o,e,p,_,f,_⟩:=h2.top h1;cases e;exact ⟨h1,h2.re h1 s.ff (s.stays f p) fun o h=>s.hh _ _ h⟩⟩
theorem Cells.ff (c:Cells K F H xs ds):aF F (plus F H (·∈xs)):=fun b o h=>by
 by_cases I:b∈xs
 ·rw [(c.at I).1] at h;cases h
 ·rw [ck I];exact h
theorem Cells.zh (c:Cells K F H xs ds):aF (plus F H (·∈xs)) H:=fun b o h=>by
 by_cases I:b∈xs
 ·rw [iS I] at h;exact h
 ·rw [ck I] at h;exact c.fh b o h
theorem Cells.deep (c:Cells K F H xs ds) {j:Nat} {x:e_} {d:Dat} (e1:xs[j]? =a_ x) (e2:ds[j]? =a_ d):aR K (plus F H (·∈xs)) d (.ref x):=by
 obtain ⟨h1,h2⟩:=c.own j x d e1 e2;exact h2.give h1 c.ff (iS (ER e1))
theorem Cells.back (c:Cells K F H xs ds) (s:Step (plus F H (·∈xs)) H F' H'):Step F H (minus F' (·∈xs)) H':=by
 refine ⟨fun b o h=>?_,s.hh,fun b o h=>?_,fun b o h=>?_⟩
 ·by_cases I:b∈xs
  ·rw [(c.at I).1] at h;cases h
  ·rw [eB I];exact s.ff b o (by rw [ck I];exact h)
 ·by_cases I:b∈xs
  ·rw [om I] at h;cases h
  ·rw [eB I] at h;exact s.fh b o h
 ·by_cases I:b∈xs
  ·rw [om I] at h;cases h
  ·rw [eB I] at h;exact (s.nw b o h).elim (fun z=>by rw [ck I] at z;exact .inl z) .inr
theorem Cells.flat (c:Cells K F H xs ds) (s:Step (plus F H (·∈xs)) H F' H') {d:Dat} {v:V} (f:gZ d=d_) (q:aR K F' d v):aR K (minus F' (·∈xs)) d v:=by
 have key:∀{b:e_} {o:HO},F' b=a_ o->isMu o=b_->minus F' (·∈xs) b=a_ o:=fun {b o} h n=>by
  by_cases I:b∈xs
  ·obtain ⟨_,u,e,m⟩:=c.at I;have:=s.ff b u (by rw [iS I];exact e);rw [h] at this;cases this;rw [n] at m;cases m
  ·rw [eB I];exact h
 refine q.flat (fun a ys h=>?_) f;rcases h with (h|⟨o,h⟩)|h
 ·exact .inl (.inl (key h rfl))
 ·exact .inl (.inr ⟨o,key h rfl⟩)
 ·exact .inr h
theorem Cells.put (c:Cells K F H xs ds) {j:Nat} {x:e_} {u:HO} (e:xs[j]? =a_ x) (hd:isO d'=d_) (q:F x=c_->lq K F (fun _=>c_) (upd H x u) d' (.ref x)):Cells K F (upd H x u) xs (ds.set j d') where
 fh:=fun b o h=>by
  have:b≠x:=fun z=>by rw [z,(c.at (ER e)).1] at h;cases h
  rw [aq this];exact c.fh b o h
 nd:=c.nd
 len:=by rw [En,c.len]
 own:=fun i y d e1 e2=>by
  by_cases I:j=i
  ·subst I;rw [e] at e1;cases e1;have Y:j<ds.length:=by have:=(A1.mp e2).1;simpa using this
   rw [x_ Y] at e2;cases e2;exact ⟨hd,q (c.at (ER e)).1⟩
  ·rw [o_ I] at e2;obtain ⟨h1,h2⟩:=c.own i y d e1 e2;have J:y≠x:=fun z=>I ((LQ (A1.mp e).1 c.nd).mp (by rw [e,e1,z]));obtain ⟨a,o,g,p,_,f,_⟩:=h2.top h1;cases g;exact ⟨h1,h2.re h1 (aF.refl _) f fun o h=>by rw [aq J];exact h⟩
theorem Cells.lst (c:Cells K F H xs ds) {j:Nat} {x:e_} {es:List Dat} (e1:xs[j]? =a_ x) (e2:ds[j]? =a_ (.lst es)):∃ys,H x=a_ (.lst ys)/\ay K F es ys:=by
 obtain ⟨a,ys,I,p,_,_,q⟩:=(c.own j x _ e1 e2).2;cases I;exact ⟨ys,p,q⟩
theorem Cells.dic (c:Cells K F H xs ds) {j:Nat} {x:e_} {ks:List (List Int×Dat)} (e1:xs[j]? =a_ x) (e2:ds[j]? =a_ (.dic ks)):∃rs ep,H x=a_ (wA x rs ep)/\cJ K F ks rs:=by
 obtain ⟨a,rs,I,⟨ep,p⟩,_,_,q⟩:=(c.own j x _ e1 e2).2;cases I;exact ⟨rs,ep,p,q⟩
theorem Cells.app (c:Cells K F H xs ds) {j:Nat} {x:e_} {es:List Dat} {ys:List V} {d:Dat} (e1:xs[j]? =a_ x) (p:H x=a_ (.lst ys)) (q:ay K F es ys) (I:aR K F d v):Cells K F (upd H x (.lst (ys++[v]))) xs (ds.set j (.lst (es++[d]))):=
 c.put e1 rfl fun f=>⟨x,_,rfl,ao,f,rfl,q.append ⟨v,[],rfl,I,rfl⟩⟩
theorem Cells.updC (c:Cells K F H xs ds) {x:e_} (u:HO) (I:x∈xs):lh xs F H F (upd H x u):=
 ⟨aF.refl _,fun b o n h=>by rw [aq (fun z=>n (by rw [z];exact I))];exact h,fun b o h=>by
  have:b≠x:=fun z=>by rw [z,(c.at I).1] at h;cases h
  rw [aq this];exact c.fh b o h,fun _ _ h=>.inl h⟩
end
def eN (xs:List e_):List (p_×V):=(["kinds","gaps","beside","names","flights","closed"]:List p_).zip (xs.map V.ref)
structure Dr (K:Fg) (C:e_) (F H:Hp) (p dx:e_) (xs:List e_) (ds:List Dat):Prop where
 c:Cells K F H xs ds
 ob:H p=a_ (.ins C dx (eN xs))
 fp:F p=c_
 np:p∉xs
section
variable {p dx:e_} {xs:List e_} {ds:List Dat}
theorem Dr.step (d:Dr K C F H p dx xs ds) (s:Step F H F' H'):Dr K C F' H' p dx xs ds:=⟨d.c.step s,s.hh _ _ d.ob,s.stays d.fp d.ob,d.np⟩
theorem Dr.put (d:Dr K C F H p dx xs ds) {x:e_} {u:HO} (I:x∈xs) (c:Cells K F (upd H x u) xs ds'):Dr K C F (upd H x u) p dx xs ds':=
 ⟨c,by rw [aq (fun z=>d.np (by rw [z];exact I))];exact d.ob,d.fp,d.np⟩
end
def lG:Sp:=fun vs H Q _=>∃a v,vs=[.ref a,v]/\(v=.non->Q (.bl b_) H)/\(v≠.non->∃ys,H a=a_ (.lst ys)/\ys.length<g_/\Q (.bl d_) (upd H a (.lst (ys++[v]))))
theorem rs_told (h:lG vs H Q E) :
  dC (mx (tB (tIsN (bJ 1))) (qA (tC (.bl b_))) gq) (dC (qB (tBM K "list" iR (bJ 0) (aM (bJ 1) dI))) (qA (tC (.bl d_)))) {nx:=fun _ H'=>Q .non H',rt:=Q} (start ["kept","told"] vs) H:=by
 obtain ⟨a,v,rfl,h1,h2⟩:=h;refine ⟨v,rfl,_,rfl,?_⟩
 by_cases hv:v=.non
 ·rw [q_ hv];exact h1 hv
 ·obtain ⟨ys,I,J,h2⟩:=h2 hv;rw [j_ hv];exact ⟨.ref a,rfl,iQ I,v,rfl,a,ys,v,rfl,rfl,I,J,h2⟩
def wY (K:Fg) (mg:List Dat->M Dat):Sp:=fun vs H Q _=>∃(k g:e_) (vw:V) (F:Hp) (xs:List e_) (ds:List Dat) (a I:Nat) (Y J:Dat) (ks:List (List Int×Dat)),vs=[.ref k,.ref g,vw]/\Cells K F H xs ds/\xs[a]? =a_ k/\ds[a]? =a_ Y/\xs[I]? =a_ g/\ds[I]? =a_ (.dic ks)/\aR K F J vw /\
 ((mg [Y,J]=.ok .non/\∀F' H',Step F H F' H'->Q (.bl b_) H')\/∃i j v:Int,mg [Y,J]=.ok (.tup [.int i,.int j,.int v])/\ks.length<g_/\∀F' H' u,Step F H F' H'->Cells K F' (upd H' g u) xs (ds.set I (.dic (As ks [i,j] (.int v))))->Q (.bl d_) (upd H' g u))
abbrev fk3:ah->M Dat:=fL jc (aa (f2 ixD (ai 3) (fC (.int 0))) (aa (f2 ixD (ai 3) (fC (.int 1))) aH))
abbrev fv3:ah->M Dat:=f2 ixD (ai 3) (fC (.int 2))
theorem dB.only {d:Dat} (e:σ[i]? =a_ (a_ v)) (q:aR K F d v):dB K F σ ((Fv σ.length c_).set i (a_ d)):=
 ⟨by rw [En,FH],fun j d' h=>by
  by_cases I:i=j
  ·subst I;rw [x_ (by rw [FH];exact (A1.mp e).1)] at h;cases h;exact ⟨v,e,q⟩
  ·rw [o_ I,Ic] at h;split at h<;>cases h⟩
theorem rs_gap {mg:List Dat->M Dat} (h:wY K mg vs H Q E) :
  dC (qq (gz (spF K b_ mg 2) [] E' (aM (bJ 0) (aM (bJ 2) dI))) (bX 3)) (dC (mx (tB (tIsN (bJ 3))) (qA (tC (.bl b_))) gq) (dC (sPut K (bJ 1) (tD K Wno b_ fk3) (tD K Wno b_ fv3)) (qA (tC (.bl d_))))) {nx:=fun _ H'=>Q .non H',rt:=Q} (start ["kinds","gaps","words","told"] vs) H:=by
 obtain ⟨k,g,vw,F,xs,ds,N,O,G,D,ks,rfl,c,ek,z,n,hd,t,h⟩:=h;refine ⟨.ref k,rfl,vw,rfl,plus F H (·∈xs),[G,D],c.zh,⟨_,_,rfl,c.deep ek z,vw,_,rfl,t.mono c.ff,rfl⟩,rfl,?_⟩
 rcases h with ⟨e,h⟩|⟨i,j,v,e,y,h⟩
 ·rw [e];intro w F1 H1 I a;cases (show w=V.non from a);exact ⟨.non,rfl,_,rfl,h _ H1 (c.back I)⟩
 ·rw [e];intro w F1 H1 d a;have I:=c.back d;have m:aR K (minus F1 (·∈xs)) (.tup [.int i,.int j,.int v]) w:=c.flat d rfl a;obtain ⟨b,ys,rfl,_⟩:=id m;refine ⟨.ref b,rfl,_,rfl,?_⟩
  have l:dB K (minus F1 (·∈xs)) ([a_ (.ref k),a_ (.ref g),a_ vw,a_ (.ref b)]:St) [c_,c_,c_,a_ (.tup [.int i,.int j,.int v])]:=dB.only (i:=3) rfl m;refine ⟨_,_,l,I.fh,?_⟩
  show aC K Wno b_ _ H1 (.ok (.int v)) _;intro w2 F2 H2 J x;cases (show w2=V.int v from x);refine ⟨.ref g,rfl,F2,_,l.mono J.ff,J.fh,?_⟩
  have B:fk3 [c_,c_,c_,a_ (.tup [.int i,.int j,.int v])]=.ok (.tup [.int i,.int j]):=by
   show jc [.int i,.int j]=_;unfold jc;rw [f_ (by rw [Er];show 2<=16777216;decide)]
  rw [B];intro r p L s u;obtain ⟨b3,q,rfl,t3,_,_,rfl,e4,_,_,rfl,e5,C⟩:=(show aR K p (.tup [.int i,.int j]) r from u)
  cases e4;cases e5;cases C;have st:=(I.trans J).trans s;have o:=c.step st;obtain ⟨rs,ep,A,Y⟩:=o.dic n hd;exact ⟨g,b3,[i,j],rs,ep,rfl,rfl,A,Y.key.mono st.fh,st.fh.tup t3,by rw [Y.length];exact y,fun ep'=>h p L _ st (o.put n rfl fun f=>⟨g,_,rfl,⟨ep',ao⟩,f,rfl,Y.put (k:=[i,j]) t3 rfl⟩)⟩
def tTr (K:Fg) (ta:TE):TT:=fun σ H Q=>ta σ H fun x H'=>∃k,TruV K x H' k/\Q k H'
def qV (j:Nat) (ds:List Dat) (t:Dat):M (Bool×List Dat):=match t with
 |.non=>.ok (b_,ds)
 |t=>match ds[j]? with
  |some (.lst es)=>if (gZ t&&r_ (es.length<g_))=d_ then .ok (d_,ds.set j (.lst (es++[t]))) else stk
  |_=>stk
def Bh (j:Nat) (ds:List Dat) (t:Dat):M (Bool×List Dat):=match t with
 |.non=>.ok (b_,ds)
 |.tup [.int a,.int b,.int v]=>match ds[j]? with
  |some (.dic ks)=>if ks.length<g_ then .ok (d_,ds.set j (.dic (As ks [a,b] (.int v)))) else stk
  |_=>stk
 |_=>stk
def lB (mf:List Dat->M Dat) (ds ws:List Dat):M (Bool×List Dat):=match ds with
 |[.lst J,.dic Y,.dic c,.lst I,.lst a,.lst b]=>(mf [.lst J,.lst I,.lst ws]).bind fun t=>(qV 4 ds t).bind fun r=>if r.1=d_ then (ixD (.lst ws) (.int 1)).bind fun nm=>match nm with
  |.non=>stk
  |nm=>qV 3 r.2 nm
  else .ok r
 |_=>stk
def mv (t1 t2 t3 t4 t5:ah->M Bool) (t6:ah->M Dat) (mk mg ms mf:List Dat->M Dat) (ds ws:List Dat):M (Bool×List Dat):=match ds with
 |[.lst I,.dic a,.dic e,.lst Y,.lst c,.lst J]=>
  (t1 [c_,a_ (.lst ws)]).bind fun b=>if b=d_ then .ok (d_,ds) else
  (t2 [c_,a_ (.lst ws)]).bind fun b=>if b=d_ then (mk [.lst I,.lst ws]).bind (qV 0 ds) else
  (t3 [c_,a_ (.lst ws)]).bind fun b=>if b=d_ then (mg [.lst I,.lst ws]).bind (Bh 1 ds) else
  (t4 [c_,a_ (.lst ws)]).bind fun b=>if b=d_ then (mg [.lst I,.lst ws]).bind (Bh 2 ds) else
  (t5 [c_,a_ (.lst ws)]).bind fun b=>if b=d_ then (ms [.lst J,.lst ws]).bind (qV 5 ds) else
  (t6 [c_,a_ (.lst ws)]).bind fun d=>match d with
   |.bl d_=>lB mf ds ws
   |.bl b_=>.ok (b_,ds)
   |_=>stk
 |_=>stk
theorem bind_eq {I:Type} {x:M α} {f:α->M I} {r:I} (h:x.bind f=.ok r):∃a,x=.ok a/\f a=.ok r:=by
 cases x with
 |error e=>cases h
 |ok a=>exact ⟨a,rfl,h⟩
theorem aR.nn {t:Dat} (q:aR K F t v):v=.non↔t=.non:=by
 cases t with
 |non=>exact ⟨fun _=>rfl,fun _=>q⟩
 |bl b=>cases (show v=.bl b from q);exact ⟨fun h=>(nomatch h),fun h=>(nomatch h)⟩
 |int b=>cases (show v=.int b from q);exact ⟨fun h=>(nomatch h),fun h=>(nomatch h)⟩
 |str b=>cases (show v=.str b from q);exact ⟨fun h=>(nomatch h),fun h=>(nomatch h)⟩
 |tup _=>obtain ⟨a,_,rfl,_⟩:=q;exact ⟨fun h=>(nomatch h),fun h=>(nomatch h)⟩
 |lst _=>obtain ⟨a,_,rfl,_⟩:=q;exact ⟨fun h=>(nomatch h),fun h=>(nomatch h)⟩
 |ins _ _=>obtain ⟨a,_,_,rfl,_⟩:=q;exact ⟨fun h=>(nomatch h),fun h=>(nomatch h)⟩
 |dic _=>obtain ⟨a,_,rfl,_⟩:=q;exact ⟨fun h=>(nomatch h),fun h=>(nomatch h)⟩
 |dil _=>obtain ⟨a,_,rfl,_⟩:=q;exact ⟨fun h=>(nomatch h),fun h=>(nomatch h)⟩
theorem ma {j:Nat} {ds:List Dat} {t:Dat} (n:t≠.non) (h:qV j ds t=.ok r):∃es,ds[j]? =a_ (.lst es)/\gZ t=d_/\es.length<g_/\r=(d_,ds.set j (.lst (es++[t]))):=by
 have h:(match ds[j]? with
  |some (.lst es)=>if (gZ t&&r_ (es.length<g_))=d_ then .ok (d_,ds.set j (.lst (es++[t]))) else stk
  |_=>stk:M (Bool×List Dat))=.ok r:=by
  cases t<;>first|exact Ek rfl n|exact h
 split at h
 ·rename_i es J;split at h
  ·rename_i I;rw [n_,Et] at I;cases h;exact ⟨es,J,I.1,I.2,rfl⟩
  ·cases h
 ·cases h
theorem dF0 {k g n c:e_}:(eN [k,g,b,n,f,c]).lookup ("kinds":p_)=a_ (V.ref k):=by with_unfolding_all rfl
theorem dF1 {k g n c:e_}:(eN [k,g,b,n,f,c]).lookup ("gaps":p_)=a_ (V.ref g):=by with_unfolding_all rfl
theorem dF2 {k g n c:e_}:(eN [k,g,b,n,f,c]).lookup ("beside":p_)=a_ (V.ref b):=by with_unfolding_all rfl
theorem dF3 {k g n c:e_}:(eN [k,g,b,n,f,c]).lookup ("names":p_)=a_ (V.ref n):=by with_unfolding_all rfl
theorem dF4 {k g n c:e_}:(eN [k,g,b,n,f,c]).lookup ("flights":p_)=a_ (V.ref f):=by with_unfolding_all rfl
theorem dF5 {k g n c:e_}:(eN [k,g,b,n,f,c]).lookup ("closed":p_)=a_ (V.ref c):=by with_unfolding_all rfl
section
variable {p dx:e_} {xs:List e_} {ds:List Dat} 
def Ef (K:Fg) (C:e_) (F H:Hp) (p dx:e_) (xs:List e_) (r:Bool×List Dat) (Q:VK):Prop:=∀F' H',lh xs F H F' H'->Dr K C F' H' p dx xs r.2->Q (.bl r.1) H'
theorem Dr.ex (d:Dr K C F H p dx xs ds):∀x∈xs,∃o,H x=a_ o:=fun _ I=>let ⟨_,o,h,_⟩:=d.c.at I;⟨o,h⟩
theorem Ef.step {r:Bool×List Dat} (f:Ef K C F H p dx xs r Q) (d:Dr K C F H p dx xs ds) (s:Step F H F' H'):Ef K C F' H' p dx xs r Q:=fun F2 H2 I d2=>f F2 H2 (s.toC.trans I (d.step s).ex) d2
theorem Dr.tell (d:Dr K C F H p dx xs ds) {j:Nat} {x:e_} {t:Dat} (E:XK) (ex:xs[j]? =a_ x) (q:aR K F t v) (e:qV j ds t=.ok r) (I:Ef K C F H p dx xs r Q):lG [.ref x,v] H Q E:=by
 refine ⟨x,v,rfl,fun hv=>?_,fun hv=>?_⟩
 ·cases q.nn.mp hv;cases e;exact I F H ⟨aF.refl _,fun _ _ _ h=>h,d.c.fh,fun _ _ h=>.inl h⟩ d
 ·obtain ⟨es,c,f,b,rfl⟩:=ma (fun z=>hv (q.nn.mpr z)) e;obtain ⟨ys,Y,J⟩:=d.c.lst ex c;have a:=ER ex;exact ⟨ys,Y,by rw [J.length];exact b,I F _ (d.c.updC _ a) (d.put a (d.c.app ex Y J q))⟩
variable {mg:List Dat->M Dat} 
theorem Dr.len6 {J I a e:List Dat} {Y h:List (List Int×Dat)} (d:Dr K C F H p dx xs [.lst J,.dic Y,.dic h,.lst I,.lst a,.lst e]):∃k g b n f c,xs=[k,g,b,n,f,c]:=by
 have:=d.c.len
 match xs,this with
 |[k,g,b,n,f,c],_=>exact ⟨k,g,b,n,f,c,rfl⟩
theorem z9 {fx I:p_} {j jy:Nat} {x y:e_} {Y:Dat} (d:Dr K C F H p dx xs ds) (f:Cls K C) (l:b9 K C fx) (k:b9 K C I) (c:σ[0]? =a_ (a_ (.ref p))) (h1:σ[1]? =a_ (a_ vw)) (g:aR K F (.lst ws) vw)
  (n:(eN xs).lookup fx=a_ (.ref x)) (m:(eN xs).lookup I=a_ (.ref y)) (ex:xs[j]? =a_ x) (q:xs[jy]? =a_ y) (o:ds[jy]? =a_ Y) (e:(mk [Y,.lst ws]).bind (qV j ds)=.ok r) (J:Ef K C F H p dx xs r Q) :
  gz lG [] E1 (aM (sj K (bJ 0) fx) (aM (gz (spF K b_ mk 2) [] E2 (aM (sj K (bJ 0) I) (aM (bJ 1) dI))) dI)) σ H Q:=by
 obtain ⟨t,s,e⟩:=bind_eq e;refine ⟨.ref p,c,p,C,dx,_,_,rfl,d.ob,f,l,n,?_⟩
 refine ⟨.ref p,c,p,C,dx,_,_,rfl,d.ob,f,k,m,?_⟩
 refine ⟨vw,h1,plus F H (·∈xs),[Y,.lst ws],d.c.zh,⟨_,_,rfl,d.c.deep q o,_,_,rfl,g.mono d.c.ff,rfl⟩,rfl,?_⟩
 rw [s];intro v F1 H1 a i;have S:=d.c.back a;have h:aR K (minus F1 (·∈xs)) t v:=d.c.flat a (by
  by_cases b:t=.non
  ·rw [b];rfl
  ·exact (ma b e).choose_spec.2.1) i
 exact (d.step S).tell E1 ex h e (J.step d S)
theorem rs_putD2 {fx:p_} {j:Nat} {x k:e_} {J:Dat} (d:Dr K C F H p dx xs ds) (g:Cls K C) (i:b9 K C fx) (m:b9 K C "kinds") (c:σ[0]? =a_ (a_ (.ref p))) (h1:σ[1]? =a_ (a_ vw)) (h:aR K F (.lst ws) vw)
  (o:(eN xs).lookup ("kinds":p_)=a_ (V.ref k)) (n:(eN xs).lookup fx=a_ (.ref x)) (ek:xs[0]? =a_ k) (w:ds[0]? =a_ J) (ex:xs[j]? =a_ x) (hd:ds[j]? =a_ (.dic ks)) (e:(mg [J,.lst ws]).bind (Bh j ds)=.ok r) (I:Ef K C F H p dx xs r Q) :
  gz (wY K mg) [] E1 (aM (sj K (bJ 0) "kinds") (aM (sj K (bJ 0) fx) (aM (bJ 1) dI))) σ H Q:=by
 obtain ⟨t,f,e⟩:=bind_eq e;refine ⟨.ref p,c,p,C,dx,_,_,rfl,d.ob,g,m,o,?_⟩
 refine ⟨.ref p,c,p,C,dx,_,_,rfl,d.ob,g,i,n,?_⟩
 refine ⟨vw,h1,k,x,vw,F,xs,ds,0,j,J,.lst ws,ks,rfl,d.c,ek,w,ex,hd,h,?_⟩
 have Y:=ER ex;cases t with
 |non=>
  cases e;exact .inl ⟨f,fun F1 H1 s=>I _ H1 s.toC (d.step s)⟩
 |tup l=>
  unfold Bh at e;split at e
  ·rename_i hh;cases hh
  ·rename_i a b v hh;cases hh;rw [hd] at e;dsimp only at e;split at e
   rotate_left
   ·cases e
   rename_i q;cases e;exact .inr ⟨a,b,v,f,q,fun F1 H1 u S y=>I _ _ (S.toC.trans ((d.step S).c.updC u Y) (d.step S).ex) ((d.step S).put Y y)⟩
  ·cases e
 |_=>cases e
def sm (K:Fg) (C:e_) (mr:List Dat->List Dat->M (Bool×List Dat)):Sp:=fun vs H Q _=>∃(p dx:e_) (xs:List e_) (F:Hp) (ds ws:List Dat) (vw:V) (r:Bool×List Dat),vs=[.ref p,vw]/\Dr K C F H p dx xs ds/\aR K F (.lst ws) vw/\mr ds ws=.ok r/\Ef K C F H p dx xs r Q
theorem BY (o:Cls K C) (l:∀y∈(["kinds","gaps","beside","names","flights","closed"]:List p_),b9 K C y) (h:sm K C (lB mf) vs H Q E) :
  dC (mx (tNot (tTr K (gz lG [] E1 (aM (sj K (bJ 0) "flights") (aM (gz (spF K b_ mf 3) [] E2 (aM (sj K (bJ 0) "kinds") (aM (sj K (bJ 0) "names") (aM (bJ 1) dI)))) dI))))) (qA (tC (.bl b_))) gq)
   (dC (qB (tBM K "list" iR (sj K (bJ 0) "names") (aM (tD K Wno b_ (f2 ixD (ai 1) (fC (.int 1)))) dI))) (qA (tC (.bl d_)))) {nx:=fun _ H'=>Q .non H',rt:=Q} (start ["draft","words"] vs) H:=by
 obtain ⟨p,dx,xs,F,ds,ws,vw,r,rfl,d,L,e,a⟩:=h;unfold lB at e;split at e
 rotate_left
 ·cases e
 rename_i dk dg db dn df dc;obtain ⟨k,g,b,n,f,c,rfl⟩:=d.len6;obtain ⟨t,W,e⟩:=bind_eq e;obtain ⟨q,e1,e⟩:=bind_eq e;refine ⟨.ref p,rfl,p,C,dx,_,_,rfl,d.ob,o,(l _ (by simp)),dF4,?_⟩
 refine ⟨.ref p,rfl,p,C,dx,_,_,rfl,d.ob,o,(l _ (by simp)),dF0,?_⟩
 refine ⟨.ref p,rfl,p,C,dx,_,_,rfl,d.ob,o,(l _ (by simp)),dF3,?_⟩
 refine ⟨vw,rfl,plus F H (·∈[k,g,b,n,f,c]),[.lst dk,.lst dn,.lst ws],d.c.zh,⟨_,_,rfl,d.c.deep (j:=0) rfl rfl,_,_,rfl,d.c.deep (j:=3) rfl rfl,_,_,rfl,L.mono d.c.ff,rfl⟩,rfl,?_⟩
 rw [W];intro v F1 H1 G T;have S:=d.c.back G;have R:aR K (minus F1 (·∈[k,g,b,n,f,c])) t v:=d.c.flat G (by
  by_cases I:t=.non
  ·rw [I];rfl
  ·exact (ma I e1).choose_spec.2.1) T
 have d1:=d.step S;unfold dI;dsimp only [];show lG [V.ref f,v] H1 _ E1;refine d1.tell E1 (j:=4) rfl R e1 (fun F2 H2 D d2=>?_);refine ⟨q.1,rfl,?_⟩
 cases u:q.1 with
 |false=>
  rw [u,m_ (by decide)] at e;cases e;have:=a F2 H2 (S.toC.trans D d1.ex) d2;rw [u] at this;exact this
 |true=>
  rw [u,f_ rfl] at e;obtain ⟨nm,Z,e⟩:=bind_eq e;have Y:nm≠.non:=fun z=>by rw [z] at e;cases e
  have e:qV 3 q.2 nm=.ok r:=by cases nm<;>first|exact Ek rfl Y|exact e
  obtain ⟨X,B,U,A,rfl⟩:=ma Y e;obtain ⟨ys,I,N⟩:=d2.c.lst (j:=3) (x:=n) rfl B;refine ⟨.ref p,rfl,p,C,dx,_,_,rfl,d2.ob,o,(l _ (by simp)),dF3,?_⟩
  have s:=(L.mono S.ff).mono D.ff;refine ⟨iQ I,F2,[c_,a_ (.lst ws)],dB.only (σ:=[a_ (.ref p),a_ vw]) (i:=1) rfl s,d2.c.fh,?_⟩
  rw [show f2 ixD (ai 1) (fC (.int 1)) [c_,a_ (.lst ws)]=.ok nm from Z];intro w F3 H3 J P;have m:=d2.step J;have O:n∈[k,g,b,n,f,c]:=by simp
  refine ⟨n,ys,w,rfl,rfl,J.hh _ _ I,by rw [N.length];exact A,?_⟩
  exact a F3 _ (((S.toC.trans D d1.ex).trans J.toC d2.ex).trans (m.c.updC _ O) m.ex) (m.put O (m.c.app (j:=3) rfl (J.hh _ _ I) (N.mono J.ff) P))
end
section
variable {p dx:e_} {xs:List e_} {ds:List Dat} {mg ms:List Dat->M Dat} {E4 E5 E6 E7:XK} 
theorem Dr.ask (d:Dr K C F H p dx xs ds) (c:aR K F (.lst ws) vw) {t:ah->M Bool} {f:Bool->M (Bool×List Dat)} (e:(t [c_,a_ (.lst ws)]).bind f=.ok r) (J:Ef K C F H p dx xs r Q) {T:TS} {D:Ends}
  (a:∀F1 H1,Dr K C F1 H1 p dx xs ds->aR K F1 (.lst ws) vw->Ef K C F1 H1 p dx xs r Q->f d_=.ok r->T D [a_ (.ref p),a_ vw] H1)
  (j:∀F1 H1,Dr K C F1 H1 p dx xs ds->aR K F1 (.lst ws) vw->Ef K C F1 H1 p dx xs r Q->f b_=.ok r->U D [a_ (.ref p),a_ vw] H1):mx (tDT K Wno t) T U D [a_ (.ref p),a_ vw] H:=by
 obtain ⟨b,g,e⟩:=bind_eq e;refine gM (dB.only (σ:=[a_ (.ref p),a_ vw]) (i:=1) rfl c) d.c.fh (fun k h=>?_) fun l Y F1 H1 I=>?_
 ·have h:t [c_,a_ (.lst ws)]=.error k:=h;rw [g] at h;cases h
 ·have Y:t [c_,a_ (.lst ws)]=.ok l:=Y;rw [g] at Y;cases Y;cases b with
  |true=>exact a F1 H1 (d.step I) (c.mono I.ff) (J.step d I) e
  |false=>exact j F1 H1 (d.step I) (c.mono I.ff) (J.step d I) e
theorem rs_row {t6:ah->M Dat} (w:Cls K C) (J:∀y∈(["kinds","gaps","beside","names","flights","closed"]:List p_),b9 K C y) (h:sm K C (mv t1 t2 t3 t4 t5 t6 mk mg ms mf) vs H Q E) :
  dC (mx (tDT K Wno t1) (qA (tC (.bl d_))) gq)
  (dC (mx (tDT K Wno t2) (qA (gz lG [] E1 (aM (sj K (bJ 0) "kinds") (aM (gz (spF K b_ mk 2) [] E2 (aM (sj K (bJ 0) "kinds") (aM (bJ 1) dI))) dI)))) gq)
  (dC (mx (tDT K Wno t3) (qA (gz (wY K mg) [] E3 (aM (sj K (bJ 0) "kinds") (aM (sj K (bJ 0) "gaps") (aM (bJ 1) dI))))) gq)
  (dC (mx (tDT K Wno t4) (qA (gz (wY K mg) [] E4 (aM (sj K (bJ 0) "kinds") (aM (sj K (bJ 0) "beside") (aM (bJ 1) dI))))) gq)
  (dC (mx (tDT K Wno t5) (qA (gz lG [] E5 (aM (sj K (bJ 0) "closed") (aM (gz (spF K b_ ms 2) [] E6 (aM (sj K (bJ 0) "closed") (aM (bJ 1) dI))) dI)))) gq)
   (qA (tAndV (tD K Wno b_ t6) (gz (sm K C (lB mf)) [] E7 (aM (bJ 0) (aM (bJ 1) dI))))))))) {nx:=fun _ H'=>Q .non H',rt:=Q} (start ["draft","words"] vs) H:=by
 obtain ⟨p,dx,xs,F,ds,ws,vw,r,rfl,d,B,e,I⟩:=h;unfold mv at e;split at e
 rotate_left
 ·cases e
 rename_i l o u m s t;obtain ⟨k,g,b,n,f,c,rfl⟩:=d.len6;refine d.ask B e I (fun F1 H1 d q I e=>?_) (fun F1 H1 d q I e=>?_)
 ·cases e;exact I F1 H1 ⟨aF.refl _,fun _ _ _ h=>h,d.c.fh,fun _ _ h=>.inl h⟩ d
 refine d.ask q e I (fun F1 H1 d q I e=>?_) (fun F1 H1 d q I e=>?_)
 ·exact z9 d w (J _ (by simp)) (J _ (by simp)) rfl rfl q dF0 dF0 (j:=0) rfl (jy:=0) rfl rfl e I
 have z:∀{j:Nat} {fx:p_} {x:e_} {ks:List (List Int×Dat)} {E':XK} {F1 H1:Hp},Dr K C F1 H1 p dx [k,g,b,n,f,c] [.lst l,.dic o,.dic u,.lst m,.lst s,.lst t]->aR K F1 (.lst ws) vw->Ef K C F1 H1 p dx [k,g,b,n,f,c] r Q->(mg [.lst l,.lst ws]).bind (Bh j [.lst l,.dic o,.dic u,.lst m,.lst s,.lst t])=.ok r->b9 K C fx->(eN [k,g,b,n,f,c]).lookup fx=a_ (V.ref x)->[k,g,b,n,f,c][j]? =a_ x->([.lst l,.dic o,.dic u,.lst m,.lst s,.lst t]:List Dat)[j]? =a_ (.dic ks) ->
   gz (wY K mg) [] E' (aM (sj K (bJ 0) "kinds") (aM (sj K (bJ 0) fx) (aM (bJ 1) dI))) [a_ (.ref p),a_ vw] H1 Q:=fun {j fx x ks E' F1 H1} d q I e nx D ex hd=>rs_putD2 d w nx (J _ (by simp)) rfl rfl q dF0 D rfl rfl ex hd e I
 refine d.ask q e I (fun F1 H1 d q I e=>?_) (fun F1 H1 d q I e=>?_)
 ·exact z (j:=1) d q I e (J _ (by simp)) dF1 rfl rfl
 refine d.ask q e I (fun F1 H1 d q I e=>?_) (fun F1 H1 d q I e=>?_)
 ·exact z (j:=2) d q I e (J _ (by simp)) dF2 rfl rfl
 refine d.ask q e I (fun F1 H1 d q I e=>?_) (fun F1 H1 d q I e=>?_)
 ·exact z9 d w (J _ (by simp)) (J _ (by simp)) rfl rfl q dF5 dF5 (j:=5) rfl (jy:=5) rfl rfl e I
 obtain ⟨dd,A,e⟩:=bind_eq e;refine aO (dB.only (σ:=[a_ (.ref p),a_ vw]) (i:=1) rfl q) d.c.fh (fun G h=>?_) fun d' hd v F1 H1 Y a=>?_
 ·have h:t6 [c_,a_ (.lst ws)]=.error G:=h;rw [A] at h;cases h
 ·have hd:t6 [c_,a_ (.lst ws)]=.ok d':=hd;rw [A] at hd;cases hd
  match dd,e,a with
  |.bl d_,e,a=>
   cases (show v=V.bl d_ from a);exact ⟨d_,rfl,.ref p,rfl,vw,rfl,p,dx,_,F1,_,ws,vw,r,rfl,d.step Y,q.mono Y.ff,e,I.step d Y⟩
  |.bl b_,e,a=>
   cases (show v=V.bl b_ from a);cases e;exact ⟨b_,rfl,I F1 H1 Y.toC (d.step Y)⟩
end
def spID (C:e_):Sp:=fun vs H Q _=>∃(p dx:e_),vs=[.ref p]/\H p=a_ (.ins C dx [])/\∀(k g b n f c:e_) (H':Hp),(∀m o,H m=a_ o->m≠p->H' m=a_ o)->(∀x∈[k,g,b,n,f,c],H x=c_)->[k,g,b,n,f,c].Nodup ->
 H' k=a_ (.lst [])->H' g=a_ (wA g [] 0)->H' b=a_ (wA b [] 0)->H' n=a_ (.lst [])->H' f=a_ (.lst [])->H' c=a_ (.lst [])->H' p=a_ (.ins C dx (eN [k,g,b,n,f,c]))->Q .non H'
section
variable {p dx:e_} {fs:List (p_×V)} {f:p_} {D:Ends} 
theorem Cu.cell (c:Cu F H Hc p C dx fs) (n:Cls K C) (d:b9 K C f) (g:f∉fs.map (·.1)) (j:fs.length<1000) (k:σ[0]? =a_ (a_ (.ref p))) {o:HO} (J:Hc l=c_)
  (I:∀Y,Cu F H Y p C dx (fs++[(f,.ref l)])->H l=c_->Y l=a_ o->(∀m u,Hc m=a_ u->m≠p->Y m=a_ u)->D.nx σ Y):(bJ 0) σ (upd Hc l o) fun x H2=>∃a C dx fs,x=.ref a/\H2 a=a_ (.ins C dx fs)/\Cls K C/\b9 K C f/\fs.length<1000/\D.nx σ (upd H2 a (.ins C dx (rl f (.ref l) fs))):=by
 refine ⟨.ref p,k,p,C,dx,fs,rfl,(c.lay J).ob,n,d,j,?_⟩
 rw [lK f _ fs g];have b:l≠p:=fun z=>by have h:=c.ob;rw [<- z,J] at h;cases h
 refine I _ ((c.lay J).put f (.ref l)) (c.new J) (by rw [aq b,ao]) fun m u e i=>?_
 have:m≠l:=fun z=>by rw [z,J] at e;cases e
 rw [aq i,aq this];exact e
end
theorem rs_initD (a:Cls K C) (Y:∀y∈(["kinds","gaps","beside","names","flights","closed"]:List p_),b9 K C y) (h:spID C vs H Q E) :
  dC (yY K (bJ 0) (yR dI) "kinds") (dC (yY K (bJ 0) tNewK "gaps") (dC (yY K (bJ 0) tNewK "beside") (dC (yY K (bJ 0) (yR dI) "names") (dC (yY K (bJ 0) (yR dI) "flights") (yY K (bJ 0) (yR dI) "closed"))))) {nx:=fun _ H'=>Q .non H',rt:=Q} (start ["self"] vs) H:=by
 obtain ⟨p,dx,rfl,D,q⟩:=h;have C0:Cu (fun _=>c_) H H p C dx []:=⟨rfl,fun _ _ h=>(nomatch h),fun _ _ e _=>e,D⟩
 have l:(0:Nat)<=g_:=FX _;refine ⟨l,fun k Z=>C0.cell a (Y _ (by simp)) (by simp) (by simp) rfl Z fun H1 C1 d a1 k1=>?_⟩
 refine fun g A=>C1.cell a (Y _ (by simp)) (by show ("gaps":p_)∉(["kinds"]:List p_);decide +kernel) (by simp) rfl A fun H2 C2 m U k2=>?_;refine fun b t=>C2.cell a (Y _ (by simp)) (by show ("beside":p_)∉(["kinds","gaps"]:List p_);decide +kernel) (by simp) rfl t fun H3 C3 s T k3=>?_;refine ⟨l,fun n r=>C3.cell a (Y _ (by simp)) (by show ("names":p_)∉(["kinds","gaps","beside"]:List p_);decide +kernel) (by simp) rfl r fun H4 C4 w S u=>?_⟩
 refine ⟨l,fun f i=>C4.cell a (Y _ (by simp)) (by show ("flights":p_)∉(["kinds","gaps","beside","names"]:List p_);decide +kernel) (by simp) rfl i fun H5 C5 X R k5=>?_⟩
 refine ⟨l,fun c J=>C5.cell a (Y _ (by simp)) (by show ("closed":p_)∉(["kinds","gaps","beside","names","flights"]:List p_);decide +kernel) (by simp) rfl J fun H6 W o6 a6 j=>?_⟩
 have np:∀{x:e_},H x=c_->x≠p:=fun {x} h z=>by rw [z,D] at h;cases h
 have b1:=k2 _ _ a1 (np d);have b2:=k3 _ _ b1 (np d);have b3:=u _ _ b2 (np d);have P:=k5 _ _ b3 (np d);have g2:=k3 _ _ U (np m);have G:=u _ _ g2 (np m);have F:=k5 _ _ G (np m);have O:=u _ _ T (np s);have N:=k5 _ _ O (np s);have L:=k5 _ _ S (np w);have I:∀{x y:e_} {v:Hp} {o:HO},v x=a_ o->v y=c_->x≠y:=fun {x y v o} h1 h2 z=>by rw [z,h2] at h1;cases h1
 refine q k g b n f c H6 W.kp (fun x B=>?_) ?_ (j _ _ P (np d)) (j _ _ F (np m)) (j _ _ N (np s)) (j _ _ L (np w)) (j _ _ R (np X)) a6 W.ob
 ·simp only [v_,EO,G1] at B;rcases B with rfl|rfl|rfl|rfl|rfl|rfl<;>assumption
 ·simp only [G4,v_,EO,G1,Ku,not_false_eq_true,Iz,and_true];exact ⟨⟨I a1 A,I b1 t,I b2 r,I b3 i,I P J⟩,⟨I U t,I g2 r,I G i,I F J⟩,⟨I T r,I O i,I N J⟩,⟨I S i,I L J⟩,I R J⟩
def drD (C:e_) (ds:List Dat):Dat:=.ins C ((["kinds","gaps","beside","names","flights","closed"]:List p_).zip ds)
noncomputable def ds0:List Dat:=[.lst [],.dic [],.dic [],.lst [],.lst [],.lst []]
section
variable {p dx:e_} {xs:List e_} {ds:List Dat}
theorem Dr.frz (d:Dr K C F H p dx xs ds) (n:xs.length=6) (st:Step F0 H0 F H) (l:∀x∈p::xs,H0 x=c_):∃G,Step F0 H0 G H/\aF F G/\aR K G (drD C ds) (.ref p):=by
 have J:∀b,(b=p\/b∈xs)->F b=c_:=fun b h=>h.elim (fun z=>by rw [z];exact d.fp) fun z=>(d.c.at z).1;have c:aF F (plus F H fun b=>b=p\/b∈xs):=fun b o h=>by
  by_cases I:b=p\/b∈xs
  ·rw [J b I] at h;cases h
  ·rw [ck I];exact h
 refine ⟨plus F H fun b=>b=p\/b∈xs,⟨st.ff.trans c,st.hh,fun b o h=>?_,fun b o h=>?_⟩,c,p,dx,eN xs,rfl,by rw [iS (.inl rfl)];exact d.ob,?_⟩
 ·by_cases I:b=p\/b∈xs
  ·rw [iS I] at h;exact h
  ·rw [ck I] at h;exact st.fh b o h
 ·by_cases I:b=p\/b∈xs
  ·exact .inr (l b (I.elim (fun z=>by rw [z];exact EB ..) fun z=>C_ _ z))
  ·rw [ck I] at h;exact st.nw b o h
 ·have:∀(ns:List p_) (ys:List e_) (es:List Dat),ys.length=es.length->(∀(j:Nat) y e,ys[j]? =a_ y->es[j]? =a_ e->aR K (plus F H fun b=>b=p\/b∈xs) e (.ref y))->iO K (plus F H fun b=>b=p\/b∈xs) (ns.zip es) (ns.zip (ys.map V.ref)):=by
   intro ns
   induction ns with
   |nil=>intro _ _ _ _;rfl
   |cons a ns k=>
    intro ys es Y q
    match ys,es,Y with
    |[],[],_=>rfl
    |y::ys,e::es,Y=>exact ⟨.ref y,_,rfl,q 0 y e rfl rfl,k ys es (by simpa using Y) fun j f m h1 h2=>q (j+1) f m (by simpa using h1) (by simpa using h2)⟩
  refine this _ xs ds d.c.len fun j y e h1 h2=>?_;obtain ⟨i,g⟩:=d.c.own j y e h1 h2;exact g.give i c (iS (.inr (ER h1)))
end
def eqE:Dat->Dat->M Dat
 |.dic ks,.dic []=>.ok (.bl ks.isEmpty)
 |a,b=>eqM a b
@[simp] theorem e_eqE (ks:List (List Int×Dat)):eqE (.dic ks) (.dic [])=.ok (.bl ks.isEmpty):=id rfl
theorem eq_dicE {E:Vp} {Q:Vp} {xs:List mj} (d:mW s.heap a xs ep) (c:mW s.heap b [] ep') (J:A.units<FK) (h:Q (.bool xs.isEmpty) s):Cb (Eg prog w) A (Es .Eq (.ref a) (.ref b)) Q E s:=by
 cases xs with
 |nil=>
  obtain ⟨l,d1⟩:=Du (P:=prog) (w:=w) d;obtain ⟨n2,d2⟩:=Du (P:=prog) (w:=w) c;exact LL l n2 d1 d2 J (fun _=>.nil) h
 |cons x xs=>
  obtain ⟨vs,e,k,_,_,i,es,h1,h2,n,m⟩:=d;obtain ⟨us,f,j,_,_,g,fs,Y,g2,p,o⟩:=c;have ta:s.TypeIs (.ref a) "dict":=⟨i,h1,h2.1⟩
  have tb:s.TypeIs (.ref b) "dict":=⟨g,Y,g2.1⟩
  have I:es.size≠fs.size:=by
   have e1:es.size=vs.length:=by rw [<- Fs,m,t_]
   have e2:fs.size=us.length:=by rw [<- Fs,o,t_]
   have e3:=e.length;have e4:=f.length;rw [e1,e2,<- e3,<- e4];simp
  refine Km (op:=.Eq) ta tb Hk (JP Hk ta J8 ?_ (JX _ _)) J;refine (show Cb _ _ (GP "__eq__" ⟨[.ref a,.ref b],[]⟩ >>= _) _ _ s from k_ (by
   unfold GP;refine k_ (LR ta (show Cb _ _ (FF (D_ a,D_ b)) _ _ s from A_ (k_ (MZ (T:="dict") tb J7 ?_))));simp only [Kb,IU,K3];refine k_ (A_ (k_ (A_ (k_ ?_))));unfold Jn Ju;rw [m_ (by rw [k];decide),m_ (by rw [j];decide)];refine k_ (A_ (k_ (A_ (k_ (Ij h1 n (k_ (Ij Y p ?_)))))));rw [f_ (by simpa using I)];refine k_ (wpAny_rule (A_ (A_ ⟨_,rfl,(fun x=>nomatch x),?_⟩)));simpa using h))
section
variable {W:dZ} {own:Bool}
theorem o_eqE (j:X.A.units+64<FK) (k: ~~~(X.K=K)):Op2 K W own X (Es .Eq) eqE:=by
 intro pins s σ H x y v u Q I c Y h;obtain ⟨F,a,b,J,f,d,p⟩:=h;by_cases g:∃ks,a=.dic ks/\b=.dic []
 ·obtain ⟨ks,rfl,rfl⟩:=g;obtain ⟨o,xs,rfl,⟨m,h1⟩,i⟩:=f;obtain ⟨n,ys,rfl,⟨l,h2⟩,r2⟩:=d;cases c;cases Y;cases (show ys=[] from r2);have e:xs.isEmpty=ks.isEmpty:=by
   have:=i.length;cases xs<;>cases ks<;>simp_all
  refine eq_dicE (zT I (J _ _ h1)) (zT I (J _ _ h2)) (by omega) ⟨.bl _,H,I,rfl,?_⟩;rw [e];exact p (.bl _) F H (Step.refl J) (by cases own<;>rfl)
 ·have e:eqE a b=eqM a b:=by
   unfold eqE;split
   ·rename_i ks;exact Ek ⟨ks,rfl,rfl⟩ g
   ·rfl
  rw [e] at p;exact oi j k pins s σ H x y v u Q I c Y ⟨F,a,b,J,f,d,p⟩
end
section
variable {base:EY} {k:Nat} 
def YR (_:∃f fd,Def K mg x st ps f fd) (P:Fp) (w:Fu) (base:EY) (k:Nat) (sp:Sp):Prop:=∃f fd,Yd P w K mg base CX0 k x st ps sp f fd
theorem fR (N:List p_) {h:∃f fd,Def K mg x st ps f fd} (I:∀vs H Q E,sp vs H Q E->vs.length=ps.length)
  (Y:∀z:B7,N.Nodup->i8 k (z.A.deeper (GR x (aD st) z.s.heap.objs.size z.f z.c))->∀(vs:List V) (Q:VK),sp vs z.H Q z.E->∃t,PSs (yx CX0 P w K mg base N x (aD st) z.f z.c z.A z.o z.s z.H z.E).nox (bF st) t/\t {nx:=fun _ H'=>Q .non H',rt:=Q} (start N vs) z.H)
  (S:fK N ps (aD st):=by exact ⟨rfl,rfl,rfl,by decide +kernel,rfl,by decide +kernel,by decide +kernel⟩):YR h P w base (k+1) sp:=
 let ⟨f,fd,D⟩:=h
 ⟨f,fd,D,D.fn.okX S I fun c A o s H vs Q E J h=>Y ⟨f,c,A,o,s,H,E⟩ S.nd J vs Q h⟩
end
section
variable {t:TA} 
theorem pY {j k:Nat} (Y:∃f fd,Yd X.prog X.w X.K X.mg X.base CX0 k x st ps sp f fd) (b:i8 j X.A) (g:PA X (e::es) t) (c:(k<=j)⁻¹) (d: ~~~(Gl X x)) (a:((x==("__debug__":p_))=b_)⁻¹)
  (I: ~~~(i_ (e::es) X.env=(b_,Eu e X.env)::i_ es X.env)) (J: ~~~((EN pos (i_ es X.env)).any (·.1)=b_)):PE X (.Call (.Name x p) (e::es) [] pos) (gz sp [] E0 t):=let ⟨_,_,Y⟩:=Y;ph Y.o (b.mono c) d Y.d.mg Y.d.fn.kp Y.d.bd .nil pj g a I J
theorem hU (h:n+64<FK):n+1<FK:=by omega
end
theorem len_told (h:lG vs H Q E):vs.length=2:=by obtain ⟨_,_,rfl,_⟩:=h;rfl
theorem len_gap {mg:List Dat->M Dat} (h:wY K mg vs H Q E):vs.length=3:=by obtain ⟨_,_,_,_,_,_,_,_,_,_,_,rfl,_⟩:=h;rfl
theorem CM (h:sm K C mr vs H Q E):vs.length=2:=by obtain ⟨_,_,_,_,_,_,_,_,rfl,_⟩:=h;rfl
theorem len_ID (h:spID C vs H Q E):vs.length=1:=by obtain ⟨_,_,rfl,_⟩:=h;rfl
def mulSD:Dat->Dat->M Dat
 |.str z,.int n=>if z.length<=1000/\ -1000<=n/\n<=1000 then .ok (.str (KI z n)) else stk
 |_,_=>stk
@[simp] theorem e_mulSD (z:p_) (n:Int):mulSD (.str z) (.int n)=if z.length<=1000/\ -1000<=n/\n<=1000 then .ok (.str (KI z n)) else stk:=id rfl
section
variable {W:dZ} {own:Bool}
theorem mul_okS {n:Int} (h:z.length<=1000/\ -1000<=n/\n<=1000):MulOk z n:=by
 obtain ⟨h1,h2,J⟩:=h;refine ⟨?_,fun I _=>?_,fun I _=>?_⟩
 ·rw [Bool.or_eq_false_iff];exact ⟨j_ (by omega),j_ (by omega)⟩
 ·have:(z.length:Int)<=(2^63-1)/n:=by
   refine (Int.le_ediv_iff_mul_le (by omega)).mpr ?_;have a:(z.length:Int)*n<=1000*1000:=Int.mul_le_mul (by omega) (by omega) (by omega) (by omega);omega
  omega
 ·have a:z.length*n.toNat<=1000*1000:=Mv h1 (by omega);exact j_ (by rw [Er];omega)
theorem o_mulS:Op2 K W own X (FN .Mult) mulSD:=by
 intro pins s σ H x y v u Q I d c h;obtain ⟨F,a,b,Y,f,e,p⟩:=h;cases a with
 |str z=>cases b with
  |int n=>
   have p:aC K W own F H (if z.length<=1000/\ -1000<=n/\n<=1000 then .ok (.str (KI z n)) else stk) Q:=p;cases (show x=V.str z from f);cases (show y=V.int n from e);obtain ⟨t,rfl⟩:=(show ∃t,v=FJ z t from d)
   obtain ⟨t',rfl⟩:=(show ∃t,u=Hj n t from c)
   by_cases J:z.length<=1000/\ -1000<=n/\n<=1000
   ·rw [f_ J] at p;exact SB.mul (mul_okS J) fun t1 k=>⟨.str (KI z n),H,I.tok _,⟨_,rfl⟩,p.str Y⟩
   ·rw [m_ J] at p;exact aC.stuck p
  |_=>exact aC.stuck p
 |_=>exact aC.stuck p
end
section
variable {ds:List Dat} 
theorem Bf.upd {c:e_} {u:HO} (o:Bf K F G H ds vs) (n:∀k:Nat,vs[k]?≠a_ (.ref c)):Bf K F G (L2.upd H c u) ds vs:=⟨o.len,fun k d e=>by
 obtain ⟨a,xs,es,h1,h2,J,I⟩:=o.get k d e;exact ⟨a,xs,es,h1,h2,by rw [aq (fun z=>n k (by rw [<- z];exact h1))];exact J,I⟩,o.ap⟩
theorem ou (l:List α) (j k:Nat):(l.eraseIdx j)[k]? =l[if k<j then k else k+1]?:=by
 rw [List.getElem?_eraseIdx];split<;>rfl
theorem Bf.erase (o:Bf K F G H ds vs) (j:Nat):Bf K F G H (ds.eraseIdx j) (vs.eraseIdx j):=by
 refine ⟨by rw [K0,K0,o.len],fun k d e=>?_,fun i k a e1 e2=>?_⟩
 ·rw [ou] at e ⊢;exact o.get _ d e
 ·rw [ou] at e1 e2;have:=o.ap _ _ a e1 e2;split at this<;>split at this<;>omega
end
structure MixH (K:Fg) (F0 H0 F:Hp) (ar al:e_) (H:Hp) (xs ys:List V) (out rs:List Dat):Prop where
 st:Step F0 H0 F H
 hr:H ar=a_ (.lst xs)
 fr:F ar=c_/\H0 ar=c_
 hl:H al=a_ (.lst ys)
 fl:F al=c_/\H0 al=c_
 na:ar≠al
 nl:∀m:Nat,ys[m]?≠a_ (.ref al)
 nr:∀m:Nat,ys[m]?≠a_ (.ref ar)
 ow:Bf K F H0 H rs ys
 dq:ay K F out xs
def mixA (ar al:e_) (ys:List V) (c:e_):Prop:=c=ar\/c=al\/∃m:Nat,ys[m]? =a_ (.ref c)
section
variable {ar al:e_} {xs ys:List V} {out rs:List Dat}
theorem MixH.same (h:MixH K F0 H0 F ar al H xs ys out rs) (s:aF H H'):MixH K F0 H0 F ar al H' xs ys out rs:=
 have t:=Step.same h.st.fh s
 ⟨h.st.trans t,s _ _ h.hr,h.fr,s _ _ h.hl,h.fl,h.na,h.nl,h.nr,h.ow.step t,h.dq⟩
theorem Step.put {c:e_} {u:HO} (s:Step F0 H0 F H) (f:F c=c_/\H0 c=c_):Step F0 H0 F (upd H c u):=
 ⟨s.ff,fun b o e=>by rw [aq (aL e f.2)];exact s.hh b o e,fun b o e=>by rw [aq (aL e f.1)];exact s.fh b o e,s.nw⟩
theorem MixH.drop (h:MixH K F0 H0 F ar al H xs ys out rs) (j:Nat):MixH K F0 H0 F ar al (upd H al (.lst (ys.eraseIdx j))) xs (ys.eraseIdx j) out (rs.eraseIdx j):=
 ⟨h.st.put h.fl,by rw [aq h.na];exact h.hr,h.fr,ao,h.fl,h.na,fun m e=>h.nl _ (by rw [ou] at e;exact e),fun m e=>h.nr _ (by rw [ou] at e;exact e),(h.ow.upd h.nl).erase j,h.dq⟩
theorem MixH.none (h:MixH K F0 H0 F ar al H xs ys out rs) {c:e_} (I:mixA ar al ys c):F c=c_:=by
 rcases I with rfl|rfl|⟨m,e⟩
 ·exact h.fr.1
 ·exact h.fl.1
 ·obtain ⟨_,_,_,_,z,_⟩:=h.ow.at e;exact z
end
section
def Th (F F':Hp):Prop:=∀b o,F b=a_ o->F' b=a_ (unF o)
theorem Th.tup (s:Th F F') {xs:List V} (h:SqT K F a xs):SqT K F' a xs:=by
 rcases h with (h|⟨o,h⟩)|h
 ·exact .inl (.inl (s _ _ h))
 ·exact .inl (.inl (s _ _ h))
 ·exact .inr h
theorem Th.lst (s:Th F F') {xs:List V} (h:SqL K F a xs):SqL K F' a xs:=by
 rcases h with (h|⟨o,h⟩)|h
 ·exact .inl (.inl (s _ _ h))
 ·exact .inl (.inl (s _ _ h))
 ·exact .inr h
mutual
theorem aR.th (s:Th F F'):∀{d:Dat} {v:V},aR K F d v->aR K F' d v
 |.non,_,h=>h
 |.bl _,_,h=>h
 |.int _,_,h=>h
 |.str _,_,h=>h
 |.tup _,_,⟨a,xs,e,q,r⟩=>⟨a,xs,e,s.tup q,ay.th s r⟩
 |.lst _,_,⟨a,xs,e,q,r⟩=>⟨a,xs,e,s.lst q,ay.th s r⟩
 |.ins _ _,_,⟨a,dx,fs,e,q,r⟩=>⟨a,dx,fs,e,s _ _ q,iO.th s r⟩
 |.dic _,_,⟨a,xs,e,⟨ep,q⟩,r⟩=>⟨a,xs,e,⟨ep,s _ _ q⟩,cJ.th s r⟩
 |.dil _,_,⟨a,xs,e,⟨ep,q⟩,r,z⟩=>⟨a,xs,e,⟨ep,s _ _ q⟩,r,fun x J=>let ⟨r,bs,t1,t2,l,t3⟩:=z x J;⟨r,bs,s.tup t1,s.tup t2,l,fun j I c e1 e2=>s.tup (t3 j I c e1 e2)⟩⟩
theorem ay.th (s:Th F F'):∀{ds:List Dat} {xs:List V},ay K F ds xs->ay K F' ds xs
 |[],_,h=>h
 |_::_,_,⟨v,vs,e,q,r⟩=>⟨v,vs,e,aR.th s q,ay.th s r⟩
theorem iO.th (s:Th F F'):∀{gs:List (p_×Dat)} {fs:List (p_×V)},iO K F gs fs->iO K F' gs fs
 |[],_,h=>h
 |(_,_)::_,_,⟨v,r,e,q,t⟩=>⟨v,r,e,aR.th s q,iO.th s t⟩
theorem cJ.th (s:Th F F'):∀{ks:List (List Int×Dat)} {xs:List mj},cJ K F ks xs->cJ K F' ks xs
 |[],_,h=>h
 |(_,_)::_,_,⟨b,v,r,e,t,q,z⟩=>⟨b,v,r,e,s.tup t,aR.th s q,cJ.th s z⟩
end
end
open Classical in
structure Bent (F0 H0 F:Hp) (p C dx:Addr) (fs:List (Str×V)) (bk bf be:Addr) (H:Hp):Prop where
 st:Step F0 H0 F H
 ob:H p=some (.ins C dx fs)
 k:∃y,H bk=some (.lst y)
 f:∃y,H bf=some (.lst y)
 e:∃y,H be=some (.lst y)/\y.length<sizeLine
 nk:F bk=none/\H0 bk=none
 nf:F bf=none/\H0 bf=none
 ne:F be=none/\H0 be=none
section
variable {p dx:e_} {fs:List (p_×V)} {bk bf be:e_}
theorem Bent.same (b:Bent F0 H0 F p C dx fs bk bf be H) (s:aF H H'):Bent F0 H0 F p C dx fs bk bf be H':=
 ⟨b.st.trans (Step.same b.st.fh s),s _ _ b.ob,b.k.imp fun _ h=>s _ _ h,b.f.imp fun _ h=>s _ _ h,b.e.imp fun _ h=>⟨s _ _ h.1,h.2⟩,b.nk,b.nf,b.ne⟩
end
def spX1 (C:e_) (f1:p_):Sp:=fun vs H Q _=>∃a v1,vs=[.ref a,v1]/\H a=a_ (XO a C c_)/\∀d,H d=c_->d≠a->Q .non (upd (upd H d (XD d [(f1,v1)])) a (XO a C (a_ d)))
section
variable {k:Nat} {f1:p_} {v1:V} 
theorem new_x1 (FB:ID B newId initId bmB) (D:nF X.K C bmB newId f=d_) (y:KA X.K (.ref f)=a_ (.type "function")) (F:i9 X.prog X.w X.K X.mg X.base CX0 k f fd ps (spX1 C f1)) (t:i8 (k+1) X.A) (A:Binds X.K fd ps [])
  (I:Inv X pins σ H s) (r:Vals [v1] us):Cb (Eg X.prog X.w) X.A (Hw (.ref C) us) (fun v s'=>∃a d,v=.ref a/\s.heap.objs.size<=a/\H a=c_/\H d=c_/\d≠a/\Inv X pins σ (upd (upd H d (XD d [(f1,v1)])) a (XO a C (a_ d))) s') X.xe s:=by
 obtain ⟨tl,N,nm,O,bs,hdct,sn,sub,ab,col,dd,k0,k1,k2,k3,k5,mN,l,j,i,h⟩:=tO I.kIn D;obtain ⟨oI,p,o⟩:=fn_at I.kIn y;obtain ⟨hh,gg,K,tk,os⟩:=s;have P:=Er;have x:us.length<=g_:=by rw [<- r.length];show 1<=g_;omega
 refine x_call FB h l j i p o x ?_;have m:(rZ hh C us).get? (hh.objs.size+1)=a_ (Bs C hh.objs.size):=ur;have J:Inv X pins σ (upd H (hh.objs.size+1) (XO (hh.objs.size+1) C c_)) {(⟨hh,gg,K,tk,os⟩:z_) with heap:=rZ hh C us,toks:=tk}:=
  I.laid (fun b u q=>oE q) (EK _) (xo_ok (vs:=#[.ref hh.objs.size,.none,.none,.none,.bool b_,.none]) rfl m)
 have fa:H (hh.objs.size+1)=c_:=I.hok.fresh (EK _);have w:Vals [V.ref (hh.objs.size+1),v1] (D_ (hh.objs.size+1)::us++[]):=by rw [GK];exact .cons rfl r
 have q:spX1 C f1 [V.ref (hh.objs.size+1),v1] (upd H (hh.objs.size+1) (XO (hh.objs.size+1) C c_)) (fun v H2=>v=.non/\∃d,H d=c_/\d≠hh.objs.size+1/\H2=upd (upd H d (XD d [(f1,v1)])) (hh.objs.size+1) (XO (hh.objs.size+1) C (a_ d))) (fun _ _ _=>False):=
  ⟨_,v1,rfl,ao,fun d hd c=>⟨rfl,d,by rw [aq c] at hd;exact hd,c,upd_low⟩⟩
 have n:(D_ (hh.objs.size+1)::us++[]).length=ps.length:=w.length.symm.trans (F.len _ _ _ _ q);refine IC (Gj (F.run _ X.stack _ _ ⟨.ref (hh.objs.size+1)::us,[]⟩ _ _ _ (fun _ _ _=>False) (t.make C us []) (J.env0.make C us []) (A _ (.ref (hh.objs.size+1)::us) J.kIn n) w q) fun z s' Y=>?_);cases z with
 |error e=>exact (show False from Y).elim
 |ok fl=>
  cases fl with
  |ret u=>
   obtain ⟨v,H',L,g,G,d,h1,h2,E⟩:=J.after Y;subst G E;exact ⟨g,_,d,rfl,EK _,fa,h1,h2,L⟩
  |_=>exact EZ Y
end
def wU (t:TA) (C:e_) (f1:p_) (E:XK):TS:=fun _ σ H=>t σ H fun vs H1=>∃v1,vs=[v1]/\∀d,H1 d=c_->E (.ref C) (a_ d) (upd H1 d (.xd [(f1,v1)]))
section
variable {t:TA} {k:Nat} {f1:p_} 
theorem vi (FB:ID B newId initId bmB) (P:XEq2 X E C) (A:nF X.K C bmB newId f=d_) (W:KA X.K (.ref f)=a_ (.type "function")) (S:GD X.K (.ref C)=d_) (F:i9 X.prog X.w X.K X.mg X.base CX0 k f fd ps (spX1 C f1)) (w:i8 (k+1) X.A) (c:Binds X.K fd ps [])
  (R:X.mg x=a_ (.ref C)) (Z:PA X [e1] t) (U: ~~~(Gl X x)) (n:((x==("__debug__":p_))=b_)⁻¹) (m: ~~~(i_ [e1] X.env=[(b_,Eu e1 X.env)])) :
  PS X (.Raise (a_ (.Call (.Name x np) [e1] [] cpos)) c_ pos) (wU t C f1 E):=by
 intro pins s σ H D I h;obtain ⟨tl,N,nm,G,bs,hdct,sn,sub,ab,col,dd,k0,k1,k2,k3,k5,mN,L,o2,o3,K⟩:=tO I.mod.kin A;rw [arm_exec_Raise];refine k_ (HB (wN (C:=C) (nm:=nm) (q:=G) (N:=N) (bs:=bs) (tl:=tl) (hdct:=hdct) (sn:=sn) (sub:=sub) (ab:=ab) (col:=col) (dd:=dd) (k0:=k0) (k1:=k1) (k2:=k2) (k3:=k3) (k5:=k5) (newId:=newId) (K.hasType FB.hasBase) w.hd (k_ (thn ?_ fun v u Y=>k_ (HB (A_ Y))))));refine FP (iW I U R (Js (h₀:=X.base) I.ok.mod.kin S (thn (Z cpos pins s σ H _ I h) fun us s1 ⟨vs,H1,p,r,i⟩=>⟨p.kIn,?_⟩) m rfl) n);obtain ⟨v1,rfl,i⟩:=i;refine thn (new_x1 FB A W F w c p r) fun v g ⟨a,d,ev,Q,fa,fd',j,J⟩=>?_;subst ev;obtain ⟨vs,w1,y⟩:=xo_get (J.hok a _ ao);have e:upd (upd H1 d (XD d [(f1,v1)])) a (XO a C (a_ d)) d=a_ (XD d [(f1,v1)]):=by rw [aq j];exact ao
 have J2:Inv X pins σ (upd H1 d (.xd [(f1,v1)])) {g with heap:=g.heap,toks:=g.toks}:=by
  refine J.turn (fun b=>b=a\/b=d) (fun b o _ q=>q) (fun b l=>?_) (fun b c=>?_) (fun b o _ q=>⟨o,q⟩) fun b o c q=>?_
  ·rw [aq fun z=>l (.inr z),aq fun z=>l (.inl z),aq fun z=>l (.inr z)]
  ·rcases c with rfl|rfl
   ·exact .inl ⟨_,ao⟩
   ·exact .inl ⟨_,e⟩
  ·rcases c with rfl|rfl
   ·rw [aq (EI j),fa] at q;cases q
   ·rw [ao] at q;cases q;obtain ⟨mA,O,n2,_⟩:=xd_get (J.hok _ _ e);exact ⟨mA,O,n2⟩
 refine ⟨a,_,rfl,J.bk _ _ L,y,rfl,⟨vs,rfl,w1⟩,P pins σ _ g a d J2 ⟨⟨_,vs,y,rfl,rfl,rfl,w1⟩,fun T hT=>nomatch hT⟩ (get_none (EJ p.sz Q)) (by rw [aq (EI j)];exact fa) (i d fd')⟩
end
def xRes1 (C:e_) (f1:p_):List Dat->M Flo
 |[a]=>.error (.exc C [(f1,a)])
 |_=>.error .stuck
def Ai (C:e_) (f1:p_) (fr:ah->M (List Dat)):ah->M Flo:=fun ρ=>(fr ρ).bind (xRes1 C f1)
@[simp] theorem e_sExc1 (C:e_) (f1:p_) (fr:ah->M (List Dat)) (ρ:ah):Ai C f1 fr ρ=(fr ρ).bind (xRes1 C f1):=id rfl
@[simp] theorem e_xRes1 (C:e_) (f1:p_) (a:Dat):xRes1 C f1 [a]=.error (.exc C [(f1,a)]):=id rfl
section
variable {fr:ah->M (List Dat)} {k:Nat} {f1:p_} 
theorem Dn (FB:ID B newId initId bmB) (j:XEq2 X E C) (y:nF X.K C bmB newId f=d_) (t:KA X.K (.ref f)=a_ (.type "function")) (o:GD X.K (.ref C)=d_) (F:i9 X.prog X.w X.K X.mg X.base CX0 k f fd ps (spX1 C f1)) (l:i8 (k+1) X.A) (v:Binds X.K fd ps [])
  (n:X.mg x=a_ (.ref C)) (w:DA K (WE K E) X [e1] fr) (s: ~~~(Gl X x)) (b:((x==("__debug__":p_))=b_)⁻¹) (Y: ~~~(i_ [e1] X.env=[(b_,Eu e1 X.env)])) :
  DS K (WE K E) ro X OL O O' (.Raise (a_ (.Call (.Name x np) [e1] [] cpos)) c_ pos) (Ai C f1 fr):=fun F0 H0=>PS.imp (vi FB j y t o F l v n w s b Y) fun D σ H ⟨A,F,ρ,r,p⟩=>by
 have h:=r.freeze (O2:=[]) (by simp);refine oK r.rg r.kz (fun e u=>p.qQ h.st (by unfold Ai;rw [u];rfl)) fun ds hd vs F1 H1 g q=>?_;have z:Ai C f1 fr ρ=xRes1 C f1 ds:=by unfold Ai;rw [hd];rfl
 rw [z] at p;rcases ds with _|⟨a,_|⟨_,_⟩⟩
 ·exact ((WE K E).ns p).elim
 rotate_left
 ·exact ((WE K E).ns p).elim
 ·obtain ⟨w1,J,rfl,i,m⟩:=q;cases (show J=[] from m);refine ⟨w1,rfl,fun d c=>?_⟩
  have st:=h.st.trans g;have I:Step F1 H1 (upd F1 d (.xd [(f1,w1)])) (upd H1 d (.xd [(f1,w1)])):=Step.lay g.fh c;exact p _ _ (st.trans I) d _ ao ⟨w1,[],rfl,aR.mono I.ff i,rfl⟩
end
def mB (CN:e_) (f1:p_) (mr:List Dat->List Dat->M (Bool×List Dat)) (mw:List Dat->M Dat):Nat->List Dat->List Dat->M (List Dat)
 |_,[],ds=>.ok ds
 |k,I::rows,ds=>(noX (mw [I])).bind fun w=>match w with
  |.lst ws=>(noX (mr ds ws)).bind fun r=>if r.1=d_ then mB CN f1 mr mw (k+1) rows r.2 else .error (.exc CN [(f1,.int (k:Nat))])
  |_=>stk
def oV (C CN:e_) (f1:p_) (mr:List Dat->List Dat->M (Bool×List Dat)) (mw:List Dat->M Dat) (di ni ri:Nat) (fs:ah->M Dat) (g:ah->M Flo):ah->M Flo:=fun ρ=>if (r_ (di<ρ.length)&&r_ (ni<ρ.length)&&r_ (ri<ρ.length))=d_ then (noX (fs (ρ.set di c_))).bind fun d=>match d with
 |.lst rows=>(mB CN f1 mr mw 1 rows ds0).bind fun ds=>g ((((ρ.set di c_).set ni c_).set ri c_).set di (a_ (drD C ds)))
 |_=>stk
 else stk
section
variable {f1:p_} {D:Ends} {fs:ah->M Dat} {gg:ah->M Flo} 
theorem BZ (L:di≠ni) (B:di≠ri) (hnr:ni≠ri) (t:tS K (WE K E) b_ F0 H0 OL [] O' (oV C CN f1 mr mw di ni ri fs gg) D σ H) :
  dC (qq (tMake C (spID C) [] E1 dI) (bX di)) (dC (tFor (D3 K (tD K Wno b_ fs)) (gTup K 2 (jZ (bX ni) (jZ (bX ri) gNil)))
   (mx (tNot (tTr K (gz (sm K C mr) [] E2 (aM (bJ di) (aM (gz (spF K b_ mw 1) [] E3 (aM (bJ ri) dI)) dI))))) (wU (aM (bJ ni) dI) CN f1 E) gq)) (tS K (WE K E) b_ F0 H0 OL [] O' gg)) D σ H:=by
 obtain ⟨FB,F,ρ,r,q⟩:=t;unfold oV at q;split at q
 rotate_left
 ·exact q.stuck rfl
 rename_i hc;simp only [n_,Et] at hc;obtain ⟨⟨hd,hn⟩,hr⟩:=hc;have rE:=r.repE;have ls:=rE.len;intro p dx hp hdx hne;refine ⟨p,dx,rfl,ao,fun k g b n f c H1 kp S nd ak ag ab an af ac ap=>⟨rfl,?_⟩⟩
 have old:∀{m:e_},upd (upd H dx (.own p)) p (.ins C dx []) m=c_->H m=c_:=fun {m} h=>by
  cases Y:H m with
  |none=>rfl
  |some o=>
   have h1:m≠p:=fun z=>by rw [z,hp] at Y;cases Y
   have h2:m≠dx:=fun z=>by rw [z,hdx] at Y;cases Y
   rw [aq h1,aq h2,Y] at h;cases h
 have s1:aF H H1:=fun m o e=>by
  have h1:m≠p:=fun z=>by rw [z,hp] at e;cases e
  have h2:m≠dx:=fun z=>by rw [z,hdx] at e;cases e
  exact kp m o (by rw [aq h1,aq h2];exact e) h1
 have S1:Step F H F H1:=Step.same r.st.fh s1;have N:∀x∈p::[k,g,b,n,f,c],H x=c_:=fun x N=>(v_.mp N).elim (fun z=>by rw [z];exact hp) fun z=>old (S x z);have h0:∀x∈p::[k,g,b,n,f,c],H0 x=c_:=fun x h=>r.st.hh.free (N x h);have cell:∀(j:Nat) (x:e_) (d:Dat),[k,g,b,n,f,c][j]? =a_ x->ds0[j]? =a_ d->isO d=d_/\lq K F (fun _=>c_) H1 d (.ref x):=fun j x d e1 e2=>by
  have fx:F x=c_:=r.st.fh.free (N x (C_ _ (ER e1)))
  match j,e1,e2 with
  |0,e1,e2=>cases e1;cases e2;exact ⟨rfl,_,[],rfl,ak,fx,rfl,rfl⟩
  |1,e1,e2=>cases e1;cases e2;exact ⟨rfl,_,[],rfl,⟨0,ag⟩,fx,rfl,rfl⟩
  |2,e1,e2=>cases e1;cases e2;exact ⟨rfl,_,[],rfl,⟨0,ab⟩,fx,rfl,rfl⟩
  |3,e1,e2=>cases e1;cases e2;exact ⟨rfl,_,[],rfl,an,fx,rfl,rfl⟩
  |4,e1,e2=>cases e1;cases e2;exact ⟨rfl,_,[],rfl,af,fx,rfl,rfl⟩
  |5,e1,e2=>cases e1;cases e2;exact ⟨rfl,_,[],rfl,ac,fx,rfl,rfl⟩
  |j+6,e1,_=>simp at e1
 have d1:Dr K C F H1 p dx [k,g,b,n,f,c] ds0:=⟨⟨S1.fh,nd,rfl,cell⟩,ap,r.st.fh.free hp,fun z=>by
  have:=S p z;rw [ao] at this;cases this⟩
 have hs1:(σ.set di (a_ (.ref p)))[di]? =a_ (a_ (.ref p)):=x_ (by rw [<- ls];exact hd);refine aO (rE.hide di (a_ (.ref p))) S1.fh (fun e he=>by rw [he] at q;exact q.stuck rfl) fun dl hdl v F2 H2 R q2=>?_;rw [hdl] at q;simp only [noX_ok,aj] at q;cases dl with
 |lst rows=>
  dsimp only at q;obtain ⟨a,ys,rfl,sq,qs⟩:=(show aR K F2 (.lst rows) v from q2)
  refine ⟨a,rfl,⟨ys,R.fh.lst sq⟩,?_⟩
  have W1:=(r.st.trans S1).trans R;refine ⟨fun i m σ' H'=>m+i=rows.length/\σ'.length=σ.length/\(∀j,j≠ni->j≠ri->σ'[j]? =(σ.set di (a_ (.ref p)))[j]?)/\∃F' ds',aF F2 F'/\Step F0 H0 F' H'/\Dr K C F' H' p dx [k,g,b,n,f,c] ds'/\iN K (WE K E) b_ F0 H0 FB OL O' D ((mB CN f1 mr mw (i+1) (rows.drop i) ds').bind fun ds=>gg ((((ρ.set di c_).set ni c_).set ri c_).set di (a_ (drD C ds)))),
   ⟨rows.length,rfl,En,fun _ _ _=>rfl,F2,ds0,aF.refl _,W1,d1.step R,q⟩,fun i m σ' H' ⟨e1,e2,e3,F',ds',P,st,d,I⟩=>?_⟩
  have s:SqL K H' a ys:=st.fh.lst (P.lst sq);by_cases Y:m=0
  ·refine .inl ⟨⟨ys,s,by rw [qs.length];omega⟩,?_⟩;rw [Ks (by omega)] at I;have q:iN K (WE K E) b_ F0 H0 FB OL O' D (gg ((((ρ.set di c_).set ni c_).set ri c_).set di (a_ (drD C ds')))):=I;obtain ⟨G,sG,fG,qG⟩:=d.frz rfl st h0;refine ⟨FB,G,_,Rep.ofE (F:=G) ?_ sG (r.fb.trans ((S1.ff.trans R.ff).trans (P.trans fG))),q⟩
   have a1:=(rE.mono ((S1.ff.trans R.ff).trans (P.trans fG))).hide di (a_ (.ref p));have a2:dB K G σ' (((ρ.set di c_).set ni c_).set ri c_):=⟨by rw [En,En,En,e2,ls],fun j d' h=>by
    have hj1:ri≠j:=fun z=>by rw [z,Kh] at h;cases hh:((ρ.set di c_).set ni c_)[j]?<;>rw [hh] at h<;>cases h
    rw [o_ hj1] at h;have hj2:ni≠j:=fun z=>by rw [z,Kh] at h;cases hh:(ρ.set di c_)[j]?<;>rw [hh] at h<;>cases h
    rw [o_ hj2] at h;obtain ⟨v,h1,h2⟩:=a1.sl j d' h;exact ⟨v,by rw [e3 j (EI hj2) (EI hj1)];exact h1,h2⟩⟩
   exact a2.tell (v:=.ref p) (by rw [e3 di L B];exact hs1) qG
  ·have hi:i<rows.length:=by omega
   have A:i<ys.length:=by rw [qs.length];exact hi
   refine .inr ⟨⟨ys,ys[i],s,by simp [A]⟩,_,fun σ2 H2 z=>⟨m-1,by omega,z⟩,fun x H3 ⟨T,y,hT,ex,eH,hy⟩=>?_⟩;subst ex eH;have ey:=hy ys s;rw [Ez A] at ey;cases ey;obtain ⟨y',Z,qy⟩:=qs.get (i:=i) (d:=rows[i]) (by simp [hi]);rw [Ez A] at Z;cases Z;have sT:Step F' H' F' (upd H' T (.tup [.int (i+1:Nat),ys[i]])):=Step.grow st.fh hT;have dT:=d.step sT;rw [Gd hi] at I;cases ew:mw [rows[i]] with
   |error e=>exact I.stuck (by rw [mB,ew];rfl)
   |ok w=>
   refine ⟨T,_,rfl,SqT.of ao,rfl,_,_,rfl,_,_,rfl,rfl,?_⟩
   have X:((σ'.set ni (a_ (.int (i+1:Nat)))).set ri (a_ ys[i]))[di]? =a_ (a_ (.ref p)):=by
    rw [o_ (EI B),o_ (EI L),e3 di L B];exact hs1
   have U:((σ'.set ni (a_ (.int (i+1:Nat)))).set ri (a_ ys[i]))[ri]? =a_ (a_ ys[i]):=x_ (by rw [En,e2,<- ls];exact hr);refine ⟨.ref p,X,ys[i],U,F',[rows[i]],sT.fh,⟨_,_,rfl,qy.mono P,rfl⟩,rfl,?_⟩
   rw [ew];intro w' F4 H4 s4 q4;cases w with
   |lst ws=>
    cases er:mr ds' ws with
    |error e=>exact I.stuck (by rw [mB,ew];show ((noX (mr ds' ws)).bind _).bind _=_;rw [er];rfl)
    |ok J=>
    have I:iN K (WE K E) b_ F0 H0 FB OL O' D ((if J.1=d_ then mB CN f1 mr mw (i+1+1) (rows.drop (i+1)) J.2 else .error (.exc CN [(f1,.int (i+1:Nat))])).bind fun ds=>gg ((((ρ.set di c_).set ni c_).set ri c_).set di (a_ (drD C ds)))):=by
     have e:mB CN f1 mr mw (i+1) (rows[i]::rows.drop (i+1)) ds'=if J.1=d_ then mB CN f1 mr mw (i+1+1) (rows.drop (i+1)) J.2 else .error (.exc CN [(f1,.int (i+1:Nat))]):=by
      rw [mB,ew];show (noX (mr ds' ws)).bind _=_;rw [er];rfl
     rw [<- e];exact I
    have d4:=dT.step s4;unfold dI;dsimp only [];show sm K C mr [V.ref p,w'] H4 _ E2;refine ⟨p,dx,_,F4,ds',ws,w',J,rfl,d4,q4,er,fun F5 H5 Q d5=>⟨J.1,rfl,?_⟩⟩
    have l:Step F0 H0 F5 H5:=by
     have z:=(st.trans sT).trans s4;exact ⟨z.ff.trans Q.ff,fun O o h=>Q.hh O o (fun Y=>by rw [h0 O (C_ _ Y)] at h;cases h) (z.hh O o h),Q.fh,fun O o h=>(Q.nw O o h).elim (fun u=>z.nw O o u) fun u=>.inr (z.hh.free u)⟩
    cases hb:J.1 with
    |true=>
     rw [hb,f_ rfl] at I;exact ⟨by omega,by rw [En,En];exact e2,fun j h1 h2=>by rw [o_ (EI h2),o_ (EI h1)];exact e3 j h1 h2,F5,J.2,(P.trans s4.ff).trans Q.ff,l,d5,I⟩
    |false=>
     rw [hb,m_ (by decide)] at I;have W:((σ'.set ni (a_ (.int (i+1:Nat)))).set ri (a_ ys[i]))[ni]? =a_ (a_ (.int (i+1:Nat))):=by
      rw [o_ (EI hnr)];exact x_ (by rw [e2,<- ls];exact hn)
     refine ⟨_,W,_,rfl,fun x N=>?_⟩
     have s6:Step F5 H5 (upd F5 x (.xd [(f1,.int (i+1:Nat))])) (upd H5 x (.xd [(f1,.int (i+1:Nat))])):=Step.lay l.fh N;have I:(WE K E).p (.exc CN [(f1,.int (i+1:Nat))]) F0 H0:=I;exact I _ _ (l.trans s6) x _ ao ⟨_,[],rfl,rfl,rfl⟩
   |_=>exact I.stuck (by rw [mB,ew];rfl)
 |_=>exact q.stuck rfl
end
section
theorem Dp {J I:Fh} {f1:p_} {fs:ah->M Dat} {g:ah->M Flo} 
  (p1:PS X J (qq (tMake C (spID C) [] E1 dI) (bX di))) (p2:PS X I (tFor (D3 K (tD K Wno b_ fs)) (gTup K 2 (jZ (bX ni) (jZ (bX ri) gNil))) (mx (tNot (tTr K (gz (sm K C mr) [] E2 (aM (bJ di) (aM (gz (spF K b_ mw 1) [] E3 (aM (bJ ri) dI)) dI))))) (wU (aM (bJ ni) dI) CN f1 E) gq))) (h:DSs K (WE K E) b_ X OL [] O' sts g)
  (b:(di≠ni)⁻¹) (a:(di≠ri)⁻¹) (Y:(ni≠ri)⁻¹):DSs K (WE K E) b_ X OL [] O' (J::I::sts) (oV C CN f1 mr mw di ni ri fs g):=fun F0 H0=>PSs.imp (aw p1 (aw p2 (h F0 H0))) fun _ _ _=>BZ b a Y
end
def qX (i j:Nat) (f1:p_) (b1 b2 b3:Bool):List (p_×Dat)->ah->M ah:=fun fs ρ=>match fs.lookup f1 with
 |some (.int k)=>.ok ((ρ.set j (a_ (.lst [.non,.int k,.bl b1,.bl b2,.bl b3]))).set i c_)
 |_=>.error .stuck
@[simp] theorem e_xToldN (i j:Nat) (f1:p_) (b1 b2 b3:Bool) (k:Int) (fs:List (p_×Dat)) (ρ:ah):qX i j f1 b1 b2 b3 ((f1,.int k)::fs) ρ=.ok ((ρ.set j (a_ (.lst [.non,.int k,.bl b1,.bl b2,.bl b3]))).set i c_):=by
 unfold qX;rw [w_,LA]
def BC (K:Fg) (i j:Nat) (f1:p_) (b1 b2 b3:Bool) (ys:List e_) (a d:e_):TS:=
 dC (qq (yR (aM (tC .non) (aM (tFldX i a d f1) (aM (tIsiR i a (XDk d) b1) (aM (tIsiR i a (XDk d) b2) dI))))) (bX j)) (qB (tBM K "list" iR (bJ j) (aM (tIsiTR i a (XDk d) ys b3) dI)))
def tsToldN (K:Fg) (i j:Nat) (f1:p_) (b1 b2 b3:Bool) (ys:List e_) (a:e_):Option e_->TS
 |none=>tNever
 |some d=>BC K i j f1 b1 b2 b3 ys a d
section
variable {D:Ends} {j:Nat} {d:e_} {gs:List (p_×V)} {fs:List (p_×Dat)} {f1:p_} {ys:List e_}
theorem rs_toldN (r:Rep K F0 H0 FB O F H σ ρ) (hd:F d=a_ (.xd gs)) (s:iO K F fs gs) (e:i≠j) (hi:i<σ.length) (m:j<σ.length) (h:i∉O) (g:j∉O) (q:iN K Wno ro F0 H0 FB OL O D ((qX i j f1 b1 b2 b3 fs ρ).bind fun ρ'=>.ok (.nx ρ'))) :
  BC K i j f1 b1 b2 b3 ys a d (D.less i) (σ.set i (a_ (.ref a))) H:=by
 have t:=Er;have Y:H d=a_ (.xd gs):=r.st.fh d _ hd;have e1:(σ.set i (a_ (.ref a)))[i]? =a_ (a_ (.ref a)):=by rw [x_ hi]
 unfold qX at q;cases J:fs.lookup f1 with
 |none=>rw [J] at q;exact (Wno.ns q).elim
 |some b=>
 rw [J] at q;cases b with
 |int k=>
  obtain ⟨v,o,n⟩:=s.at.1 _ J;cases (show v=V.int k from n);refine ⟨e1,gs,.int k,Y,o,e1,⟨gs,Y⟩,e1,⟨gs,Y⟩,by show 4<=g_;omega,fun l J=>?_⟩
  have e2:((σ.set i (a_ (.ref a))).set j (a_ (.ref l)))[j]? =a_ (a_ (.ref l)):=by rw [x_ (by rw [En];exact m)]
  have e3:((σ.set i (a_ (.ref a))).set j (a_ (.ref l)))[i]? =a_ (a_ (.ref a)):=by rw [o_ (EI e)];exact e1
  refine ⟨.ref l,e2,iQ ao,e3,fun p f=>?_⟩
  have I:l≠p:=fun z=>by subst z;rw [ao] at f;cases f
  have c:H p=c_:=by rw [aq (EI I)] at f;exact f
  refine ⟨⟨gs,by rw [aq (aL Y c),aq (aL Y J)];exact Y⟩,l,[.non,.int k,.bl b1,.bl b2],.bl b3,rfl,rfl,by rw [aq I];exact ao,by show 4<g_;omega,?_⟩
  exact q _ _ _ (r.toldG e hi m h g (step_app (xs:=[.non,.int k,.bl b1,.bl b2]) r.st.fh J c (EI I)) (r.st.fh.free J) ⟨_,_,rfl,rfl,_,_,rfl,rfl,_,_,rfl,rfl,_,_,rfl,rfl,_,_,rfl,rfl,rfl⟩)
 |_=>exact (Wno.ns q).elim
end
section
variable {c n to:p_} {j:Nat} {fb:ah->M Flo} {f1:p_} {ys:List e_}
theorem ds_toldN (u:∀(pins:Pn) (σ:St) (E:XK) (h:Vp),jW (CXd X.prog X.w) (X.ux h) pins σ E->DSat K E ro (X.ux h) OL [] O pins σ body fb)
  (Z:XTry X.K X.mg c C) (v:X.N.Nodup)
  (m:∀(a d:e_) (oe:Io),oe.cls=.ref C->(∃vs,oe.data=.fields vs)->oe.dict=a_ d->PSs (X.hand a oe) (b₀::suite) (BC K i j f1 b1 b2 b3 ys a d))
  (Y:(i≠j)⁻¹) (b:(i∉O)⁻¹) (J:(j∉O)⁻¹) (hi: ~~~(X.N[i]? =a_ n)) (q: ~~~(X.N[j]? =a_ to)) (o: ~~~(X.env.scope.names.lookup n=a_ .local))
  (s: ~~~(Gl X c)) (f: ~~~(X.ex=[])) (I: ~~~(X.stack=X.env::X.outer)) (e: ~~~(X.env.frame=a_ X.env.locals)) (g:((c==("__debug__":p_))=b_)⁻¹) :
  DS K Wno ro X OL O O (.Try body [.ExceptHandler (a_ (.Name c np)) (a_ n) (b₀::suite) hpos] [] [] pos) (oU O C fb (qX i j f1 b1 b2 b3)):=by
 refine ds_tryF (ts:=fun a dx=>tsToldN K i j f1 b1 b2 b3 ys a dx) u (fun a oe t hd=>?_) (fun F0 H0 D σ a d gs fs FB F H ρ k r h1 h2 p=>rs_toldN r h1 h2 Y ?_ ?_ b J p) Z.nm (by decide +kernel) Z.mg v hi o s f I e g
 ·cases l:oe.dict with
  |none=>exact vh
  |some d=>exact m a d oe t hd l
 ·rw [k];exact (A1.mp hi).1
 ·rw [k];exact (A1.mp q).1
end
noncomputable abbrev PKs:=List ((p_×p_)×Int)
noncomputable def nS (k:p_×p_):List Key:=[.inr k.1,.inr k.2]
theorem pG {a b:p_×p_}:nS a=nS b↔a=b:=by
 obtain ⟨a1,I⟩:=a;obtain ⟨b1,b2⟩:=b;constructor
 ·intro h;simp only [nS,HX,Sum.inr.injEq,and_true] at h;rw [h.1,h.2]
 ·intro h;rw [h]
def pkV (ks:PKs):List (List Key×V):=ks.map fun p=>(nS p.1,.int p.2)
noncomputable def wI (ks:PKs) (k:p_×p_):Option Int:=(ks.find? fun p=>r_ (p.1=k)).map (·.2)
def oZ (ks:PKs) (k:p_×p_) (v:Int):PKs:=if (wI ks k).isSome=d_ then ks.map (fun p=>if p.1=k then (p.1,v) else p) else ks++[(k,v)]
theorem xC (k:p_×p_):∀ks:PKs,uj (pkV ks) (nS k)=(wI ks k).map V.int
 |[]=>rfl
 |p::ks=>by
  have I:=xC k ks;unfold uj pkV wI at I ⊢;by_cases e:p.1=k
  ·simp only [Eh,Ff,pG,e,decide_true,Ih]
  ·simp only [Eh,Ff,pG,e,K4];exact I
theorem Cj (ks:PKs) (k:p_×p_) (v:Int):putK (pkV ks) (nS k) (.int v)=pkV (oZ ks k v):=by
 unfold putK oZ;rw [o7,xC];by_cases h:(wI ks k).isSome=d_
 ·rw [f_ (by rw [G9];exact h),f_ h];unfold pkV;rw [El,El];refine FU fun p _=>?_;simp only [Kk,pG];by_cases e:p.1=k
  ·rw [f_ e,f_ e]
  ·rw [m_ e,m_ e]
 ·rw [m_ (by rw [G9];exact h),m_ h];unfold pkV;rw [Fo];rfl
theorem Ck (ks:PKs):(pkV ks).length=ks.length:=t_ ..
structure Jst where
 dk:List Dat
 dn:List Dat
 df:List Dat
 dc:List Dat
 g:PKs
 b:PKs
variable {m1:Jst->List Dat->M (Bool×Jst)}
noncomputable def Jst.ds (s:Jst):List Dat:=[.lst s.dk,.lst s.dn,.lst s.df,.lst s.dc]
structure Jad where
 p:e_
 T:e_
 g:e_
 b:e_
 k:e_
 n:e_
 f:e_
 c:e_
noncomputable def Jad.xs (a:Jad):List e_:=[a.k,a.n,a.f,a.c]
def Jad.ys (a:Jad):List e_:=a.g::a.b::a.xs
noncomputable def tabs (a:Jad):List (Key×V):=[(.inr "gap",.ref a.g),(.inr "beside",.ref a.b)]
structure Lj (K:Fg) (F H:Hp) (a:Jad) (s:Jst):Prop where
 c:Cells K F H a.xs s.ds
 tp:H a.p=a_ (.tup [.ref a.k,.ref a.T,.ref a.n,.ref a.f,.ref a.c])
 ot:H a.T=a_ (.dK (tabs a))
 og:H a.g=a_ (.dT (pkV s.g))
 ob:H a.b=a_ (.dT (pkV s.b))
 fg:F a.g=c_
 fb:F a.b=c_
 ng:a.g≠a.b
 xg:a.g∉a.xs
 xb:a.b∉a.xs
section
variable {a:Jad} {s:Jst} 
theorem Lj.step (L:Lj K F H a s) (t:Step F H F' H'):Lj K F' H' a s:=
 ⟨L.c.step t,t.hh _ _ L.tp,t.hh _ _ L.ot,t.hh _ _ L.og,t.hh _ _ L.ob,t.stays L.fg L.og,t.stays L.fb L.ob,L.ng,L.xg,L.xb⟩
theorem Lj.ex (L:Lj K F H a s):∀x∈a.ys,∃o,H x=a_ o:=fun x I=>by
 rcases v_.mp I with rfl|I
 ·exact ⟨_,L.og⟩
 rcases v_.mp I with rfl|I
 ·exact ⟨_,L.ob⟩
 ·obtain ⟨_,o,h,_⟩:=L.c.at I;exact ⟨o,h⟩
def Ee (K:Fg) (F H:Hp) (a:Jad) (r:Bool×Jst) (Q:VK):Prop:=∀F' H',lh a.ys F H F' H'->Lj K F' H' a r.2->Q (.bl r.1) H'
theorem Ee.step {r:Bool×Jst} (f:Ee K F H a r Q) (L:Lj K F H a s) (t:Step F H F' H'):Ee K F' H' a r Q:=fun F2 H2 t2 I=>f F2 H2 (t.toC.trans t2 (L.step t).ex) I
theorem Ee.same {r:Bool×Jst} {b:Bool} (f:Ee K F H a r Q) (L:Lj K F H a s) (e:(.ok (b,s):M (Bool×Jst))=.ok r):Q (.bl b) H:=by
 cases e;exact f F H ⟨aF.refl _,fun _ _ _ h=>h,L.c.fh,fun _ _ h=>.inl h⟩ L
theorem Cells.upd0 {xs:List e_} {ds:List Dat} (c:Cells K F H xs ds) {x:e_} {u:HO} (J:x∉xs) (Y:F x=c_):Cells K F (upd H x u) xs ds where
 fh:=fun b o h=>by
  have:b≠x:=fun z=>by rw [z,Y] at h;cases h
  rw [aq this];exact c.fh b o h
 nd:=c.nd
 len:=c.len
 own:=fun i y d e1 e2=>by
  obtain ⟨h1,h2⟩:=c.own i y d e1 e2;have I:y≠x:=fun z=>J (by rw [<- z];exact ER e1);obtain ⟨_,o,a,p,_,f,_⟩:=h2.top h1;cases a;exact ⟨h1,h2.re h1 (aF.refl _) f fun o h=>by rw [aq I];exact h⟩
theorem Lj.app (L:Lj K F H a s) {j:Nat} {x:e_} {es:List Dat} {d:Dat} {v:V} {s':Jst} (e1:a.xs[j]? =a_ x) (e2:s.ds[j]? =a_ (.lst es)) (e:aR K F d v) (e3:s'.ds=s.ds.set j (.lst (es++[d]))) (i:s'.g=s.g) (k:s'.b=s.b) :
  ∃ys,H x=a_ (.lst ys)/\ys.length=es.length/\Lj K F (upd H x (.lst (ys++[v]))) a s'/\lh a.ys F H F (upd H x (.lst (ys++[v]))):=by
 obtain ⟨ys,Y,q⟩:=L.c.lst e1 e2;have g:=ER e1;have f:∀{y:e_} {o:HO},H y=a_ o->(∀J,o≠.lst J)->y≠x:=fun {y o} h n z=>by
  rw [z,Y] at h;cases h;exact n _ rfl
 have I:∀{y:e_} {o:HO},H y=a_ o->(∀J,o≠.lst J)->upd H x (.lst (ys++[v])) y=a_ o:=fun {y o} h n=>by rw [aq (f h n)];exact h
 have c:=L.c.app (d:=d) (v:=v) e1 Y q e;rw [<- e3] at c;refine ⟨ys,Y,q.length,⟨c,I L.tp (fun _ h=>nomatch h),I L.ot (fun _ h=>nomatch h),by rw [i];exact I L.og (fun _ h=>nomatch h),by rw [k];exact I L.ob (fun _ h=>nomatch h),L.fg,L.fb,L.ng,L.xg,L.xb⟩,?_⟩
 have u:=L.c.updC (.lst (ys++[v])) g;exact ⟨u.ff,fun b o n h=>u.hh b o (fun z=>n (C_ _ (C_ _ z))) h,u.fh,u.nw⟩
theorem Lj.putg (L:Lj K F H a s) (k:p_×p_) (v:Int):Lj K F (upd H a.g (.dT (putK (pkV s.g) (nS k) (.int v)))) a {s with g:=oZ s.g k v}/\lh a.ys F H F (upd H a.g (.dT (putK (pkV s.g) (nS k) (.int v)))):=by
 rw [Cj];have I:∀{y:e_} {o:HO},H y=a_ o->y≠a.g->upd H a.g (.dT (pkV (oZ s.g k v))) y=a_ o:=fun {y o} h n=>by rw [aq n];exact h
 have Y:a.p≠a.g:=fun z=>by have h:=L.tp;rw [z,L.og] at h;cases h
 have n2:a.T≠a.g:=fun z=>by have h:=L.ot;rw [z,L.og] at h;cases h
 have J:=L.c.upd0 (u:=.dT (pkV (oZ s.g k v))) L.xg L.fg;refine ⟨⟨J,I L.tp Y,I L.ot n2,ao,I L.ob (EI L.ng),L.fg,L.fb,L.ng,L.xg,L.xb⟩,aF.refl _,fun b o n h=>I h (fun z=>n (by rw [z];exact EB ..)),J.fh,fun _ _ h=>.inl h⟩
theorem Lj.putb (L:Lj K F H a s) (k:p_×p_) (v:Int):Lj K F (upd H a.b (.dT (putK (pkV s.b) (nS k) (.int v)))) a {s with b:=oZ s.b k v}/\lh a.ys F H F (upd H a.b (.dT (putK (pkV s.b) (nS k) (.int v)))):=by
 rw [Cj];have I:∀{y:e_} {o:HO},H y=a_ o->y≠a.b->upd H a.b (.dT (pkV (oZ s.b k v))) y=a_ o:=fun {y o} h n=>by rw [aq n];exact h
 have Y:a.p≠a.b:=fun z=>by have h:=L.tp;rw [z,L.ob] at h;cases h
 have n2:a.T≠a.b:=fun z=>by have h:=L.ot;rw [z,L.ob] at h;cases h
 have J:=L.c.upd0 (u:=.dT (pkV (oZ s.b k v))) L.xb L.fb;refine ⟨⟨J,I L.tp Y,I L.ot n2,I L.og L.ng,ao,L.fg,L.fb,L.ng,L.xg,L.xb⟩,aF.refl _,fun b o n h=>I h (fun z=>n (by rw [z];exact C_ _ (EB ..))),J.fh,fun _ _ h=>.inl h⟩
end
noncomputable def eJ (s:Jst) (ws:List Dat) (r:List (Option Dat)):ah:=[c_,a_ (.lst ws),a_ (.lst s.dk),c_,a_ (.lst s.dn),a_ (.lst s.df),a_ (.lst s.dc)]++r
noncomputable def eW (ws:List Dat) (r:List (Option Dat)):ah:=[c_,a_ (.lst ws),c_,c_,c_,c_,c_]++r
noncomputable def sJ (a:Jad) (vw:V) (τ:St):St:=[a_ (.ref a.p),a_ vw,a_ (.ref a.k),a_ (.ref a.T),a_ (.ref a.n),a_ (.ref a.f),a_ (.ref a.c)]++τ
def okJ (n:Nat) (x:Bool×Jst):M (Bool×Jst):=if n<g_ then .ok x else stk
def putJ (s:Jst):Dat->Dat->Dat->Dat->M (Bool×Jst)
 |.int v,.str w,.str x,.str y=>if w="gap" then okJ s.g.length (d_,{s with g:=oZ s.g (x,y) v}) else if w="beside" then okJ s.b.length (d_,{s with b:=oZ s.b (x,y) v}) else stk
 |_,_,_,_=>stk
def oneD (t1 t2 t3 t4 t5 t6 t7 t8 t9 t10:ah->M Bool) (a1 fg w0 w1 w2 fs fe fc fn a9 fl:ah->M Dat) (s:Jst) (ws:List Dat):M (Bool×Jst):=
 let I:List (Option Dat):=[c_,c_,c_,c_]
 (t1 (eJ s ws I)).bind fun b=>if b=d_ then (t2 (eJ s ws I)).bind fun b=>if b=d_ then .ok (b_,s) else (a1 (eW ws I)).bind fun d=>okJ s.dk.length (d_,{s with dk:=s.dk++[d]}) else
 (t3 (eJ s ws I)).bind fun b=>if b=d_ then (fg (eW ws I)).bind fun Y=>(t4 (eJ s ws [a_ Y,c_,c_,c_])).bind fun b=>if b=d_ then .ok (b_,s) else
  (w0 (eW ws [a_ Y,c_,c_,c_])).bind fun x=>(w1 (eW ws [a_ Y,c_,c_,c_])).bind fun y=>(w2 (eW ws [a_ Y,c_,c_,c_])).bind fun z=>putJ s Y x y z else
 (t5 (eJ s ws I)).bind fun b=>if b=d_ then (fs (eW ws I)).bind fun a=>(fe (eW ws [c_,a_ a,c_,c_])).bind fun c=>(t6 (eJ s ws [c_,a_ a,a_ c,c_])).bind fun b=>if b=d_ then .ok (b_,s) else
  (fc (eW ws [c_,a_ a,a_ c,c_])).bind fun d=>okJ s.dc.length (d_,{s with dc:=s.dc++[d]}) else
 (t7 (eJ s ws I)).bind fun b=>if b=d_ then .ok (b_,s) else
 (fn (eW ws I)).bind fun dn=>let J:List (Option Dat):=[c_,c_,c_,a_ dn]
 (t8 (eJ s ws J)).bind fun b=>if b=d_ then .ok (b_,s) else
 (t9 (eJ s ws J)).bind fun b=>if b=d_ then .ok (b_,s) else
 (t10 (eJ s ws J)).bind fun b=>if b=d_ then .ok (b_,s) else
 (a9 (eW ws J)).bind fun nm=>(fl (eJ {s with dn:=s.dn++[nm]} ws J)).bind fun d=>if (gZ d&&r_ (s.dn.length<g_))=d_ then okJ s.df.length (d_,{s with dn:=s.dn++[nm],df:=s.df++[d]}) else stk
def tSetD (K:Fg) (i:Nat) (f:ah->M Dat):TS:=fun D σ H=>tD K Wno b_ f σ H fun v H'=>D.nx (σ.set i (a_ v)) H'
section
variable {a:Jad} {s:Jst} {τ:St} {r:List (Option Dat)} {z:Bool×Jst} {D:Ends}
theorem dB.put {d:Dat} (q:dB K F σ ρ) (e:σ[i]? =a_ (a_ v)) (h:aR K F d v):dB K F σ (ρ.set i (a_ d)):=q.tell e h
theorem Lj.full (L:Lj K F H a s) (q:dB K F (sJ a vw τ) (eW ws r)):dB K (plus F H (·∈a.xs)) (sJ a vw τ) (eJ s ws r):=by
 have Y:=(q.mono L.c.ff).put (i:=2) (v:=.ref a.k) rfl (L.c.deep (j:=0) rfl rfl);have J:=Y.put (i:=4) (v:=.ref a.n) rfl (L.c.deep (j:=1) rfl rfl);have I:=J.put (i:=5) (v:=.ref a.f) rfl (L.c.deep (j:=2) rfl rfl);exact I.put (i:=6) (v:=.ref a.c) rfl (L.c.deep (j:=3) rfl rfl)
theorem Lj.ask (L:Lj K F H a s) (q:dB K F (sJ a vw τ) (eW ws r)) {t:ah->M Bool} {f:Bool->M (Bool×Jst)} (e:(t (eJ s ws r)).bind f=.ok z) (I:Ee K F H a z Q) {T:TS}
  (J:∀F1 H1,Lj K F1 H1 a s->dB K F1 (sJ a vw τ) (eW ws r)->Ee K F1 H1 a z Q->f d_=.ok z->T D (sJ a vw τ) H1)
  (g:∀F1 H1,Lj K F1 H1 a s->dB K F1 (sJ a vw τ) (eW ws r)->Ee K F1 H1 a z Q->f b_=.ok z->U D (sJ a vw τ) H1):mx (tDT K Wno t) T U D (sJ a vw τ) H:=by
 obtain ⟨b,c,e⟩:=bind_eq e;refine gM (L.full q) L.c.zh (fun i h=>by rw [c] at h;cases h) fun j Y F1 H1 d=>?_;rw [c] at Y;cases Y;have S:=L.c.back d;cases b with
 |true=>exact J _ H1 (L.step S) (q.mono S.ff) (I.step L S) e
 |false=>exact g _ H1 (L.step S) (q.mono S.ff) (I.step L S) e
theorem Lj.val (L:Lj K F H a s) (q:dB K F (sJ a vw τ) (eW ws r)) {g:ah->M Dat} {f:Dat->M (Bool×Jst)} (e:(g (eW ws r)).bind f=.ok z) (I:Ee K F H a z Q) {R:VK}
  (b:∀d v F1 H1,Lj K F1 H1 a s->dB K F1 (sJ a vw τ) (eW ws r)->Ee K F1 H1 a z Q->aR K F1 d v->f d=.ok z->R v H1):tD K Wno b_ g (sJ a vw τ) H R:=by
 obtain ⟨d,J,e⟩:=bind_eq e;refine aO q L.c.fh (fun c h=>by rw [J] at h;cases h) fun d' hd v F1 H1 S Y=>?_;rw [J] at hd;cases hd;exact b d v F1 H1 (L.step S) (q.mono S.ff) (I.step L S) Y e
theorem putJ_ok {J I:Dat} (e:putJ s d1 d2 J I=.ok z):∃(v:Int) (w x y:p_),d1=.int v/\d2=.str w/\J=.str x/\I=.str y/\((w="gap"/\okJ s.g.length (d_,{s with g:=oZ s.g (x,y) v})=.ok z)\/(w="beside"/\okJ s.b.length (d_,{s with b:=oZ s.b (x,y) v})=.ok z)):=by
 unfold putJ at e;split at e
 ·rename_i v w x y;refine ⟨v,w,x,y,rfl,rfl,rfl,rfl,?_⟩
  split at e
  ·rename_i h;exact .inl ⟨h,e⟩
  ·split at e
   ·rename_i h;exact .inr ⟨h,e⟩
   ·cases e
 ·cases e
theorem vv {x:Bool×Jst} (e:okJ n x=.ok z):n<g_/\z=x:=by
 unfold okJ at e;split at e
 ·cases e;exact ⟨by assumption,rfl⟩
 ·cases e
theorem Lj.add (L:Lj K F H a s) {j:Nat} {x:e_} {es:List Dat} {d:Dat} {s':Jst} (I:σ[i]? =a_ (a_ (.ref x))) (e1:a.xs[j]? =a_ x) (e2:s.ds[j]? =a_ (.lst es)) (e3:s'.ds=s.ds.set j (.lst (es++[d]))) (k:s'.g=s.g) (l:s'.b=s.b) (g:es.length<g_)
  (f:∀R:VK,(∀v F1 H1,Step F H F1 H1->aR K F1 d v->R v H1)->te σ H R) (h:∀F1 H1,lh a.ys F H F1 H1->Lj K F1 H1 a s'->U D σ H1):dC (qB (tBM K "list" iR (bJ i) (aM te dI))) U D σ H:=by
 obtain ⟨Y,J,_⟩:=L.c.lst e1 e2;refine ⟨.ref x,I,iQ J,f _ fun v F1 H1 S b=>?_⟩
 obtain ⟨ys,e,c,n,m⟩:=(L.step S).app e1 e2 b e3 k l;exact ⟨x,ys,v,rfl,rfl,e,by rw [c];exact g,h F1 _ (S.toC.trans m (L.step S).ex) n⟩
theorem yQ {a:Jad} (h:H a.T=a_ (.dK (tabs a))):wD H a.T (.str "gap") (a_ (.ref a.g)):=by
 have:uj (tabs a) (.inr "gap")=a_ (.ref a.g):=by unfold tabs;exact lu rfl
 rw [<- this];exact wD.k (k:=.inr "gap") h
theorem kq {a:Jad} (h:H a.T=a_ (.dK (tabs a))):wD H a.T (.str "beside") (a_ (.ref a.b)):=by
 have:uj (tabs a) (.inr "beside")=a_ (.ref a.b):=by
  unfold tabs;rw [lA (by show ¬(He (h_ "gap"):Key)=He (h_ "beside");decide +kernel)];exact lu rfl
 rw [<- this];exact wD.k (k:=.inr "beside") h
end
def spOne (K:Fg) (m:Jst->List Dat->M (Bool×Jst)):Sp:=fun vs H Q _=>∃(a:Jad) (F:Hp) (s:Jst) (ws:List Dat) (vw:V) (r:Bool×Jst),vs=[.ref a.p,vw]/\Lj K F H a s/\aR K F (.lst ws) vw/\m s ws=.ok r/\Ee K F H a r Q
theorem len_one {m:Jst->List Dat->M (Bool×Jst)} (h:spOne K m vs H Q E):vs.length=2:=by
 obtain ⟨_,_,_,_,_,_,rfl,_⟩:=h;rfl
section
variable {t6 t7 t8 t9 t10:ah->M Bool} {a1 fg w0 w1 w2 fs fn a9 fl:ah->M Dat} 
noncomputable def nOne:List p_:=["_law_state","_law_words_here","_law_kinds","_law_tables","_law_names","_law_flights","_law_closed","_law_gap_here","_law_start","_law_stop","_law_numbers"]
abbrev rNo:TS:=qA (tC (.bl b_))
abbrev rYes:TS:=qA (tC (.bl d_))
abbrev tAppJ (K:Fg) (i:Nat) (f:ah->M Dat):TS:=qB (tBM K "list" iR (bJ i) (aM (tD K Wno b_ f) dI))
theorem rs_one (h:spOne K (oneD t1 t2 t3 t4 t5 t6 t7 t8 t9 t10 a1 fg w0 w1 w2 fs fe fc fn a9 fl) vs H Q E) :
  dC (qq (bJ 0) (gTup K 5 (jZ (bX 2) (jZ (bX 3) (jZ (bX 4) (jZ (bX 5) (jZ (bX 6) gNil)))))))
  (dC (mx (tDT K Wno t1) (dC (mx (tDT K Wno t2) rNo gq) (dC (tAppJ K 2 a1) rYes)) gq)
  (dC (mx (tDT K Wno t3) (dC (qq (tD K Wno b_ fg) (bX 7)) (dC (mx (tDT K Wno t4) rNo gq) (dC (sDPut (tDGet (bJ 3) (tD K Wno b_ w0)) (tTup (aM (tD K Wno b_ w1) (aM (tD K Wno b_ w2) dI))) (bJ 7)) rYes))) gq)
  (dC (mx (tDT K Wno t5) (dC (qq (tD K Wno b_ fs) (bX 8)) (dC (qq (tD K Wno b_ fe) (bX 9)) (dC (mx (tDT K Wno t6) rNo gq) (dC (tAppJ K 6 fc) rYes)))) gq)
  (dC (mx (tDT K Wno t7) rNo gq)
  (dC (tSetD K 10 fn)
  (dC (mx (tDT K Wno t8) rNo gq)
  (dC (mx (tDT K Wno t9) rNo gq)
  (dC (mx (tDT K Wno t10) rNo gq)
  (dC (tAppJ K 4 a9)
  (dC (tAppJ K 5 fl) rYes)))))))))) {nx:=fun _ H'=>Q .non H',rt:=Q} (start nOne vs) H:=by
 obtain ⟨a,F,s,ws,vw,z,rfl,L,qw,e,I⟩:=h;refine ⟨.ref a.p,rfl,a.p,_,rfl,SqT.of L.tp,rfl,_,_,rfl,_,_,rfl,_,_,rfl,_,_,rfl,_,_,rfl,rfl,?_⟩
 have q:dB K F (sJ a vw [c_,c_,c_,c_]) (eW ws [c_,c_,c_,c_]):=dB.only (σ:=sJ a vw [c_,c_,c_,c_]) (i:=1) rfl qw;show dC _ _ _ (sJ a vw [c_,c_,c_,c_]) H;unfold oneD at e;dsimp only at e;refine L.ask q e I (fun F L' L q I e=>?_) (fun F H L q I e=>?_)
 ·rw [f_ rfl] at e;refine L.ask q e I (fun F H L q I e=>?_) (fun F H L q I e=>?_)
  ·rw [f_ rfl] at e;exact I.same L e
  ·rw [m_ (by decide)] at e;obtain ⟨d,f,e⟩:=bind_eq e;obtain ⟨c,rfl⟩:=vv e;refine L.add (i:=2) (j:=0) (d:=d) rfl rfl rfl (s':={s with dk:=s.dk++[d]}) rfl rfl rfl c (fun R l=>aO q L.c.fh (fun r h=>by rw [f] at h;cases h) fun d' hd v F1 H1 S k=>?_) fun F1 H1 S J=>I F1 H1 S J;rw [f] at hd;cases hd;exact l v F1 H1 S k
 rw [m_ (by decide)] at e;refine L.ask q e I (fun F H L q I e=>?_) (fun F H L q I e=>?_)
 ·rw [f_ rfl] at e;refine L.val q e I fun C g F H L q I q7 e=>?_;have q:dB K F (sJ a vw [a_ g,c_,c_,c_]) (eW ws [a_ C,c_,c_,c_]):=q.set q7 7;refine L.ask q e I (fun F H L q I e=>?_) (fun F H L q I e=>?_)
  ·rw [f_ rfl] at e;exact I.same L e
  ·rw [m_ (by decide)] at e;refine ⟨g,rfl,.ref a.T,rfl,L.val q e I fun dw D F H L q I N e=>?_⟩
   have key:∀(x y:p_) (o:e_) (F H:Hp),Lj K F H a s->dB K F (sJ a vw [a_ g,c_,c_,c_]) (eW ws [a_ C,c_,c_,c_])->w1 (eW ws [a_ C,c_,c_,c_])=.ok (.str x)->w2 (eW ws [a_ C,c_,c_,c_])=.ok (.str y)->(∀F1 H1 q,Lj K F1 H1 a s->Step F H F1 H1->H1 q=a_ (.tup ((nS (x,y)).map kV))->∃u B,V.ref o=V.ref u/\DPut H1 u (.ref q) g B/\Q (.bl d_) B) ->
     tTup (aM (tD K Wno b_ w1) (aM (tD K Wno b_ w2) dI)) (sJ a vw [a_ g,c_,c_,c_]) H fun y' H3=>∃u B,V.ref o=V.ref u/\DPut H3 u y' g B/\Q (.bl d_) B:=fun x y o F H L q e1 e2 go=>by
    refine aO q L.c.fh (fun r h=>by rw [e1] at h;cases h) fun d1 p u1 F1 H1 b P=>?_;rw [e1] at p;cases p;cases (show u1=V.str x from P);refine aO (q.mono b.ff) b.fh (fun r h=>by rw [e2] at h;cases h) fun d2 n u2 F2 H2 Y O=>?_;rw [e2] at n;cases n;cases (show u2=V.str y from O);refine ⟨by rw [Er];show 2<=16777216;decide,fun t m=>?_⟩
    have S3:Step F H F2 (upd H2 t (.tup [.str x,.str y])):=(b.trans Y).trans (Step.grow Y.fh m);exact go F2 _ t (L.step S3) S3 ao
   obtain ⟨dx,ex,e⟩:=bind_eq e;obtain ⟨dy,ey,e⟩:=bind_eq e;obtain ⟨i,w,x,y,rfl,rfl,rfl,rfl,e9⟩:=putJ_ok e;clear e;cases (show g=V.int i from by
    obtain ⟨v,h1,h2⟩:=q.sl 7 _ rfl;cases h1;exact h2)
   have W:D=V.str w:=N;subst W;rcases e9 with ⟨rfl,X⟩|⟨rfl,X⟩
   ·obtain ⟨c,rfl⟩:=vv X;refine ⟨a.T,.ref a.g,rfl,yQ L.ot,key x y a.g F H L q ex ey fun F1 H1 t J b m=>?_⟩
    obtain ⟨A,Y⟩:=J.putg (x,y) i;exact ⟨a.g,_,rfl,DPut.t J.og m (by rw [Ck];exact c),I F1 _ (b.toC.trans Y J.ex) A⟩
   ·obtain ⟨c,rfl⟩:=vv X;refine ⟨a.T,.ref a.b,rfl,kq L.ot,key x y a.b F H L q ex ey fun F1 H1 t J b m=>?_⟩
    obtain ⟨A,Y⟩:=J.putb (x,y) i;exact ⟨a.b,_,rfl,DPut.t J.ob m (by rw [Ck];exact c),I F1 _ (b.toC.trans Y J.ex) A⟩
 rw [m_ (by decide)] at e;refine L.ask q e I (fun F H L q I e=>?_) (fun F H L q I e=>?_)
 ·rw [f_ rfl] at e;refine L.val q e I fun d8 Z F H L q I q8 e=>?_;have q:dB K F (sJ a vw [c_,a_ Z,c_,c_]) (eW ws [c_,a_ d8,c_,c_]):=q.set q8 8;refine L.val q e I fun d9 v9 F H L q I q9 e=>?_;have q:dB K F (sJ a vw [c_,a_ Z,a_ v9,c_]) (eW ws [c_,a_ d8,a_ d9,c_]):=q.set q9 9;refine L.ask q e I (fun F H L q I e=>?_) (fun F H L q I e=>?_)
  ·rw [f_ rfl] at e;exact I.same L e
  ·rw [m_ (by decide)] at e;obtain ⟨d,f,e⟩:=bind_eq e;obtain ⟨c,rfl⟩:=vv e;refine L.add (i:=6) (j:=3) (d:=d) rfl rfl rfl (s':={s with dc:=s.dc++[d]}) rfl rfl rfl c (fun R l=>aO q L.c.fh (fun r h=>by rw [f] at h;cases h) fun d' hd v F1 H1 S k=>?_) fun F1 H1 S J=>I F1 H1 S J;rw [f] at hd;cases hd;exact l v F1 H1 S k
 rw [m_ (by decide)] at e;refine L.ask q e I (fun F H L q I e=>?_) (fun F H L q I e=>?_)
 ·rw [f_ rfl] at e;exact I.same L e
 rw [m_ (by decide)] at e;refine L.val q e I fun dn G F H L q I T e=>?_;have q:dB K F (sJ a vw [c_,c_,c_,a_ G]) (eW ws [c_,c_,c_,a_ dn]):=q.set T 10;refine L.ask q e I (fun F H L q I e=>?_) (fun F H L q I e=>?_)
 ·rw [f_ rfl] at e;exact I.same L e
 rw [m_ (by decide)] at e;refine L.ask q e I (fun F H L q I e=>?_) (fun F H L q I e=>?_)
 ·rw [f_ rfl] at e;exact I.same L e
 rw [m_ (by decide)] at e;refine L.ask q e I (fun F H L q I e=>?_) (fun F H L q I e=>?_)
 ·rw [f_ rfl] at e;exact I.same L e
 rw [m_ (by decide)] at e;obtain ⟨nm,en,e⟩:=bind_eq e;obtain ⟨d,f,e⟩:=bind_eq e;split at e
 rotate_left
 ·cases e
 rename_i U;rw [n_,Et] at U;obtain ⟨c,rfl⟩:=vv e;refine L.add (i:=4) (j:=1) (d:=nm) rfl rfl rfl (s':={s with dn:=s.dn++[nm]}) rfl rfl rfl U.2 (fun R l=>aO q L.c.fh (fun r h=>by rw [en] at h;cases h) fun d' hd v F1 H1 S k=>?_) fun F1 H1 b J=>?_
 ·rw [en] at hd;cases hd;exact l v F1 H1 S k
 ·have q1:=q.mono b.ff;refine J.add (i:=5) (j:=2) (d:=d) rfl rfl rfl (s':={s with dn:=s.dn++[nm],df:=s.df++[d]}) rfl rfl rfl c (fun R l=>aO (J.full q1) J.c.zh (fun r h=>by rw [f] at h;cases h) fun d' hd v F2 H2 Y k=>?_) fun F2 H2 Y A=>I F2 H2 (b.trans Y J.ex) A;rw [f] at hd;cases hd;exact l v _ H2 (J.c.back Y) (J.c.flat Y U.1 k)
end
theorem eq_sz {E:Vp} {Q:Vp} {J I:Io} {es fs:Array Lv} (d:(a==Fj)=b_) (c:(b==Fj)=b_)
  (h1:s.heap.get? a=a_ J) (h2:J.ExactDict) (f:J.data=.dict es ep) (Y:s.heap.get? b=a_ I) (g2:I.ExactDict) (g:I.data=.dict fs ep') (j:fs.toList=[]) (e:A.units<FK) (h:Q (.bool es.toList.isEmpty) s):Cb (Eg prog w) A (Es .Eq (.ref a) (.ref b)) Q E s:=by
 obtain ⟨es⟩:=es;obtain ⟨fs⟩:=fs;cases (show fs=[] from j);cases es with
 |nil=>exact LL d c (show s.heap.DictOf (JD prog w) a [] from ⟨J,_,ep,h1,h2,f,fun i hi=>Ek hi (by simp),.nil,.nil⟩) (show s.heap.DictOf (JD prog w) b [] from ⟨I,_,ep',Y,g2,g,fun i hi=>Ek hi (by simp),.nil,.nil⟩) e (fun _=>.nil) h
 |cons x xs=>
  have ta:s.TypeIs (.ref a) "dict":=⟨J,h1,h2.1⟩
  have tb:s.TypeIs (.ref b) "dict":=⟨I,Y,g2.1⟩
  refine Km (op:=.Eq) ta tb Hk (JP Hk ta J8 ?_ (JX _ _)) e;refine (show Cb _ _ (GP "__eq__" ⟨[.ref a,.ref b],[]⟩ >>= _) _ _ s from k_ (by
   unfold GP;refine k_ (LR ta (show Cb _ _ (FF (D_ a,D_ b)) _ _ s from A_ (k_ (MZ (T:="dict") tb J7 ?_))));simp only [Kb,IU,K3];refine k_ (A_ (k_ (A_ (k_ ?_))));unfold Jn Ju;rw [m_ (by rw [d];decide),m_ (by rw [c];decide)];refine k_ (A_ (k_ (A_ (k_ (Ij h1 f (k_ (Ij Y g ?_)))))));rw [f_ (by simp)];refine k_ (wpAny_rule (A_ (A_ ⟨_,rfl,(fun x=>nomatch x),?_⟩)));simpa using h))
noncomputable def rEqT:R2:=fun x y H Q=>∃a b kvs,x=.ref a/\y=.ref b/\H a=a_ (.dT kvs)/\H b=a_ (.dT [])/\Q (.bl kvs.isEmpty) H
theorem op_eqT (p:X.A.units+64<FK):OpR X (Es .Eq) rEqT:=by
 intro pins s σ H y x u v Q I J Y h;obtain ⟨a,b,kvs,rfl,rfl,m,l,q⟩:=h;cases (show u=D_ a from J);cases (show v=D_ b from Y);obtain ⟨_,d,xs,r,o,es,ep,h1,h2,g,f,_⟩:=dt_of I.hok m;obtain ⟨_,c,ys,r',n,fs,ep',k,g2,j,i,_⟩:=dt_of I.hok l;cases r';refine eq_sz d c h1 h2 g k g2 j i (by omega) ⟨.bl _,H,I,rfl,?_⟩;have e:es.toList.isEmpty=kvs.isEmpty:=by
  rw [f];have:=r.length;cases xs<;>cases kvs<;>simp_all
 rw [e];exact q
noncomputable def eT (x:p_):ah:=[a_ (.str x),c_,c_,c_,c_,c_,c_,c_,c_,c_,c_,c_]
noncomputable def eK (rows:List Dat) (k:Nat) (w:Option Dat):ah:=[c_,c_,a_ (.lst rows),a_ (.int k),w,c_,c_,c_,c_,c_,c_,c_]
noncomputable def eM (s:Jst) (I:Option Dat):ah:=[c_,c_,c_,c_,c_,a_ (.lst s.dk),c_,a_ (.lst s.dn),a_ (.lst s.df),a_ (.lst s.dc),I,c_]
def nY (m1:Jst->List Dat->M (Bool×Jst)) (fw fr:ah->M Dat) (f1 f2:ah->M Bool) (rows:List Dat):Nat->Nat->Jst->M (Sum Dat Jst)
 |0,_,s=>.ok (.inr s)
 |m+1,k,s=>(fw (eK rows k c_)).bind fun w=>match w with
  |.lst ws=>(f1 (eK rows k (a_ (.lst ws)))).bind fun b=>if b=d_ then (f2 (eK rows k (a_ (.lst ws)))).bind fun b=>if b=d_ then (m1 s ws).bind fun r=>if r.1=d_ then nY m1 fw fr f1 f2 rows m (k+1) r.2 else (fr (eK rows k (a_ (.lst ws)))).bind fun d=>.ok (.inl d)
   else nY m1 fw fr f1 f2 rows m (k+1) s else nY m1 fw fr f1 f2 rows m (k+1) s
  |_=>stk
def rowJ (ks:PKs) (ns:List p_) (x:p_):Dat:=.lst (ns.map fun y=>.int ((wI ks (x,y)).getD 0))
def tabJ (ks:PKs) (ns:List p_):Dat:=.lst (ns.map (rowJ ks ns))
def xV (s:Jst) (ns:List p_):List Dat:=[tabJ s.g ns,if s.b.isEmpty=d_ then .non else tabJ s.b ns]
noncomputable def s0J:Jst:=⟨[],[],[],[],[],[]⟩
def rB (m1:Jst->List Dat->M (Bool×Jst)) (f0 fw fr f8:ah->M Dat) (f1 f2 f4:ah->M Bool) (x:p_):M Dat:=(f0 (eT x)).bind fun d=>match d with
 |.lst rows=>if rows.length<=g_ then (nY m1 fw fr f1 f2 rows rows.length 0 s0J).bind fun r=>match r with
  |.inl d=>.ok d
  |.inr s=>(f4 (eM s c_)).bind fun b=>if b=d_ then .ok (.int 0) else (gr s.dk).bind fun ns=>if ns.length<=g_ then f8 (eM s (a_ (.lst (xV s ns)))) else stk
  else stk
 |_=>stk
def yX (m1:Jst->List Dat->M (Bool×Jst)) (f0 fw fr f8:ah->M Dat) (f1 f2 f4:ah->M Bool):ah->M Flo:=fun ρ=>match ρ with
 |some (.str x)::t=>if t.length=11 then (rB m1 f0 fw fr f8 f1 f2 f4 x).bind fun d=>.ok (.rt d) else stk
 |_=>stk
theorem Bk {r:List α} (h:r.length=n+1):∃x t,r=x::t/\t.length=n:=by
 cases r with
 |nil=>cases h
 |cons x t=>exact ⟨x,t,rfl,Ft h⟩
abbrev BD:TE:=tTup (aM (yR dI) (aM (tDisp [(tC (.str "gap"),yT),(tC (.str "beside"),yT)]) (aM (yR dI) (aM (yR dI) (aM (yR dI) dI)))))
section
variable {R:VK}
theorem xU (a:Jad):nh [] [((.inr "gap":Key),V.ref a.g),(.inr "beside",.ref a.b)]=tabs a:=by
 show putK (putK [] (He "gap":Key) (V.ref a.g)) (He "beside":Key) (V.ref a.b)=_;rw [zi (V.ref a.g) yL,zi (V.ref a.b) (by rw [Jx,lA (by show ¬(He (h_ "gap"):Key)=He (h_ "beside");decide +kernel)];exact yL)];rfl
theorem rd_state (s:aF F H) (h:∀(a:Jad) (H':Hp),Step F H F H'->(∀x∈a.ys,H x=c_)->Lj K F H' a s0J->R (.ref a.p) H'):BD σ H R:=by
 have z0:(0:Nat)<=g_:=FX _;refine ⟨z0,fun k nk=>fun T nT=>fun g ng=>fun b G=>?_⟩
 generalize X:upd H k (HO.lst [])=H1 at *;generalize W:upd H1 T (HO.dK [])=H2 at *;generalize U:upd H2 g (HO.dT [])=H3 at *;generalize S:upd H3 b (HO.dT [])=Z at *;have k1:H1 k=a_ (.lst []):=by rw [<- X];exact ao
 have q:∀{A B:Hp} {x:e_} {o:HO},upd A x o=B->A x=c_->aF A B:=fun {A B x o} e n c u L=>by
  rw [<- e,aq (fun z=>by rw [z,n] at L;cases L)];exact L
 have S1:aF H H1:=q X nk;have C:aF H1 H2:=q W nT;have w:aF H2 H3:=q U ng;have S4:aF H3 Z:=q S G;have T2:H2 T=a_ (.dK []):=by rw [<- W];exact ao
 have g3:H3 g=a_ (.dT []):=by rw [<- U];exact ao
 have b4:Z b=a_ (.dT []):=by rw [<- S];exact ao
 have T4:Z T=a_ (.dK []):=S4 _ _ (w _ _ T2);refine ⟨T4,[(.inr "gap",.ref g),(.inr "beside",.ref b)],rfl,by show 2<=15;decide,?_⟩
 generalize Q:upd Z T (HO.dK (nh [] [((.inr "gap":Key),V.ref g),(.inr "beside",.ref b)]))=m at *;have T5:m T=a_ (.dK (nh [] [((.inr "gap":Key),V.ref g),(.inr "beside",.ref b)])):=by rw [<- Q];exact ao
 have S5:∀x o,x≠T->Z x=a_ o->m x=a_ o:=fun x o n i=>by rw [<- Q,aq n];exact i
 refine ⟨z0,fun n E=>⟨z0,fun f v=>⟨z0,fun c r=>⟨by rw [Er];show 5<=16777216;decide,fun p np=>?_⟩⟩⟩⟩
 generalize P:upd m n (HO.lst [])=H6 at *;generalize O:upd H6 f (HO.lst [])=H7 at *;generalize N:upd H7 c (HO.lst [])=D at *;have l:aF m H6:=q P E;have t:aF H6 H7:=q O v;have S8:aF H7 D:=q N r;have S9:aF D (upd D p (.tup [.ref k,.ref T,.ref n,.ref f,.ref c])):=q rfl np;have I:∀{A:Hp} {x y:e_} {o:HO},A x=a_ o->A y=c_->x≠y:=fun {A x y o} h1 h2 z=>by rw [z,h2] at h1;cases h1
 have kT:k≠T:=I k1 nT;have k5:m k=a_ (.lst []):=S5 _ _ kT (S4 _ _ (w _ _ (C _ _ k1)));have gT:g≠T:=fun z=>I T2 ng z.symm;have bT:b≠T:=fun z=>I (w _ _ T2) G z.symm;have g5:m g=a_ (.dT []):=S5 _ _ gT (S4 _ _ g3);have b5:m b=a_ (.dT []):=S5 _ _ bT b4;have n6:H6 n=a_ (.lst []):=by rw [<- P];exact ao
 have f7:H7 f=a_ (.lst []):=by rw [<- O];exact ao
 have c8:D c=a_ (.lst []):=by rw [<- N];exact ao
 have J:aF m (upd D p (.tup [.ref k,.ref T,.ref n,.ref f,.ref c])):=((l.trans t).trans S8).trans S9;have Y:aF H m:=fun x o i=>S5 x o (fun z=>by have hz:=S1 _ _ i;rw [z,nT] at hz;cases hz) (S4 _ _ (w _ _ (C _ _ (S1 _ _ i))));have fr:∀{A:Hp} {x:e_},aF H A->A x=c_->H x=c_:=fun {A x} hs i=>hs.free i;have hk:H k=c_:=nk;have hg:H g=c_:=fr (S1.trans C) ng;have hb:H b=c_:=fr ((S1.trans C).trans w) G;have hn:H n=c_:=fr Y E;have hf:H f=c_:=fr (Y.trans l) v;have L:H c=c_:=fr ((Y.trans l).trans t) r;have knf:k≠n:=I k5 E;have kf:k≠f:=I (l _ _ k5) v;have kc:k≠c:=I (t _ _ (l _ _ k5)) r;have nf':n≠f:=I n6 v;have nc':n≠c:=I (t _ _ n6) r;have fc':f≠c:=I f7 r;have gn:g≠n:=I g5 E;have gf:g≠f:=I (l _ _ g5) v;have gc:g≠c:=I (t _ _ (l _ _ g5)) r;have bn:b≠n:=I b5 E;have bf:b≠f:=I (l _ _ b5) v;have bc:b≠c:=I (t _ _ (l _ _ b5)) r;have gk:g≠k:=fun z=>I (C _ _ k1) ng z.symm;have bk:b≠k:=fun z=>I (w _ _ (C _ _ k1)) G z.symm;have gb:g≠b:=I g3 G;have SH:aF H (upd D p (.tup [.ref k,.ref T,.ref n,.ref f,.ref c])):=Y.trans J;have all:∀x∈Jad.ys ⟨p,T,g,b,k,n,f,c⟩,H x=c_:=fun x i=>by
  simp only [Jad.ys,Jad.xs,v_,EO,G1] at i;rcases i with rfl|rfl|rfl|rfl|rfl|rfl<;>assumption
 refine h ⟨p,T,g,b,k,n,f,c⟩ _ (Step.same s SH) all ?_;refine ⟨⟨s.trans SH,?_,rfl,fun j x d e1 e2=>?_⟩,ao,?_,J _ _ g5,J _ _ b5,s.free hg,s.free hb,gb,?_,?_⟩
 ·simp only [Jad.xs,G4,v_,EO,G1,Ku,not_false_eq_true,Iz,and_true];exact ⟨⟨knf,kf,kc⟩,⟨nf',nc'⟩,fc'⟩
 ·have k9:=J _ _ k5;have n9:=S9 _ _ (S8 _ _ (t _ _ n6));have f9:=S9 _ _ (S8 _ _ f7);have c9:=S9 _ _ c8
  match j,e1,e2 with
  |0,e1,e2=>cases e1;cases e2;exact ⟨rfl,_,[],rfl,k9,s.free hk,rfl,rfl⟩
  |1,e1,e2=>cases e1;cases e2;exact ⟨rfl,_,[],rfl,n9,s.free hn,rfl,rfl⟩
  |2,e1,e2=>cases e1;cases e2;exact ⟨rfl,_,[],rfl,f9,s.free hf,rfl,rfl⟩
  |3,e1,e2=>cases e1;cases e2;exact ⟨rfl,_,[],rfl,c9,s.free L,rfl,rfl⟩
  |j+4,e1,_=>simp [Jad.xs] at e1
 ·rw [<- xU];exact J _ _ T5
 ·simp only [Jad.xs,v_,EO,G1,Ku];exact ⟨gk,gn,gf,gc⟩
 ·simp only [Jad.xs,v_,EO,G1,Ku];exact ⟨bk,bn,bf,bc⟩
end
abbrev tGet1:TE:=tDGet2 (tDGet (bJ 2) (bJ 3)) (tTup (aM (bJ 1) (aM (bJ 0) dI))) (tC (.int 0))
abbrev tRowJ (K:Fg):TE:=tComp (iList K (bJ 1)) [c_,a_ 0,a_ 2,a_ 3] (bX 0) tYes tGet1
abbrev tTabJ (K:Fg):TE:=tComp (iList K (bJ 5)) [c_,a_ 5,a_ 6,a_ 11] (bX 0) tYes (tRowJ K)
section
variable {a:Jad} {s:Jst} {R:VK} {k T o:e_} {ns:List p_} {ks:PKs} {w:p_}
theorem rN (f:p_->Int):∀ns:List p_,ay K F (ns.map fun y=>Dat.int (f y)) (ns.map fun y=>V.int (f y))
 |[]=>rfl
 |_::ns=>⟨_,_,rfl,rfl,rN f ns⟩
theorem rd_rowJ (b:aF F H) (c:SqL K F k (ns.map V.str)) (l:ns.length<=g_) (g:∀H',aF H H'->wD H' T (.str w) (a_ (.ref o))) (hd:H o=a_ (.dT (pkV ks))) (h:∀v F' H',Step F H F' H'->aR K F' (rowJ ks ns x) v->R v H') :
  tRowJ K [a_ (.str x),a_ (.ref k),a_ (.ref T),a_ (.str w)] H R:=by
 refine ⟨.ref k,rfl,k,rfl,⟨_,b.lst c⟩,wc (xs:=ns.map V.str) (fun i ys H'=>Step F H F H'/\ys=(ns.take i).map fun y=>V.int ((wI ks (x,y)).getD 0)) ⟨Step.refl b,rfl⟩ (fun i ys H' hi ⟨st,e⟩=>⟨st.fh.lst c,?_⟩) (fun i j ys H' I ⟨st,e⟩=>?_) fun ys H' ⟨st,e⟩ p f=>?_⟩
 ·rw [e,t_,Gk];omega
 ·rw [E_] at I;cases Y:ns[i]? with
  |none=>rw [Y] at I;cases I
  |some y=>
   rw [Y] at I;cases I;have J:=st.hh _ _ hd;refine ⟨.ref T,rfl,.str w,rfl,T,.ref o,rfl,g H' st.hh,o,rfl,.inr ⟨_,.inl J⟩,.str x,rfl,.str y,rfl,by rw [Er];show 2<=16777216;decide,fun t d=>?_⟩
   have a:Step F H' F (upd H' t (.tup [.str x,.str y])):=Step.grow st.fh d;refine ⟨_,wD.t (k:=nS (x,y)) (a.hh _ _ J) ao,st.trans a,?_⟩
   rw [xC,e,Jg,Y];simp only [Mc,Fo,Eh,GA]
   congr 2
   cases wI ks (x,y)<;>rfl
 ·rw [t_,LW] at e;refine h (.ref p) (upd F p (.lst ys)) _ (st.trans (Step.lay st.fh f)) ⟨p,ys,rfl,.inl (.inl ao),?_⟩;rw [e];exact rN _ ns
theorem rd_tabJ (f:σ[5]? =a_ (a_ (.ref k))) (j:σ[6]? =a_ (a_ (.ref T))) (b:σ[11]? =a_ (a_ (.str w))) (c:aF F H) (a:SqL K F k (ns.map V.str)) (h:ns.length<=g_) (g:∀H',aF H H'->wD H' T (.str w) (a_ (.ref o))) (hd:H o=a_ (.dT (pkV ks))) (l:∀v F' H',Step F H F' H'->aR K F' (tabJ ks ns) v->R v H') :
  tTabJ K σ H R:=by
 refine ⟨.ref k,f,k,rfl,⟨_,c.lst a⟩,wc (xs:=ns.map V.str) (fun i ys H'=>∃F',Step F H F' H'/\ay K F' ((ns.take i).map (rowJ ks ns)) ys) ⟨F,Step.refl c,rfl⟩ (fun i ys H' hi ⟨F',st,e⟩=>⟨st.fh.lst (st.ff.lst a),?_⟩) (fun i m ys H' J ⟨F',st,e⟩=>?_) fun ys H' ⟨F',st,e⟩ p d=>?_⟩
 ·rw [e.length,t_,Gk];omega
 ·rw [E_] at J;cases Y:ns[i]? with
  |none=>rw [Y] at J;cases J
  |some y=>
   rw [Y] at J;cases J;have es:(inS [c_,a_ 5,a_ 6,a_ 11] σ).set 0 (a_ (.str y))=[a_ (.str y),a_ (.ref k),a_ (.ref T),a_ (.str w)]:=by
    unfold inS;simp only [Eh,GA,f,j,b];rfl
   unfold bX tYes;dsimp only;rw [f_ rfl,es];refine rd_rowJ (st.fh) (st.ff.lst a) h (fun H2 h2=>g H2 (st.hh.trans h2)) (st.hh _ _ hd) fun v F2 H2 I q=>⟨F2,st.trans I,?_⟩
   rw [Jg,Y];simp only [Mc,Fo,Eh,GA];exact (e.mono I.ff).append ⟨v,[],rfl,q,rfl⟩
 ·rw [t_,LW] at e;exact l (.ref p) (upd F' p (.lst ys)) _ (st.trans (Step.lay st.fh d)) ⟨p,ys,rfl,.inl (.inl ao),e.mono (Step.lay st.fh d).ff⟩
theorem Lj.frz (L:Lj K F H a s) (st:Step F0 H0 F H) (J:∀x∈a.ys,H0 x=c_):∃G,Step F0 H0 G H/\aF F G/\aR K G (.lst s.dk) (.ref a.k)/\aR K G (.lst s.dn) (.ref a.n)/\aR K G (.lst s.df) (.ref a.f)/\aR K G (.lst s.dc) (.ref a.c):=
 ⟨plus F H (·∈a.xs),⟨st.ff.trans L.c.ff,st.hh,L.c.zh,fun b o h=>by
  by_cases I:b∈a.xs
  ·exact .inr (J b (C_ _ (C_ _ I)))
  ·rw [ck I] at h;exact st.nw b o h⟩,L.c.ff,L.c.deep (j:=0) rfl rfl,L.c.deep (j:=1) rfl rfl,L.c.deep (j:=2) rfl rfl,L.c.deep (j:=3) rfl rfl⟩
theorem BK:∀{ds:List Dat} {ns:List p_} {ys:List V},gr ds=.ok ns->ay K F ds ys->ys=ns.map V.str
 |[],_,_,e,q=>by cases e;exact q
 |d::ds,ns,ys,e,⟨v,r,J,q,I⟩=>by
  unfold gr at e;split at e
  ·rename_i hh;cases hh
  ·rename_i x r' hh;cases hh;obtain ⟨xs,ex,e⟩:=bind_eq e;cases e;cases (show v=V.str x from q);rw [J,BK ex I];rfl
  ·cases e
end
theorem lh.into {xs:List e_} (z:Step F0 H0 F H) (t:lh xs F H F' H') (J:∀x∈xs,H0 x=c_):Step F0 H0 F' H':=
 ⟨z.ff.trans t.ff,fun b o h=>t.hh b o (fun I=>by rw [J b I] at h;cases h) (z.hh b o h),t.fh,fun b o h=>(t.nw b o h).elim (fun u=>z.nw b o u) fun u=>.inr (z.hh.free u)⟩
section
variable {D:Ends} {fr:ah->M Dat} {f1 f2:ah->M Bool} 
def BG (K:Fg) (m1:Jst->List Dat->M (Bool×Jst)) (fw fr:ah->M Dat) (f1 f2:ah->M Bool) (E1:XK):TS:=
 tFor (iRng1 (aM (tD K Wno b_ (fL jv (aa (ai 2) aH))) dI)) (bX 3) (dC (qq (tD K Wno b_ fw) (bX 4))
  (mx (tAnd (tDT K Wno f1) (tAnd (tDT K Wno f2) (tNot (tTr K (gz (spOne K m1) [] E1 (aM (bJ 1) (aM (bJ 4) dI))))))) (qA (tD K Wno b_ fr)) gq))
def BF (K:Fg) (F0 H0:Hp) (OL:List Nat) (f8:ah->M Dat) (f4:ah->M Bool):TS:=
 dC (qq (bJ 1) (gTup K 5 (jZ (bX 5) (jZ (bX 6) (jZ (bX 7) (jZ (bX 8) (jZ (bX 9) gNil)))))))
 (dC (mx (tDT K Wno f4) (qA (tC (.int 0))) gq)
 (dC (qq (yR dI) (bX 10))
 (dC (tFor (iList K (yR (aM (tC (.str "gap")) (aM (tC (.str "beside")) dI)))) (bX 11) (qB (tBM K "list" iR (bJ 10) (aM (tTabJ K) dI))))
 (dC (mx (tTest (tOp rEqT (tDGet (bJ 6) (tC (.str "beside"))) yT)) (tS K Wno b_ F0 H0 OL [10] [10] (Ah 10 (fC (.int 1)) (fC .non))) gq)
  (qA (tD K Wno b_ f8))))))
theorem rs_made {a:Jad} {s:Jst} {d:Dat} {k:Option V} (L:Lj K F H a s) (st:Step F0 H0 F H) (h0:∀x∈a.ys,H0 x=c_)
  (e:((f4 (eM s c_)).bind fun b=>if b=d_ then .ok (.int 0) else (gr s.dk).bind fun ns=>if ns.length<=g_ then f8 (eM s (a_ (.lst (xV s ns)))) else stk)=.ok d) (q:∀v F H,Step F0 H0 F H->aR K F d v->D.rt v H) :
  BF K F0 H0 OL f8 f4 D [u0,a_ (.ref a.p),k,u3,u4,u5,u6,u7,u8,u9,u10,u11] H:=by
 refine ⟨.ref a.p,rfl,a.p,_,rfl,SqT.of L.tp,rfl,_,_,rfl,_,_,rfl,_,_,rfl,_,_,rfl,_,_,rfl,rfl,?_⟩
 show dC _ _ D [u0,a_ (.ref a.p),k,u3,u4,a_ (.ref a.k),a_ (.ref a.T),a_ (.ref a.n),a_ (.ref a.f),a_ (.ref a.c),u10,u11] H;obtain ⟨G,X,_,qk,qn,qf,qc⟩:=L.frz st h0;obtain ⟨b,eb,e⟩:=bind_eq e;have Q:∀(G':Hp) (A t:Option V),aF G G'->dB K G' [u0,a_ (.ref a.p),k,u3,u4,a_ (.ref a.k),a_ (.ref a.T),a_ (.ref a.n),a_ (.ref a.f),a_ (.ref a.c),A,t] (eM s c_):=fun G' A t W=>
  (((dB.only (σ:=[u0,a_ (.ref a.p),k,u3,u4,a_ (.ref a.k),a_ (.ref a.T),a_ (.ref a.n),a_ (.ref a.f),a_ (.ref a.c),A,t]) (i:=5) rfl (qk.mono W)).put (i:=7) (v:=.ref a.n) rfl (qn.mono W)).put (i:=8) (v:=.ref a.f) rfl (qf.mono W)).put (i:=9) (v:=.ref a.c) rfl (qc.mono W)
 refine gM (Q G _ _ (aF.refl _)) X.fh (fun e' h=>by rw [eb] at h;cases h) fun b' hb F1 H1 l=>?_;rw [eb] at hb;cases hb;cases b with
 |true=>
  rw [f_ rfl] at e;cases e;exact q _ F1 H1 (X.trans l) rfl
 |false=>
 rw [m_ (by decide)] at e;obtain ⟨ns,en,e⟩:=bind_eq e;split at e
 rotate_left
 ·cases e
 rename_i hns;obtain ⟨ka,ysk,hka,sqk,qks⟩:=id qk;cases hka;have eys:=BK en qks;subst eys;refine ⟨FX _,fun I C=>?_⟩
 show dC _ _ D [u0,a_ (.ref a.p),k,u3,u4,a_ (.ref a.k),a_ (.ref a.T),a_ (.ref a.n),a_ (.ref a.f),a_ (.ref a.c),a_ (.ref I),u11] (upd H1 I (.lst []));have z0:H0 I=c_:=(X.trans l).hh.free C;have S2:Step F1 H1 F1 (upd H1 I (.lst [])):=Step.grow l.fh C;refine ⟨by rw [Er];show 2<=16777216;decide,fun O N=>⟨O,rfl,⟨_,.inl (.inl ao)⟩,?_⟩⟩
 have S3:Step F1 H1 F1 (upd (upd H1 I (.lst [])) O (.lst [.str "gap",.str "beside"])):=S2.trans (Step.grow S2.fh N);have R:I≠O:=fun z=>by rw [<- z,ao] at N;cases N
 have sk1:=l.ff.lst sqk;have hT:=L.ot
 let tb:List Dat:=[tabJ s.g ns,tabJ s.b ns]
 refine ⟨fun i m σ' H'=>m+i=2/\(∃u,σ'=[u0,a_ (.ref a.p),k,u3,u4,a_ (.ref a.k),a_ (.ref a.T),a_ (.ref a.n),a_ (.ref a.f),a_ (.ref a.c),a_ (.ref I),u])/\∃F' ys,aF F1 F'/\Step F0 H0 F' H'/\F' I=c_/\H' I=a_ (.lst ys)/\H' O=a_ (.lst [.str "gap",.str "beside"])/\H' a.T=a_ (.dK (tabs a))/\H' a.g=a_ (.dT (pkV s.g))/\H' a.b=a_ (.dT (pkV s.b))/\ay K F' (tb.take i) ys,
  ⟨2,rfl,⟨_,rfl⟩,F1,[],aF.refl _,(X.trans l).trans S3,l.fh.free C,by rw [aq R];exact ao,ao,S3.hh _ _ (l.hh _ _ hT),S3.hh _ _ (l.hh _ _ L.og),S3.hh _ _ (l.hh _ _ L.ob),rfl⟩,fun i m σ' H' ⟨e1,⟨u,e2⟩,F',ys,sf,f,fm,E,hl,c,p,Y,qy⟩=>?_⟩
 subst e2;by_cases hm0:m=0
 ·refine .inl ⟨⟨_,.inl (.inl hl),by show 2<=i;omega⟩,?_⟩;have hi:i=2:=by omega
  subst hi;refine ⟨.ref a.T,rfl,a.T,.ref a.b,rfl,kq c,fun np B=>⟨a.b,np,pkV s.b,rfl,rfl,?_,ao,s.b.isEmpty,?_,?_⟩⟩
  ·rw [aq (fun z=>by rw [<- z,Y] at B;cases B)];exact Y
  ·unfold pkV;cases s.b<;>rfl
  have S5:Step F' H' F' (upd H' np (.dT [])):=Step.grow f.fh B;have hm5:=S5.hh _ _ E;have rp:Rep K F0 H0 F0 [10] F' (upd H' np (.dT [])) [u0,a_ (.ref a.p),k,u3,u4,a_ (.ref a.k),a_ (.ref a.T),a_ (.ref a.n),a_ (.ref a.f),a_ (.ref a.c),a_ (.ref I),u] (eM s (a_ (.lst tb))):=by
   have r0:=Rep.ofE (FB:=F0) (Q F' (a_ (.ref I)) u (l.ff.trans sf)) (f.trans S5) (f.trans S5).ff;exact r0.setOwn (i:=10) (d:=.lst tb) (v:=.ref I) ⟨I,ys,rfl,hm5,fm,z0,qy⟩ (fun _ _ _ ⟨j,d',hj,_⟩=>Ek hj (by simp))
  have U:∀(md:List Dat) (J:St) (F2 H2:Hp),xV s ns=md->Rep K F0 H0 F0 [10] F2 H2 J (eM s (a_ (.lst md)))->qA (tD K Wno b_ f8) D J H2:=fun md J F2 H2 hmd r2=>by
   rw [hmd] at e;refine aO r2.rg r2.kz (fun e' h=>by rw [e] at h;cases h) fun d' hd v F3 H3 r qd=>?_;rw [e] at hd;cases hd;exact q v F3 H3 ((r2.freeze (O2:=[]) (by simp)).st.trans r) qd
  cases S:s.b.isEmpty with
  |true=>
   show if d_=d_ then _ else _
   rw [f_ rfl];refine ⟨F0,F',_,rp,?_⟩
   show ∀σ F H,Rep K F0 H0 F0 [10] F H σ (eM s (a_ (.lst [tabJ s.g ns,.non])))->_;exact fun J F2 H2 r2=>U _ J F2 H2 (by unfold xV;rw [S];rfl) r2
  |false=>
   show if b_=d_ then _ else _
   rw [m_ (by decide)];exact U _ _ _ _ (by unfold xV;rw [S];rfl) rp
 ·have hi:i<2:=by omega
  have P:SqL K H' O [.str "gap",.str "beside"]:=.inl (.inl hl);have g:∀(w:p_) (o:e_) (ks:PKs),(∀H2,aF H' H2->wD H2 a.T (.str w) (a_ (.ref o)))->H' o=a_ (.dT (pkV ks))->tb[i]? =a_ (tabJ ks ns) ->
    qB (tBM K "list" iR (bJ 10) (aM (tTabJ K) dI)) {D with nx:=fun J H2=>(m-1)+(i+1)=2/\(∃u,J=[u0,a_ (.ref a.p),k,u3,u4,a_ (.ref a.k),a_ (.ref a.T),a_ (.ref a.n),a_ (.ref a.f),a_ (.ref a.c),a_ (.ref I),u])/\∃F' ys,aF F1 F'/\Step F0 H0 F' H2/\F' I=c_/\H2 I=a_ (.lst ys)/\H2 O=a_ (.lst [.str "gap",.str "beside"])/\H2 a.T=a_ (.dK (tabs a))/\H2 a.g=a_ (.dT (pkV s.g))/\H2 a.b=a_ (.dT (pkV s.b))/\ay K F' (tb.take (i+1)) ys} [u0,a_ (.ref a.p),k,u3,u4,a_ (.ref a.k),a_ (.ref a.T),a_ (.ref a.n),a_ (.ref a.f),a_ (.ref a.c),a_ (.ref I),a_ (.str w)] H':=fun w o ks ho hd ht=>by
   refine ⟨.ref I,rfl,iQ E,?_⟩
   unfold aM dI;refine rd_tabJ (σ:=[u0,a_ (.ref a.p),k,u3,u4,a_ (.ref a.k),a_ (.ref a.T),a_ (.ref a.n),a_ (.ref a.f),a_ (.ref a.c),a_ (.ref I),a_ (.str w)]) rfl rfl rfl f.fh (sf.lst sk1) hns ho hd fun v F3 H3 r qv=>?_;have hm3:=r.hh _ _ E;have T:F3 I=c_:=r.stays fm E;have Z:∀{y:e_} {o':HO},H' y=a_ o'->y≠I->upd H3 I (.lst (ys++[v])) y=a_ o':=fun {y o'} h n=>by rw [aq n];exact r.hh _ _ h
   have ly:ys.length=i:=by rw [qy.length,Gk];show min i 2=i;omega
   have w1:a.T≠I:=fun z=>by rw [z,E] at c;cases c
   have w2:a.g≠I:=fun z=>by rw [z,E] at p;cases p
   have w3:a.b≠I:=fun z=>by rw [z,E] at Y;cases Y
   refine ⟨I,ys,v,rfl,rfl,hm3,by rw [ly,Er];omega,by omega,⟨_,rfl⟩,F3,ys++[v],sf.trans r.ff,?_,T,ao,Z hl (EI R),Z c w1,Z p w2,Z Y w3,?_⟩
   ·have z:=f.trans r;exact ⟨z.ff,fun b o' h=>by rw [aq (fun x=>by rw [x,z0] at h;cases h)];exact z.hh b o' h,fun b o' h=>by rw [aq (fun x=>by rw [x,T] at h;cases h)];exact z.fh b o' h,z.nw⟩
   ·rw [Jg,ht];exact (qy.mono r.ff).append ⟨v,[],rfl,qv,rfl⟩
  have hgo:i<[V.str "gap",V.str "beside"].length:=hi;refine .inr ⟨⟨_,[V.str "gap",V.str "beside"][i],P,by rw [Ez hgo]⟩,_,fun J H2 z=>⟨m-1,by omega,z⟩,fun xv H2 ⟨eH,hx⟩=>?_⟩;subst eH;have ex:=hx _ P
  match i,hi,g,ex with
  |0,_,g,ex=>cases ex;exact g "gap" a.g s.g (fun H2 h2=>yQ (h2 _ _ c)) p rfl
  |1,_,g,ex=>cases ex;exact g "beside" a.b s.b (fun H2 h2=>kq (h2 _ _ c)) Y rfl
end
section
variable {D:Ends} {fr:ah->M Dat} {f1 f2:ah->M Bool} 
theorem rs_loopJ {F2:Hp} {a:Jad} {Y:Sum Dat Jst} {rows:List Dat} {f:e_} (L:Lj K F H a s0J) (st:Step F0 H0 F H) (h0:∀x∈a.ys,H0 x=c_) (qr:aR K F (.lst rows) (.ref f)) (hl:rows.length<=g_)
  (e:nY m1 fw fr f1 f2 rows rows.length 0 s0J=.ok Y)
  (S:∀d v F H,Y=.inl d->Step F0 H0 F H->aR K F d v->D.rt v H)
  (T:∀s F H b J,Y=.inr s->Step F0 H0 F H->Lj K F H a s->U D [u0,a_ (.ref a.p),a_ (.ref f),b,J,u5,u6,u7,u8,u9,u10,u11] H) :
  dC (BG K m1 fw fr f1 f2 E1) U D [u0,a_ (.ref a.p),a_ (.ref f),u3,u4,u5,u6,u7,u8,u9,u10,u11] H:=by
 have u:∀(G:Hp) (b J:Option V),aF F G->dB K G [u0,a_ (.ref a.p),a_ (.ref f),b,J,u5,u6,u7,u8,u9,u10,u11] [c_,c_,a_ (.lst rows),c_,c_,c_,c_,c_,c_,c_,c_,c_]:=fun G b J n=>dB.only (σ:=[u0,a_ (.ref a.p),a_ (.ref f),b,J,u5,u6,u7,u8,u9,u10,u11]) (i:=2) rfl (qr.mono n);refine aO (u F u3 u4 (aF.refl _)) st.fh (fun P h=>nomatch h) fun d0 X v0 F1 H1 R q0=>?_;cases X;cases (show v0=V.int rows.length from q0);have hz:(rows.length:Int)<2^62:=by rw [Er] at hl;omega
 refine ⟨_,rfl,by omega,hz,?_⟩
 show ∃W:Nat->Nat->St->Hp->Prop,_;refine ⟨fun i m σ' H'=>m+i=rows.length/\(∃b J,σ'=[u0,a_ (.ref a.p),a_ (.ref f),b,J,u5,u6,u7,u8,u9,u10,u11])/\∃F' s',aF F F'/\Step F0 H0 F' H'/\Lj K F' H' a s'/\nY m1 fw fr f1 f2 rows m i s'=.ok Y,
  ⟨rows.length,rfl,⟨_,_,rfl⟩,F1,s0J,R.ff,st.trans R,L.step R,e⟩,fun i m σ' H' ⟨e1,⟨b,J,e2⟩,F',s',sf,k,L',I⟩=>?_⟩
 subst e2;cases m with
 |zero=>
  cases I;exact .inl ⟨by show (rows.length:Int).toNat<=i;omega,T s' F' H' b J rfl k L'⟩
 |succ m=>
  refine .inr ⟨by show i<(rows.length:Int).toNat;omega,_,fun σ2 H2 z=>⟨m,GZ m,z⟩,fun xv H2 ⟨eH,ex⟩=>?_⟩;subst eH ex;unfold nY at I;obtain ⟨w,ew,I⟩:=bind_eq I;have xi:(0:Int)+(i:Int)=((i:Nat):Int):=by omega
  rw [xi];have rk:∀(G:Hp) (J:Option V),aF F' G->dB K G [u0,a_ (.ref a.p),a_ (.ref f),a_ (.int (i:Nat)),J,u5,u6,u7,u8,u9,u10,u11] (eK rows i c_):=fun G J n=>(u G (a_ (.int (i:Nat))) J (sf.trans n)).put (i:=3) (v:=.int (i:Nat)) (d:=.int (i:Nat)) rfl rfl;show tD K Wno b_ fw [u0,a_ (.ref a.p),a_ (.ref f),a_ (.int (i:Nat)),J,u5,u6,u7,u8,u9,u10,u11] H2 _;refine aO (rk F' J (aF.refl _)) k.fh (fun P h=>by rw [ew] at h;cases h) fun dw y vw Z H3 t qw=>?_;rw [ew] at y;cases y;have L3:=L'.step t;have q:=k.trans t;cases w with
  |lst ws=>
   dsimp only at I;have l:∀(G:Hp),aF Z G->dB K G [u0,a_ (.ref a.p),a_ (.ref f),a_ (.int (i:Nat)),a_ vw,u5,u6,u7,u8,u9,u10,u11] (eK rows i (a_ (.lst ws))):=fun G n=>(rk G (a_ vw) (t.ff.trans n)).put (i:=4) (v:=vw) rfl (qw.mono n);unfold bX;simp only [Ly,Lx];have g:∀(N E:Hp) (O:Jst),aF Z N->Step F0 H0 N E->Lj K N E a O->nY m1 fw fr f1 f2 rows m (i+1) O=.ok Y ->
     m+(i+1)=rows.length/\(∃b J,[u0,a_ (.ref a.p),a_ (.ref f),a_ (.int (i:Nat)),a_ vw,u5,u6,u7,u8,u9,u10,u11]=[u0,a_ (.ref a.p),a_ (.ref f),b,J,u5,u6,u7,u8,u9,u10,u11])/\∃F' s',aF F F'/\Step F0 H0 F' E/\Lj K F' E a s'/\nY m1 fw fr f1 f2 rows m (i+1) s'=.ok Y:=
    fun N E O g1 g2 g3 g4=>⟨by omega,⟨_,_,rfl⟩,N,O,(sf.trans t.ff).trans g1,g2,g3,g4⟩
   obtain ⟨b1,C,I⟩:=bind_eq I;refine gM (l Z (aF.refl _)) t.fh (fun P h=>by rw [C] at h;cases h) fun b' A F4 H4 c=>?_;rw [C] at A;cases A;cases b1 with
   |false=>
    rw [m_ (by decide)] at I;exact g F4 H4 s' c.ff (q.trans c) (L3.step c) I
   |true=>
    rw [f_ rfl] at I;obtain ⟨b2,B,I⟩:=bind_eq I;refine gM (l F4 c.ff) c.fh (fun P h=>by rw [B] at h;cases h) fun b' A F5 H5 o=>?_;rw [B] at A;cases A;have L5:=(L3.step c).step o;have p:=(q.trans c).trans o;cases b2 with
    |false=>
     rw [m_ (by decide)] at I;exact g F5 H5 s' (c.ff.trans o.ff) p L5 I
    |true=>
     rw [f_ rfl] at I;obtain ⟨r,er,I⟩:=bind_eq I;refine ⟨.ref a.p,rfl,vw,rfl,a,F5,s',ws,vw,r,rfl,L5,qw.mono (c.ff.trans o.ff),er,fun F6 H6 Q L6=>⟨r.1,rfl,?_⟩⟩
     have j:=lh.into p Q h0;cases hr:r.1 with
     |true=>
      rw [hr,f_ rfl] at I;exact g F6 H6 r.2 ((c.ff.trans o.ff).trans Q.ff) j L6 I
     |false=>
      rw [hr,m_ (by decide)] at I;obtain ⟨d,ed,I⟩:=bind_eq I;cases I;refine aO (l F6 ((c.ff.trans o.ff).trans Q.ff)) j.fh (fun P h=>by rw [ed] at h;cases h) fun d' hd v F7 H7 s7 qd=>?_;rw [ed] at hd;cases hd;exact S d v F7 H7 rfl (j.trans s7) qd
  |_=>cases I
theorem rs_judge (t:tS K Wno b_ F0 H0 OL [] O' (yX m1 f0 fw fr f8 f1 f2 f4) D σ H) :
  dC (qq BD (bX 1)) (dC (qq (tD K Wno b_ f0) (bX 2)) (dC (BG K m1 fw fr f1 f2 E1) (BF K F0 H0 OL f8 f4))) D σ H:=by
 obtain ⟨FB,F,ρ,r,q⟩:=t;unfold yX at q;split at q
 rotate_left
 ·exact q.stuck rfl
 rename_i x t;split at q
 rotate_left
 ·exact q.stuck rfl
 rename_i B;have n:=r.len;obtain ⟨v,hv,w⟩:=r.fz 0 _ rfl (by simp);rw [Ex,B] at n;obtain ⟨u0,σ,rfl,S⟩:=Bk n.symm;obtain ⟨u1,σ,rfl,R⟩:=Bk S;obtain ⟨k,σ,rfl,g2⟩:=Bk R;obtain ⟨u3,σ,rfl,Q⟩:=Bk g2;obtain ⟨u4,σ,rfl,P⟩:=Bk Q;obtain ⟨u5,σ,rfl,O⟩:=Bk P;obtain ⟨u6,σ,rfl,N⟩:=Bk O;obtain ⟨u7,σ,rfl,G⟩:=Bk N;obtain ⟨u8,σ,rfl,E⟩:=Bk G;obtain ⟨u9,σ,rfl,C⟩:=Bk E;obtain ⟨u10,σ,rfl,j⟩:=Bk C;obtain ⟨u11,σ,rfl,g⟩:=Bk j;cases G7.mp g;cases (show v=V.str x from w);cases hv;cases I:rB m1 f0 fw fr f8 f1 f2 f4 x with
 |error e=>rw [I] at q;exact EZ q
 |ok d=>
 rw [I] at q;have q:∀v F H,Step F0 H0 F H->aR K F d v->D.rt v H:=q;unfold rB at I;obtain ⟨U,e0,I⟩:=bind_eq I;unfold dC qq;refine rd_state (K:=K) r.st.fh fun a H1 W b p=>?_;have o:∀y∈a.ys,H0 y=c_:=fun y A=>r.st.hh.free (b y A);show tD K Wno b_ f0 [a_ (.str x),a_ (.ref a.p),k,u3,u4,u5,u6,u7,u8,u9,u10,u11] H1 _;refine aO (ρ:=eT x) (dB.only (σ:=[a_ (.str x),a_ (.ref a.p),k,u3,u4,u5,u6,u7,u8,u9,u10,u11]) (i:=0) (d:=.str x) rfl rfl) p.c.fh (fun e' h=>by rw [e0] at h;cases h) fun T J v0 F2 H2 l m=>?_;rw [e0] at J;cases J;cases U with
 |lst rows=>
  dsimp only at I;split at I
  rotate_left
  ·cases I
  rename_i c;obtain ⟨ra,ys,rfl,_⟩:=id m;obtain ⟨u,Y,I⟩:=bind_eq I;refine rs_loopJ (F2:=F2) (a:=a) (p.step l) ((r.st.trans W).trans l) o m c Y (fun d' v F H f st z=>?_) fun s F H Z X f st L=>?_
  ·subst f;cases I;exact q v F H st z
  ·subst f;exact rs_made L st o I q
 |_=>cases I
end
section
theorem ds_judge {fr:ah->M Dat} {f1 f2:ah->M Bool} 
  (p:∀F0 H0,PSs X sts (dC (qq BD (bX 1)) (dC (qq (tD K Wno b_ f0) (bX 2)) (dC (BG K m1 fw fr f1 f2 E0) (BF K F0 H0 OL f8 f4))))):DSs K Wno b_ X OL [] O' sts (yX m1 f0 fw fr f8 f1 f2 f4):=fun F0 H0=>PSs.imp (p F0 H0) fun _ _ _=>rs_judge
theorem ps_compD {pt:Pat} (N':List p_) (ix:List (Option Nat)) (j:X.N.Nodup) (hi:DI K Wno X tg iter fi) (f:∀L cs s H fp,DG K (b8 X N' sc L cs s H fp) tg pt) (c:qm ix (gP K pt))
  (a:∀L cs s H fp,PTs (b8 X N' sc L cs s H fp) ifs (tDT K Wno ft)) (g:∀L cs s H fp,DE K Wno b_ (b8 X N' sc L cs s H fp) elt fe) (e: ~~~(X.N[i]? =a_ x)) (Y: ~~~(X.env.scope.names.lookup x=a_ .local)) (h: ~~~(X.calm=d_))
  (I: ~~~(FV (.ListComp elt [⟨tg,iter,ifs,0⟩] sc pos) (a_ (.Name x py)) spos.line X.env=FF d_))
  (J: ~~~(bB X.N X.env.scope N' sc ix=d_)) (d: ~~~(sc.kind=.function)) (b:autoParam (∀x,Gi iter X.env x=FF x) Jq4) :
  PS X (.Assign [.Name x py] (.ListComp elt [⟨tg,iter,ifs,0⟩] sc pos) spos) (tSetD K i (dP fi ix pt ft fe)):=
 (rm N' ix j e Y h hi f c a g I J d b).imp fun D σ H t=>xo (tD_fr t)
end
section
variable {f:ah->M Dat} 
theorem at_lst1 (h:PEat X pins σ e te) (d: ~~~(i_ [e] X.env=[(b_,Eu e X.env)])):PEat X pins σ (.List [e] pos) (yR (aM te dI)):=by
 intro s H Q I f;refine Mm (thn (Q:=fun us J=>∃xs H1,Inv X pins σ H1 J/\Vals xs us/\xs.length<=g_/\∀p,H1 p=c_->Q (.ref p) (upd H1 p (.lst xs))) ?_ fun us J ⟨xs,H1,Y,r,z,q⟩=>⟨by rw [<- r.length];exact z,?_⟩)
 ·rw [d];show Cb _ _ (MF ((b_,Eu e X.env)::[])) _ _ s;refine Gx (thn (h s H _ I f) fun u J ⟨x,H1,Y,c,a⟩=>HR ?_);exact ⟨[x],H1,Y,.cons c .nil,a.1,a.2⟩
 have g:H1 J.heap.objs.size=c_:=Y.hok.fresh (u_ _);refine ⟨.ref J.heap.objs.size,upd H1 J.heap.objs.size (.lst xs),Y.laid (t':=J.toks) (fun b u e=>s_ _ e) (u_ _) ?_,rfl,q _ g⟩
 exact ⟨z,us,0,r,Ei _ rfl⟩
theorem dea_lst1 (h:DEat K E b_ X pins σ e f) (Y: ~~~(i_ [e] X.env=[(b_,Eu e X.env)])):DEat K E b_ X pins σ (.List [e] pos) (fL cy (aa f aH)):=by
 refine PEat.imp (at_lst1 h Y) fun H Q ⟨F,ρ,r,s,p⟩=>?_;refine aO r s (fun c b=>?_) fun d hd v F1 H1 I q=>⟨by show 1<=g_;rw [Er];omega,fun a J=>?_⟩
 ·have z:fL cy (aa f aH) ρ=.error c:=by unfold fL aa;rw [b];rfl
  rw [z] at p;exact p
 ·have z:fL cy (aa f aH) ρ=.ok (.lst [d]):=by
   unfold fL aa;rw [hd];show cy [d]=_;unfold cy;rw [f_ (by show 1<=g_;rw [Er];omega)]
  rw [z] at p;exact p (.ref a) (upd F1 a (.lst [v])) _ (I.trans (Step.lay I.fh J)) ⟨a,[v],rfl,.inl (.inl ao),v,[],rfl,aR.mono (Step.lay I.fh J).ff q,rfl⟩
end
end L2
namespace Ru
open PySem L2 PyProof.Rows
variable {mg:Mq} {x w z o nm a b y v:p_} {P:Fp} {C CP CS CW CD AStripError ANoRow ANoRules ANoTime ANoPlace ANotFree ATooMany ANoPlan dE:e_} {f:ah->M Dat} {fd cT:Gf} {n m l:Nat} {i:Int} {g:PKs} {ks r ns:List p_} {rows r2:List (List Int)} {ρ:ah} {α:Type} {O:List Nat} {h:ah->M Flo}
def dj (CR CP CS CW CD:e_) (n:Nat):ah->M Flo:=
 sIf (uk (fB (f2 eqM (ai 3) (fC (.int 0)))) (fB (f2 gtD (f2 qx (ai 0) (fC (.int 8))) (fC (.int 0)))))
   (bH [] 2 (f2 gL (ai 2) (f2 AR (ai 1) (f2 qx (f2 mP (ai 0) (fC (.int 64))) (fC (.int 26))))))
   (bH [] 2 (f2 gL (ai 2) (f2 AR (ai 1) (f2 qx (f2 mP (ai 0) (fC (.int 64))) (fC (.int 36))))))
def cg (CR CP CS CW CD:e_) (n:Nat):ah->M Flo:=
 sIf (fB (f2 eqM (f2 qx (ai 0) (fC (.int 16))) (fC (.int 3))))
   (bH [] 2 (f2 gL (ai 2) (f2 AR (fC (.str "AZ_-.")) (f2 qx (f2 mP (ai 0) (fC (.int 64))) (fC (.int 5))))))
   (dj CR CP CS CW CD n)
def bo (CR CP CS CW CD:e_) (n:Nat):ah->M Flo:=
 (cF (bH [] 0 (f2 gL (f2 gL (f2 Bi (ai 0) (ai 0)) (f2 Bi (fC (.int 69621)) (ai 0))) (ai 3)))
  (cF (bH [] 0 (f2 qx (ai 0) (fC (.int 2305843009213693951))))
  (cg CR CP CS CW CD n)))
def jD (CR CP CS CW CD:e_) (n:Nat):ah->M Flo:=
 (cF (bH [] 1 (fC (.str "abcdefghijklmnopqrstuvwxyz0123456789")))
  (cF (bH [] 2 (fC (.str "")))
  (cF (BS [] (Bn C8 (aa (f2 qx (f2 mP (ai 0) (fC (.int 8))) (fC (.int 11))) aH)) (.nm 3) (bo CR CP CS CW CD n))
  (cK (ai 2)))))
def bW (CR CP CS CW CD:e_) (n:Nat):List Dat->M Dat:=bL 4 1 (jD CR CP CS CW CD n)
def i6 (CR CP CS CW CD:e_) (n:Nat):ah->M Flo:=
 sIf (fB (f2 gtD (fL jv (aa (ai 2) aH)) (fC (.int 0))))
   (bH [] 3 (f2 qx (f2 ixD (ai 2) (f2 qx (ai 1) (fL jv (aa (ai 2) aH)))) (f2 zr (fC (.int 10)) (fC (.int 24)))))
   cO
def iY (CR CP CS CW CD:e_) (n:Nat):ah->M Flo:=
 (cF (bH [] 2 (fSl dS (ai 0) sU (kC (fC (.int 63)))))
  (cF (bH [] 3 (f2 gL (f2 Bi (fC (.int 13)) (ai 1)) (fC (.int 5))))
  (cF (i6 CR CP CS CW CD n)
  (cF (bH [] 4 (f2 qx (f2 Bi (f2 gL (f2 gL (ai 3) (f2 Bi (f2 Bi (ai 1) (ai 1)) (fC (.int 7919)))) (fL jv (aa (ai 2) aH))) (fC (.int 48271))) (fC (.int 2305843009213693951))))
  (cK (f2 qx (f2 gL (f2 Bi (ai 4) (fC (.int 1442695040888963407))) (fC (.int 4321))) (fC (.int 2305843009213693921))))))))
def d7 (CR CP CS CW CD:e_) (n:Nat):List Dat->M Dat:=bL 5 2 (iY CR CP CS CW CD n)
def nC (CR CP CS CW CD:e_) (n:Nat):ah->M Flo:=
 (cK (dP (fIt (fSM mZ (ai 0) (fC (.str " ")))) [c_] (.nm 0) (fB (f2 neM (ai 0) (fC (.str "")))) (ai 0)))
def ig (CR CP CS CW CD:e_) (n:Nat):List Dat->M Dat:=bL 1 1 (nC CR CP CS CW CD n)
def dG (CR CP CS CW CD:e_) (n:Nat):ah->M Flo:=
 sIf (fOr (fB (f2 ltD (fL vC (aa (ai 0) aH)) (fC (.int 1)))) (fOr (fB (f2 gtD (fL vC (aa (ai 0) aH)) (fC (.int 10)))) (fB (f2 neM (dP (fItS (ai 0)) [c_] (.nm 0) (fB (f2 jq (ai 0) (fC (.str "0123456789")))) (ai 0)) (fL cy aH)))))
   (cK (f1 negD (fC (.int 1))))
   cO
def bQ (CR CP CS CW CD:e_) (n:Nat):ah->M Flo:=
 sIf (fOr (uk (fB (f2 eqM (f2 AR (ai 0) (fC (.int 0))) (fC (.str "0")))) (fB (f2 neM (ai 0) (fC (.str "0"))))) (fB (f2 gtD (fL D2 (aa (ai 0) aH)) (ai 1))))
   (cK (f1 negD (fC (.int 1))))
   cO
def dW (CR CP CS CW CD:e_) (n:Nat):ah->M Flo:=
 (cF (dG CR CP CS CW CD n)
  (cF (bQ CR CP CS CW CD n)
  (cK (fL D2 (aa (ai 0) aH)))))
def b7 (CR CP CS CW CD:e_) (n:Nat):List Dat->M Dat:=bL 2 2 (dW CR CP CS CW CD n)
def cz (CR CP CS CW CD:e_) (n:Nat):ah->M Flo:=
 sIf (fOr (fB (f2 ltD (fL vC (aa (ai 0) aH)) (fC (.int 1)))) (fOr (fB (f2 gtD (fL vC (aa (ai 0) aH)) (fC (.int 8)))) (fB (f2 jq (f2 AR (ai 0) (fC (.int 0))) (fC (.str "abcdefghijklmnopqrstuvwxyz"))))))
   (cK (fC (.bl b_)))
   cO
def fO (CR CP CS CW CD:e_) (n:Nat):ah->M Flo:=
 (cF (cz CR CP CS CW CD n)
  (cK (f2 eqM (dP (fItS (ai 0)) [c_] (.nm 0) (fB (f2 jq (ai 0) (fC (.str "abcdefghijklmnopqrstuvwxyz0123456789")))) (ai 0)) (fL cy aH))))
def bN (CR CP CS CW CD:e_) (n:Nat):List Dat->M Dat:=bL 1 1 (fO CR CP CS CW CD n)
def mY (CR CP CS CW CD:e_) (n:Nat):ah->M Bool:=
 (uk (fB (f2 eqM (f2 ixD (ai 1) (fC (.int 0))) (fC (.str "kind")))) (fB (f2 eqM (fL jv (aa (ai 1) aH)) (fC (.int 2)))))
def dR (CR CP CS CW CD:e_) (n:Nat):ah->M Bool:=
 (fOr (pN (k7 (fL (bN CR CP CS CW CD n) (aa (f2 ixD (ai 1) (fC (.int 1))) aH)))) (fOr (fB (f2 inM (f2 ixD (ai 1) (fC (.int 1))) (ai 2))) (fB (f2 gtD (fL jv (aa (ai 2) aH)) (fC (.int 5))))))
def jG (CR CP CS CW CD:e_) (n:Nat):ah->M Dat:=
 (f2 ixD (ai 1) (fC (.int 1)))
def mX (CR CP CS CW CD:e_) (n:Nat):ah->M Bool:=
 (uk (fB (f2 inM (f2 ixD (ai 1) (fC (.int 0))) (fL cy (aa (fC (.str "gap")) (aa (fC (.str "beside")) aH))))) (fB (f2 eqM (fL jv (aa (ai 1) aH)) (fC (.int 4)))))
def iz (CR CP CS CW CD:e_) (n:Nat):ah->M Dat:=
 (fL (b7 CR CP CS CW CD n) (aa (f2 ixD (ai 1) (fC (.int 3))) (aa (f2 zr (fC (.int 10)) (fC (.int 6))) aH)))
def bK (CR CP CS CW CD:e_) (n:Nat):ah->M Bool:=
 (fOr (fB (f2 gR (f2 ixD (ai 1) (fC (.int 1))) (ai 2))) (fOr (fB (f2 gR (f2 ixD (ai 1) (fC (.int 2))) (ai 2))) (fB (f2 ltD (ai 7) (fC (.int 0))))))
def iy (CR CP CS CW CD:e_) (n:Nat):ah->M Dat:=
 (f2 ixD (ai 1) (fC (.int 0)))
def iw (CR CP CS CW CD:e_) (n:Nat):ah->M Dat:=
 (f2 ixD (ai 1) (fC (.int 1)))
def iu (CR CP CS CW CD:e_) (n:Nat):ah->M Dat:=
 (f2 ixD (ai 1) (fC (.int 2)))
def lD (CR CP CS CW CD:e_) (n:Nat):ah->M Bool:=
 (uk (fB (f2 eqM (f2 ixD (ai 1) (fC (.int 0))) (fC (.str "closed")))) (fB (f2 eqM (fL jv (aa (ai 1) aH)) (fC (.int 3)))))
def gJ (CR CP CS CW CD:e_) (n:Nat):ah->M Dat:=
 (fL (b7 CR CP CS CW CD n) (aa (f2 ixD (ai 1) (fC (.int 1))) (aa (f2 zr (fC (.int 10)) (fC (.int 9))) aH)))
def gI (CR CP CS CW CD:e_) (n:Nat):ah->M Dat:=
 (fL (b7 CR CP CS CW CD n) (aa (f2 ixD (ai 1) (fC (.int 2))) (aa (f2 zr (fC (.int 10)) (fC (.int 9))) aH)))
def cj (CR CP CS CW CD:e_) (n:Nat):ah->M Bool:=
 (fOr (fB (f2 ltD (ai 8) (fC (.int 0)))) (fOr (fB (f2 leD (ai 9) (ai 8))) (fB (f2 gtD (fL jv (aa (ai 6) aH)) (fC (.int 19))))))
def gH (CR CP CS CW CD:e_) (n:Nat):ah->M Dat:=
 (fL jc (aa (ai 8) (aa (ai 9) aH)))
def lC (CR CP CS CW CD:e_) (n:Nat):ah->M Bool:=
 (fOr (fB (f2 neM (f2 ixD (ai 1) (fC (.int 0))) (fC (.str "flight")))) (fB (f2 neM (fL jv (aa (ai 1) aH)) (fC (.int 7)))))
def gG (CR CP CS CW CD:e_) (n:Nat):ah->M Dat:=
 (dP (fIt (fSl dS (ai 1) (kC (fC (.int 3))) sU)) [c_] (.nm 0) ia (fL (b7 CR CP CS CW CD n) (aa (ai 0) (aa (f2 zr (fC (.int 10)) (fC (.int 9))) aH))))
def eh (CR CP CS CW CD:e_) (n:Nat):ah->M Bool:=
 (fOr (pN (k7 (fL (bN CR CP CS CW CD n) (aa (f2 ixD (ai 1) (fC (.int 1))) aH)))) (fB (f2 inM (f2 ixD (ai 1) (fC (.int 1))) (ai 4))))
def gw (CR CP CS CW CD:e_) (n:Nat):ah->M Bool:=
 (fOr (fB (f2 gR (f2 ixD (ai 1) (fC (.int 2))) (ai 2))) (fB (f2 ltD (fL minD (aa (ai 10) aH)) (fC (.int 0)))))
def cZ (CR CP CS CW CD:e_) (n:Nat):ah->M Bool:=
 (fOr (fB (f2 gtD (f2 ixD (ai 10) (fC (.int 0))) (f2 ixD (ai 10) (fC (.int 1))))) (fB (f2 gtD (fL jv (aa (ai 5) aH)) (fC (.int 39)))))
def gF (CR CP CS CW CD:e_) (n:Nat):ah->M Dat:=
 (f2 ixD (ai 1) (fC (.int 1)))
def gE (CR CP CS CW CD:e_) (n:Nat):ah->M Dat:=
 (fL jc (aa (gu (ai 2) (f2 ixD (ai 1) (fC (.int 2)))) (aa (f2 ixD (ai 10) (fC (.int 0))) (aa (f2 ixD (ai 10) (fC (.int 1))) (aa (f2 ixD (ai 10) (fC (.int 2))) (aa (f2 ixD (ai 10) (fC (.int 3))) aH))))))
def eX (CR CP CS CW CD:e_) (n:Nat):Jst->List Dat->M (Bool×Jst):=
 oneD (mY CR CP CS CW CD n) (dR CR CP CS CW CD n) (mX CR CP CS CW CD n) (bK CR CP CS CW CD n) (lD CR CP CS CW CD n) (cj CR CP CS CW CD n) (lC CR CP CS CW CD n) (eh CR CP CS CW CD n) (gw CR CP CS CW CD n) (cZ CR CP CS CW CD n) (jG CR CP CS CW CD n) (iz CR CP CS CW CD n) (iy CR CP CS CW CD n) (iw CR CP CS CW CD n) (iu CR CP CS CW CD n) (gJ CR CP CS CW CD n) (gI CR CP CS CW CD n) (gH CR CP CS CW CD n) (gG CR CP CS CW CD n) (gF CR CP CS CW CD n) (gE CR CP CS CW CD n)
def eG (CR CP CS CW CD:e_) (n:Nat):ah->M Dat:=
 (fSM mZ (ai 0) (fC (.str "\n")))
def bZ (CR CP CS CW CD:e_) (n:Nat):ah->M Dat:=
 (fL (ig CR CP CS CW CD n) (aa (f2 ixD (ai 2) (ai 3)) aH))
def aZ (CR CP CS CW CD:e_) (n:Nat):ah->M Bool:=
 (fB (f2 neM (ai 4) (fL cy aH)))
def bU (CR CP CS CW CD:e_) (n:Nat):ah->M Bool:=
 (fB (f2 neM (f2 AR (f2 ixD (ai 4) (fC (.int 0))) (fC (.int 0))) (fC (.str "#"))))
def bY (CR CP CS CW CD:e_) (n:Nat):ah->M Dat:=
 (f2 gL (ai 3) (fC (.int 1)))
def eo (CR CP CS CW CD:e_) (n:Nat):ah->M Bool:=
 (fB (f2 eqM (ai 5) (fL cy aH)))
def hG (CR CP CS CW CD:e_) (n:Nat):ah->M Dat:=
 (fL jc (aa (ai 5) (aa (f2 ixD (ai 10) (fC (.int 0))) (aa (f2 ixD (ai 10) (fC (.int 1))) (aa (ai 7) (aa (ai 8) (aa (ai 9) aH)))))))
def tM (CR CP CS CW CD:e_) (n:Nat):ah->M Flo:=
 (yX (eX CR CP CS CW CD n) (eG CR CP CS CW CD n) (bZ CR CP CS CW CD n) (bY CR CP CS CW CD n) (hG CR CP CS CW CD n) (aZ CR CP CS CW CD n) (bU CR CP CS CW CD n) (eo CR CP CS CW CD n))
def gD (CR CP CS CW CD:e_) (n:Nat):List Dat->M Dat:=bL 12 1 (tM CR CP CS CW CD n)
def iC (CR CP CS CW CD:e_) (n:Nat):ah->M Flo:=
 sIf (fB (f2 geD (ai 8) (ai 3)))
   (nO [4] 4 (fJ [(f1 mM (ai 0)),(fC (.str " ")),(f1 mM (ai 5)),(fC (.str " ")),(f1 mM (ai 7)),(fC (.str " ")),(f1 mM (ai 8))]))
   cO
def cE (CR CP CS CW CD:e_) (n:Nat):ah->M Flo:=
 (iC CR CP CS CW CD n)
def fQ (CR CP CS CW CD:e_) (n:Nat):ah->M Flo:=
 (BS [4] (Bm (ai 1) (ai 6)) (.tp [7,8]) (cE CR CP CS CW CD n))
def nz (CR CP CS CW CD:e_) (n:Nat):ah->M Flo:=
 (cF (bH [] 4 (fL cy aH))
  (cF (BS [4] (Bm (ai 1) (ai 2)) (.tp [5,6]) (fQ CR CP CS CW CD n))
  (cK (ai 4))))
def fS (CR CP CS CW CD:e_) (n:Nat):List Dat->M Dat:=bL 9 4 (nz CR CP CS CW CD n)
def lX (CR CP CS CW CD:e_) (n:Nat):ah->M Flo:=
 (cK (dP (fIt (ai 0)) [c_] (.nm 0) ia (fL CL (aa (ai 0) aH))))
def d6 (CR CP CS CW CD:e_) (n:Nat):List Dat->M Dat:=bL 1 1 (lX CR CP CS CW CD n)
def j7 (CR CP CS CW CD:e_) (n:Nat):ah->M Flo:=
 (cK (fL (d6 CR CP CS CW CD n) (aa (f1 (bA [CR,CP] "gaps") (ai 0)) aH)))
def aX (CR CP CS CW CD:e_) (n:Nat):List Dat->M Dat:=bL 1 1 (j7 CR CP CS CW CD n)
def km (CR CP CS CW CD:e_) (n:Nat):ah->M Flo:=
 (cF (bH [] 3 (f2 gL (fL cy (aa (fC (.str "flight")) (aa (ai 1) (aa (f2 ixD (ai 0) (f2 ixD (ai 2) (fC (.int 0)))) aH)))) (dP (fIt (fSl dS (ai 2) (kC (fC (.int 1))) sU)) [c_] (.nm 0) ia (fL strD (aa (ai 0) aH)))))
  (cK (fSM nX (fC (.str " ")) (ai 3))))
def cC (CR CP CS CW CD:e_) (n:Nat):List Dat->M Dat:=bL 4 3 (km CR CP CS CW CD n)
def iq (CR CP CS CW CD:e_) (n:Nat):ah->M Flo:=
 (cK (fL (d6 CR CP CS CW CD n) (aa (f1 (bA [CP] "beside") (ai 0)) aH)))
def bu (CR CP CS CW CD:e_) (n:Nat):List Dat->M Dat:=bL 1 1 (iq CR CP CS CW CD n)
def j0 (CR CP CS CW CD:e_) (n:Nat):ah->M Flo:=
 sIf (k7 (f1 (isiC [(CR,b_),(CP,d_)]) (ai 1)))
   (BU [5] 5 (fL (fS CR CP CS CW CD n) (aa (fC (.str "beside")) (aa (ai 0) (aa (jd CP "beside_rows" (bu CR CP CS CW CD n) (ai 1) aH) (aa (fC (.int 0)) aH))))))
   cO
def vL (CR CP CS CW CD:e_) (n:Nat):ah->M Flo:=
 (cF (bH [] 5 (dP (fIt (ai 0)) [c_] (.nm 0) ia (fJ [(fC (.str "kind ")),(f1 mM (ai 0))])))
  (cF (BU [5] 5 (fL (fS CR CP CS CW CD n) (aa (fC (.str "gap")) (aa (ai 0) (aa (iG CR CP "gap_rows" (aX CR CP CS CW CD n) (aX CR CP CS CW CD n) (ai 1) aH) (aa (fC (.int 1)) aH))))))
  (cF (j0 CR CP CS CW CD n)
  (cF (BU [5] 5 (dP (fIt (ai 4)) [c_,c_] (.tp [0,1]) ia (fJ [(fC (.str "closed ")),(f1 mM (ai 0)),(fC (.str " ")),(f1 mM (ai 1))])))
  (cF (BU [5] 5 (dP (Bm (ai 2) (ai 3)) [c_,c_,a_ 0] (.tp [0,1]) ia (fL (cC CR CP CS CW CD n) (aa (ai 2) (aa (ai 0) (aa (ai 1) aH))))))
  (cK (fSM nX (fC (.str "")) (dP (fIt (ai 5)) [c_] (.nm 0) ia (f2 gL (ai 0) (fC (.str "\n")))))))))))
def dD (CR CP CS CW CD:e_) (n:Nat):List Dat->M Dat:=bL 6 5 (vL CR CP CS CW CD n)
def vM (CR CP CS CW CD:e_) (n:Nat):ah->M Flo:=
 (cK (dP (Bn C8 (aa (ai 2) aH)) [c_,a_ 0,a_ 1] (.nm 0) ia (vP (ai 1) (fL jc (aa (ai 2) (aa (ai 0) aH))) (fC (.int 0)))))
def jr (CR CP CS CW CD:e_) (n:Nat):List Dat->M Dat:=bL 3 3 (vM CR CP CS CW CD n)
def pJ (CR CP CS CW CD:e_) (n:Nat):ah->M Flo:=
 (cK (dP (Bn C8 (aa (ai 1) aH)) [c_,a_ 0,a_ 1] (.nm 0) ia (fL (jr CR CP CS CW CD n) (aa (ai 1) (aa (ai 0) (aa (ai 2) aH))))))
def gU (CR CP CS CW CD:e_) (n:Nat):List Dat->M Dat:=bL 2 2 (pJ CR CP CS CW CD n)
def jV (CR CP CS CW CD:e_) (n:Nat):ah->M Flo:=
 sIf (fOr (pN (k7 (f1 ij (ai 0)))) (k7 (f1 jx (ai 0))))
   (cK (fC (.bl b_)))
   cO
def oq (CR CP CS CW CD:e_) (n:Nat):ah->M Flo:=
 (cF (jV CR CP CS CW CD n)
  (cK (iH leD leD (fC (.int 0)) (ai 0) (fC (.int 1000000)))))
def eD (CR CP CS CW CD:e_) (n:Nat):List Dat->M Dat:=bL 1 1 (oq CR CP CS CW CD n)
def nB (CR CP CS CW CD:e_) (n:Nat):ah->M Flo:=
 (cK (iI (f1 jw (ai 0)) (iI (f2 eqM (fL jv (aa (ai 0) aH)) (ai 1)) (fL allD (aa (dP (fIt (ai 0)) [c_] (.nm 0) ia (fL (eD CR CP CS CW CD n) (aa (ai 0) aH))) aH)))))
def dU (CR CP CS CW CD:e_) (n:Nat):List Dat->M Dat:=bL 2 2 (nB CR CP CS CW CD n)
def j9 (CR CP CS CW CD:e_) (n:Nat):ah->M Flo:=
 sIf (pN (fB (iH leD leD (fC (.int 1)) (ai 1) (fC (.int 6)))))
   sStk
   cO
def j8 (CR CP CS CW CD:e_) (n:Nat):ah->M Flo:=
 sIf (pN (k7 (fL allD (aa (dP (fIt (ai 0)) [c_,a_ 1] (.nm 0) ia (fL (dU CR CP CS CW CD n) (aa (ai 0) (aa (ai 1) aH)))) aH))))
   sStk
   cO
def ko (CR CP CS CW CD:e_) (n:Nat):ah->M Flo:=
 (cF (bH [] 1 (fL jv (aa (ai 0) aH)))
  (cF (j9 CR CP CS CW CD n)
  (cF (j8 CR CP CS CW CD n)
  (cK (fL (d6 CR CP CS CW CD n) (aa (ai 0) aH))))))
def aG (CR CP CS CW CD:e_) (n:Nat):List Dat->M Dat:=bL 2 1 (ko CR CP CS CW CD n)
def fH (CR CP CS CW CD:e_) (n:Nat):ah->M Flo:=
 sIf (fB (f2 eqE (f1 (bA [CD] "beside") (ai 0)) (fC (.dic []))))
   (cK (fL (newR CR (aG CR CP CS CW CD n)) (aa (ai 2) aH)))
   cO
def gX (CR CP CS CW CD:e_) (n:Nat):ah->M Flo:=
 (cF (bH [] 1 (fL jv (aa (f1 (bA [CD] "kinds") (ai 0)) aH)))
  (cF (bH [] 2 (fL (gU CR CP CS CW CD n) (aa (f1 (bA [CD] "gaps") (ai 0)) (aa (ai 1) aH))))
  (cF (fH CR CP CS CW CD n)
  (cK (fL (newP CP (aG CR CP CS CW CD n)) (aa (ai 2) (aa (fL (gU CR CP CS CW CD n) (aa (f1 (bA [CD] "beside") (ai 0)) (aa (ai 1) aH))) aH)))))))
def bV (CR CP CS CW CD:e_) (n:Nat):List Dat->M Dat:=bL 3 1 (gX CR CP CS CW CD n)
def eP (CR CP CS CW CD:e_) (n:Nat):ah->M Flo:=
 sIf (fOr (fB (f2 gtD (fL vC (aa (ai 0) aH)) (fC (.int 10)))) (pN (k7 (fL allD (aa (dP (fItS (ai 0)) [c_] (.nm 0) ia (f2 inSD (ai 0) (fC (.str "0123456789")))) aH)))))
   (cK (fC .non))
   cO
def dh (CR CP CS CW CD:e_) (n:Nat):ah->M Flo:=
 sIf (uk (fB (f2 eqM (f2 AR (ai 0) (fC (.int 0))) (fC (.str "0")))) (fB (f2 neM (ai 0) (fC (.str "0")))))
   (cK (fC .non))
   cO
def gW (CR CP CS CW CD:e_) (n:Nat):ah->M Flo:=
 (cF (eP CR CP CS CW CD n)
  (cF (dh CR CP CS CW CD n)
  (cK (fL D2 (aa (ai 0) aH)))))
def bh (CR CP CS CW CD:e_) (n:Nat):List Dat->M Dat:=bL 1 1 (gW CR CP CS CW CD n)
def cV (CR CP CS CW CD:e_) (n:Nat):ah->M Flo:=
 sIf (fOr (fB (f2 neM (fL jv (aa (ai 1) aH)) (fC (.int 4)))) (fOr (fB (f2 gR (f2 ixD (ai 1) (fC (.int 1))) (ai 0))) (fB (f2 gR (f2 ixD (ai 1) (fC (.int 2))) (ai 0)))))
   (cK (fC .non))
   cO
def fj (CR CP CS CW CD:e_) (n:Nat):ah->M Flo:=
 (cF (cV CR CP CS CW CD n)
  (cF (bH [] 2 (fL (bh CR CP CS CW CD n) (aa (f2 ixD (ai 1) (fC (.int 3))) aH)))
  (cK (fIte (k7 (fL (eD CR CP CS CW CD n) (aa (ai 2) aH))) (fL jc (aa (gu (ai 0) (f2 ixD (ai 1) (fC (.int 1)))) (aa (gu (ai 0) (f2 ixD (ai 1) (fC (.int 2)))) (aa (ai 2) aH)))) (fC .non)))))
def b6 (CR CP CS CW CD:e_) (n:Nat):List Dat->M Dat:=bL 3 2 (fj CR CP CS CW CD n)
def lV (CR CP CS CW CD:e_) (n:Nat):ah->M Flo:=
 (cK (iH leD leD (fC (.int 0)) (ai 0) (fC (.int 1000000000))))
def eC (CR CP CS CW CD:e_) (n:Nat):List Dat->M Dat:=bL 1 1 (lV CR CP CS CW CD n)
def dO (CR CP CS CW CD:e_) (n:Nat):ah->M Flo:=
 (cF (bH [] 1 (f2 ixD (ai 0) (fC (.int 1))))
  (cF (bH [] 2 (f2 ixD (ai 0) (fC (.int 2))))
  (cK (iI (f2 leD (ai 1) (ai 2)) (fL allD (aa (dP (fIt (fSl dS (ai 0) (kC (fC (.int 1))) sU)) [c_] (.nm 0) ia (fL (eC CR CP CS CW CD n) (aa (ai 0) aH))) aH))))))
def bj (CR CP CS CW CD:e_) (n:Nat):List Dat->M Dat:=bL 3 1 (dO CR CP CS CW CD n)
def i5 (CR CP CS CW CD:e_) (n:Nat):ah->M Flo:=
 sIf (fOr (fB (f2 gtD (fL vC (aa (ai 0) aH)) (fC (.int 8)))) (fB (f2 jq (f2 AR (ai 0) (fC (.int 0))) (fC (.str "abcdefghijklmnopqrstuvwxyz")))))
   (cK (fC (.bl b_)))
   cO
def lU (CR CP CS CW CD:e_) (n:Nat):ah->M Flo:=
 (cF (i5 CR CP CS CW CD n)
  (cK (fL allD (aa (dP (fItS (ai 0)) [c_] (.nm 0) ia (Bo (f2 inSD (ai 0) (fC (.str "abcdefghijklmnopqrstuvwxyz"))) (f2 inSD (ai 0) (fC (.str "0123456789"))))) aH))))
def fV (CR CP CS CW CD:e_) (n:Nat):List Dat->M Dat:=bL 1 1 (lU CR CP CS CW CD n)
def cf (CR CP CS CW CD:e_) (n:Nat):ah->M Flo:=
 sIf (fOr (fB (f2 neM (fL jv (aa (ai 2) aH)) (fC (.int 7)))) (fOr (fB (f2 geD (fL jv (aa (ai 1) aH)) (fC (.int 40)))) (fB (f2 gR (f2 ixD (ai 2) (fC (.int 2))) (ai 0)))))
   (cK (fC .non))
   cO
def cW (CR CP CS CW CD:e_) (n:Nat):ah->M Flo:=
 sIf (fOr (pN (k7 (fL (fV CR CP CS CW CD n) (aa (f2 ixD (ai 2) (fC (.int 1))) aH)))) (fB (f2 inM (f2 ixD (ai 2) (fC (.int 1))) (ai 1))))
   (cK (fC .non))
   cO
def i0 (CR CP CS CW CD:e_) (n:Nat):ah->M Flo:=
 sIf (fB (f2 inM (fC .non) (ai 3)))
   (cK (fC .non))
   cO
def cv (CR CP CS CW CD:e_) (n:Nat):ah->M Flo:=
 (cF (cf CR CP CS CW CD n)
  (cF (cW CR CP CS CW CD n)
  (cF (bH [] 3 (dP (fIt (fSl dS (ai 2) (kC (fC (.int 3))) sU)) [c_] (.nm 0) ia (fL (bh CR CP CS CW CD n) (aa (ai 0) aH))))
  (cF (i0 CR CP CS CW CD n)
  (cF (bH [] 4 (fL jc (aa (gu (ai 0) (f2 ixD (ai 2) (fC (.int 2)))) (aa (f2 ixD (ai 3) (fC (.int 0))) (aa (f2 ixD (ai 3) (fC (.int 1))) (aa (f2 ixD (ai 3) (fC (.int 2))) (aa (f2 ixD (ai 3) (fC (.int 3))) aH)))))))
  (cK (fIte (k7 (fL (bj CR CP CS CW CD n) (aa (ai 4) aH))) (ai 4) (fC .non))))))))
def aT (CR CP CS CW CD:e_) (n:Nat):List Dat->M Dat:=bL 5 3 (cv CR CP CS CW CD n)
def de (CR CP CS CW CD:e_) (n:Nat):ah->M Flo:=
 sIf (fOr (fB (f2 neM (fL jv (aa (ai 1) aH)) (fC (.int 2)))) (fB (f2 geD (fL jv (aa (ai 0) aH)) (fC (.int 6)))))
   (cK (fC .non))
   cO
def eZ (CR CP CS CW CD:e_) (n:Nat):ah->M Flo:=
 (cF (de CR CP CS CW CD n)
  (cK (fIte (uk (k7 (fL (fV CR CP CS CW CD n) (aa (f2 ixD (ai 1) (fC (.int 1))) aH))) (fB (f2 gR (f2 ixD (ai 1) (fC (.int 1))) (ai 0)))) (f2 ixD (ai 1) (fC (.int 1))) (fC .non))))
def bg (CR CP CS CW CD:e_) (n:Nat):List Dat->M Dat:=bL 2 2 (eZ CR CP CS CW CD n)
def nA (CR CP CS CW CD:e_) (n:Nat):ah->M Flo:=
 (cK (jF leD ltD leD (fC (.int 0)) (f2 ixD (ai 0) (fC (.int 0))) (f2 ixD (ai 0) (fC (.int 1))) (fC (.int 1000000000))))
def fU (CR CP CS CW CD:e_) (n:Nat):List Dat->M Dat:=bL 1 1 (nA CR CP CS CW CD n)
def kU (CR CP CS CW CD:e_) (n:Nat):ah->M Flo:=
 (cK (iI (f2 leD (fL jv (aa (ai 0) aH)) (fC (.int 20))) (fL allD (aa (dP (fIt (ai 0)) [c_] (.nm 0) ia (fL (fU CR CP CS CW CD n) (aa (ai 0) aH))) aH))))
def gS (CR CP CS CW CD:e_) (n:Nat):List Dat->M Dat:=bL 1 1 (kU CR CP CS CW CD n)
def bw (CR CP CS CW CD:e_) (n:Nat):ah->M Flo:=
 sIf (fB (f2 neM (fL jv (aa (ai 1) aH)) (fC (.int 3))))
   (cK (fC .non))
   cO
def bO (CR CP CS CW CD:e_) (n:Nat):ah->M Flo:=
 (cF (bw CR CP CS CW CD n)
  (cF (bH [] 2 (fL jc (aa (fL (bh CR CP CS CW CD n) (aa (f2 ixD (ai 1) (fC (.int 1))) aH)) (aa (fL (bh CR CP CS CW CD n) (aa (f2 ixD (ai 1) (fC (.int 2))) aH)) aH))))
  (cK (fIte (uk (fB (f2 gR (fC .non) (ai 2))) (k7 (fL (gS CR CP CS CW CD n) (aa (f2 gL (ai 0) (fL cy (aa (ai 2) aH))) aH)))) (ai 2) (fC .non)))))
def aQ (CR CP CS CW CD:e_) (n:Nat):List Dat->M Dat:=bL 3 2 (bO CR CP CS CW CD n)
def bq (CR CP CS CW CD:e_) (n:Nat):List Dat->List Dat->M (Bool×List Dat):=
 mv (fOr (fB (f2 eqM (ai 1) (fL cy aH))) (k7 (fSM my (f2 ixD (ai 1) (fC (.int 0))) (fC (.str "#")))))
  (fB (f2 eqM (f2 ixD (ai 1) (fC (.int 0))) (fC (.str "kind"))))
  (fB (f2 eqM (f2 ixD (ai 1) (fC (.int 0))) (fC (.str "gap"))))
  (fB (f2 eqM (f2 ixD (ai 1) (fC (.int 0))) (fC (.str "beside"))))
  (fB (f2 eqM (f2 ixD (ai 1) (fC (.int 0))) (fC (.str "closed")))) (f2 eqM (f2 ixD (ai 1) (fC (.int 0))) (fC (.str "flight")))
  (bg CR CP CS CW CD n) (b6 CR CP CS CW CD n) (aQ CR CP CS CW CD n) (aT CR CP CS CW CD n)
def rF (CR CP CS CW CD:e_) (n:Nat):ah->M Flo:=
 (cK (dP (fIt (fSM mZ (ai 0) (fC (.str " ")))) [c_] (.nm 0) (fB (f2 neM (ai 0) (fC (.str "")))) (ai 0)))
def eY (CR CP CS CW CD:e_) (n:Nat):List Dat->M Dat:=bL 1 1 (rF CR CP CS CW CD n)
def bP (CR CP CS CW CD:e_) (n:Nat):ah->M Flo:=
 sIf (fB (f2 eqM (f1 (bA [CD] "kinds") (ai 1)) (fL cy aH)))
   (Ai CW "row" (aa (fC (.int 0)) aH))
   cO
def il (CR CP CS CW CD:e_) (n:Nat):ah->M Flo:=
 (oV CD CW "row" (bq CR CP CS CW CD n) (eY CR CP CS CW CD n) 1 2 3 (fSM mZ (ai 0) (fC (.str "\n")))
  (cF (bP CR CP CS CW CD n)
  (fNoX (cK (fL (newS CS (dD CR CP CS CW CD n)) (aa (f1 (bA [CD] "kinds") (ai 1)) (aa (fL (bV CR CP CS CW CD n) (aa (ai 1) aH)) (aa (f1 (bA [CD] "names") (ai 1)) (aa (f1 (bA [CD] "flights") (ai 1)) (aa (f1 (bA [CD] "closed") (ai 1)) aH))))))))))
def cR (CR CP CS CW CD:e_) (n:Nat):List Dat->M Dat:=bL 4 1 (il CR CP CS CW CD n)
def eQ (CR CP CS CW CD:e_) (n:Nat):ah->M Flo:=
 oU [] CW (bH [] 1 (fL cy (aa (fL (cR CR CP CS CW CD n) (aa (ai 0) aH)) aH))) (qX 2 1 "row" d_ d_ b_)
def kW (CR CP CS CW CD:e_) (n:Nat):ah->M Flo:=
 (cF (bH [] 1 (fL cy aH))
  (cF (eQ CR CP CS CW CD n)
  (cK (ai 1))))
def dN (CR CP CS CW CD:e_) (n:Nat):List Dat->M Dat:=bL 3 1 (kW CR CP CS CW CD n)
def jA (CR CP CS CW CD:e_) (n:Nat):ah->M Flo:=
 (cK (iI (f1 ij (ai 0)) (f1 notD (f1 jx (ai 0)))))
def cS (CR CP CS CW CD:e_) (n:Nat):List Dat->M Dat:=bL 1 1 (jA CR CP CS CW CD n)
def jN (CR CP CS CW CD:e_) (n:Nat):ah->M Flo:=
 sIf (fOr (pN (k7 (f1 jw (ai 0)))) (fB (f2 neM (ai 0) (ai 1))))
   (cK (fC (.bl b_)))
   cO
def jM (CR CP CS CW CD:e_) (n:Nat):ah->M Flo:=
 sIf (fOr (pN (k7 (f1 jT (ai 3)))) (fB (f2 neM (fL jv (aa (ai 3) aH)) (ai 2))))
   (cK (fC (.bl b_)))
   cO
def jL (CR CP CS CW CD:e_) (n:Nat):ah->M Flo:=
 sIf (pN (k7 (fL allD (aa (dP (fIt (ai 3)) [c_] (.nm 0) ia (fL (cS CR CP CS CW CD n) (aa (ai 0) aH))) aH))))
   (cK (fC (.bl b_)))
   cO
def eS (CR CP CS CW CD:e_) (n:Nat):ah->M Flo:=
 (cF (jM CR CP CS CW CD n)
  (jL CR CP CS CW CD n))
def lY (CR CP CS CW CD:e_) (n:Nat):ah->M Flo:=
 (cF (jN CR CP CS CW CD n)
  (cF (BS [] (fIt (ai 0)) (.nm 3) (eS CR CP CS CW CD n))
  (cK (fC (.bl d_)))))
def cn (CR CP CS CW CD:e_) (n:Nat):List Dat->M Dat:=bL 4 3 (lY CR CP CS CW CD n)
def gY (CR CP CS CW CD:e_) (n:Nat):ah->M Flo:=
 (cK (fC (.int 1)))
def cq (CR CP CS CW CD:e_) (n:Nat):List Dat->M Dat:=bL 1 1 (gY CR CP CS CW CD n)
def ip (CR CP CS CW CD:e_) (n:Nat):ah->M Flo:=
 (cK (fC (.int 2)))
def cM (CR CP CS CW CD:e_) (n:Nat):List Dat->M Dat:=bL 1 1 (ip CR CP CS CW CD n)
def lg (CR CP CS CW CD:e_) (n:Nat):ah->M Flo:=
 sIf (pN (k7 (f1 (isiC [(CS,d_)]) (ai 0))))
   (cK (fC (.bl b_)))
   cO
def la (CR CP CS CW CD:e_) (n:Nat):ah->M Flo:=
 sIf (fOr (fB (f2 neM (f1 (bA [CS] "kinds") (ai 0)) (ai 2))) (fB (f2 neM (f1 (bA [CS] "names") (ai 0)) (ai 5))))
   (cK (fC (.bl b_)))
   cO
def l9 (CR CP CS CW CD:e_) (n:Nat):ah->M Flo:=
 sIf (fOr (pN (k7 (fL (cn CR CP CS CW CD n) (aa (f1 (bA [CS] "flights") (ai 0)) (aa (ai 6) (aa (fC (.int 5)) aH)))))) (pN (k7 (fL (cn CR CP CS CW CD n) (aa (f1 (bA [CS] "closed") (ai 0)) (aa (ai 7) (aa (fC (.int 2)) aH)))))))
   (cK (fC (.bl b_)))
   cO
def l7 (CR CP CS CW CD:e_) (n:Nat):ah->M Flo:=
 sIf (fOr (fB (f2 neM (iG CR CP "gap_rows" (aX CR CP CS CW CD n) (aX CR CP CS CW CD n) (f1 (bA [CS] "rules") (ai 0)) aH) (ai 3))) (fB (f2 neM (iG CR CP "many_strips" (cq CR CP CS CW CD n) (cM CR CP CS CW CD n) (f1 (bA [CS] "rules") (ai 0)) aH) (f2 gL (fC (.int 1)) (fL intD (aa (f2 Cz (ai 4) (fC .non)) aH))))))
   (cK (fC (.bl b_)))
   cO
def pK (CR CP CS CW CD:e_) (n:Nat):ah->M Flo:=
 (cF (xm [] (.tp [2,3,4,5,6,7]) (ai 1))
  (cF (lg CR CP CS CW CD n)
  (cF (la CR CP CS CW CD n)
  (cF (l9 CR CP CS CW CD n)
  (cF (l7 CR CP CS CW CD n)
  (cK (Bo (f2 isND (ai 4) (fC .non)) (f2 eqM (jd CP "beside_rows" (bu CR CP CS CW CD n) (f1 (bA [CS] "rules") (ai 0)) aH) (ai 4)))))))))
def jt (CR CP CS CW CD:e_) (n:Nat):List Dat->M Dat:=bL 8 2 (pK CR CP CS CW CD n)
def dH (CR CP CS CW CD:e_) (n:Nat):ah->M Flo:=
 sIf (k7 (f1 ij (ai 1)))
   (cK (iI (f2 eqM (ai 2) (fL cy (aa (fC .non) (aa (ai 1) (aa (fC (.bl d_)) (aa (fC (.bl d_)) (aa (fC (.bl b_)) aH))))))) (fL (cS CR CP CS CW CD n) (aa (f2 ixD (ai 2) (fC (.int 1))) aH))))
   cO
def jC (CR CP CS CW CD:e_) (n:Nat):ah->M Flo:=
 (cF (bH [] 1 (fL (gD CR CP CS CW CD n) (aa (ai 0) aH)))
  (cF (bH [] 2 (fL (dN CR CP CS CW CD n) (aa (ai 0) aH)))
  (cF (dH CR CP CS CW CD n)
  (cK (iI (f2 eqM (fL jv (aa (ai 2) aH)) (fC (.int 1))) (fL (jt CR CP CS CW CD n) (aa (f2 ixD (ai 2) (fC (.int 0))) (aa (ai 1) aH))))))))
def bM (CR CP CS CW CD:e_) (n:Nat):List Dat->M Dat:=bL 3 1 (jC CR CP CS CW CD n)
def bG (CR CP CS CW CD:e_) (n:Nat):ah->M Flo:=
 sIf (fB (f2 eqM (f2 qx (ai 0) (fC (.int 5))) (fC (.int 0))))
   (cK (f2 gL (f2 mulSD (fC (.str "0")) (f2 gL (fC (.int 1)) (f2 qx (f2 mP (ai 0) (fC (.int 1024))) (fC (.int 3))))) (fL strD (aa (ai 2) aH))))
   cO
def fq (CR CP CS CW CD:e_) (n:Nat):ah->M Flo:=
 (cF (bH [] 1 (f2 ixD (fL cy (aa (f2 zr (fC (.int 10)) (fC (.int 6))) (aa (f2 zr (fC (.int 10)) (fC (.int 9))) aH))) (f2 qx (f2 mP (ai 0) (fC (.int 8))) (fC (.int 2)))))
  (cF (bH [] 2 (f2 ixD (fL cy (aa (ai 1) (aa (f2 subD (ai 1) (fC (.int 1))) (aa (f2 gL (ai 1) (fC (.int 1))) (aa (f2 qx (f2 mP (ai 0) (fC (.int 64))) (ai 1)) (aa (f2 qx (f2 mP (ai 0) (fC (.int 64))) (f2 zr (fC (.int 10)) (fC (.int 12)))) (aa (fC (.int 0)) aH))))))) (f2 qx (f2 mP (ai 0) (fC (.int 16))) (fC (.int 6)))))
  (cF (bG CR CP CS CW CD n)
  (cK (fL strD (aa (ai 2) aH))))))
def aP (CR CP CS CW CD:e_) (n:Nat):List Dat->M Dat:=bL 3 1 (fq CR CP CS CW CD n)
def c_law_1 (CR CP CS CW CD:e_) (n:Nat):ah->M Flo:=
 sIf (pN (k7 (fL (bM CR CP CS CW CD n) (aa (fSM nX (fC (.str "\n")) (ai 3)) aH))))
   (cK (fC (.bl b_)))
   cO
def c_law_2 (CR CP CS CW CD:e_) (n:Nat):ah->M Flo:=
 sIf (pN (k7 (fL (bM CR CP CS CW CD n) (aa (fSM nX (fC (.str "\n")) (f2 gL (fSl dS (ai 3) sU (kC (fC (.int 1)))) (fSl dS (ai 3) (kC (ai 5)) (kC (f2 gL (ai 5) (fC (.int 1))))))) aH))))
   (cK (fC (.bl b_)))
   cO
def yD (CR CP CS CW CD:e_) (n:Nat):ah->M Flo:=
 (cF (bH [] 2 (dP (Bn C8 (aa (fC (.int 10)) aH)) [c_,a_ 0,a_ 1] (.nm 0) ia (fL (d7 CR CP CS CW CD n) (aa (ai 1) (aa (f2 gL (f2 gL (fC (.int 500)) (f2 Bi (fC (.int 10)) (ai 2))) (ai 0)) aH)))))
  (cF (bH [] 3 (fL cy (aa (fC (.str "kind a")) (aa (f2 gL (fC (.str "kind ")) (fL (bW CR CP CS CW CD n) (aa (f2 ixD (ai 2) (fC (.int 0))) aH))) (aa (f2 gL (fC (.str "gap a a ")) (fL (aP CR CP CS CW CD n) (aa (f2 ixD (ai 2) (fC (.int 1))) aH))) aH)))))
  (cF (nO [3] 3 (f2 gL (f2 gL (f2 gL (fC (.str "closed ")) (fL (aP CR CP CS CW CD n) (aa (f2 ixD (ai 2) (fC (.int 2))) aH))) (fC (.str " "))) (fL (aP CR CP CS CW CD n) (aa (f2 ixD (ai 2) (fC (.int 3))) aH))))
  (cF (bH [3] 4 (fL (bW CR CP CS CW CD n) (aa (f2 ixD (ai 2) (fC (.int 4))) aH)))
  (cF (nO [3] 3 (f2 gL (f2 gL (f2 gL (f2 gL (fC (.str "flight ")) (ai 4)) (fC (.str " a 0 "))) (fL (aP CR CP CS CW CD n) (aa (f2 ixD (ai 2) (fC (.int 5))) aH))) (fC (.str " 0 0"))))
  (cF (nO [3] 3 (f2 gL (f2 gL (f2 gL (fC (.str "flight b a 0 5 ")) (fL (aP CR CP CS CW CD n) (aa (f2 ixD (ai 2) (fC (.int 6))) aH))) (fC (.str " "))) (fL (aP CR CP CS CW CD n) (aa (f2 ixD (ai 2) (fC (.int 7))) aH))))
  (cF (c_law_1 CR CP CS CW CD n)
  (cF (bH [] 5 (f2 qx (f2 mP (f2 ixD (ai 2) (fC (.int 8))) (fC (.int 8))) (fC (.int 6))))
  (c_law_2 CR CP CS CW CD n)))))))))
def g_law (CR CP CS CW CD:e_) (n:Nat):ah->M Flo:=
 (cF (BS [] (Bn C8 (aa (fL maxD (aa (fC (.int 1)) (aa (fL minD (aa (fC (.int 12)) (aa (fL jv (aa (ai 0) aH)) aH))) aH))) aH)) (.nm 1) (yD CR CP CS CW CD n))
  (cK (fC (.bl d_))))
def m_law (CR CP CS CW CD:e_) (n:Nat):List Dat->M Dat:=bL 6 1 (g_law CR CP CS CW CD n)
noncomputable def top (i:Nat):Fh:=Ms.main.body.getD i (.Pass ⟨0,0,0,0⟩)
abbrev oS:Fh:=top 74
abbrev sE:Fh:=top 58
abbrev uR:Fh:=top 67
abbrev uT:Fh:=top 69
abbrev qE:Fh:=top 68
abbrev Ag:Fh:=top 70
abbrev sH:Fh:=top 71
abbrev uN:Fh:=top 43
abbrev sC:Fh:=top 26
abbrev j4:Fh:=inClass (top 28) 4
abbrev qD:Fh:=top 44
abbrev lJ:Fh:=inClass (top 29) 3
abbrev uM:Fh:=top 45
abbrev BQ:Fh:=top 52
abbrev xj:Fh:=top 53
abbrev s_is_gap:Fh:=top 24
abbrev uQ:Fh:=top 25
abbrev iB:Fh:=top 27
abbrev oR:Fh:=top 54
abbrev x9:Fh:=top 48
abbrev xf:Fh:=top 37
abbrev Ad:Fh:=top 39
abbrev Af:Fh:=top 49
abbrev sA:Fh:=top 14
abbrev kx:Fh:=top 15
abbrev BP:Fh:=top 36
abbrev sx:Fh:=top 41
abbrev sy:Fh:=top 50
abbrev x4:Fh:=top 38
abbrev uP:Fh:=top 19
abbrev xh:Fh:=top 20
abbrev qC:Fh:=top 40
abbrev Ae:Fh:=top 51
abbrev Ac:Fh:=top 35
abbrev uO:Fh:=top 55
abbrev xk:Fh:=top 72
abbrev uS:Fh:=top 64
abbrev sD:Fh:=top 65
abbrev ky:Fh:=inClass (top 28) 2
abbrev lI:Fh:=inClass (top 29) 1
abbrev BR:Fh:=top 66
abbrev uU:Fh:=top 73
abbrev mz:Fh:=top 75
abbrev s_law:Fh:=top 76
abbrev s_nR:Fh:=inClass (top 28) 0
abbrev s_nP:Fh:=inClass (top 29) 0
abbrev s_nS:Fh:=inClass (top 46) 0
abbrev s_nCW:Fh:=inClass (top 9) 0
abbrev s_nD:Fh:=inClass (top 47) 0
structure Zs (K:Fg) (mg:Mq) (CR CP CS CW CD AStripError ANoRow ANoRules ANoTime ANoPlace ANotFree ATooMany ANoPlan:e_):Prop where
 tF:mg "StripError"=a_ (.ref AStripError)
 mI_NoRow:mg "NoRow"=a_ (.ref ANoRow)
 AJ:mg "NoRules"=a_ (.ref ANoRules)
 CH:mg "NoTime"=a_ (.ref ANoTime)
 AK:mg "NoPlace"=a_ (.ref ANoPlace)
 AI:mg "NotFree"=a_ (.ref ANotFree)
 AH:mg "TooMany"=a_ (.ref ATooMany)
 CI:mg "NoPlan"=a_ (.ref ANoPlan)
 xCW:XTry K mg "NoSheet" CW
 kR:Kls K mg "Rules" CR
 kP:Kls K mg "Pair" CP
 kS:Kls K mg "Sheet" CS
 kD:Kls K mg "Draft" CD
 ki_CR_CP:ES K (.ref CR) (.ref CP)=a_ b_
 ki_CP_CP:ES K (.ref CP) (.ref CP)=a_ d_
 nU:ES K (.ref CW) (.ref AStripError)=a_ d_
 nV:ES K (.ref CW) (.type "ValueError")=a_ d_
 kT_CW:kitAny K (.ref CW) ([ANoRow,ANoRules,ANoTime,ANoPlace,ANotFree,ATooMany,ANoPlan].map D_)=a_ b_
 ki_CS_CS:ES K (.ref CS) (.ref CS)=a_ d_
 aCW_row:Ea K CW "row"
 lZ:∀C∈[CR,CP],Cls K C/\b9 K C "gaps"
 rJ:∀C∈[CP],Cls K C/\b9 K C "beside"
 B0:∀C∈[CS],Cls K C/\b9 K C "closed"
 yh:∀C∈[CS],Cls K C/\b9 K C "flights"
 Dc:∀C∈[CS],Cls K C/\b9 K C "kinds"
 D9:∀C∈[CS],Cls K C/\b9 K C "names"
 pM:∀C∈[CS],Cls K C/\b9 K C "rules"
 naS:∀y∈(["kinds","rules","names","flights","closed","text"]:List p_),b9 K CS y
 uo:mg "ValueError"=c_
 wM:mg "all"=c_
 z_bool:mg "bool"=c_
 wL:mg "enumerate"=c_
 wJ:mg "int"=c_
 aY:mg "isinstance"=c_
 dM:mg "len"=c_
 yI:mg "list"=c_
 z_max:mg "max"=c_
 z_min:mg "min"=c_
 ml:mg "range"=c_
 z_str:mg "str"=c_
 z_tuple:mg "tuple"=c_
 z_zip:mg "zip"=c_
 qP:∃t,mg "GREATEST_GAP"=a_ (.int 1000000 t)
 mK:∃t,mg "GREATEST_NUMBER"=a_ (.int 1000000000 t)
 pL:∃t,mg "GREATEST_STOP"=a_ (.int 1000000000 t)
 qO:∃t,mg "MOST_FIGURES"=a_ (.int 10 t)
 qN:∃t,mg "MOST_FLIGHTS"=a_ (.int 40 t)
 nE:∃t,mg "MOST_KINDS"=a_ (.int 6 t)
 vN:∃t,mg "MOST_SIGNS"=a_ (.int 8 t)
 nZ:∃t,mg "MOST_STRETCHES"=a_ (.int 20 t)
 kit:Kit K
 gs_FIGURES:∃t,mg "FIGURES"=a_ (.str "0123456789" t)
 gs_LETTERS:∃t,mg "LETTERS"=a_ (.str "abcdefghijklmnopqrstuvwxyz" t)
 n_D:∃f fd,Mth K CD "__init__" "Draft.__init__" s_nD ["self"] f fd
 naD:∀y∈(["kinds","gaps","beside","names","flights","closed"]:List p_),b9 K CD y
 fldD_beside:∀C∈[CD],Cls K C/\b9 K C "beside"
 fldD_closed:∀C∈[CD],Cls K C/\b9 K C "closed"
 fldD_flights:∀C∈[CD],Cls K C/\b9 K C "flights"
 fldD_gaps:∀C∈[CD],Cls K C/\b9 K C "gaps"
 fldD_kinds:∀C∈[CD],Cls K C/\b9 K C "kinds"
 fldD_names:∀C∈[CD],Cls K C/\b9 K C "names"
 B8:∃f fd,Def K mg "_law_one" Ag ["_law_state","_law_words_here"] f fd
 yr:∃f fd,Def K mg "take_told" x9 ["kept","told"] f fd
 B6:∃f fd,Def K mg "take_gap" Af ["kinds","gaps","words"] f fd
 tX:∃f fd,Def K mg "take_flight" sy ["draft","words"] f fd
 B5:∃f fd,Def K mg "take_row" Ae ["draft","words"] f fd
 pZ:∃f fd,Def K mg "_law_any_name" oS ["_law_number_here"] f fd
 uc:∃f fd,Def K mg "_law_number" sE ["_law_script","_law_k"] f fd
 w4:∃f fd,Def K mg "_law_words" uR ["_law_row"] f fd
 w9:∃f fd,Def K mg "_law_value" uT ["_law_word","_law_most"] f fd
 qU:∃f fd,Def K mg "_law_is_name" qE ["_law_word"] f fd
 ud:∃f fd,Def K mg "_law_judged" sH ["_law_text"] f fd
 vW:∃f fd,Def K mg "shown_gaps" uN ["word","kinds","rows","least"] f fd
 tZ:∃f fd,Def K mg "copied_rows" sC ["rows"] f fd
 qS:∃f fd,Def K mg "shown_flight" qD ["kinds","name","flight"] f fd
 DB:∃f fd,Def K mg "text_of" uM ["kinds","rules","names","flights","closed"] f fd
 DH:∃f fd,Def K mg "gap_row" BQ ["gaps","kind","many"] f fd
 yv:∃f fd,Def K mg "gap_table" xj ["gaps","many"] f fd
 d_is_gap:∃f fd,Def K mg "is_gap" s_is_gap ["number"] f fd
 vZ:∃f fd,Def K mg "is_gap_row" uQ ["row","kinds"] f fd
 qT:∃f fd,Def K mg "checked_rows" iB ["rows"] f fd
 pX:∃f fd,Def K mg "drafted_rules" oR ["draft"] f fd
 yt:∃f fd,Def K mg "number_of" xf ["word"] f fd
 B4:∃f fd,Def K mg "told_gap" Ad ["kinds","words"] f fd
 tY:∃f fd,Def K mg "is_in_range" sA ["number"] f fd
 kY:∃f fd,Def K mg "has_right_numbers" kx ["flight"] f fd
 DD:∃f fd,Def K mg "is_name" BP ["word"] f fd
 tW:∃f fd,Def K mg "told_flight" sx ["kinds","names","words"] f fd
 yq:∃f fd,Def K mg "told_kind" x4 ["kinds","words"] f fd
 vY:∃f fd,Def K mg "is_stretch" uP ["stretch"] f fd
 yu:∃f fd,Def K mg "is_closed" xh ["closed"] f fd
 qR:∃f fd,Def K mg "told_stretch" qC ["closed","words"] f fd
 B3:∃f fd,Def K mg "words_of" Ac ["row"] f fd
 vX:∃f fd,Def K mg "read_sheet" uO ["text"] f fd
 yw:∃f fd,Def K mg "_law_told" xk ["_law_text"] f fd
 w5:∃f fd,Def K mg "_law_whole" uS ["_law_found"] f fd
 ua:∃f fd,Def K mg "_law_tuples" sD ["_law_found","_law_due","_law_long"] f fd
 DK:∃f fd,Def K mg "_law_is" BR ["_law_sheet","_law_data_here"] f fd
 wa:∃f fd,Def K mg "_law_right" uU ["_law_text"] f fd
 mT:∃f fd,Def K mg "_law_any_number" mz ["_law_number_here"] f fd
 d_law:∃f fd,Def K mg "law" s_law ["_law_script"] f fd/\∀(s:z_) (v:l_),Jf s fd ⟨[v],[]⟩ [("_law_script",v)]
 m_M_R_gap_rows:∃f fd,Mth K CR "gap_rows" "Rules.gap_rows" j4 ["self"] f fd
 m_M_P_gap_rows:∃f fd,Mth K CP "gap_rows" "Rules.gap_rows" j4 ["self"] f fd
 m_M_P_beside_rows:∃f fd,Mth K CP "beside_rows" "Pair.beside_rows" lJ ["self"] f fd
 m_M_R_many_strips:∃f fd,Mth K CR "many_strips" "Rules.many_strips" ky ["self"] f fd
 m_M_P_many_strips:∃f fd,Mth K CP "many_strips" "Pair.many_strips" lI ["self"] f fd
 n_P:∃f fd,Mth K CP "__init__" "Pair.__init__" s_nP ["self","gaps","beside"] f fd
 n_R:∃f fd,Mth K CR "__init__" "Rules.__init__" s_nR ["self","gaps"] f fd/\Stat K CR (.type "type") "__init__" f
 n_S:∃f fd,Mth K CS "__init__" "Sheet.__init__" s_nS ["self","kinds","rules","names","flights","closed"] f fd
 n_CW:∃f fd,Mth K CW "__init__" "NoSheet.__init__" s_nCW ["self","row"] f fd/\XMk K mg "NoSheet" CW f
 ne:CR≠CP
noncomputable abbrev Zq (_:Nat) (_:Fp) (_:Fu) (_:EY):=Zs
theorem law_d {K:Fg} {st:Fh} {ps:List p_} {q:Gf->Prop} (h:∃f fd,Def K mg x st ps f fd/\q fd):∃f fd,Def K mg x st ps f fd:=let ⟨f,fd,D,_⟩:=h;⟨f,fd,D⟩
theorem putGB (a b:V):rl ("beside":p_) b [(("gaps":p_),a)]=[(("gaps":p_),a),(("beside":p_),b)]:=by
 show (if ("gaps":p_)="beside" then _ else (("gaps":p_),a)::rl "beside" b [])=_;rw [m_ (by decide +kernel)];rfl
theorem sc_nCW:fK ["self","row"] ["self","row"] (aD s_nCW):=⟨rfl,rfl,rfl,by decide +kernel,rfl,by decide +kernel,by decide +kernel⟩
theorem okn_CW {w:Fu} {K:Fg} {base:EY} {f:e_} (N:Fun K "__init__" "NoSheet.__init__" s_nCW f fd) (J:Ea K C "row"):i9 P w K mg base CX0 1 f fd ["self","row"] (spX1 C "row"):=by
 refine N.okX sc_nCW (fun vs H Q E h=>?_) (fun cdv A outer s H vs Q E b h=>?_)
 ·obtain ⟨a,v1,rfl,_⟩:=h;rfl
 ·obtain ⟨a,v1,rfl,Y,q⟩:=h;refine ⟨_,aV (ps_x1 (pv 0) (pv 1) J),?_⟩
  exact ⟨v1,rfl,_,rfl,a,rfl,Y,fun d hd I=>q d hd I⟩
section
variable {w:Fu} {base:EY} {K:Fg} {CR:e_} (Z:Zq n P w base K mg CR CP CS CW CD AStripError ANoRow ANoRules ANoTime ANoPlace ANotFree ATooMany ANoPlan)
include Z
theorem j6:YO Z.pZ P w base 1 b_ (bW CR CP CS CW CD n):=
 fY ["_law_number_here","_law_signs","_law_name_here","_law_k"] fun z I J=>(ax (fE I aS) (ax (fE I aS) (ax (vT (pt:=.nm 3) (pP Z.ml (da1 (aU ja (aU ki (av 0) ae) ae))) (dg_nm I) (ax (fE I (aA (aU dv (aA (aU dv (aU vz (av 0) (av 0)) (aU vz ae (av 0)))) (av 3)))) (ax (fE I (aU ja (av 0) ae)) (az (dz (aB (oi J.units) (aU ja (av 0) ae) ae) (az (fE I (aA (aU dv (av 2) (aN uq aS (aU ja (aU ki (av 0) ae) ae)))))) (az (dz (PW.pt (nG (aB (oi J.units) (av 3) ae) (jH (aB Cw (aU ja (av 0) ae) ae)))) (az (fE I (aA (aU dv (av 2) (aN uq (av 1) (aU ja (aU ki (av 0) ae) ae)))))) (az (fE I (aA (aU dv (av 2) (aN uq (av 1) (aU ja (aU ki (av 0) ae) ae))))))))))))) (az (aI (av 2))))))
theorem qK:YO Z.uc P w base 1 b_ (d7 CR CP CS CW CD n):=
 fY ["_law_script","_law_k","_law_cells","_law_cell","_law_number_here"] fun z I J=>(ax (fE I (aA (ym x_sl (av 0) mQ (jI ae)))) (ax (fE I (aA (aU dv (aU vz ae (av 1)) ae))) (ax (dz (aB Cw (aE gK Z.dM Ej (da1 (av 2))) ae) (az (fE I (aU ja (aN cw (av 2) (aU ja (av 1) (aE gK Z.dM Ej (da1 (av 2))))) (aU vy ae ae)))) bE) (ax (fE I (aU ja (aU vz (aA (aU dv (aA (aU dv (av 3) (aU vz (aU vz (av 1) (av 1)) ae))) (aE gK Z.dM Ej (da1 (av 2))))) ae) ae)) (az (aI (aU ja (aA (aU dv (aU vz (av 4) ae) ae)) ae)))))))
theorem sZ:YO Z.w4 P w base 1 b_ (ig CR CP CS CW CD n):=
 fY ["_law_row"] fun z J I=>(az (aI (aA (cI ["_law_word"] [c_] (hV (aA (tU oj Gs G6 (av 0) aS))) (fun _ _ _ _ _=>du (by decide +kernel)) (aJ rfl) (fun _ _ _ _ _=>sO (aB (tj I.units) (av 0) aS)) (fun _ _ _ _ _=>(av 0))))))
theorem gB:YO Z.w9 P w base 1 b_ (b7 CR CP CS CW CD n):=
 fY ["_law_word","_law_most"] fun z J I=>(ax (dz (PW.pt (dX (aB o_lt (aE rT Z.dM Ej (da1 (av 0))) ae) (dX (aB Cw (aE rT Z.dM Ej (da1 (av 0))) ae) (cU (aB (tj I.units) (aA (cI ["_law_sign"] [c_] (zU (av 0)) (fun _ _ _ _ _=>du (by decide +kernel)) (aJ rfl) (fun _ _ _ _ _=>sO (aB oh (av 0) aS)) (fun _ _ _ _ _=>(av 0)))) (aA (hX iK))))))) (az (aI (de_un o_neg ae))) bE) (ax (dz (PW.pt (dX (PW.pt (nG (aB (oi I.units) (aN uq (av 0) ae) aS) (jH (aB (tj I.units) (av 0) aS)))) (cU (aB Cw (fW DZ Z.wJ G3 (da1 (av 0))) (av 1))))) (az (aI (de_un o_neg ae))) bE) (az (aI (fW DZ Z.wJ G3 (da1 (av 0)))))))
theorem jm:YO Z.qU P w base 1 b_ (bN CR CP CS CW CD n):=
 fY ["_law_word"] fun z J I=>(ax (dz (PW.pt (dX (aB o_lt (aE rT Z.dM Ej (da1 (av 0))) ae) (dX (aB Cw (aE rT Z.dM Ej (da1 (av 0))) ae) (cU (aB oh (aN uq (av 0) ae) aS))))) (az (aI jJ)) bE) (az (aI (iJ (oi I.units) (aA (cI ["_law_sign"] [c_] (zU (av 0)) (fun _ _ _ _ _=>du (by decide +kernel)) (aJ rfl) (fun _ _ _ _ _=>sO (aB oh (av 0) aS)) (fun _ _ _ _ _=>(av 0)))) (aA (hX iK))))))
theorem xO:YR Z.B8 P w base 2 (spOne K (eX CR CP CS CW CD n)):=
 fR ["_law_state","_law_words_here","_law_kinds","_law_tables","_law_names","_law_flights","_law_closed","_law_gap_here","_law_start","_law_stop","_law_numbers"] (fun _ _ _ _=>len_one) fun z J I vs Q h=>⟨_,(aw (zp (pv 0) (zt rfl (cL (cQ (i:=2) J rfl (by first|exact .inl rfl|exact .inr rfl)) (cL (cQ (i:=3) J rfl (by first|exact .inl rfl|exact .inr rfl)) (cL (cQ (i:=4) J rfl (by first|exact .inl rfl|exact .inr rfl)) (cL (cQ (i:=5) J rfl (by first|exact .inl rfl|exact .inr rfl)) (cL (cQ (i:=6) J rfl (by first|exact .inl rfl|exact .inr rfl)) sQ))))))) (aw (gA (PW.pt (nG (aB (oi I.units) (aN cw (av 1) ae) aS) (jH (aB (oi I.units) (aE gK Z.dM Ej (da1 (av 1))) ae)))) (aw (gA (PW.pt (dX (hI (dm (dY (jm Z) I (da1 (aN cw (av 1) ae))))) (dX (aB (o_in I.units) (aN cw (av 1) ae) (av 2)) (cU (aB Cw (aE gK Z.dM Ej (da1 (av 2))) ae))))) (aV (bS iT)) bx) (aw (gO (nQ EE EL ET eA (pv 2) (au (aN cw (av 1) ae) aK))) (aV (bS iT)))) bx) (aw (gA (PW.pt (nG (aB (o_in I.units) (aN cw (av 1) ae) (aA (hX (da2 aS aS)))) (jH (aB (oi I.units) (aE gK Z.dM Ej (da1 (av 1))) ae)))) (aw (jh (i:=7) J rfl (by first|exact .inl rfl|exact .inr rfl) (dY (gB Z) I (da2 (aN cw (av 1) ae) (aU vy ae ae)))) (aw (gA (PW.pt (dX (aB (jo I.units) (aN cw (av 1) ae) (av 2)) (dX (aB (jo I.units) (aN cw (av 1) ae) (av 2)) (cU (aB o_lt (av 7) ae))))) (aV (bS iT)) bx) (aw (ps_dput (hU I.units) (xH (hU I.units) (pv 3) (aN cw (av 1) ae) (fun _ _=>rfl)) (vm (au (aN cw (av 1) ae) (au (aN cw (av 1) ae) aK))) (pv 7) rfl) (aV (bS iT))))) bx) (aw (gA (PW.pt (nG (aB (oi I.units) (aN cw (av 1) ae) aS) (jH (aB (oi I.units) (aE gK Z.dM Ej (da1 (av 1))) ae)))) (aw (jh (i:=8) J rfl (by first|exact .inl rfl|exact .inr rfl) (dY (gB Z) I (da2 (aN cw (av 1) ae) (aU vy ae ae)))) (aw (jh (i:=9) J rfl (by first|exact .inl rfl|exact .inr rfl) (dY (gB Z) I (da2 (aN cw (av 1) ae) (aU vy ae ae)))) (aw (gA (PW.pt (dX (aB o_lt (av 8) ae) (dX (aB Ct (av 9) (av 8)) (cU (aB Cw (aE gK Z.dM Ej (da1 (av 6))) ae))))) (aV (bS iT)) bx) (aw (gO (nQ EE EL ET eA (pv 6) (au (nH (da2 (av 8) (av 9))) aK))) (aV (bS iT)))))) bx) (aw (gA (PW.pt (dX (aB (tj I.units) (aN cw (av 1) ae) aS) (cU (aB (tj I.units) (aE gK Z.dM Ej (da1 (av 1))) ae)))) (aV (bS iT)) bx) (aw (ps_compD (i:=10) ["_law_word"] [c_] J (hV (aA (ym x_sl (av 1) (jI ae) mQ))) (fun _ _ _ _ _=>du (by decide +kernel)) (aJ rfl) (fun _ _ _ _ _=>cH) (fun _ _ _ _ _=>(dY (gB Z) I (da2 (av 0) (aU vy ae ae))))) (aw (gA (PW.pt (dX (hI (dm (dY (jm Z) I (da1 (aN cw (av 1) ae))))) (cU (aB (o_in I.units) (aN cw (av 1) ae) (av 4))))) (aV (bS iT)) bx) (aw (gA (PW.pt (dX (aB (jo I.units) (aN cw (av 1) ae) (av 2)) (cU (aB o_lt (aE (c_min rfl) Z.z_min boot_min (da1 (av 10))) ae)))) (aV (bS iT)) bx) (aw (gA (PW.pt (dX (aB Cw (aN cw (av 10) ae) (aN cw (av 10) ae)) (cU (aB Cw (aE gK Z.dM Ej (da1 (av 5))) ae)))) (aV (bS iT)) bx) (aw (gO (nQ EE EL ET eA (pv 4) (au (aN cw (av 1) ae) aK))) (aw (gO (nQ EE EL ET eA (pv 5) (au (nH (da5 (m7 I.units (av 2) (aN cw (av 1) ae)) (aN cw (av 10) ae) (aN cw (av 10) ae) (aN cw (av 10) ae) (aN cw (av 10) ae))) aK))) (aV (bS iT))))))))))))),rs_one h⟩
theorem qL:YO Z.ud P w base 3 b_ (gD CR CP CS CW CD n):=
 fY ["_law_text","_law_state","_law_rows","_law_k","_law_words_here","_law_kinds","_law_tables","_law_names","_law_flights","_law_closed","_law_made","_law_word"] fun z I J=>(by refine ds_judge ?_;intro F0 H0;refine aw ?_ ?_;refine jh (i:=1) ?_ ?_ ?_ ?_;exact I;exact rfl;(first|exact .inl rfl|exact .inr rfl);refine vm ?_;refine au ?_ ?_;refine j5 ?_;exact aK;refine au ?_ ?_;refine pe_disp ?_ ?_ ?_ ?_ ?_;refine zq ?_ ?_ ?_;exact rn;exact sS;refine zq ?_ ?_ ?_;exact rn;exact sS;exact pps_nil;exact rfl;exact rfl;exact List.cons_ne_nil _ _;exact Nat.le_of_ble_eq_true rfl;refine au ?_ ?_;refine j5 ?_;exact aK;refine au ?_ ?_;refine j5 ?_;exact aK;refine au ?_ ?_;refine j5 ?_;exact aK;exact aK;refine aw ?_ ?_;exact (jh (i:=2) I rfl (by first|exact .inl rfl|exact .inr rfl) (aA (tU oj Gs G6 (av 0) aS)));refine aw ?_ ?_;refine zo ?_ ?_ ?_ ?_ ?_;exact KW;exact rfl;exact (vk rfl Z.ml (au (aE gK Z.dM Ej (da1 (av 2))) aK));exact (cQ (i:=3) I rfl (by first|exact .inl rfl|exact .inr rfl));refine aw ?_ ?_;exact (jh (i:=4) I rfl (by first|exact .inl rfl|exact .inr rfl) (dY (sZ Z) J (da1 (aN cw (av 2) (av 3)))));refine aV ?_;refine gA ?_ ?_ ?_;refine PW.pt ?_;refine Cg ?_ ?_;exact (aB (tj J.units) (av 4) (aA (hX iK)));refine Cg ?_ ?_;exact (aB (tj J.units) (aN uq (aN cw (av 4) ae) ae) aS);refine Cf ?_;exact (zm (o9 (pY (xO Z) J (au (pv 1) (au (pv 4) aK))) (fun _=>rfl)));refine aV ?_;refine bS ?_;exact (aA (aU dv (av 3) ae));exact bx;refine aw ?_ ?_;exact (zp (pv 1) (zt rfl (cL (cQ (i:=5) I rfl (by first|exact .inl rfl|exact .inr rfl)) (cL (cQ (i:=6) I rfl (by first|exact .inl rfl|exact .inr rfl)) (cL (cQ (i:=7) I rfl (by first|exact .inl rfl|exact .inr rfl)) (cL (cQ (i:=8) I rfl (by first|exact .inl rfl|exact .inr rfl)) (cL (cQ (i:=9) I rfl (by first|exact .inl rfl|exact .inr rfl)) sQ)))))));refine aw ?_ ?_;exact (gA (aB (oi J.units) (av 5) (aA (hX iK))) (aV (bS zu)) bx);refine aw ?_ ?_;exact (jh (i:=10) I rfl (by first|exact .inl rfl|exact .inr rfl) (j5 aK));refine aw ?_ ?_;exact (zo KW rfl (xD (j5 (au rn (au rn aK)))) (cQ (i:=11) I rfl (by first|exact .inl rfl|exact .inr rfl)) (aV (gO (nQ EE EL ET eA (pv 10) (au (xI ["_law_one_here","_law_kinds","_law_tables","_law_word"] [c_,a_ 5,a_ 6,a_ 11] rfl (xD (pv 5)) (fun _ _ _ _ _=>du (K:=K) (by decide +kernel)) (aJ rfl) (fun _ _ _ _ _=>xA) (fun _ _ _ _ _=>(xI ["_law_other","_law_one_here","_law_tables","_law_word"] [c_,a_ 0,a_ 2,a_ 3] rfl (xD (pv 1)) (fun _ _ _ _ _=>du (K:=K) (by decide +kernel)) (aJ rfl) (fun _ _ _ _ _=>xA) (fun _ _ _ _ _=>pe_dget2 (hU J.units) (xH (hU J.units) (pv 2) (pv 3) (fun _ _=>rfl)) (vm (au (pv 1) (au (pv 0) aK))) zu ⟨rfl,rfl,rfl,rfl⟩)))) aK)))));refine aw ?_ ?_;exact (gA (xB (op_eqT J.units) (xH (hU J.units) (pv 6) rn (fun _ _=>rfl)) sS (zy _)) (aV ((ds_setI eV ae) F0 H0)) bx);refine aV ?_;refine bS ?_;exact (nH (da6 (av 5) (aN cw (av 10) ae) (aN cw (av 10) ae) (av 7) (av 8) (av 9))))
theorem lL:YO Z.vW P w base 1 d_ (fS CR CP CS CW CD n):=
 fY ["word","kinds","rows","least","shown","kind","row","other","gap"] fun z I J=>(ax (ds_sT I (hX iK)) (ax (vT (pt:=.tp [5,6]) (Dw Z.z_zip (av 1) (av 2)) (Dx rfl (fP (i:=5) I (fP (i:=6) I pQ))) (az (vT (pt:=.tp [7,8]) (Dw Z.z_zip (av 1) (av 6)) (Dx rfl (fP (i:=7) I (fP (i:=8) I pQ))) (az (dz (aB o_ge (av 8) (av 3)) (az (tQ (i:=4) (yn (fF (pV (av 0)) (fF aS (fF (pV (av 5)) (fF aS (fF (pV (av 7)) (fF aS (fF (pV (av 8)) Ds)))))))))) bE))))) (az (ds_retV (i:=4)))))
theorem fN:YO Z.tZ P w base 1 b_ (d6 CR CP CS CW CD n):=
 fY ["rows"] fun z I J=>(az (aI (aA (cI ["row"] [c_] (hV (av 0)) (fun _ _ _ _ _=>du (by decide +kernel)) (aJ rfl) (fun _ _ _ _ _=>cH) (fun _ _ _ _ _=>(aA (fW c_list Z.yI Gh (da1 (av 0)))))))))
theorem kg:YM Z.m_M_R_gap_rows P w mg base 2 b_ (aX CR CP CS CW CD n):=
 fM ["self"] fun z J I=>(az (aI (dY (fN Z) I (da1 (eI (Cs:=[CR,CP]) Z.lZ (av 0))))))
theorem kh:YM Z.m_M_P_gap_rows P w mg base 2 b_ (aX CR CP CS CW CD n):=
 fM ["self"] fun z J I=>(az (aI (dY (fN Z) I (da1 (eI (Cs:=[CR,CP]) Z.lZ (av 0))))))
theorem pz:YO Z.qS P w base 1 b_ (cC CR CP CS CW CD n):=
 fY ["kinds","name","flight","words"] fun z I J=>(ax (fE I (aA (aU dv (aA (hX (da3 aS (av 1) (aN cw (av 0) (aN cw (av 2) ae))))) (aA (cI ["number"] [c_] (hV (aA (ym x_sl (av 2) (jI ae) mQ))) (fun _ _ _ _ _=>du (by decide +kernel)) (aJ rfl) (fun _ _ _ _ _=>cH) (fun _ _ _ _ _=>(fW c_str Z.z_str HS (da1 (av 0))))))))) (az (aI (tU tw GF Hb aS (av 3)))))
theorem iE:YM Z.m_M_P_beside_rows P w mg base 2 b_ (bu CR CP CS CW CD n):=
 fM ["self"] fun z J I=>(az (aI (dY (fN Z) I (da1 (eI (Cs:=[CP]) Z.rJ (av 0))))))
theorem Ay:YO Z.DB P w base 3 b_ (dD CR CP CS CW CD n):=
 fY ["kinds","rules","names","flights","closed","rows"] fun z e a=>let ⟨_,_,d,I⟩:=iE Z;let ⟨_,_,b,Y⟩:=kh Z;let ⟨_,_,c,J⟩:=kg Z;(ax (tP (i:=5) d_ ["name"] [c_] e (hV (av 0)) (fun _ _ _ _ _=>du (by decide +kernel)) (aJ rfl) (fun _ _ _ _ _=>cH) (fun _ _ _ _ _=>(yn (fF aS (fF (pV (av 0)) Ds))))) (ax (zR (i:=5) (dY (lL Z) a (da4 aS (av 0) (pS Z.kR.cl c.mt J a c.bd Z.kP.cl b.mt Y a b.bd (av 1)) ae))) (ax (dz (dm (Dy (tb:=[(CR,b_),(CP,d_)]) (isi2 ⟨⟨_,Z.kR⟩,Z.ki_CR_CP⟩ ⟨⟨_,Z.kP⟩,Z.ki_CP_CP⟩) Z.aY Z.kP.mg (av 1))) (az (zR (i:=5) (dY (lL Z) a (da4 aS (av 0) (vU Z.kP.cl d.mt I a d.bd (av 1)) ae)))) bE) (ax (zR (i:=5) (cI ["start","stop"] [c_,c_] (hV (av 4)) (fun _ _ _ _ _=>Dx rfl (m6 (i:=0) (by decide +kernel) (m6 (i:=1) (by decide +kernel) pQ))) (vE (by decide)) (fun _ _ _ _ _=>cH) (fun _ _ _ _ _=>(yn (fF aS (fF (pV (av 0)) (fF aS (fF (pV (av 1)) Ds)))))))) (ax (zR (i:=5) (cI ["name","flight","kinds"] [c_,c_,a_ 0] (Dw Z.z_zip (av 2) (av 3)) (fun _ _ _ _ _=>Dx rfl (m6 (i:=0) (by decide +kernel) (m6 (i:=1) (by decide +kernel) pQ))) (vE (by decide)) (fun _ _ _ _ _=>cH) (fun _ _ _ _ _=>(dY (pz Z) a (da3 (av 2) (av 0) (av 1)))))) (zS (O2:=[]) (az (aI (tU tw GF Hb aS (aA (cI ["row"] [c_] (hV (av 5)) (fun _ _ _ _ _=>du (by decide +kernel)) (aJ rfl) (fun _ _ _ _ _=>cH) (fun _ _ _ _ _=>(aA (aU dv (av 0) aS))))))))))))))
end
theorem sc_nS:fK ["self","kinds","rules","names","flights","closed"] ["self","kinds","rules","names","flights","closed"] (aD s_nS):=⟨rfl,rfl,rfl,by decide +kernel,rfl,by decide +kernel,by decide +kernel⟩
theorem okn_S {w:Fu} {K:Fg} {base:EY} {CR:e_} {J f:e_} {I:Gf} (D:Def K mg "text_of" uM ["kinds","rules","names","flights","closed"] J I) (d:i9 P w K mg base CX0 3 J I ["kinds","rules","names","flights","closed"] (spF K b_ (dD CR CP CS CW CD n) 5)) (N:Fun K "__init__" "Sheet.__init__" s_nS f fd) (c:Cls K C)
  (a:∀y∈(["kinds","rules","names","flights","closed","text"]:List p_),b9 K C y) (Y:mg "list"=c_):i9 P w K mg base CX0 4 f fd ["self","kinds","rules","names","flights","closed"] (spIS K C (dD CR CP CS CW CD n)):=
 N.okX sc_nS (fun vs H Q E h=>by obtain ⟨_,_,_,_,_,_,_,_,_,_,_,_,_,_,_,_,_,_,rfl,_⟩:=h;rfl) fun cdv A outer s H vs Q E b h=>
  ⟨_,aw (ib (pv 0) (ji fZ rfl Y Gh (au (pv 1) aK)) rfl) (aw (ib (pv 0) (pv 2) rfl) (aw (ib (pv 0) (ji fZ rfl Y Gh (au (pv 3) aK)) rfl) (aw (ib (pv 0) (ji fZ rfl Y Gh (au (pv 4) aK)) rfl)
   (aw (ib (pv 0) (ji fZ rfl Y Gh (au (pv 5) aK)) rfl) (aV (ib (pv 0) (ph d b (by rfl) D.mg D.fn.kp D.bd .nil pj (au (pv 1) (au (pv 2) (au (pv 3) (au (pv 4) (au (pv 5) aK)))))) rfl)))))),rs_initS c a h⟩
section
variable {w:Fu} {base:EY} {K:Fg} {CR:e_} (Z:Zq n P w base K mg CR CP CS CW CD AStripError ANoRow ANoRules ANoTime ANoPlace ANotFree ATooMany ANoPlan)
include Z
theorem Az:YO Z.DH P w base 1 b_ (jr CR CP CS CW CD n):=
 fY ["gaps","kind","many"] fun z J I=>(az (aI (aA (cI ["other","gaps","kind"] [c_,a_ 0,a_ 1] (pP Z.ml (da1 (av 2))) (fun _ _ _ _ _=>du (by decide +kernel)) (aJ rfl) (fun _ _ _ _ _=>cH) (fun _ _ _ _ _=>(de_getD I.units (av 1) (nH (da2 (av 2) (av 0))) ae))))))
theorem n8:YO Z.yv P w base 2 b_ (gU CR CP CS CW CD n):=
 fY ["gaps","many"] fun z J I=>(az (aI (aA (cI ["kind","gaps","many"] [c_,a_ 0,a_ 1] (pP Z.ml (da1 (av 1))) (fun _ _ _ _ _=>du (by decide +kernel)) (aJ rfl) (fun _ _ _ _ _=>cH) (fun _ _ _ _ _=>(dY (Az Z) I (da3 (av 1) (av 0) (av 2))))))))
theorem vp:YO Z.d_is_gap P w base 1 b_ (eD CR CP CS CW CD n):=
 fY ["number"] fun z I J=>(ax (dz (PW.pt (dX (hI (dm (mS Z.kit Z.aY Z.wJ (av 0)))) (cU (dm (pU Z.kit Z.aY Z.z_bool (av 0)))))) (az (aI jJ)) bE) (az (aI (zX Ct Ct ae (av 0) (iZ Z.qP)))))
theorem sY:YO Z.vZ P w base 2 b_ (dU CR CP CS CW CD n):=
 fY ["row","kinds"] fun z J I=>(az (aI (pW (pT Z.kit Z.aY Z.yI (av 0)) (pW (iJ (oi I.units) (aE gK Z.dM Ej (da1 (av 0))) (av 1)) (nI (aE (yB rfl) Z.wM I_ (da1 (aA (cI ["number"] [c_] (hV (av 0)) (fun _ _ _ _ _=>du (by decide +kernel)) (aJ rfl) (fun _ _ _ _ _=>cH) (fun _ _ _ _ _=>(dY (vp Z) I (da1 (av 0)))))))))))))
theorem jl:YO Z.qT P w base 3 b_ (aG CR CP CS CW CD n):=
 fY ["rows","kinds"] fun z J I=>(ax (fE J (aE gK Z.dM Ej (da1 (av 0)))) (ax (dz (hI (dt_chain Ct Ct ae (av 1) (iZ Z.nE))) (az ds_stk) bE) (ax (dz (hI (dm (aE (yB rfl) Z.wM I_ (da1 (aA (cI ["row","kinds"] [c_,a_ 1] (hV (av 0)) (fun _ _ _ _ _=>du (by decide +kernel)) (aJ rfl) (fun _ _ _ _ _=>cH) (fun _ _ _ _ _=>(dY (sY Z) I (da2 (av 0) (av 1)))))))))) (az ds_stk) bE) (az (aI (dY (fN Z) I (da1 (av 0))))))))
end
theorem sc_nR:fK ["self","gaps"] ["self","gaps"] (aD s_nR):=⟨rfl,rfl,rfl,by decide +kernel,rfl,by decide +kernel,by decide +kernel⟩
theorem okn_R {w:Fu} {K:Fg} {base:EY} {CR:e_} {f:e_} (Y:Def K mg "checked_rows" iB ["rows"] dE cT) (y:i9 P w K mg base CX0 3 dE cT ["rows"] (spF K b_ (aG CR CP CS CW CD n) 1))
  (N:Fun K "__init__" "Rules.__init__" s_nR f fd) (x:Cls K C) (k:b9 K C "gaps"):i9 P w K mg base CX0 4 f fd ["self","gaps"] (spI1 K C (aG CR CP CS CW CD n)):=by
 refine N.okX sc_nR (fun vs H Q E h=>?_) (fun cdv A outer s H vs Q E m h=>?_)
 ·obtain ⟨p,dx,v,F,d,rfl,_⟩:=h;rfl
 ·obtain ⟨p,dx,v,F,d,rfl,a,t,g,j,q⟩:=h;refine ⟨_,aV (ib (pv 0) (ph y m (by rfl) Y.mg Y.fn.kp Y.bd .nil pj (au (pv 1) aK)) rfl),?_⟩
  refine ⟨v,rfl,F,[d],g,⟨v,[],rfl,j,rfl⟩,rfl,?_⟩
  skip;cases b:aG CR CP CS CW CD n [d] with
  |error e=>rw [b] at q;exact q
  |ok r=>
   rw [b] at q;intro u F' H' st i;have I:F' p=c_:=by
    cases l:F' p with
    |none=>rfl
    |some o=>
     rcases st.nw p o l with z|z
     ·rw [t] at z;cases z
     ·rw [a] at z;cases z
   refine ⟨_,rfl,p,C,dx,[],rfl,st.hh _ _ a,x,k,(by show 0<1000;decide),?_⟩
   refine q u F' _ st.ff (fun c o e=>?_) I st.nw (fun c o e J=>by rw [aq J];exact st.hh _ _ e) ao i;have J:c≠p:=fun z=>by rw [z,I] at e;cases e
   rw [aq J];exact st.fh _ _ e
theorem sc_nP:fK ["self","gaps","beside"] ["self","gaps","beside"] (aD s_nP):=⟨rfl,rfl,rfl,by decide +kernel,rfl,by decide +kernel,by decide +kernel⟩
theorem okn_P {w:Fu} {K:Fg} {base:EY} {CR:e_} {f O:e_} {a:Gf} {mc:l_} (t:Def K mg "checked_rows" iB ["rows"] dE cT) (OK:i9 P w K mg base CX0 3 dE cT ["rows"] (spF K b_ (aG CR CP CS CW CD n) 1))
  (S:Stat K CR mc "__init__" O) (bI:Binds K a ["self","gaps"] []) (FI:i9 P w K mg base CX0 4 O a ["self","gaps"] (spI1 K CP (aG CR CP CS CW CD n))) (mR:mg "Rules"=a_ (.ref CR)) (x:mg "len"=c_)
  (N:Fun K "__init__" "Pair.__init__" s_nP f fd) (m:Cls K CP) (na:b9 K CP "gaps") (C:b9 K CP "beside"):i9 P w K mg base CX0 5 f fd ["self","gaps","beside"] (spI2 K CP (aG CR CP CS CW CD n)):=by
 refine N.okX sc_nP (fun vs H Q E h=>?_) (fun cdv A outer s H vs Q E D h=>?_)
 ·obtain ⟨p,dx,v,i,F,d,d2,rfl,_⟩:=h;rfl
 ·obtain ⟨p,dx,v,i,F,d,d2,rfl,hp,hF,s1,qd,k,q⟩:=h;refine ⟨_,aw (gO (pe_cmeth S (by rfl) mR FI D bI .nil pj (au (pv 0) (au (pv 1) aK))))
   (aw (ib (pv 0) (ph OK (D.mono (by decide)) (by rfl) t.mg t.fn.kp t.bd .nil pj (au (pv 2) aK)) rfl)
   (aV (gA (xB op_ne (ic jK (by rfl) x Ej (au (gQ (pv 0) rfl) aK)) (ic jK (by rfl) x Ej (au (gQ (pv 0) rfl) aK)) (zy _)) vh bx))),?_⟩
  refine ⟨_,rfl,_,rfl,p,dx,v,F,d,rfl,hp,hF,s1,qd,?_⟩
  cases G:aG CR CP CS CW CD n [d] with
  |error e=>rw [G] at q;exact q
  |ok r=>
   rw [G,aj] at q;intro u F1 H1 a1 a2 a3 a4 U T R;refine ⟨i,rfl,F1,[d2],a2,⟨i,[],rfl,aR.mono a1 k,rfl⟩,rfl,?_⟩
   skip;cases Y:aG CR CP CS CW CD n [d2] with
   |error e=>rw [Y] at q;exact EZ q
   |ok r2=>
    rw [Y,aj] at q;intro y F2 H2 st B;by_cases J:twoL r r2=d_
    ·rw [f_ J] at q;have I:F2 p=c_:=by
      cases l:F2 p with
      |none=>rfl
      |some o=>
       rcases st.nw p o l with z|z
       ·rw [a3] at z;cases z
       ·rw [T] at z;cases z
     refine ⟨_,rfl,p,CP,dx,_,rfl,st.hh _ _ T,m,C,(by show 1<1000;decide),?_⟩
     rw [putGB];have j:aF F2 (upd H2 p (.ins CP dx [("gaps",u),("beside",y)])):=fun c o e=>by
      have g:c≠p:=fun z=>by rw [z,I] at e;cases e
      rw [aq g];exact st.fh _ _ e
     cases r with
     |lst xs=>
      cases r2 with
      |lst ys=>
       have hl:xs.length=ys.length:=GL J;obtain ⟨g1,xs1,e1,t1,X⟩:=aR.mono st.ff R;obtain ⟨g2,Z,e2,t2,W⟩:=id B;refine ⟨_,rfl,p,CP,dx,_,_,rfl,ao,m,C,rfl,g2,_,by rw [e2],.inl (j.lst t2),_,rfl,p,CP,dx,_,_,rfl,ao,m,na,rfl,g1,_,by rw [e1],.inl (j.lst t1),rfl,_,rfl,?_⟩
       refine iteNS (by rw [X.length,W.length,hl]) ?_;refine q u y F2 _ (a1.trans st.ff) j I (fun b o e=>?_) (fun c o e g=>by rw [aq g];exact st.hh _ _ (U c o e g)) ao (aR.mono st.ff R) B;rcases st.nw b o e with z|z
       ·exact a4 b o z
       ·refine .inr ?_;cases l:H b with
        |none=>rfl
        |some o'=>
         by_cases L:b=p
         ·subst L;rw [I] at e;cases e
         ·rw [U b o' l L] at z;cases z
      |_=>cases J
     |_=>cases J
    ·rw [m_ J] at q;exact EZ q
section
variable {w:Fu} {base:EY} {K:Fg} {CR:e_} (Z:Zq n P w base K mg CR CP CS CW CD AStripError ANoRow ANoRules ANoTime ANoPlace ANotFree ATooMany ANoPlan)
include Z
theorem on_P:∃f fd,Mth K CP "__init__" "Pair.__init__" s_nP ["self","gaps","beside"] f fd/\i9 P w K mg base CX0 5 f fd ["self","gaps","beside"] (spI2 K CP (aG CR CP CS CW CD n)):=
 let ⟨_,_,Y⟩:=jl Z;let ⟨_,_,N,S⟩:=Z.n_R;let ⟨_,_,M⟩:=Z.n_P;⟨_,_,M,okn_P Y.d Y.o S N.bd (okn_R (C:=CP) Y.d Y.o N.fn Z.kP.cl (Z.lZ CP (by simp)).2) Z.kR.mg Z.dM M.fn Z.kP.cl (Z.lZ CP (by simp)).2 (Z.rJ CP (by simp)).2⟩
theorem on_R:∃f fd,Mth K CR "__init__" "Rules.__init__" s_nR ["self","gaps"] f fd/\i9 P w K mg base CX0 4 f fd ["self","gaps"] (spI1 K CR (aG CR CP CS CW CD n)):=
 let ⟨_,_,Y⟩:=jl Z;let ⟨_,_,N,_⟩:=Z.n_R;⟨_,_,N,okn_R Y.d Y.o N.fn Z.kR.cl (Z.lZ CR (by simp)).2⟩
theorem nR:YO Z.pX P w base 7 b_ (bV CR CP CS CW CD n):=
 fY ["draft","many","gaps"] fun z c b=>let ⟨_,_,a,J⟩:=on_P Z;let ⟨_,_,Y,I⟩:=on_R Z;(ax (fE c (aE gK Z.dM Ej (da1 (eI (Cs:=[CD]) Z.fldD_kinds (av 0))))) (ax (fE c (dY (n8 Z) b (da2 (eI (Cs:=[CD]) Z.fldD_gaps (av 0)) (av 1)))) (ax (dz (aB (o_eqE b.units) (eI (Cs:=[CD]) Z.fldD_beside (av 0)) (aA de_newK)) (az (aI (de_newR ⟨Z.kR.mks,Y.mt.at_,Y.mt.fn,Z.kR.kp⟩ I (b.mono (by decide)) Z.kR.mg Y.bd (da1 (av 2))))) bE) (az (aI (de_newP ⟨Z.kP.mks,a.mt.at_,a.mt.fn,Z.kP.kp⟩ J b Z.kP.mg a.bd (da2 (av 2) (dY (n8 Z) b (da2 (eI (Cs:=[CD]) Z.fldD_beside (av 0)) (av 1))))))))))
theorem jj:YR Z.yr P w base 1 lG:=
 fR ["kept","told"] (fun _ _ _ _=>len_told) fun z I J vs Q h=>⟨_,(aw (gA (pt_cmp (pc_isN (pv 1))) (aV (bS iT)) bx) (aw (gO (nQ EE EL ET eA (pv 0) (au (pv 1) aK))) (aV (bS iT)))),rs_told h⟩
theorem ie:YO Z.yt P w base 1 b_ (bh CR CP CS CW CD n):=
 fY ["word"] fun z J I=>(ax (dz (PW.pt (dX (aB Cw (aE rT Z.dM Ej (da1 (av 0))) (iZ Z.qO)) (cU (hI (dm (aE (yB rfl) Z.wM I_ (da1 (aA (cI ["sign"] [c_] (zU (av 0)) (fun _ _ _ _ _=>du (by decide +kernel)) (aJ rfl) (fun _ _ _ _ _=>cH) (fun _ _ _ _ _=>(iJ o_inS (av 0) (tV Z.gs_FIGURES)))))))))))) (az (aI eV)) bE) (ax (dz (PW.pt (nG (aB (oi I.units) (aN uq (av 0) ae) aS) (jH (aB (tj I.units) (av 0) aS)))) (az (aI eV)) bE) (az (aI (fW DZ Z.wJ G3 (da1 (av 0)))))))
theorem xK:YO Z.B4 P w base 2 b_ (b6 CR CP CS CW CD n):=
 fY ["kinds","words","gap"] fun z J I=>(ax (dz (PW.pt (dX (aB (tj I.units) (aE gK Z.dM Ej (da1 (av 1))) ae) (dX (aB (jo I.units) (aN cw (av 1) ae) (av 0)) (cU (aB (jo I.units) (aN cw (av 1) ae) (av 0)))))) (az (aI eV)) bE) (ax (fE J (dY (ie Z) I (da1 (aN cw (av 1) ae)))) (az (aI (zV (dm (dY (vp Z) I (da1 (av 2)))) (nH (da3 (m7 I.units (av 0) (aN cw (av 1) ae)) (m7 I.units (av 0) (aN cw (av 1) ae)) (av 2))) eV)))))
theorem px:YR Z.B6 P w base 3 (wY K (b6 CR CP CS CW CD n)):=
 fR ["kinds","gaps","words","told"] (fun _ _ _ _=>len_gap) fun z J I vs Q h=>⟨_,(aw (jh (i:=3) J rfl (.inl rfl) (pY (xK Z) I (au (pv 0) (au (pv 2) aK)))) (aw (gA (pt_cmp (pc_isN (pv 3))) (aV (bS iT)) bx) (aw (ps_put (hU I.units) (pv 1) (nH (da2 (aN cw (av 3) ae) (aN cw (av 3) ae))) (aN cw (av 3) ae) rfl) (aV (bS iT))))),rs_gap h⟩
theorem qJ:YO Z.tY P w base 1 b_ (eC CR CP CS CW CD n):=
 fY ["number"] fun z I J=>(az (aI (zX Ct Ct ae (av 0) (iZ Z.mK))))
theorem jX:YO Z.kY P w base 2 b_ (bj CR CP CS CW CD n):=
 fY ["flight","first","last"] fun z I J=>(ax (fE I (aN cw (av 0) ae)) (ax (fE I (aN cw (av 0) ae)) (az (aI (pW (iJ Ct (av 1) (av 2)) (nI (aE (yB rfl) Z.wM I_ (da1 (aA (cI ["number"] [c_] (hV (aA (ym x_sl (av 0) (jI ae) mQ))) (fun _ _ _ _ _=>du (by decide +kernel)) (aJ rfl) (fun _ _ _ _ _=>cH) (fun _ _ _ _ _=>(dY (qJ Z) J (da1 (av 0))))))))))))))
theorem rq:YO Z.DD P w base 1 b_ (fV CR CP CS CW CD n):=
 fY ["word"] fun z I J=>(ax (dz (PW.pt (dX (aB Cw (aE rT Z.dM Ej (da1 (av 0))) (iZ Z.vN)) (cU (aB oh (aN uq (av 0) ae) (tV Z.gs_LETTERS))))) (az (aI jJ)) bE) (az (aI (aE (yB rfl) Z.wM I_ (da1 (aA (cI ["sign"] [c_] (zU (av 0)) (fun _ _ _ _ _=>du (by decide +kernel)) (aJ rfl) (fun _ _ _ _ _=>cH) (fun _ _ _ _ _=>(de_or (iJ o_inS (av 0) (tV Z.gs_LETTERS)) (nI (iJ o_inS (av 0) (tV Z.gs_FIGURES))))))))))))
theorem qH:YO Z.tW P w base 3 b_ (aT CR CP CS CW CD n):=
 fY ["kinds","names","words","numbers","flight"] fun z J I=>(ax (dz (PW.pt (dX (aB (tj I.units) (aE gK Z.dM Ej (da1 (av 2))) ae) (dX (aB o_ge (aE gK Z.dM Ej (da1 (av 1))) (iZ Z.qN)) (cU (aB (jo I.units) (aN cw (av 2) ae) (av 0)))))) (az (aI eV)) bE) (ax (dz (PW.pt (dX (hI (dm (dY (rq Z) I (da1 (aN cw (av 2) ae))))) (cU (aB (o_in I.units) (aN cw (av 2) ae) (av 1))))) (az (aI eV)) bE) (ax (tP (i:=3) b_ ["word"] [c_] J (hV (aA (ym x_sl (av 2) (jI ae) mQ))) (fun _ _ _ _ _=>du (by decide +kernel)) (aJ rfl) (fun _ _ _ _ _=>cH) (fun _ _ _ _ _=>(dY (ie Z) I (da1 (av 0))))) (ax (dz (aB (o_in I.units) eV (av 3)) (az (aI eV)) bE) (ax (fE J (nH (da5 (m7 I.units (av 0) (aN cw (av 2) ae)) (aN cw (av 3) ae) (aN cw (av 3) ae) (aN cw (av 3) ae) (aN cw (av 3) ae)))) (az (aI (zV (dm (dY (jX Z) I (da1 (av 4)))) (av 4) eV))))))))
theorem qI:YR Z.tX P w base 4 (sm K CD (lB (aT CR CP CS CW CD n))):=
 fR ["draft","words"] (fun _ _ _ _=>CM) fun z J I vs Q h=>⟨_,(aw (gA (zm (o9 (pY (jj Z) I (au (gQ (pv 0) rfl) (au (pY (qH Z) I (au (gQ (pv 0) rfl) (au (gQ (pv 0) rfl) (au (pv 1) aK)))) aK))) (fun _=>rfl))) (aV (bS iT)) bx) (aw (gO (nQ EE EL ET eA (gQ (pv 0) rfl) (au (aN cw (av 1) ae) aK))) (aV (bS iT)))),BY Z.kD.cl Z.naD h⟩
theorem vo:YO Z.yq P w base 2 b_ (bg CR CP CS CW CD n):=
 fY ["kinds","words"] fun z J I=>(ax (dz (PW.pt (dX (aB (tj I.units) (aE gK Z.dM Ej (da1 (av 1))) ae) (cU (aB o_ge (aE gK Z.dM Ej (da1 (av 0))) (iZ Z.nE))))) (az (aI eV)) bE) (az (aI (zV (PW.pt (nG (dm (dY (rq Z) I (da1 (aN cw (av 1) ae)))) (jH (aB (jo I.units) (aN cw (av 1) ae) (av 0))))) (aN cw (av 1) ae) eV))))
theorem sX:YO Z.vY P w base 1 b_ (fU CR CP CS CW CD n):=
 fY ["stretch"] fun z I J=>(az (aI (Dz Ct o_lt Ct ae (aN cw (av 0) ae) (aN cw (av 0) ae) (iZ Z.pL))))
theorem vq:YO Z.yu P w base 2 b_ (gS CR CP CS CW CD n):=
 fY ["closed"] fun z J I=>(az (aI (pW (iJ Ct (aE gK Z.dM Ej (da1 (av 0))) (iZ Z.nZ)) (nI (aE (yB rfl) Z.wM I_ (da1 (aA (cI ["stretch"] [c_] (hV (av 0)) (fun _ _ _ _ _=>du (by decide +kernel)) (aJ rfl) (fun _ _ _ _ _=>cH) (fun _ _ _ _ _=>(dY (sX Z) I (da1 (av 0))))))))))))
theorem pq:YO Z.qR P w base 3 b_ (aQ CR CP CS CW CD n):=
 fY ["closed","words","stretch"] fun z J I=>(ax (dz (aB (tj I.units) (aE gK Z.dM Ej (da1 (av 1))) ae) (az (aI eV)) bE) (ax (fE J (nH (da2 (dY (ie Z) I (da1 (aN cw (av 1) ae))) (dY (ie Z) I (da1 (aN cw (av 1) ae)))))) (az (aI (zV (PW.pt (nG (aB (jo I.units) eV (av 2)) (jH (dm (dY (vq Z) I (da1 (aA (aU dv (av 0) (aA (hX (da1 (av 2)))))))))))) (av 2) eV)))))
theorem xN:YR Z.B5 P w base 5 (sm K CD (bq CR CP CS CW CD n)):=
 fR ["draft","words"] (fun _ _ _ _=>CM) fun z J I vs Q h=>⟨_,(aw (gA (PW.pt (dX (aB (oi I.units) (av 1) (aA (hX iK))) (cU (dm (tU CC Jm PySem.F.type_str_startswith (aN cw (av 1) ae) aS))))) (aV (bS iT)) bx) (aw (gA (aB (oi I.units) (aN cw (av 1) ae) aS) (aV (bS (pY (jj Z) I (au (gQ (pv 0) rfl) (au (pY (vo Z) I (au (gQ (pv 0) rfl) (au (pv 1) aK))) aK))))) bx) (aw (gA (aB (oi I.units) (aN cw (av 1) ae) aS) (aV (bS (pY (px Z) I (au (gQ (pv 0) rfl) (au (gQ (pv 0) rfl) (au (pv 1) aK)))))) bx) (aw (gA (aB (oi I.units) (aN cw (av 1) ae) aS) (aV (bS (pY (px Z) I (au (gQ (pv 0) rfl) (au (gQ (pv 0) rfl) (au (pv 1) aK)))))) bx) (aw (gA (aB (oi I.units) (aN cw (av 1) ae) aS) (aV (bS (pY (jj Z) I (au (gQ (pv 0) rfl) (au (pY (pq Z) I (au (gQ (pv 0) rfl) (au (pv 1) aK))) aK))))) bx) (aV (bS (pe_and (iJ (oi I.units) (aN cw (av 1) ae) aS) (pe_one (pY (qI Z) I (au (pv 0) (au (pv 1) aK)))))))))))),rs_row Z.kD.cl Z.naD h⟩
theorem xJ:YO Z.B3 P w base 1 b_ (eY CR CP CS CW CD n):=
 fY ["row"] fun z J I=>(az (aI (aA (cI ["word"] [c_] (hV (aA (tU oj Gs G6 (av 0) aS))) (fun _ _ _ _ _=>du (by decide +kernel)) (aJ rfl) (fun _ _ _ _ _=>sO (aB (tj I.units) (av 0) aS)) (fun _ _ _ _ _=>(av 0))))))
theorem on_CW:∃f fd,Mth K CW "__init__" "NoSheet.__init__" s_nCW ["self","row"] f fd/\XMk K mg "NoSheet" CW f/\i9 P w K mg base CX0 1 f fd ["self","row"] (spX1 CW "row"):=
 let ⟨_,_,N,X⟩:=Z.n_CW;⟨_,_,N,X,okn_CW N.fn Z.aCW_row⟩
theorem on_D:∃f fd,Mth K CD "__init__" "Draft.__init__" s_nD ["self"] f fd/\i9 P w K mg base CX0 1 f fd ["self"] (spID CD):=
 let ⟨f,fd,N⟩:=Z.n_D;⟨f,fd,N,N.fn.okX (N:=["self"]) (by exact ⟨rfl,rfl,rfl,by decide +kernel,rfl,by decide +kernel,by decide +kernel⟩) (fun _ _ _ _=>len_ID) fun c A o s H vs Q E I h=>⟨_,aw (ib (pv 0) (j5 aK) rfl) (aw (ib (pv 0) xE rfl) (aw (ib (pv 0) xE rfl) (aw (ib (pv 0) (j5 aK) rfl) (aw (ib (pv 0) (j5 aK) rfl) (aV (ib (pv 0) (j5 aK) rfl)))))),rs_initD Z.kD.cl Z.naD h⟩⟩
theorem on_S:∃f fd,Mth K CS "__init__" "Sheet.__init__" s_nS ["self","kinds","rules","names","flights","closed"] f fd/\i9 P w K mg base CX0 4 f fd ["self","kinds","rules","names","flights","closed"] (spIS K CS (dD CR CP CS CW CD n)):=
 let ⟨_,_,Y⟩:=Ay Z;let ⟨_,_,N⟩:=Z.n_S;⟨_,_,N,okn_S Y.d Y.o N.fn Z.kS.cl Z.naS Z.yI⟩
theorem sW:YX Z.vX P w base 8 b_ (cR CR CP CS CW CD n):=
 fX ["text","draft","number","row"] fun z f Y=>let ⟨_,_,a,I,J⟩:=on_CW Z;let ⟨_,_,e,c⟩:=on_D Z;let ⟨_,_,d,b⟩:=on_S Z;(Dp (jh (i:=1) f rfl (.inl rfl) (pe_make0 ⟨Z.kD.mks,e.mt.at_,e.mt.fn,Z.kD.kp⟩ c (Y.mono (by decide)) rfl Z.kD.mg e.bd .nil pj)) (zo PassesOwn.leaving rfl (pi_enum1 rfl Z.wL (aA (tU oj Gs G6 (av 0) aS))) (zt rfl (cL (cQ (i:=2) f rfl (.inl rfl)) (cL (cQ (i:=3) f rfl (.inl rfl)) sQ))) (aV (gA (zm (o9 (pY (xN Z) Y (au (pv 1) (au (pY (xJ Z) Y (au (pv 3) aK)) aK))) (fun _=>rfl))) (aV (vi Jt xeqD2 I.ex I.fn I.kp J (Y.mono (by decide)) a.bd I.mg (au (pv 2) aK))) bx))) (ax (dz (aB (oi Y.units) (eI (Cs:=[CD]) Z.fldD_kinds (av 1)) (aA (hX iK))) (az (Dn Jt xeqD2 I.ex I.fn I.kp J (Y.mono (by decide)) a.bd I.mg (da1 ae))) bE) (dss_lift (az (aI (de_newS ⟨Z.kS.mks,d.mt.at_,d.mt.fn,Z.kS.kp⟩ b (Y.mono (by decide)) Z.kS.mg d.bd (da5 (eI (Cs:=[CD]) Z.fldD_kinds (av 1)) (dY (nR Z) Y (da1 (av 1))) (eI (Cs:=[CD]) Z.fldD_names (av 1)) (eI (Cs:=[CD]) Z.fldD_flights (av 1)) (eI (Cs:=[CD]) Z.fldD_closed (av 1)))))))))
theorem vt:YO Z.yw P w base 9 b_ (dN CR CP CS CW CD n):=
 fY ["_law_text","_law_told_here","e"] fun z I c=>let ⟨_,_,J⟩:=sW Z;(ax (fE I (aA (hX iK))) (ax (ds_toldN (i:=2) (j:=1) (ys:=[ANoRow,ANoRules,ANoTime,ANoPlace,ANotFree,ATooMany,ANoPlan]) (fun pins σ E f e=>(dsa_set (own:=b_) I (dea_lst1 (dea_call J.o e c J.d.mg J.d.fn.kp J.d.bd (da1 (av 0)))))) Z.xCW I (fun a d oe b hd Y=>aw (jh I rfl (.inl rfl) (j5 (au pe_non (au (pe_xfld GI Z.xCW.isi Z.aCW_row b hd Y) (au (pe_isO (DY GI Z.xCW.isi b hd Y) Z.aY Z.tF Z.nU) (au (pe_isB (DY GI Z.xCW.isi b hd Y) Z.aY Z.uo (by decide +kernel) Z.nV) aK)))))) (aV (gO (nQ EE EL ET eA (pv 1) (au (pe_isT (DY GI Z.xCW.isi b hd Y) Z.aY (kB (kB (kB (kB (kB (kB (kB pa_refs0 Z.CI) Z.AH) Z.AI) Z.AK) Z.CH) Z.AJ) Z.mI_NoRow) (by show 7<=g_;rw [Er];decide) Z.kT_CW) aK)))))) (az (aI (av 1)))))
theorem lM:YO Z.w5 P w base 1 b_ (cS CR CP CS CW CD n):=
 fY ["_law_found"] fun z I J=>(az (aI (pW (mS Z.kit Z.aY Z.wJ (av 0)) (nI (de_not (pU Z.kit Z.aY Z.z_bool (av 0)))))))
theorem ke:YO Z.ua P w base 2 b_ (cn CR CP CS CW CD n):=
 fY ["_law_found","_law_due","_law_long","_law_one_here"] fun z J I=>(ax (dz (PW.pt (dX (hI (dm (pT Z.kit Z.aY Z.yI (av 0)))) (cU (aB (tj I.units) (av 0) (av 1))))) (az (aI jJ)) bE) (ax (vT (pt:=.nm 3) (hV (av 0)) (dg_nm J) (ax (dz (PW.pt (dX (hI (dm (vV Z.kit Z.aY Z.z_tuple (av 3)))) (cU (aB (tj I.units) (aE gK Z.dM Ej (da1 (av 3))) (av 2))))) (az (aI jJ)) bE) (az (dz (hI (dm (aE (yB rfl) Z.wM I_ (da1 (aA (cI ["_law_number_here"] [c_] (hV (av 3)) (fun _ _ _ _ _=>du (by decide +kernel)) (aJ rfl) (fun _ _ _ _ _=>cH) (fun _ _ _ _ _=>(dY (lM Z) I (da1 (av 0)))))))))) (az (aI jJ)) bE)))) (az (aI jJ))))
theorem mG:YM Z.m_M_R_many_strips P w mg base 1 b_ (cq CR CP CS CW CD n):=
 fM ["self"] fun z I J=>(az (aI ae))
theorem mH:YM Z.m_M_P_many_strips P w mg base 1 b_ (cM CR CP CS CW CD n):=
 fM ["self"] fun z I J=>(az (aI ae))
theorem AA:YO Z.DK P w base 3 b_ (jt CR CP CS CW CD n):=
 fY ["_law_sheet","_law_data_here","_law_kinds","_law_gaps","_law_beside","_law_names","_law_flights","_law_closed"] fun z d c=>let ⟨_,_,j,Y⟩:=iE Z;let ⟨_,_,g,b⟩:=kh Z;let ⟨_,_,e,J⟩:=mH Z;let ⟨_,_,h,a⟩:=kg Z;let ⟨_,_,f,I⟩:=mG Z;(ax (ds_unpB (av 1) (Dx rfl (fP (i:=2) d (fP (i:=3) d (fP (i:=4) d (fP (i:=5) d (fP (i:=6) d (fP (i:=7) d pQ)))))))) (ax (dz (hI (dm (Dy (tb:=[(CS,d_)]) (isi1 ⟨⟨_,Z.kS⟩,Z.ki_CS_CS⟩) Z.aY Z.kS.mg (av 0)))) (az (aI jJ)) bE) (ax (dz (PW.pt (dX (aB (tj c.units) (eI (Cs:=[CS]) Z.Dc (av 0)) (av 2)) (cU (aB (tj c.units) (eI (Cs:=[CS]) Z.D9 (av 0)) (av 5))))) (az (aI jJ)) bE) (ax (dz (PW.pt (dX (hI (dm (dY (ke Z) c (da3 (eI (Cs:=[CS]) Z.yh (av 0)) (av 6) ae)))) (cU (hI (dm (dY (ke Z) c (da3 (eI (Cs:=[CS]) Z.B0 (av 0)) (av 7) ae))))))) (az (aI jJ)) bE) (ax (dz (PW.pt (dX (aB (tj c.units) (pS Z.kR.cl h.mt a c h.bd Z.kP.cl g.mt b c g.bd (eI (Cs:=[CS]) Z.pM (av 0))) (av 3)) (cU (aB (tj c.units) (pS Z.kR.cl f.mt I (c.mono (by decide)) f.bd Z.kP.cl e.mt J (c.mono (by decide)) e.bd (eI (Cs:=[CS]) Z.pM (av 0))) (aA (aU dv ae (fW c_int Z.wJ G3 (da1 (iJ o_notN (av 4) eV))))))))) (az (aI jJ)) bE) (az (aI (de_or (iJ o_isN (av 4) eV) (nI (iJ (oi c.units) (vU Z.kP.cl j.mt Y c j.bd (eI (Cs:=[CS]) Z.pM (av 0))) (av 4)))))))))))
theorem lN:YO Z.wa P w base 10 b_ (bM CR CP CS CW CD n):=
 fY ["_law_text","_law_due","_law_told_here"] fun z J I=>(ax (fE J (dY (qL Z) I (da1 (av 0)))) (ax (fE J (dY (vt Z) I (da1 (av 0)))) (ax (dz (dm (mS Z.kit Z.aY Z.wJ (av 1))) (az (aI (pW (iJ (oi I.units) (av 2) (aA (hX (da5 eV (av 1) jJ jJ jJ)))) (nI (dY (lM Z) I (da1 (aN cw (av 2) ae))))))) bE) (az (aI (pW (iJ (oi I.units) (aE gK Z.dM Ej (da1 (av 2))) ae) (nI (dY (AA Z) I (da2 (aN cw (av 2) ae) (av 1))))))))))
theorem br:YO Z.mT P w base 1 b_ (aP CR CP CS CW CD n):=
 fY ["_law_number_here","_law_most","_law_value_here"] fun z I J=>(ax (fE I (aN cw (aA (hX (da2 (aU vy ae ae) (aU vy ae ae)))) (aU ja (aU ki (av 0) ae) ae))) (ax (fE I (aN cw (aA (hX (da6 (av 1) (aU o_sub (av 1) ae) (aA (aU dv (av 1) ae)) (aU ja (aU ki (av 0) ae) (av 1)) (aU ja (aU ki (av 0) ae) (aU vy ae ae)) ae))) (aU ja (aU ki (av 0) ae) ae))) (ax (dz (aB (oi J.units) (aU ja (av 0) ae) ae) (az (aI (aA (aU dv (aU o_mulS aS (aA (aU dv ae (aU ja (aU ki (av 0) ae) ae)))) (fW c_str Z.z_str HS (da1 (av 2))))))) bE) (az (aI (fW c_str Z.z_str HS (da1 (av 2))))))))
theorem ok_law:YO (law_d Z.d_law) P w base 11 b_ (m_law CR CP CS CW CD n):=
 fY ["_law_script","_law_k","_law_numbers","_law_rows","_law_name_here","_law_at"] fun z J I=>(ax (vT (pt:=.nm 1) (pP Z.ml (da1 (aE (c_max rfl) Z.z_max boot_max (da2 ae (aE (c_min rfl) Z.z_min boot_min (da2 ae (aE gK Z.dM Ej (da1 (av 0))))))))) (dg_nm J) (ax (tP (i:=2) b_ ["_law_j","_law_script","_law_k"] [c_,a_ 0,a_ 1] J (pP Z.ml (da1 ae)) (fun _ _ _ _ _=>du (by decide +kernel)) (aJ rfl) (fun _ _ _ _ _=>cH) (fun _ _ _ _ _=>(dY (qK Z) I (da2 (av 1) (aA (aU dv (aA (aU dv ae (aU vz ae (av 2)))) (av 0))))))) (ax (ds_sT J (hX (da3 aS (aA (aU dv aS (dY (j6 Z) I (da1 (aN cw (av 2) ae))))) (aA (aU dv aS (dY (br Z) I (da1 (aN cw (av 2) ae)))))))) (ax (tQ (i:=3) (aA (aU dv (aA (aU dv (aA (aU dv aS (dY (br Z) I (da1 (aN cw (av 2) ae))))) aS)) (dY (br Z) I (da1 (aN cw (av 2) ae)))))) (ax (fE J (dY (j6 Z) I (da1 (aN cw (av 2) ae)))) (ax (tQ (i:=3) (aA (aU dv (aA (aU dv (aA (aU dv (aA (aU dv aS (av 4))) aS)) (dY (br Z) I (da1 (aN cw (av 2) ae))))) aS))) (ax (tQ (i:=3) (aA (aU dv (aA (aU dv (aA (aU dv aS (dY (br Z) I (da1 (aN cw (av 2) ae))))) aS)) (dY (br Z) I (da1 (aN cw (av 2) ae)))))) (zS (O2:=[]) (ax (dz (hI (dm (dY (lN Z) I (da1 (tU tw GF Hb aS (av 3)))))) (az (aI jJ)) bE) (ax (fE J (aU ja (aU ki (aN cw (av 2) ae) ae) ae)) (az (dz (hI (dm (dY (lN Z) I (da1 (tU tw GF Hb aS (aA (aU dv (aA (ym x_sl (av 3) mQ (jI ae))) (aA (ym x_sl (av 3) (jI (av 5)) (jI (aA (aU dv (av 5) ae)))))))))))) (az (aI jJ)) bE)))))))))))) (az (aI jJ)))
end
noncomputable abbrev um:=Int×Int
variable {p:um} {cs:List um}
noncomputable def stD (p:um):Dat:=.tup [.int p.1,.int p.2]
@[simp] theorem getI_c0 (a:Dat) (l:List Dat):eU (a::l) 0=.ok a:=by
 unfold eU atI ixN;rw [f_ (by omega),f_ (by simp<;>omega)];rfl
@[simp] theorem getI_c2 (a b c:Dat) (l:List Dat):eU (a::b::c::l) 2=.ok c:=by
 unfold eU atI ixN;rw [f_ (by omega),f_ (by simp<;>omega)];rfl
section
variable (CR CP CS CW CD:e_)
noncomputable def oW (r:List Int):Dat:=.lst (r.map .int)
def aW (rows:List (List Int)):Dat:=.lst (rows.map oW)
def Ed (k:Nat) (r:List Int):Prop:=r.length=k/\∀x∈r,0<=x/\x<=1000000
def dJ (k:Nat) (rows:List (List Int)):Prop:=rows.length=k/\∀r∈rows,Ed k r
theorem Al {lo:Int} {i:Nat} {d:Dat} (h:(cP lo m)[i]? =a_ d):i<m/\d=.int (lo+i):=by
 unfold cP at h;rw [E_] at h;obtain ⟨a,h1,h2⟩:=J_.mp h;have hi:=(A1.mp h1).1;rw [List.length_range] at hi;rw [Lh hi] at h1;cases h1;exact ⟨hi,h2.symm⟩
theorem mC {i:Nat} {d:Dat} (h:(cP 0 m)[i]? =a_ d):i<m/\d=.int i:=by
 obtain ⟨h1,h2⟩:=Al h;exact ⟨h1,by rw [h2,Int.zero_add]⟩
theorem Ak (lo:Int) (m:Nat):(cP lo m).length=m:=by unfold cP;simp
end
section
variable (CR CP CS CW CD:e_)
theorem vI (n:Nat) (x:Int) (I:0<=x) (h1:x<=1000000):eD CR CP CS CW CD n [.int x]=.ok (.bl d_):=by simp [eD,oq,jV,I,h1]
theorem tH (n:Nat) (k:Nat) (r:List Int) (a:k<=6) (h:Ed k r):dU CR CP CS CW CD n [oW r,.int k]=.ok (.bl d_):=by
 have Y:r.length<=16777216:=by have:=h.1;omega
 have I:k<=16777216:=by omega
 have e:ba (.nm 0) ia (fL (eD CR CP CS CW CD n) (aa (ai 0) aH)) [c_] (r.map .int)=.ok ((r.map fun _=>d_).map Dat.bl):=by
  have:=m9 (p:=.nm 0) (fe:=fL (eD CR CP CS CW CD n) (aa (ai 0) aH)) (ρ0:=[c_]) (fun _=>.bl d_) (r.map .int) (fun d hd=>by
   obtain ⟨x,J,rfl⟩:=EX.mp hd;exact ⟨[a_ (.int x)],by simp,by simp [vI CR CP CS CW CD n x (h.2 x J).1 (h.2 x J).2]⟩)
  rw [this,El,El];rfl
 simp [dU,nB,oW,e,Y,I,h.1,-El]
theorem qg (n:Nat) (rows:List (List Int)) (Y:rows.length<=1000):d6 CR CP CS CW CD n [aW rows]=.ok (aW rows):=by
 have I:rows.length<=16777216:=by omega
 have e:ba (.nm 0) ia (fL CL (aa (ai 0) aH)) [c_] (rows.map oW)=.ok (rows.map oW):=by
  have:=m9 (p:=.nm 0) (fe:=fL CL (aa (ai 0) aH)) (ρ0:=[c_]) id (rows.map oW) (fun d hd=>by
   obtain ⟨x,J,rfl⟩:=EX.mp hd;exact ⟨[a_ (oW x)],by simp,by simp [oW]⟩)
  rw [this,Nh]
 simp [d6,lX,aW,e,I]
theorem mU (n:Nat) (k:Nat) (rows:List (List Int)) (h1:1<=k) (Y:k<=6) (h:dJ k rows):aG CR CP CS CW CD n [aW rows]=.ok (aW rows):=by
 have I:rows.length<=16777216:=by have:=h.1;omega
 have e:ba (.nm 0) ia (fL (dU CR CP CS CW CD n) (aa (ai 0) (aa (ai 1) aH))) [c_,a_ (.int rows.length)] (rows.map oW)=.ok ((rows.map fun _=>d_).map Dat.bl):=by
  have:=m9 (p:=.nm 0) (fe:=fL (dU CR CP CS CW CD n) (aa (ai 0) (aa (ai 1) aH))) (ρ0:=[c_,a_ (.int rows.length)]) (fun _=>.bl d_) (rows.map oW) (fun d hd=>by
   obtain ⟨x,J,rfl⟩:=EX.mp hd;exact ⟨[a_ (oW x),a_ (.int rows.length)],by simp,by simp [h.1,tH CR CP CS CW CD n k x Y (h.2 x J)]⟩)
  rw [this,El,El];rfl
 have a1:(1:Int)<=rows.length:=by have:=h.1;omega
 have a:(rows.length:Int)<=6:=by have:=h.1;omega
 have e3:=qg CR CP CS CW CD n rows (by have:=h.1;omega);simp only [aW] at e3;simp [aG,ko,j9,j8,aW,e,e3,I,a1,a,-El]
def n5 (rows:List (List Int)):Dat->Dat
 |.non=>.ins CR [("gaps",aW rows)]
 |o=>.ins CP [("gaps",aW rows),("beside",o)]
theorem gaps_at (rows:List (List Int)) (o:Dat) (J:o=.non\/∃I,o=aW I):bA [CR,CP] "gaps" (n5 CR CP rows o)=.ok (aW rows):=by
 have h1:((("gaps":p_)==("gaps":p_))=d_):=by decide +kernel
 rcases J with rfl|⟨I,rfl⟩
 ·show (if ([CR,CP].contains CR)=d_ then (match EM ("gaps":p_) [(("gaps":p_),aW rows)] with|some d=>Eo d|none=>stk) else stk)=_;rw [f_ (by simp),w_,h1]
 ·show (if ([CR,CP].contains CP)=d_ then (match EM ("gaps":p_) [(("gaps":p_),aW rows),(("beside":p_),aW I)] with|some d=>Eo d|none=>stk) else stk)=_;rw [f_ (by simp),w_,h1]
end
structure Fli where
 kind:Int
 first:Int
 last:Int
 due:Int
 price:Int
def flD (f:Fli):Dat:=.tup [.int f.kind,.int f.first,.int f.last,.int f.due,.int f.price]structure GoodFl (k:Nat) (f:Fli):Prop where
 k0:0<=f.kind
 k1:f.kind<k
 f0:0<=f.first
 f1:f.first<=f.last
 l1:f.last<=1000000000
 d0:0<=f.due
 d1:f.due<=1000000000
 p0:0<=f.price
 p1:f.price<=1000000000
theorem eO {α:Type} {p:Pat} {fe:ah->M Dat} {ρ0:ah} (g f:α->Dat):∀(L:List α),(∀x∈L,∃ρ,iM p (g x) ρ0=.ok ρ/\fe ρ=.ok (f x))->ba p ia fe ρ0 (L.map g)=.ok (L.map f)
 |[],_=>rfl
 |d::ds,h=>by
  obtain ⟨ρ,e1,e2⟩:=h d (by simp);rw [Eh,ba,e1];simp only [aj,ia,e2,eO g f ds fun x I=>h x (by simp [I])];simp
theorem xp (lo:Int) (m:Nat):cP lo (m+1)=.int lo::cP (lo+1) m:=by
 unfold cP;rw [Kr,Eh,El]
 congr 1
 ·simp
 ·refine FU fun k _=>?_;simp only [Function.comp]
  congr 1
  omega
theorem Ab (a b c:p_):a++b++c=a++(b++c):=by
 show (⟨(a.cps++b.cps)++c.cps⟩:p_)=⟨a.cps++(b.cps++c.cps)⟩
 rw [IQ]
theorem yW (a:p_):a++(Gr:p_)=a:=by
 show (⟨a.cps++#[]⟩:p_)=a;simp
theorem so (a:p_):(Gr:p_)++a=a:=by
 show (⟨#[]++a.cps⟩:p_)=a;simp
theorem su (a b:p_):(a++b).length=a.length+b.length:=strLen_append a b
def cat:List p_->p_
 |[]=>Gr
 |x::xs=>x++cat xs
theorem zG:∀xs:List p_,FE "" xs=cat xs
 |[]=>rfl
 |[x]=>by rw [cat,cat,yW];rfl
 |x::y::xs=>by
  rw [cat,<- zG (y::xs)];show x++h_ ""++FE "" (y::xs)=_;rw [show (h_ "":p_)=Gr by decide +kernel,yW]
theorem lenLe (xs:List p_) (B:Nat) (h:∀x∈xs,x.length<=B):(xs.map (·.length)).sum<=xs.length*B:=StrLaws.sumLen_le xs h
theorem str_len (h:i.natAbs<10^10):(gV i).length<=11:=by
 unfold gV;rw [Kn];exact L_ (k:=10) (by decide) h
theorem oO (h:i.natAbs<10^10):i.natAbs.log2<1920:=by
 by_cases I:i.natAbs=0
 ·rw [I];decide
 ·exact (Lg I).mpr (Em h (EJ (show 10^10<=2^34 by decide) (Lf (by decide) (by decide))))
noncomputable def SP:p_:=" "
noncomputable def NLs:p_:="\n"
noncomputable def kN (k:p_):p_:="kind "++k
def nv (w k o:p_) (g:Int):p_:=w++SP++k++SP++o++SP++gV g
def iL (p:um):p_:="closed "++gV p.1++SP++gV p.2
noncomputable def kAt (ks:List p_) (i:Int):p_:=ks.getD i.toNat ""
def eE (ks:List p_) (p:p_×Fli):p_:="flight"++SP++p.1++SP++kAt ks p.2.kind++SP++gV p.2.first++SP++gV p.2.last++SP++gV p.2.due++SP++gV p.2.price
def bp (w:p_) (I:Int) (k:p_):List p_->List Int->List p_
 |o::ks,g::r=>(if I<=g then [nv w k o g] else [])++bp w I k ks r
 |_,_=>[]
def bz (w:p_) (I:Int) (ks:List p_):List p_->List (List Int)->List p_
 |k::l,r::rows=>bp w I k ks r++bz w I ks l rows
 |_,_=>[]
def uh (ks:List p_):Option (List (List Int))->List p_
 |some r2=>bz "beside" 0 ks ks r2
 |none=>[]
def rowsOf (ks:List p_) (rows:List (List Int)) (o:Option (List (List Int))) (ns:List (p_×Fli)) (cs:List um):List p_:=
 ks.map kN++bz "gap" 1 ks ks rows++uh ks o++cs.map iL++ns.map (eE ks)
def textOf (rs:List p_):p_:=cat (rs.map (·++NLs))
theorem pH (ρ:ah) (I:p_):nW [] ρ I=.ok I:=rfl
theorem bC (f:ah->M Dat) (fs:List (ah->M Dat)) (ρ:ah) (I z:p_) (h:f ρ=.ok (.str z)) (Y:I.length+z.length<=16777216):nW (f::fs) ρ I=nW fs ρ (I++z):=by
 have J:(I++z).length<=g_:=by rw [su,Er];exact Y
 show (f ρ).bind _=_;rw [h];show (if (I++z).length<=g_ then nW fs ρ (I++z) else stk)=_;rw [f_ J]
theorem fmt_s (h:z.length<=16777216):mM (.str z)=.ok (.str z):=by
 rw [e_fmtS,Er,f_ h]
theorem fmt_i (h:i.natAbs<10^10):mM (.int i)=.ok (.str (gV i)):=by
 rw [e_fmtI,f_ (oO h)]
theorem CO (ks:List p_) (J:∀k∈ks,k.length<=100):ba (.nm 0) ia (fJ [(fC (.str "kind ")),(f1 mM (ai 0))]) [c_] (ks.map .str)=.ok ((ks.map kN).map .str):=by
 rw [El];refine eO _ _ ks fun k I=>⟨[a_ (.str k)],rfl,?_⟩
 have h:=J k I;have e5:(h_ "kind ").length=5:=by decide +kernel
 unfold fJ;rw [bC _ _ _ _ (h_ "kind ") rfl (by rw [e5];show 0+5<=_;decide),so,bC _ _ _ _ k (by show (mM (.str k))=_;exact fmt_s (by omega)) (by rw [e5];omega),pH];rfl
theorem zK {k:p_} {g:Int} (ρ:ah) (hw:w.length<=100) (e:k.length<=100) (d:o.length<=100) (J:g.natAbs<10^10) (e0:ai 0 ρ=.ok (.str w)) (e5:ai 5 ρ=.ok (.str k)) (b:ai 7 ρ=.ok (.str o)) (a:ai 8 ρ=.ok (.int g)) :
  fJ [(f1 mM (ai 0)),(fC (.str " ")),(f1 mM (ai 5)),(fC (.str " ")),(f1 mM (ai 7)),(fC (.str " ")),(f1 mM (ai 8))] ρ=.ok (.str (nv w k o g))/\(nv w k o g).length<=400:=by
 have I:(h_ " ").length=1:=by decide +kernel
 have es:=str_len J;have f0:f1 mM (ai 0) ρ=.ok (.str w):=by unfold f1;rw [e0];exact fmt_s (by omega)
 have f5:f1 mM (ai 5) ρ=.ok (.str k):=by unfold f1;rw [e5];exact fmt_s (by omega)
 have Y:f1 mM (ai 7) ρ=.ok (.str o):=by unfold f1;rw [b];exact fmt_s (by omega)
 have f8:f1 mM (ai 8) ρ=.ok (.str (gV g)):=by unfold f1;rw [a];exact fmt_i J
 have c:Gr.length=0:=rfl;refine ⟨?_,by unfold nv SP;simp only [su,I];omega⟩
 unfold fJ;rw [bC _ _ _ _ w f0 (by omega),so,bC _ _ _ _ (h_ " ") rfl (by omega),bC _ _ _ _ k f5 (by simp only [su,I];omega),bC _ _ _ _ (h_ " ") rfl (by simp only [su,I];omega),bC _ _ _ _ o Y (by simp only [su,I];omega),bC _ _ _ _ (h_ " ") rfl (by simp only [su,I];omega),bC _ _ _ _ (gV g) f8 (by simp only [su,I];omega),pH];rfl
section
variable (CR CP CS CW CD:e_)
theorem y4 (n:Nat) {w k:p_} (hw:w.length<=100) (l:k.length<=100) (I:Int) (a1 a Y:Option Dat):∀(os:List p_) (r:List Int) (J:List p_) (d c:Option Dat),(∀o∈os,o.length<=100)->(∀g∈r,g.natAbs<10^10)->J.length+os.length<=10000->∃f e,
  mi (.tp [7,8]) (cE CR CP CS CW CD n) (nJ (os.map .str) (r.map .int)) [a_ (.str w),a1,a,a_ (.int I),a_ (.lst (J.map .str)),a_ (.str k),Y,d,c]=.ok (.nx [a_ (.str w),a1,a,a_ (.int I),a_ (.lst ((J++bp w I k os r).map .str)),a_ (.str k),Y,f,e])
 |[],r,J,d,c,_,_,_=>⟨d,c,by simp [nJ,mi,bp]⟩
 |o::os,[],J,d,c,_,_,_=>⟨d,c,by simp [nJ,mi,bp]⟩
 |o::os,g::r,J,d,c,j,i,q=>by
  obtain ⟨e1,e2⟩:=zK (w:=w) (k:=k) (o:=o) (g:=g) [a_ (.str w),a1,a,a_ (.int I),a_ (.lst (J.map .str)),a_ (.str k),Y,a_ (.str o),a_ (.int g)] hw l (j o (by simp)) (i g (by simp)) rfl rfl rfl rfl;have h:J.length<16777216:=by simp at q;omega
  have t:=zK (w:=w) (k:=k) (o:=o) (g:=g) [a_ (.str w),a1,a,a_ (.int I),c_,a_ (.str k),Y,a_ (.str o),a_ (.int g)] hw l (j o (by simp)) (i g (by simp)) rfl rfl rfl rfl;by_cases m:I<=g
  ·have s:cE CR CP CS CW CD n [a_ (.str w),a1,a,a_ (.int I),a_ (.lst (J.map .str)),a_ (.str k),Y,a_ (.str o),a_ (.int g)]=.ok (.nx [a_ (.str w),a1,a,a_ (.int I),a_ (.lst ((J++[nv w k o g]).map .str)),a_ (.str k),Y,a_ (.str o),a_ (.int g)]):=by
    simp [cE,iC,m,t.1,e1,h]
   obtain ⟨f,e,p⟩:=y4 n hw l I a1 a Y os r (J++[nv w k o g]) (a_ (.str o)) (a_ (.int g)) (fun x b=>j x (by simp [b])) (fun x b=>i x (by simp [b])) (by simp at q ⊢;omega);refine ⟨f,e,?_⟩
   rw [bp,f_ m,<- Hd,<- p];simp [nJ,mi,s]
  ·have s:cE CR CP CS CW CD n [a_ (.str w),a1,a,a_ (.int I),a_ (.lst (J.map .str)),a_ (.str k),Y,a_ (.str o),a_ (.int g)]=.ok (.nx [a_ (.str w),a1,a,a_ (.int I),a_ (.lst (J.map .str)),a_ (.str k),Y,a_ (.str o),a_ (.int g)]):=by
    simp [cE,iC,m]
   obtain ⟨f,e,p⟩:=y4 n hw l I a1 a Y os r J (a_ (.str o)) (a_ (.int g)) (fun x b=>j x (by simp [b])) (fun x b=>i x (by simp [b])) (by simp at q ⊢;omega);refine ⟨f,e,?_⟩
   rw [bp,m_ m,Jx,<- p];simp [nJ,mi,s]
theorem iX (w:p_) (I:Int) (k:p_):∀(os:List p_) (r:List Int),(bp w I k os r).length<=os.length
 |[],_=>by simp [bp]
 |_::_,[]=>by simp [bp]
 |o::os,g::r=>by
  rw [bp,Ey,Ex];have:=iX w I k os r;split<;>simp<;>omega
theorem zJ (n:Nat) {w:p_} (hw:w.length<=100) (ks:List p_) (f:∀k∈ks,k.length<=100) (B:ks.length<=6) (I:Int) (d:Option Dat):∀(l:List p_) (rows:List (List Int)) (J:List p_) (c b a Y:Option Dat),(∀k∈l,k.length<=100)->(∀r∈rows,∀g∈r,g.natAbs<10^10)->J.length+6*l.length<=9000->∃t s i h,
  mi (.tp [5,6]) (fQ CR CP CS CW CD n) (nJ (l.map .str) (rows.map oW)) [a_ (.str w),a_ (.lst (ks.map .str)),d,a_ (.int I),a_ (.lst (J.map .str)),c,b,a,Y]=.ok (.nx [a_ (.str w),a_ (.lst (ks.map .str)),d,a_ (.int I),a_ (.lst ((J++bz w I ks l rows).map .str)),t,s,i,h])
 |[],rows,J,c,b,a,Y,_,_,_=>⟨c,b,a,Y,by simp [nJ,mi,bz]⟩
 |k::l,[],J,c,b,a,Y,_,_,_=>⟨c,b,a,Y,by simp [nJ,mi,bz]⟩
 |k::l,r::rows,J,c,b,a,Y,p,m,q=>by
  obtain ⟨i,h,e⟩:=y4 CR CP CS CW CD n hw (p k (by simp)) I (a_ (.lst (ks.map .str))) d (a_ (oW r)) ks r J a Y f (m r (by simp)) (by simp at q;omega);have o:=iX w I k ks r;have C:fQ CR CP CS CW CD n [a_ (.str w),a_ (.lst (ks.map .str)),d,a_ (.int I),a_ (.lst (J.map .str)),a_ (.str k),a_ (oW r),a,Y]=.ok (.nx [a_ (.str w),a_ (.lst (ks.map .str)),d,a_ (.int I),a_ (.lst ((J++bp w I k ks r).map .str)),a_ (.str k),a_ (oW r),i,h]):=by
   unfold fQ;rw [<- e];simp [oW,lP]
  obtain ⟨z,y,v,u,A⟩:=zJ n hw ks f B I d l rows (J++bp w I k ks r) (a_ (.str k)) (a_ (oW r)) i h (fun x j=>p x (by simp [j])) (fun x j=>m x (by simp [j])) (by simp at q ⊢;omega);refine ⟨z,y,v,u,?_⟩
  rw [bz,<- Hd,<- A];simp [nJ,mi,C]
theorem lH (n:Nat) (hw:w.length<=100) (ks:List p_) (J:∀k∈ks,k.length<=100) (a:ks.length<=6) (I:Int) (rows:List (List Int)) (Y:∀r∈rows,∀g∈r,g.natAbs<10^10) :
  fS CR CP CS CW CD n [.str w,.lst (ks.map .str),aW rows,.int I]=.ok (.lst ((bz w I ks ks rows).map .str)):=by
 obtain ⟨f,d,c,b,e⟩:=zJ CR CP CS CW CD n hw ks J a I (a_ (aW rows)) ks rows [] c_ c_ c_ c_ J Y (by simp;omega);simp only [GA,Jx] at e;simp [fS,nz,aW,lP] at e ⊢;simp [e]
end
theorem sget (J:0<=i) (h1:i<ks.length):eU (ks.map .str) i=.ok (.str (kAt ks i))/\kAt ks i∈ks:=by
 obtain ⟨j,rfl⟩:∃j:Nat,i=j:=⟨i.toNat,by omega⟩
 have I:j<ks.length:=by omega
 have e:kAt ks (j:Int)=ks[j]:=by unfold kAt;simp [I]
 refine ⟨?_,by rw [e];exact FY I⟩
 rw [e];unfold eU atI ixN;rw [f_ (by omega),f_ (by simp<;>omega)];simp [I]
structure BFl (k:Nat) (f:Fli):Prop where
 k0:0<=f.kind
 k1:f.kind<k
 a:f.first.natAbs<10^10
 b:f.last.natAbs<10^10
 c:f.due.natAbs<10^10
 d:f.price.natAbs<10^10
theorem tN {f:Fli} (b:nm.length<=100) (J:∀k∈ks,k.length<=100) (I:BFl ks.length f):(eE ks (nm,f)).length<=400:=by
 have Y:(h_ " ").length=1:=by decide +kernel
 have a:(h_ "flight").length=6:=by decide +kernel
 have h1:=str_len I.a;have h2:=str_len I.b;have e:=str_len I.c;have d:=str_len I.d;have c:=J _ (sget I.k0 I.k1).2;unfold eE SP;simp only [su,Y,a];omega
section
variable (CR CP CS CW CD:e_)
theorem oQ (n:Nat) {f:Fli} (p:ks.length<=6) (o:nm.length<=100) (Y:∀k∈ks,k.length<=100) (I:BFl ks.length f):cC CR CP CS CW CD n [.lst (ks.map .str),.str nm,flD f]=.ok (.str (eE ks (nm,f))):=by
 have g:(h_ " ").length=1:=by decide +kernel
 have i:(h_ "flight").length=6:=by decide +kernel
 have h1:=str_len I.a;have h2:=str_len I.b;have s:=str_len I.c;have r:=str_len I.d;obtain ⟨e0,J⟩:=sget I.k0 I.k1;have q:=Y _ J;have e:=oO I.a;have d:=oO I.b;have c:=oO I.c;have b:=oO I.d;have h:FE (h_ " ") [h_ "flight",nm,kAt ks f.kind,gV f.first,gV f.last,gV f.due,gV f.price]=eE ks (nm,f):=by
  unfold eE SP;simp only [FE,Ab]
 have m:6+(nm.length+((kAt ks f.kind).length+((gV f.first).length+((gV f.last).length+((gV f.due).length+((gV f.price).length+0))))))+7*1<=16777216:=by omega
 have a:dS (.tup [.int f.kind,.int f.first,.int f.last,.int f.due,.int f.price]) (a_ 1) c_=.ok (.tup [.int f.first,.int f.last,.int f.due,.int f.price]):=rfl;have j:ba (.nm 0) ia (fL strD (aa (ai 0) aH)) [c_] [.int f.first,.int f.last,.int f.due,.int f.price]=.ok [.str (gV f.first),.str (gV f.last),.str (gV f.due),.str (gV f.price)]:=by simp [ba,e,d,c,b]
 have l:gL (.lst [.str (h_ "flight"),.str nm,.str (kAt ks f.kind)]) (.lst [.str (gV f.first),.str (gV f.last),.str (gV f.due),.str (gV f.price)])=.ok (.lst [.str (h_ "flight"),.str nm,.str (kAt ks f.kind),.str (gV f.first),.str (gV f.last),.str (gV f.due),.str (gV f.price)]):=by
  simp [gL,Er]
 simp [cC,km,flD,e0,a,j,l,h,g,i];rw [f_]
 ·rfl
 ·omega
end
theorem yy (cs:List um) (h:∀p∈cs,p.1.natAbs<10^10/\p.2.natAbs<10^10):ba (.tp [0,1]) ia (fJ [(fC (.str "closed ")),(f1 mM (ai 0)),(fC (.str " ")),(f1 mM (ai 1))]) [c_,c_] (cs.map stD)=.ok ((cs.map iL).map .str):=by
 rw [El];refine eO _ _ cs fun p I=>⟨[a_ (.int p.1),a_ (.int p.2)],rfl,?_⟩
 obtain ⟨h1,h2⟩:=h p I;have e1:(h_ "closed ").length=7:=by decide +kernel
 have e2:(h_ " ").length=1:=by decide +kernel
 have a:=str_len h1;have Y:=str_len h2;have J:Gr.length=0:=rfl;unfold fJ;rw [bC _ _ _ _ (h_ "closed ") rfl (by omega),so,bC _ _ _ _ (gV p.1) (fmt_i h1) (by omega),bC _ _ _ _ (h_ " ") rfl (by simp only [su];omega),bC _ _ _ _ (gV p.2) (fmt_i h2) (by simp only [su];omega),pH];rfl
theorem uf (h:p.1.natAbs<10^10/\p.2.natAbs<10^10):(iL p).length<=400:=by
 have e1:(h_ "closed ").length=7:=by decide +kernel
 have e2:(h_ " ").length=1:=by decide +kernel
 have J:=str_len h.1;have I:=str_len h.2;unfold iL SP;simp only [su];omega
theorem xX {k:p_} (h:k.length<=100):(kN k).length<=400:=by
 have e1:(h_ "kind ").length=5:=by decide +kernel
 unfold kN;simp only [su];omega
theorem AZ {k:p_} {g:Int} (hw:w.length<=100) (a:k.length<=100) (Y:o.length<=100) (I:g.natAbs<10^10):(nv w k o g).length<=400:=by
 have J:(h_ " ").length=1:=by decide +kernel
 have es:=str_len I;unfold nv SP;simp only [su,J];omega
theorem lT {w:p_} {I:Int} {k:p_} (hw:w.length<=100) (b:k.length<=100):∀(os:List p_) (r:List Int),(∀o∈os,o.length<=100)->(∀g∈r,g.natAbs<10^10)->∀x∈bp w I k os r,x.length<=400
 |[],_,_,_,x,h=>by simp [bp] at h
 |_::_,[],_,_,x,h=>by simp [bp] at h
 |o::os,g::r,a,Y,x,h=>by
  rw [bp,Fw] at h;rcases h with h|h
  ·split at h
   ·rw [Fy] at h;rw [h];exact AZ hw b (a o (by simp)) (Y g (by simp))
   ·cases h
  ·exact lT hw b os r (fun y J=>a y (by simp [J])) (fun y J=>Y y (by simp [J])) x h
theorem kO {w:p_} {I:Int} {ks:List p_} (hw:w.length<=100) (J:∀k∈ks,k.length<=100):∀(l:List p_) (rows:List (List Int)),(∀k∈l,k.length<=100)->(∀r∈rows,∀g∈r,g.natAbs<10^10)->∀x∈bz w I ks l rows,x.length<=400
 |[],_,_,_,x,h=>by simp [bz] at h
 |_::_,[],_,_,x,h=>by simp [bz] at h
 |k::l,r::rows,b,a,x,h=>by
  rw [bz,Fw] at h;rcases h with h|h
  ·exact lT hw (b k (by simp)) ks r J (a r (by simp)) x h
  ·exact kO hw J l rows (fun y Y=>b y (by simp [Y])) (fun y Y=>a y (by simp [Y])) x h
theorem kQ (w:p_) (I:Int) (ks:List p_):∀(l:List p_) (rows:List (List Int)),(bz w I ks l rows).length<=l.length*ks.length
 |[],_=>by simp [bz]
 |_::_,[]=>by simp [bz]
 |k::l,r::rows=>by
  rw [bz,Ey,Ex,Nat.succ_mul];have h1:=iX w I k ks r;have h2:=kQ w I ks l rows;omega
structure Sht where
 ks:List p_
 rows:List (List Int)
 o:Option (List (List Int))
 nf:List (p_×Fli)
 cs:List um
structure Sht.Good (w:Sht):Prop where
 k1:1<=w.ks.length
 k6:w.ks.length<=6
 kl:∀k∈w.ks,k.length<=100
 rows:dJ w.ks.length w.rows
 o:∀r2,w.o=a_ r2->dJ w.ks.length r2
 nm:w.nf.length<=40
 nl:∀p∈w.nf,p.1.length<=100/\BFl w.ks.length p.2
 cm:w.cs.length<=20
 cl:∀p∈w.cs,p.1.natAbs<10^10/\p.2.natAbs<10^10
noncomputable def Sht.kD (w:Sht):Dat:=.lst (w.ks.map .str)
def Sht.bD (w:Sht):Dat:=match w.o with
 |some r2=>aW r2
 |none=>.non
noncomputable def Sht.nD (w:Sht):Dat:=.lst ((w.nf.map (·.1)).map .str)
def Sht.fD (w:Sht):Dat:=.lst ((w.nf.map (·.2)).map flD)
def Sht.cD (w:Sht):Dat:=.lst (w.cs.map stD)
def Sht.D (w:Sht):Dat:=.tup [w.kD,aW w.rows,w.bD,w.nD,w.fD,w.cD]
def Sht.rs (w:Sht):List p_:=rowsOf w.ks w.rows w.o w.nf w.cs
def Sht.tx (w:Sht):p_:=textOf w.rs
theorem dJ.nat {k:Nat} (h:dJ k rows):∀r∈rows,∀g∈r,g.natAbs<10^10:=fun r I g J=>by
 have:=(h.2 r I).2 g J;have e:(10:Nat)^10=10000000000:=by decide
 omega
theorem lgap:(h_ "gap").length<=100:=by decide +kernel
theorem lbes:(h_ "beside").length<=100:=by decide +kernel
theorem Sht.Good.C7 {w:Sht} (h:w.Good):∀x∈w.rs,x.length<=400:=fun x I=>by
 unfold Sht.rs rowsOf at I;simp only [Fw] at I;rcases I with (((I|I)|I)|I)|I
 ·obtain ⟨k,a,rfl⟩:=EX.mp I;exact xX (h.kl k a)
 ·exact kO lgap h.kl w.ks w.rows h.kl h.rows.nat x I
 ·cases Y:w.o with
  |none=>rw [Y] at I;cases (show x∈([]:List p_) from I)
  |some r2=>rw [Y] at I;exact kO lbes h.kl w.ks r2 h.kl (h.o r2 Y).nat x I
 ·obtain ⟨p,J,rfl⟩:=EX.mp I;exact uf (h.cl p J)
 ·obtain ⟨p,J,rfl⟩:=EX.mp I;exact tN (h.nl p J).1 h.kl (h.nl p J).2
theorem Sht.Good.rs_len {w:Sht} (h:w.Good):w.rs.length<=200:=by
 unfold Sht.rs rowsOf;simp only [Ey,t_];have h1:=kQ "gap" 1 w.ks w.ks w.rows;have h2:(uh w.ks w.o).length<=w.ks.length*w.ks.length:=by
  cases w.o with
  |none=>simp [uh]
  |some r2=>exact kQ _ _ _ _ _
 have I:=h.k6;have a:=Mv I I;have Y:=h.nm;have J:=h.cm;omega
theorem gN:∀xs:List p_,gr (xs.map .str)=.ok xs
 |[]=>rfl
 |x::xs=>by rw [Eh,e_strs1,gN xs];rfl
theorem nl_len:NLs.length=1:=by decide +kernel
theorem nl_comp (rs:List p_) (h:∀r∈rs,r.length<=400):ba (.nm 0) ia (f2 gL (ai 0) (fC (.str "\n"))) [c_] (rs.map .str)=.ok ((rs.map (·++NLs)).map .str):=by
 rw [El];refine eO _ _ rs fun r I=>⟨[a_ (.str r)],rfl,?_⟩
 have h1:=h r I;have h2:r.length+(h_ "\n").length<=g_:=by
  have:(h_ "\n").length=1:=nl_len;rw [Er];omega
 show gL (.str r) (.str "\n")=_;unfold gL;simp only;rw [f_ h2];rfl
theorem zip_nf:∀I:List (p_×Fli),nJ ((I.map (·.1)).map .str) ((I.map (·.2)).map flD)=I.map fun p=>Dat.tup [.str p.1,flD p.2]
 |[]=>rfl
 |p::I=>by simp only [Eh,nJ,zip_nf I]
section
variable (CR CP CS CW CD:e_)
theorem fl_comp (n:Nat) (a:ks.length<=6) (J:∀k∈ks,k.length<=100) (I:List (p_×Fli)) (h:∀p∈I,p.1.length<=100/\BFl ks.length p.2) :
  ba (.tp [0,1]) ia (fL (cC CR CP CS CW CD n) (aa (ai 2) (aa (ai 0) (aa (ai 1) aH)))) [c_,c_,a_ (.lst (ks.map .str))] (I.map fun p=>Dat.tup [.str p.1,flD p.2])=.ok ((I.map (eE ks)).map .str):=by
 rw [El];refine eO _ _ I fun p Y=>⟨[a_ (.str p.1),a_ (flD p.2),a_ (.lst (ks.map .str))],rfl,?_⟩
 obtain ⟨h1,h2⟩:=h p Y;have e:=oQ CR CP CS CW CD n a h1 J h2;show (cC CR CP CS CW CD n [.lst (ks.map .str),.str p.1,flD p.2])=_;rw [e];rfl
theorem bes_at (rows r2:List (List Int)):bA [CP] "beside" (n5 CR CP rows (aW r2))=.ok (aW r2):=by
 have h1:((("beside":p_)==("gaps":p_))=b_):=by decide +kernel
 have h2:((("beside":p_)==("beside":p_))=d_):=by decide +kernel
 show (if ([CP].contains CP)=d_ then (match EM ("beside":p_) [(("gaps":p_),aW rows),(("beside":p_),aW r2)] with|some d=>Eo d|none=>stk) else stk)=_;rw [f_ (by simp),w_,h1,w_,h2]
def Sht.ru (w:Sht):Dat:=n5 CR CP w.rows w.bD
theorem Sht.bD_or (w:Sht):w.bD=.non\/∃r2,w.bD=aW r2:=by
 unfold Sht.bD;cases w.o with
 |none=>exact .inl rfl
 |some r2=>exact .inr ⟨r2,rfl⟩
theorem y9 (n:Nat) {w:Sht} (h:w.Good):aX CR CP CS CW CD n [w.ru CR CP]=.ok (aW w.rows):=by
 have e1:=gaps_at CR CP w.rows w.bD w.bD_or;have e2:=qg CR CP CS CW CD n w.rows (by have:=h.rows.1;have:=h.k6;omega);simp [aX,j7,Sht.ru,e1,e2]
theorem yC (n:Nat) {w:Sht} (h:w.Good) (I:w.o=a_ r2):bu CR CP CS CW CD n [w.ru CR CP]=.ok (aW r2):=by
 have e2:=qg CR CP CS CW CD n r2 (by have:=(h.o r2 I).1;have:=h.k6;omega);have J:w.bD=aW r2:=by unfold Sht.bD;rw [I]
 have e1:=bes_at CR CP w.rows r2;simp [bu,iq,Sht.ru,J,e1,e2]
end
section
variable (CR CP CS CW CD:e_)
theorem BX (I:CR≠CP) (w:Sht) (m:p_) (h1:(m==("gaps":p_))=b_) (h2:(m==("beside":p_))=b_) (g g2:List Dat->M Dat) (fo:ah->M Dat) (ρ:ah) (e:fo ρ=.ok (w.ru CR CP)) :
  iG CR CP m g g2 fo aH ρ=if w.o.isSome=d_ then g2 [w.ru CR CP] else g [w.ru CR CP]:=by
 unfold iG;rw [e];unfold Sht.ru Sht.bD;have J:(CP==CR)=b_:=by simp;exact fun z=>I z.symm
 cases w.o with
 |none=>
  show (if isC CR m (.ins CR [("gaps",aW w.rows)])=d_ then _ else _)=_;have:isC CR m (.ins CR [("gaps",aW w.rows)])=d_:=by
   show ((CR==CR)&&(EM m [(("gaps":p_),aW w.rows)]).isNone)=d_;rw [w_,h1];simp
  rw [f_ this];rfl
 |some r2=>
  show (if isC CR m (.ins CP [("gaps",aW w.rows),("beside",aW r2)])=d_ then _ else if isC CP m (.ins CP [("gaps",aW w.rows),("beside",aW r2)])=d_ then _ else _)=_;have a:isC CR m (.ins CP [("gaps",aW w.rows),("beside",aW r2)])=b_:=by
   show ((CP==CR)&&_)=b_;rw [J];rfl
  have Y:isC CP m (.ins CP [("gaps",aW w.rows),("beside",aW r2)])=d_:=by
   show ((CP==CP)&&(EM m [(("gaps":p_),aW w.rows),(("beside":p_),aW r2)]).isNone)=d_;rw [w_,h1,w_,h2];simp
  rw [a,m_ (by decide),f_ Y];rfl
theorem ru_gap (I:CR≠CP) (n:Nat) {w:Sht} (h:w.Good) (fo:ah->M Dat) (ρ:ah) (e:fo ρ=.ok (w.ru CR CP)):iG CR CP "gap_rows" (aX CR CP CS CW CD n) (aX CR CP CS CW CD n) fo aH ρ=.ok (aW w.rows):=by
 rw [BX CR CP I w "gap_rows" (by decide +kernel) (by decide +kernel) _ _ fo ρ e,y9 CR CP CS CW CD n h];split<;>rfl
theorem BW (I:CR≠CP) (n:Nat) {w:Sht} (fo:ah->M Dat) (ρ:ah) (e:fo ρ=.ok (w.ru CR CP)):iG CR CP "many_strips" (cq CR CP CS CW CD n) (cM CR CP CS CW CD n) fo aH ρ=.ok (.int (if w.o.isSome=d_ then 2 else 1)):=by
 rw [BX CR CP I w "many_strips" (by decide +kernel) (by decide +kernel) _ _ fo ρ e];split<;>simp [cM,ip,cq,gY]
theorem ru_bes (n:Nat) {w:Sht} (h:w.Good) (I:w.o=a_ r2) (fo:ah->M Dat) (ρ:ah) (e:fo ρ=.ok (w.ru CR CP)):jd CP "beside_rows" (bu CR CP CS CW CD n) fo aH ρ=.ok (aW r2):=by
 have a:=yC CR CP CS CW CD n h I;unfold jd;rw [e];have Y:w.ru CR CP=.ins CP [("gaps",aW w.rows),("beside",aW r2)]:=by unfold Sht.ru Sht.bD;rw [I];rfl
 have J:isC CP "beside_rows" (w.ru CR CP)=d_:=by
  rw [Y];show ((CP==CP)&&(EM ("beside_rows":p_) [(("gaps":p_),aW w.rows),(("beside":p_),aW r2)]).isNone)=d_;rw [w_,show (("beside_rows":p_)==("gaps":p_))=b_ by decide +kernel,w_,show (("beside_rows":p_)==("beside":p_))=b_ by decide +kernel];simp
 show (if isC CP "beside_rows" (w.ru CR CP)=d_ then _ else _)=_;rw [f_ J];exact a
theorem ru_isi (I:CR≠CP) (w:Sht):isiC [(CR,b_),(CP,d_)] (w.ru CR CP)=.ok (.bl w.o.isSome):=by
 unfold Sht.ru Sht.bD;have J:(CP==CR)=b_:=by simp;exact fun z=>I z.symm
 cases w.o with
 |none=>
  show (match EM CR [(CR,b_),(CP,d_)] with|some b=>Eo (Dat.bl b)|none=>stk)=_;rw [w_,show (CR==CR)=d_ by simp];rfl
 |some r2=>
  show (match EM CP [(CR,b_),(CP,d_)] with|some b=>Eo (Dat.bl b)|none=>stk)=_;rw [w_,J,w_,show (CP==CP)=d_ by simp];rfl
theorem text_ok (Y:CR≠CP) (n:Nat) {w:Sht} (h:w.Good):dD CR CP CS CW CD n [w.kD,w.ru CR CP,w.nD,w.fD,w.cD]=.ok (.str w.tx):=by
 have e1:=CO w.ks h.kl;have e2:=ru_gap CR CP CS CW CD Y n h (ai 1) [a_ w.kD,a_ (w.ru CR CP),a_ w.nD,a_ w.fD,a_ w.cD,c_] rfl;have e3:=lH CR CP CS CW CD n lgap w.ks h.kl h.k6 1 w.rows h.rows.nat;have e4:=ru_isi CR CP Y w;have e5:=yy w.cs h.cl;have D:=fl_comp CR CP CS CW CD n h.k6 h.kl w.nf h.nl;have C:=nl_comp w.rs h.C7;have r:=h.rs_len;have o:w.ks.length<=16777216:=by have:=h.k6;omega
 have m:w.cs.length<=16777216:=by have:=h.cm;omega
 have l:w.nf.length<=16777216:=by have:=h.nm;omega
 have d:w.rs.length<=16777216:=by omega
 obtain ⟨B,J⟩:∃B,uh w.ks w.o=B:=⟨_,rfl⟩
 have g:w.ks.length+(bz "gap" 1 w.ks w.ks w.rows).length+B.length+w.cs.length+w.nf.length<=200:=by
  have:=h.rs_len;unfold Sht.rs rowsOf at this;simp only [Ey,t_,J] at this;exact this
 have A:∀I:List p_,I.length<=200->j0 CR CP CS CW CD n [a_ w.kD,a_ (w.ru CR CP),a_ w.nD,a_ w.fD,a_ w.cD,a_ (.lst (I.map .str))]=.ok (.nx [a_ w.kD,a_ (w.ru CR CP),a_ w.nD,a_ w.fD,a_ w.cD,a_ (.lst ((I++B).map .str))]):=fun I i=>by
  cases c:w.o with
  |none=>
   rw [c] at e4 J;have J:B=[]:=J.symm;simp [j0,e4,J]
  |some r2=>
   have k:=ru_bes CR CP CS CW CD n h c (ai 1) [a_ w.kD,a_ (w.ru CR CP),a_ w.nD,a_ w.fD,a_ w.cD,c_] rfl;have b:=lH CR CP CS CW CD n lbes w.ks h.kl h.k6 0 r2 (h.o r2 c).nat;rw [c] at e4 J;have J:bz "beside" 0 w.ks w.ks r2=B:=J;rw [J] at b;have e:I.length+B.length<=16777216:=by omega
   simp [j0,e4,k,Sht.kD,b,e] at k ⊢
 have j:w.ks.map kN++bz "gap" 1 w.ks w.ks w.rows++B++w.cs.map iL++w.nf.map (eE w.ks)=w.rs:=by rw [<- J];rfl
 have b1:w.ks.length+(bz "gap" 1 w.ks w.ks w.rows).length<=16777216:=by omega
 have b2:w.ks.length+((bz "gap" 1 w.ks w.ks w.rows).length+B.length)+w.cs.length<=16777216:=by omega
 have b3:w.ks.length+((bz "gap" 1 w.ks w.ks w.rows).length+(B.length+w.cs.length))+w.nf.length<=16777216:=by omega
 have a:=A (w.ks.map kN++bz "gap" 1 w.ks w.ks w.rows) (by simp;omega);have s:((w.rs.map (·++NLs)).map (·.length)).sum<=16777216:=by
  have:=lenLe (w.rs.map (·++NLs)) 401 (fun x q=>by
   obtain ⟨y,p,rfl⟩:=EX.mp q;have:=h.C7 y p;rw [su,nl_len];omega)
  rw [t_] at this;omega
 have t:(h_ "").length=0:=by decide +kernel
 have es:=gN (w.rs.map (·++NLs));have v:=zG (w.rs.map (·++NLs));have z:=zip_nf w.nf;have u:Ib Dat.str (Ib kN w.ks)++(Ib Dat.str (bz "gap" 1 w.ks w.ks w.rows)++(Ib Dat.str B++(Ib Dat.str (Ib iL w.cs)++Ib Dat.str (Ib (eE w.ks) w.nf))))=w.rs.map .str:=by
  rw [<- j];simp only [Fo,Hd]
 rw [<- j] at d;simp only [Sht.kD,Sht.nD,Sht.fD,Sht.cD,Fo,Hd] at e2 a ⊢;simp only [Ey,t_,MV] at d;simp [dD,vL,e1,o,e2,e3,b1,a,e5,m,b2,z,D,l,b3,lP,d,-El];rw [u,C];have f:((w.rs.map (·++NLs)).map (·.length)).sum+(w.rs.map (·++NLs)).length*(h_ "").length<=16777216:=by rw [t,Nat.mul_zero];exact s
 simp only [aj,Dk,es,Er,f_ f,v];rfl
end
theorem gC {α:Type} (f:α->Dat) (n:Nat) (h:∀x,okE (f x) n=d_):∀L:List α,kH (L.map f) n=d_
 |[]=>rfl
 |x::L=>by simp [kH,h x,gC f n h L]
theorem ku {d:Dat} (h:okE d 40=d_):neM d d=.ok (.bl b_):=by
 unfold neM;rw [h];simp [oy h]
theorem x3 {d:Dat} (h:okE d 40=d_):eqM d d=.ok (.bl d_):=by
 unfold eqM;rw [h];simp [oy h]
theorem okE_tz (x:List Int) (n:Nat):okE (yN x) (n+1)=d_:=by
 unfold yN;simp only [okE];exact gC _ _ (fun _=>by simp [okE]) x
theorem okE_lt (xs:List (List Int)) (n:Nat):okE (.lst (xs.map yN)) (n+2)=d_:=by
 simp only [okE];exact gC _ _ (fun x=>okE_tz x n) xs
theorem Cq (rows:List (List Int)) (n:Nat):okE (aW rows) (n+2)=d_:=by
 unfold aW;simp only [okE];refine gC _ _ (fun r=>?_) rows;unfold oW;simp only [okE];exact gC _ _ (fun _=>by simp [okE]) r
theorem zw (xs:List p_) (n:Nat):okE (.lst (xs.map .str)) (n+1)=d_:=by
 simp only [okE];exact gC _ _ (fun _=>by simp [okE]) xs
noncomputable def flZ (f:Fli):List Int:=[f.kind,f.first,f.last,f.due,f.price]
noncomputable def stZ (p:um):List Int:=[p.1,p.2]
theorem flD_map (l:List Fli):l.map flD=(l.map flZ).map yN:=by rw [El];rfl
theorem stD_map (l:List um):l.map stD=(l.map stZ).map yN:=by rw [El];rfl
section
variable (CR CP CS CW CD:e_)
theorem A6 (n:Nat) (x:List Int):ba (.nm 0) ia (fL (cS CR CP CS CW CD n) (aa (ai 0) aH)) [c_] (x.map .int)=.ok ((x.map fun _=>d_).map Dat.bl):=by
 rw [El];refine eO _ _ x fun i _=>⟨[a_ (.int i)],rfl,?_⟩
 simp [cS,jA]
theorem oG (n:Nat) (L:Nat) (e:L<=100) (I a1:Option Dat):∀(xs:List (List Int)) (J:Option Dat),(∀x∈xs,x.length=L)->∃Y,mi (.nm 3) (eS CR CP CS CW CD n) (xs.map yN) [I,a1,a_ (.int L),J]=.ok (.nx [I,a1,a_ (.int L),Y])
 |[],J,_=>⟨J,rfl⟩
 |x::xs,J,h=>by
  have d:=h x (by simp);have j:x.length<=16777216:=by omega
  have a:L<=16777216:=by omega
  have f:=A6 CR CP CS CW CD n x;have k:neM (.int (L:Int)) (.int (L:Int))=.ok (.bl b_):=ku rfl;have i:(x.map fun _=>d_).all id=d_:=by simp
  have g:eS CR CP CS CW CD n [I,a1,a_ (.int L),a_ (yN x)]=.ok (.nx [I,a1,a_ (.int L),a_ (yN x)]):=by
   simp [eS,jM,jL,yN,d,a,f,i,-El]
  obtain ⟨Y,b⟩:=oG n L e I a1 xs (a_ (yN x)) fun y c=>h y (by simp [c]);refine ⟨Y,?_⟩
  rw [<- b];simp [mi,g]
theorem uC (n:Nat) (L:Nat) (I:L<=100) (xs:List (List Int)) (h:∀x∈xs,x.length=L):cn CR CP CS CW CD n [.lst (xs.map yN),.lst (xs.map yN),.int L]=.ok (.bl d_):=by
 have J:=ku (okE_lt xs 38);obtain ⟨Y,e⟩:=oG CR CP CS CW CD n L I (a_ (.lst (xs.map yN))) (a_ (.lst (xs.map yN))) xs c_ h;simp [cn,lY,jN,J,e]
def Sht.obj (w:Sht):Dat:=.ins CS [("kinds",w.kD),("rules",w.ru CR CP),("names",w.nD),("flights",w.fD),("closed",w.cD),("text",.str w.tx)]
theorem obj_at (w:Sht):bA [CS] "kinds" (w.obj CR CP CS)=.ok w.kD/\bA [CS] "rules" (w.obj CR CP CS)=.ok (w.ru CR CP)/\bA [CS] "names" (w.obj CR CP CS)=.ok w.nD/\bA [CS] "flights" (w.obj CR CP CS)=.ok w.fD/\bA [CS] "closed" (w.obj CR CP CS)=.ok w.cD/\bA [CS] "text" (w.obj CR CP CS)=.ok (.str w.tx):=by
 have l:∀a b:p_,a≠b->(a==b)=b_:=fun a b h=>by simp [h]
 have key:∀(y:p_) (d:Dat),EM y [(("kinds":p_),w.kD),(("rules":p_),w.ru CR CP),(("names":p_),w.nD),(("flights":p_),w.fD),(("closed":p_),w.cD),(("text":p_),.str w.tx)]=a_ d->bA [CS] y (w.obj CR CP CS)=.ok d:=fun y d h=>by
  show (if ([CS].contains CS)=d_ then (match EM y [(("kinds":p_),w.kD),(("rules":p_),w.ru CR CP),(("names":p_),w.nD),(("flights":p_),w.fD),(("closed":p_),w.cD),(("text":p_),Dat.str w.tx)] with|some d=>Eo d|none=>stk) else stk)=_;rw [f_ (by simp),h]
 have e1:(("rules":p_)==("kinds":p_))=b_:=by decide +kernel
 have e2:(("names":p_)==("kinds":p_))=b_:=by decide +kernel
 have e3:(("names":p_)==("rules":p_))=b_:=by decide +kernel
 have e4:(("flights":p_)==("kinds":p_))=b_:=by decide +kernel
 have e5:(("flights":p_)==("rules":p_))=b_:=by decide +kernel
 have k:(("flights":p_)==("names":p_))=b_:=by decide +kernel
 have j:(("closed":p_)==("kinds":p_))=b_:=by decide +kernel
 have i:(("closed":p_)==("rules":p_))=b_:=by decide +kernel
 have g:(("closed":p_)==("names":p_))=b_:=by decide +kernel
 have f:(("closed":p_)==("flights":p_))=b_:=by decide +kernel
 have e:(("text":p_)==("kinds":p_))=b_:=by decide +kernel
 have c:(("text":p_)==("rules":p_))=b_:=by decide +kernel
 have Y:(("text":p_)==("names":p_))=b_:=by decide +kernel
 have J:(("text":p_)==("flights":p_))=b_:=by decide +kernel
 have I:(("text":p_)==("closed":p_))=b_:=by decide +kernel
 refine ⟨key _ _ ?_,key _ _ ?_,key _ _ ?_,key _ _ ?_,key _ _ ?_,key _ _ ?_⟩<;>simp only [w_,LA,e1,e2,e3,e4,e5,k,j,i,g,f,e,c,Y,J,I]
theorem obj_isi (w:Sht):isiC [(CS,d_)] (w.obj CR CP CS)=.ok (.bl d_):=by
 show (match EM CS [(CS,d_)] with|some b=>Eo (Dat.bl b)|none=>stk)=_;rw [w_,show (CS==CS)=d_ by simp]
theorem is_ok (Y:CR≠CP) (n:Nat) {w:Sht} (h:w.Good):jt CR CP CS CW CD n [w.obj CR CP CS,w.D]=.ok (.bl d_):=by
 obtain ⟨a1,p,m,l,k,s⟩:=obj_at CR CP CS w;have j:=obj_isi CR CP CS w;have g:neM w.kD w.kD=.ok (.bl b_):=ku (zw _ 39);have n2:neM w.nD w.nD=.ok (.bl b_):=ku (zw _ 39);have b:neM (aW w.rows) (aW w.rows)=.ok (.bl b_):=ku (Cq _ 38);have t1:cn CR CP CS CW CD n [w.fD,w.fD,.int 5]=.ok (.bl d_):=by
  unfold Sht.fD;rw [flD_map];exact uC CR CP CS CW CD n 5 (by decide) _ fun x c=>by obtain ⟨f,_,rfl⟩:=EX.mp c;rfl
 have t2:cn CR CP CS CW CD n [w.cD,w.cD,.int 2]=.ok (.bl d_):=by
  unfold Sht.cD;rw [stD_map];exact uC CR CP CS CW CD n 2 (by decide) _ fun x c=>by obtain ⟨f,_,rfl⟩:=EX.mp c;rfl
 generalize i:([a_ (w.obj CR CP CS),a_ w.D,a_ w.kD,a_ (aW w.rows),a_ w.bD,a_ w.nD,a_ w.fD,a_ w.cD]:ah)=E;have e:f1 (bA [CS] "rules") (ai 0) E=.ok (w.ru CR CP):=by rw [<- i];exact p
 have I:=ru_gap CR CP CS CW CD Y n h (f1 (bA [CS] "rules") (ai 0)) E e;have g2:=BW CR CP CS CW CD Y n (w:=w) (f1 (bA [CS] "rules") (ai 0)) E e;subst i;cases J:w.o with
 |none=>
  have a:w.bD=.non:=by unfold Sht.bD;rw [J]
  rw [a] at I g2;rw [J] at g2;simp only [Sht.D,a] at I g2 ⊢;simp [jt,pK,lg,la,l9,l7,j,a1,m,g,n2,l,k,t1,t2,I,b,g2,b2z]
 |some r2=>
  have a:w.bD=aW r2:=by unfold Sht.bD;rw [J]
  have d:=ru_bes CR CP CS CW CD n h J (f1 (bA [CS] "rules") (ai 0)) _ e;have q:=x3 (Cq r2 38);have r:Cz (aW r2) .non=.ok (.bl d_):=rfl;have o:isND (aW r2) .non=.ok (.bl b_):=rfl;rw [a] at I g2 d;rw [J] at g2;simp only [Sht.D,a,aW] at I g2 d b q ⊢;simp [jt,pK,lg,la,l9,l7,j,a1,m,g,n2,l,k,t1,t2,I,b,g2,d,q,b2z]
end
theorem take63 {ns:List Int} (h:ns.length<=63):dS (.lst (ns.map .int)) c_ (a_ 63)=.ok (.lst (ns.map .int)):=by
 show Eo (Dat.lst (Bp (ns.map Dat.int) c_ (a_ 63)))=_
 congr 2
 unfold Bp cX;rw [IB,List.take_of_length_le];simp;omega
noncomputable def LD:p_:="abcdefghijklmnopqrstuvwxyz0123456789"
theorem LD_len:LD.length=36:=by decide +kernel
section
variable (CR CP CS CW CD:e_)
theorem zx (y:Int):0<=(y*1442695040888963407+4321)%2305843009213693921/\(y*1442695040888963407+4321)%2305843009213693921<2305843009213693921:=⟨Iu _ (by decide),HP _ (by decide)⟩
theorem Cy (n:Nat) (ns:List Int) (d:ns.length<=63) (k:Int) (j:0<=k) (h1:k<1000000):∃x,d7 CR CP CS CW CD n [.lst (ns.map .int),.int k]=.ok (.int x)/\0<=x/\x<2305843009213693921:=by
 have Y: -18446744073709551616<k:=by omega
 have J:k<18446744073709551616:=by omega
 have i:=take63 d;by_cases c:0<ns.length
 ·have g:0<=k%(ns.length:Int):=Iu _ (by omega);have f:k%(ns.length:Int)<(ns.length:Int):=HP _ (by omega);have h:(0:Int)<ns.length:=by omega
  have I:ns≠[]:=fun e=>by rw [e] at c;simp at c
  refine ⟨_,?_,zx ((ns[(k%(ns.length:Int)).toNat]'(by omega)%1000000000000000000000000+k*k*7919+ns.length)*48271%2305843009213693951)⟩
  simp [d7,iY,i6,i,c,I,getI_int g f,e_mod h,Y,J]
 ·have I:ns=[]:=by cases ns with|nil=>rfl|cons a b=>simp at c
  subst I;refine ⟨_,?_,zx ((13*k+5+k*k*7919+0)*48271%2305843009213693951)⟩
  simp only [GA] at i;simp [d7,iY,i6,i,Y,J]
end
theorem zY {p:Pat} {fe:ah->M Dat} {ρ0:ah} (P:Int->Prop):∀ds:List Dat,(∀d∈ds,∃ρ y,iM p d ρ0=.ok ρ/\fe ρ=.ok (.int y)/\P y)->∃ys:List Int,ys.length=ds.length/\(∀y∈ys,P y)/\ba p ia fe ρ0 ds=.ok (ys.map .int)
 |[],_=>⟨[],rfl,by simp,rfl⟩
 |d::ds,h=>by
  obtain ⟨ρ,y,e1,e2,J⟩:=h d (by simp);obtain ⟨ys,b,a,e⟩:=zY P ds fun x Y=>h x (by simp [Y]);refine ⟨y::ys,by simp [b],fun z I=>?_,?_⟩
  ·rcases v_.mp I with rfl|I
   ·exact J
   ·exact a z I
  ·simp [ba,ia,e1,e2,e]
section
variable (CR CP CS CW CD:e_)
theorem mem_range {k:Nat} {d:Dat} (h:d∈cP 0 k):∃j:Nat,j<k/\d=.int j:=by
 obtain ⟨i,hi⟩:=List.mem_iff_getElem?.mp h;obtain ⟨h1,h2⟩:=mC hi;exact ⟨_,h1,h2⟩
end
section
variable (CR CP CS CW CD:e_)
theorem new1 (n:Nat) {k:Nat} (h1:1<=k) (J:k<=6) (I:dJ k rows):newR CR (aG CR CP CS CW CD n) [aW rows]=.ok (n5 CR CP rows .non):=by
 have e:=mU CR CP CS CW CD n k rows h1 J I;simp [newR,e,n5]
theorem new2 (n:Nat) {k:Nat} (h1:1<=k) (Y:k<=6) (J:dJ k rows) (I:dJ k r2):newP CP (aG CR CP CS CW CD n) [aW rows,aW r2]=.ok (n5 CR CP rows (aW r2)):=by
 have e1:=mU CR CP CS CW CD n k rows h1 Y J;have e2:=mU CR CP CS CW CD n k r2 h1 Y I;have a:twoL (aW rows) (aW r2)=d_:=by simp [twoL,aW,J.1,I.1]
 simp only [newP,e1,e2,aj,a,J0];rfl
end
noncomputable def jn (c:Nat):List (List Nat)->List Nat
 |[]=>[]
 |[x]=>x
 |x::y::r=>x++c::jn c (y::r)
theorem jn_uniq (c:Nat):∀(ps I:List (List Nat)),ps≠[]->I≠[]->(∀p∈ps,c∉p)->(∀q∈I,c∉q)->jn c ps=jn c I->ps=I:=by
 have key:∀(x y a b:List Nat),c∉x->c∉y->x++c::a=y++c::b->x=y/\a=b:=by
  intro x
  induction x with
  |nil=>
   intro y a b _ e h;cases y with
   |nil=>exact ⟨rfl,by simpa using h⟩
   |cons z y=>exact Ek (by simp at h;simp [h.1]) e
  |cons z x d=>
   intro y a b i e h;cases y with
   |nil=>exact Ek (by simp at h;simp [h.1]) i
   |cons k y=>
    simp only [List.cons_append,HX] at h;obtain ⟨h1,h2⟩:=d y a b (fun m=>i (by simp [m])) (fun m=>e (by simp [m])) h.2;exact ⟨by rw [h.1,h1],h2⟩
 have Y:∀{x a:List Nat},c∈x++c::a:=by intro x a;simp
 intro ps
 induction ps with
 |nil=>intro I h;exact Ek rfl h
 |cons x ps d=>
  intro I _ j f J h;cases ps with
  |nil=>
   match I,j with
   |[y],_=>exact GN (fun z=>[z]) h
   |y::g::I,_=>exact Ek (by rw [show x=_ from h];exact Y) (f x (by simp))
  |cons l ps=>
   match I,j with
   |[y],_=>exact Ek (by rw [show y=_ from h.symm];exact Y) (J y (by simp))
   |y::g::I,_=>
    obtain ⟨h1,h2⟩:=key x y _ _ (f x (by simp)) (J y (by simp)) h;rw [h1,d (g::I) (by simp) (by simp) (fun p m=>f p (by simp [m])) (fun q m=>J q (by simp [m])) h2]
theorem join_one (I a:p_):FE I [a]=a:=rfl
theorem zE (I a b:p_) (r:List p_):FE I (a::b::r)=a++I++FE I (b::r):=rfl
theorem tG (c:Nat):∀xs:List p_,(FE ⟨#[c]⟩ xs).cps.toList=jn c (xs.map fun x=>x.cps.toList)
 |[]=>rfl
 |[x]=>rfl
 |x::y::r=>by
  rw [zE];show ((x.cps++#[c])++(FE ⟨#[c]⟩ (y::r)).cps).toList=_;rw [K2,K2,tG c (y::r)];simp [jn]
theorem wV (h:a.cps.toList=b.cps.toList):a=b:=by
 obtain ⟨⟨a⟩⟩:=a;obtain ⟨⟨b⟩⟩:=b;cases (show a=b from h);rfl
def free (c:Nat) (x:p_):Prop:=c∉x.cps.toList
theorem split_of (c:Nat) (ps:List p_) (g:ps≠[]) (h:∀p∈ps,free c p):Gq (FE ⟨#[c]⟩ ps) ⟨#[c]⟩=ps:=by
 have h1:=StrLaws.join_split (FE ⟨#[c]⟩ ps) ⟨#[c]⟩;have h2:=StrLaws.split_free (FE ⟨#[c]⟩ ps) c;have d:=split_pos (FE ⟨#[c]⟩ ps) ⟨#[c]⟩;generalize Gq (FE ⟨#[c]⟩ ps) ⟨#[c]⟩=e at h1 h2 d;have j:jn c (e.map fun x=>x.cps.toList)=jn c (ps.map fun x=>x.cps.toList):=by rw [<- tG,<- tG,h1]
 have i:=jn_uniq c _ _ (by intro z;rw [IH] at z;rw [z] at d;simp at d) (by simpa using g) (fun p Y=>by
  obtain ⟨x,J,rfl⟩:=EX.mp Y;exact h2 x J) (fun p Y=>by
  obtain ⟨x,J,rfl⟩:=EX.mp Y;exact h x J) j
 have I:∀(l m:List p_),(l.map fun x=>x.cps.toList)=(m.map fun x=>x.cps.toList)->l=m:=by
  intro l
  induction l with
  |nil=>intro m h;cases m with
   |nil=>rfl
   |cons _ _=>simp at h
  |cons a l f=>intro m h;cases m with
   |nil=>simp at h
   |cons b m=>
    simp only [Eh,HX] at h;rw [wV h.1,f m h.2]
 exact I _ _ i
def lowD (c:Nat):Prop:=(97<=c/\c<=122)\/(48<=c/\c<=57)
structure Wd (x:p_):Prop where
 ne:x.cps.toList≠[]
 sg:∀c∈x.cps.toList,lowD c
theorem Wd.free {x:p_} (h:Wd x) {c:Nat} (I:¬lowD c):Ru.free c x:=fun m=>I (h.sg c m)
theorem FIG_list:(h_ "0123456789").cps.toList=Ng 48 10:=by decide +kernel
theorem LET_list:(h_ "abcdefghijklmnopqrstuvwxyz").cps.toList=Ng 97 26:=by decide +kernel
theorem mO (c:Nat):c∈(h_ "0123456789").cps.toList↔48<=c/\c<=57:=by
 rw [FIG_list,LP];omega
theorem kL (c:Nat):c∈(h_ "abcdefghijklmnopqrstuvwxyz").cps.toList↔97<=c/\c<=122:=by
 rw [LET_list,LP];omega
theorem one_eq (c:Nat) (s:p_) (d:Nat) (I:s=⟨#[d]⟩):eqM (.str ⟨#[c]⟩) (.str s)=.ok (.bl (r_ (c=d))):=by
 subst I;by_cases h:c=d
 ·subst h;simp [eqM,okE,eqD]
 ·have:(⟨#[c]⟩:p_)≠⟨#[d]⟩:=fun z=>h (by injection z with z;injection z with z;injection z);simp [eqM,okE,eqD,h]
section
variable (CR CP CS CW CD:e_)
structure Nm (x:p_):Prop where
 wd:Wd x
 l8:x.length<=8
 hd:∃c r,x.cps.toList=c::r/\97<=c/\c<=122
end
theorem memS (k:p_) (ks:List p_):((ks.map Dat.str).any fun d=>eqD d (.str k))=r_ (k∈ks):=by
 rw [Hy];simp only [Jo,EX,Et];constructor
 ·rintro ⟨d,⟨s,I,rfl⟩,h⟩;have:s=k:=by simpa [eqD] using h
  rw [<- this];exact I
 ·intro h;exact ⟨.str k,⟨k,h,rfl⟩,by simp [eqD]⟩
theorem inS (k:p_) (ks:List p_):inM (.str k) (.lst (ks.map .str))=.ok (.bl (r_ (k∈ks))):=by
 have h2:kH (ks.map Dat.str) 40=d_:=gC _ _ (fun _=>rfl) ks;show (if (okE (.str k) 40&&kH (ks.map Dat.str) 40)=d_ then Eo (Dat.bl ((ks.map Dat.str).any fun d=>eqD d (.str k))) else stk)=_;rw [f_ (by rw [h2];rfl),memS]
theorem pA (k:p_) (ks:List p_):gR (.str k) (.lst (ks.map .str))=.ok (.bl (!decide (k∈ks))):=by
 have h2:kH (ks.map Dat.str) 40=d_:=gC _ _ (fun _=>rfl) ks;show (if (okE (.str k) 40&&kH (ks.map Dat.str) 40)=d_ then Eo (Dat.bl (!((ks.map Dat.str).any fun d=>eqD d (.str k)))) else stk)=_;rw [f_ (by rw [h2];rfl),memS]
theorem idx_at (J:ks.Nodup) {i:Nat} (hi:i<ks.length):zI ks ks[i]=a_ i:=by
 refine G_.mpr ⟨hi,by simp,fun j Y=>?_⟩;have I:ks[j]≠ks[i]:=fun z=>by
  have:=(LQ (show j<ks.length by omega) J (j:=i)).mp (by rw [Ez (by omega),Ez hi,z]);omega
 simpa using I
theorem tu (a b:Int) (h:a=b):neM (.int a) (.int b)=.ok (.bl b_):=by subst h;exact ku rfl
section
variable (CR CP CS CW CD:e_)
def St1 (p:um):Prop:=0<=p.1/\p.1<p.2/\p.2<=1000000000
structure Fl1 (k:Nat) (f:Fli):Prop where
 k0:0<=f.kind
 k1:f.kind<k
 a:0<=f.first
 b:f.first<=f.last
 c:f.last<=1000000000
 d:0<=f.due/\f.due<=1000000000
 e:0<=f.price/\f.price<=1000000000
end
structure DSt where
 ks:List p_
 G:List (List Int×Dat)
 B:List (List Int×Dat)
 nf:List (p_×Fli)
 cs:List um
def DSt.D (s:DSt):List Dat:=[.lst (s.ks.map .str),.dic s.G,.dic s.B,.lst ((s.nf.map (·.1)).map .str),.lst ((s.nf.map (·.2)).map flD),.lst (s.cs.map stD)]
section
theorem kE (l:List p_) (n:Nat):kH (l.map Dat.str) n=d_:=gC _ _ (fun _=>rfl) l
theorem get0:eU ((w::r).map Dat.str) 0=.ok (.str w):=by
 have:=lS (ds:=(w::r).map Dat.str) (k:=0) (by simp);rw [show ((0:Nat):Int)=0 from rfl] at this;rw [this];rfl
theorem t1_ok (hw:FD w "#"=b_):(fOr (fB (f2 eqM (ai 1) (fL cy aH))) (k7 (fSM my (f2 ixD (ai 1) (fC (.int 0))) (fC (.str "#"))))) [c_,a_ (.lst ((w::r).map .str))]=.ok b_:=by
 have I:eU ((w::r).map Dat.str) 0=.ok (.str w):=get0;have e:eqM (.lst ((w::r).map Dat.str)) (.lst [])=.ok (.bl b_):=by
  have h1:okE (.lst ((w::r).map Dat.str)) 40=d_:=kE (w::r) 39;show (if (okE (.lst ((w::r).map Dat.str)) 40&&okE (.lst []) 40)=d_ then _ else _)=_;rw [f_ (by rw [h1];rfl)];rfl
 simp [e,I,hw,-Eh]
theorem t6_ok (x:p_):(f2 eqM (f2 ixD (ai 1) (fC (.int 0))) (fC (.str x))) [c_,a_ (.lst ((w::r).map .str))]=.ok (.bl (r_ (w=x))):=by
 have I:eU ((w::r).map Dat.str) 0=.ok (.str w):=get0;have e:eqM (.str w) (.str x)=.ok (.bl (r_ (w=x))):=by
  by_cases h:w=x
  ·subst h;simp [eqM,okE,eqD]
  ·simp [eqM,okE,eqD,h]
 simp [I,e,-Eh]
theorem tw_ok (x:p_):(fB (f2 eqM (f2 ixD (ai 1) (fC (.int 0))) (fC (.str x)))) [c_,a_ (.lst ((w::r).map .str))]=.ok (r_ (w=x)):=by
 show ((f2 eqM (f2 ixD (ai 1) (fC (.int 0))) (fC (.str x))) [c_,a_ (.lst ((w::r).map .str))]).bind asB=_;rw [t6_ok];rfl
end
noncomputable def wK:p_:="kind"
noncomputable def wG:p_:="gap"
noncomputable def wB:p_:="beside"
noncomputable def wC:p_:="closed"
noncomputable def wF:p_:="flight"
theorem qz:wG≠wK/\wB≠wK/\wB≠wG/\wC≠wK/\wC≠wG/\wC≠wB/\wF≠wK/\wF≠wG/\wF≠wB/\wF≠wC:=by decide +kernel
section
variable (CR CP CS CW CD:e_)
theorem row_way (n:Nat) (s:DSt) (w:p_) (r:List p_) (hw:FD w "#"=b_):bq CR CP CS CW CD n s.D ((w::r).map .str) =
  if w=wK then (bg CR CP CS CW CD n [.lst (s.ks.map .str),.lst ((w::r).map .str)]).bind (qV 0 s.D) else
  if w=wG then (b6 CR CP CS CW CD n [.lst (s.ks.map .str),.lst ((w::r).map .str)]).bind (Bh 1 s.D) else
  if w=wB then (b6 CR CP CS CW CD n [.lst (s.ks.map .str),.lst ((w::r).map .str)]).bind (Bh 2 s.D) else
  if w=wC then (aQ CR CP CS CW CD n [.lst (s.cs.map stD),.lst ((w::r).map .str)]).bind (qV 5 s.D) else
  if w=wF then lB (aT CR CP CS CW CD n) s.D ((w::r).map .str) else .ok (b_,s.D):=by
 unfold bq mv;show ((fOr _ _ _).bind _)=_;rw [t1_ok hw,aj,m_ (by decide),tw_ok,aj,tw_ok,aj,tw_ok,aj,tw_ok,aj,t6_ok,aj];simp only [Et];show (if w=wK then _ else if w=wG then _ else if w=wB then _ else if w=wC then _ else _)=_;by_cases h1:w=wK
 ·rw [f_ h1,f_ h1]
 rw [m_ h1,m_ h1];by_cases h2:w=wG
 ·rw [f_ h2,f_ h2]
 rw [m_ h2,m_ h2];by_cases Y:w=wB
 ·rw [f_ Y,f_ Y]
 rw [m_ Y,m_ Y];by_cases J:w=wC
 ·rw [f_ J,f_ J]
 rw [m_ J,m_ J];by_cases I:w=wF
 ·rw [f_ I,show r_ (w=h_ "flight")=d_ from q_ I]
 ·rw [m_ I,show r_ (w=h_ "flight")=b_ from j_ I]
theorem row_none (n:Nat) (s:DSt):bq CR CP CS CW CD n s.D []=.ok (d_,s.D):=by
 have e:eqM (.lst []) (.lst [])=.ok (.bl d_):=rfl;have t:(fOr (fB (f2 eqM (ai 1) (fL cy aH))) (k7 (fSM my (f2 ixD (ai 1) (fC (.int 0))) (fC (.str "#"))))) [c_,a_ (.lst [])]=.ok d_:=by simp [e]
 unfold bq mv;show ((fOr _ _ _).bind _)=_;rw [t];rfl
end
def Tb (k:Nat) (G:List (List Int×Dat)) (t:Nat->Nat->Int):Prop:=∀a c,a<k->c<k->(Bl G [(a:Int),(c:Int)]).getD (.int 0)=.int (t a c)
section
variable (CR CP CS CW CD:e_)
theorem Nm.l100 (h:Nm x):x.length<=100:=by have:=h.l8;omega
noncomputable def uX (r:List Int) (c:Nat):Int:=r.getD c 0
end
section
theorem Fl1.bfl {k:Nat} {f:Fli} (h:Fl1 k f):BFl k f:=by
 obtain ⟨k0,k1,a,b,c,d,e⟩:=h;constructor<;>omega
end
def tabL (k:Nat) (t:Nat->Nat->Int):List (List Int):=(Fm k).map fun i=>(Fm k).map fun j=>t i j
theorem rangeD (k:Nat):cP 0 k=(Fm k).map fun i:Nat=>Dat.int (i:Int):=by
 unfold cP;refine FU fun i _=>?_;simp
theorem uG {k:Nat} (h:dJ k rows):tabL k (fun a c=>uX (rows.getD a []) c)=rows:=by
 refine L0 (by simp [tabL,h.1]) fun i h1 h2=>?_;have I:=h.2 rows[i] (FY h2);refine L0 (by simp [tabL,I.1]) fun j Y J=>?_;simp [tabL,uX,h2,J]
section
variable (CR CP CS CW CD:e_)
theorem nq (n:Nat) {k:Nat} (c:k<=6) {G:List (List Int×Dat)} {t:Nat->Nat->Int} (h:Tb k G t):gU CR CP CS CW CD n [.dic G,.int k]=.ok (aW (tabL k t)):=by
 have k1:(-4611686018427387904:Int)<=(k:Int):=by omega
 have k2:(k:Int)<4611686018427387904:=by omega
 have k3:((k:Int)).toNat=k:=by omega
 have I:k<=16777216:=by omega
 have J:∀i,i<k->jr CR CP CS CW CD n [.dic G,.int (i:Nat),.int k]=.ok (oW ((Fm k).map fun j=>t i j)):=fun i hi=>by
  have Y:ba (.nm 0) ia (vP (ai 1) (fL jc (aa (ai 2) (aa (ai 0) aH))) (fC (.int 0))) [c_,a_ (.dic G),a_ (.int (i:Nat))] ((Fm k).map fun j:Nat=>Dat.int (j:Int))=.ok ((Fm k).map fun j=>Dat.int (t i j)):=
   eO _ _ _ fun j b=>⟨[a_ (.int (j:Int)),a_ (.dic G),a_ (.int (i:Nat))],by simp,by
    have:=h i j hi (List.mem_range.mp b);have a:keyD (.tup [.int (i:Nat),.int (j:Nat)])=.ok [(i:Int),(j:Int)]:=rfl;simp [vP,isDic,D7,a,this]⟩
  simp [jr,vM,k1,k2,k3,rangeD,I,Y];simp [oW]
 have Y:ba (.nm 0) ia (fL (jr CR CP CS CW CD n) (aa (ai 1) (aa (ai 0) (aa (ai 2) aH)))) [c_,a_ (.dic G),a_ (.int k)] ((Fm k).map fun j:Nat=>Dat.int (j:Int))=.ok ((Fm k).map fun i=>oW ((Fm k).map fun j=>t i j)):=
  eO _ _ _ fun i hi=>⟨[a_ (.int (i:Int)),a_ (.dic G),a_ (.int k)],by simp,by simp [J i (List.mem_range.mp hi)]⟩
 simp [gU,pJ,k1,k2,k3,rangeD,I,Y];simp [aW,tabL]
end
structure Sht.SG (w:Sht):Prop where
 k1:1<=w.ks.length
 k6:w.ks.length<=6
 kn:∀k∈w.ks,Nm k
 kd:w.ks.Nodup
 rows:dJ w.ks.length w.rows
 o:∀r2,w.o=a_ r2->dJ w.ks.length r2
 nm:w.nf.length<=40
 nn:∀p∈w.nf,Nm p.1/\Fl1 w.ks.length p.2
 nd:(w.nf.map (·.1)).Nodup
 cm:w.cs.length<=20
 cl:∀p∈w.cs,St1 p
theorem Sht.SG.good {w:Sht} (h:w.SG):w.Good:=⟨h.k1,h.k6,fun k J=>(h.kn k J).l100,h.rows,h.o,h.nm,fun p I=>⟨(h.nn p I).1.l100,(h.nn p I).2.bfl⟩,h.cm,fun p I=>by
 obtain ⟨a,b,c⟩:=h.cl p I;omega⟩
abbrev tR (rows:List (List Int)):Nat->Nat->Int:=fun a c=>uX (rows.getD a []) c
structure Desc (s:DSt) (w:Sht):Prop where
 ks:s.ks=w.ks
 nf:s.nf=w.nf
 cs:s.cs=w.cs
 g:Tb w.ks.length s.G (tR w.rows)
 b0:w.o=c_->s.B=[]
 b1:∀r2,w.o=a_ r2->s.B≠[]/\Tb w.ks.length s.B (tR r2)
section
variable {CR:e_}
theorem dr_at (s:DSt):bA [CD] "kinds" (drD CD s.D)=.ok (.lst (s.ks.map .str))/\bA [CD] "gaps" (drD CD s.D)=.ok (.dic s.G)/\bA [CD] "beside" (drD CD s.D)=.ok (.dic s.B)/\bA [CD] "names" (drD CD s.D)=.ok (.lst ((s.nf.map (·.1)).map .str))/\bA [CD] "flights" (drD CD s.D)=.ok (.lst ((s.nf.map (·.2)).map flD))/\bA [CD] "closed" (drD CD s.D)=.ok (.lst (s.cs.map stD)):=by
 have key:∀(y:p_) (d:Dat),((["kinds","gaps","beside","names","flights","closed"]:List p_).zip s.D).lookup y=a_ d->bA [CD] y (drD CD s.D)=.ok d:=fun y d h=>by
  show (if ([CD].contains CD)=d_ then (match ((["kinds","gaps","beside","names","flights","closed"]:List p_).zip s.D).lookup y with|some d=>Eo d|none=>stk) else stk)=_;rw [f_ (by simp),h]
 exact ⟨key _ _ (by with_unfolding_all rfl),key _ _ (by with_unfolding_all rfl),key _ _ (by with_unfolding_all rfl),key _ _ (by with_unfolding_all rfl),key _ _ (by with_unfolding_all rfl),key _ _ (by with_unfolding_all rfl)⟩
theorem B2 (n:Nat) {s:DSt} {w:Sht} (h:w.SG) (d:Desc s w):bV CR CP CS CW CD n [drD CD s.D]=.ok (w.ru CR CP):=by
 obtain ⟨a1,c,b,_,_,_⟩:=dr_at (CD:=CD) s;have t1:=nq CR CP CS CW CD n h.k6 d.g;rw [uG h.rows] at t1;have f:s.ks.length=w.ks.length:=by rw [d.ks]
 rw [d.ks] at a1;cases I:w.o with
 |none=>
  have Y:=d.b0 I;have e1:=new1 CR CP CS CW CD n h.k1 h.k6 h.rows;have a:w.ru CR CP=n5 CR CP w.rows .non:=by unfold Sht.ru Sht.bD;rw [I]
  rw [a];rw [Y] at b;simp [bV,gX,fH,a1,c,b,t1,e1]
 |some r2=>
  obtain ⟨Y,tb⟩:=d.b1 r2 I;have t2:=nq CR CP CS CW CD n h.k6 tb;rw [uG (h.o r2 I)] at t2;have e1:=new2 CR CP CS CW CD n h.k1 h.k6 h.rows (h.o r2 I);have a:w.ru CR CP=n5 CR CP w.rows (aW r2):=by unfold Sht.ru Sht.bD;rw [I]
  rw [a];have J:s.B.isEmpty=b_:=by cases e:s.B with
   |nil=>exact Ek e Y
   |cons _ _=>rfl
  simp [bV,gX,fH,a1,c,b,t1,t2,e1,J]
end
noncomputable def AN (c:Nat):Bool:=r_ (97<=c/\c<=122)||r_ (48<=c/\c<=57)
noncomputable def yj (c:Nat):Bool:=r_ (48<=c/\c<=57)
theorem ix0' {c:Nat} {r:List Nat} (e:z.cps.toList=c::r) (I:z.length<=16777216):AR (.str z) (.int 0)=.ok (.str ⟨#[c]⟩):=by
 show (if z.length<=g_ then _ else _)=_;rw [f_ (by rw [Er];omega),e];have:atI (c::r) (0:Int)=a_ c:=by unfold atI ixN;simp
 rw [this]
def kK (x:p_) (c:Nat):Bool:=r_ (x.length<=8)&&r_ (97<=c/\c<=122)&&x.cps.toList.all AN
section
variable (CR CP CS CW CD:e_)
theorem xZ (n:Nat) {c:Nat} {r:List Nat} (e:x.cps.toList=c::r) (l:x.length<=1000000):fV CR CP CS CW CD n [.str x]=.ok (.bl (kK x c)):=by
 have I:x.length<=16777216:=by omega
 have hsz:x.cps.size<=16777216:=I;have f:=ix0' e I;by_cases d:(8:Int)<(x.length:Int)
 ·have:kK x c=b_:=by unfold kK;rw [j_ (by omega)];rfl
  rw [this];simp [fV,lU,i5,I,gtD,d]
 ·by_cases b:97<=c/\c<=122
  ·have j:i5 CR CP CS CW CD n [a_ (.str x)]=.ok (.nx [a_ (.str x)]):=by
    simp [i5,I,gtD,d,f,(kL c).mpr b]
   have i:ba (.nm 0) ia (Bo (f2 inSD (ai 0) (fC (.str "abcdefghijklmnopqrstuvwxyz"))) (f2 inSD (ai 0) (fC (.str "0123456789")))) [c_] (x.cps.toList.map fun c=>.str ⟨#[c]⟩)=.ok ((x.cps.toList.map AN).map Dat.bl):=by
    rw [El];refine eO _ _ _ fun c k=>⟨[a_ (.str ⟨#[c]⟩)],by simp,?_⟩
    by_cases Y:97<=c/\c<=122
    ·simp [Bo,(kL c).mpr Y,AN,Y]
    ·have a:c∉(h_ "abcdefghijklmnopqrstuvwxyz").cps.toList:=fun m=>Y ((kL c).mp m);by_cases J:48<=c/\c<=57
     ·simp [Bo,a,(mO c).mpr J,AN,J]
     ·have n2:c∉(h_ "0123456789").cps.toList:=fun m=>J ((mO c).mp m);have h:AN c=b_:=by unfold AN;rw [j_ Y,j_ J];rfl
      simp [Bo,a,n2,h]
   have g:kK x c=(x.cps.toList.map AN).all id:=by
    unfold kK;rw [q_ (show x.length<=8 by omega),q_ b,HD];rfl
   rw [g];simp [fV,lU,j,i,hsz,-El,-HD]
  ·have a:c∉(h_ "abcdefghijklmnopqrstuvwxyz").cps.toList:=fun m=>b ((kL c).mp m);have:kK x c=b_:=by unfold kK;rw [j_ b,Gm];rfl
   rw [this];simp [fV,lU,i5,I,gtD,d,f,a]
end
def qu (x:p_) (c:Nat):Bool:=r_ (x.length<=10)&&x.cps.toList.all yj&& !(r_ (c=48)&& !decide (x="0"))
section
variable (CR CP CS CW CD:e_)
theorem AB (n:Nat) {c:Nat} {r:List Nat} (e:x.cps.toList=c::r) (o:x.length<=1000000):bh CR CP CS CW CD n [.str x]=.ok (if qu x c=d_ then .int (((FO x.cps.toList:Nat):Int)) else .non):=by
 have I:x.length<=16777216:=by omega
 have hsz:x.cps.size<=16777216:=I;have d:=ix0' e I;have h:ba (.nm 0) ia (f2 inSD (ai 0) (fC (.str "0123456789"))) [c_] (x.cps.toList.map fun c=>.str ⟨#[c]⟩)=.ok ((x.cps.toList.map yj).map Dat.bl):=by
  rw [El];refine eO _ _ _ fun c l=>⟨[a_ (.str ⟨#[c]⟩)],by simp,?_⟩
  by_cases z:48<=c/\c<=57
  ·simp [(mO c).mpr z,yj,z]
  ·have n2:c∉(h_ "0123456789").cps.toList:=fun m=>z ((mO c).mp m);have k:yj c=b_:=by unfold yj;rw [j_ z]
   simp [n2,k]
 by_cases a:(10:Int)<(x.length:Int)
 ·have:qu x c=b_:=by unfold qu;rw [j_ (by omega)];rfl
  rw [this];simp [bh,gW,eP,I,gtD,a]
 ·have J:((x.cps.toList.map yj).all id)=x.cps.toList.all yj:=by rw [HD];rfl
  cases b:x.cps.toList.all yj with
  |false=>
   have:qu x c=b_:=by unfold qu;rw [b,Gm];rfl
   rw [this];rw [b] at J;simp [bh,gW,eP,I,gtD,a,h,hsz,J,-El,-HD]
  |true=>
   rw [b] at J;have i:eP CR CP CS CW CD n [a_ (.str x)]=.ok (.nx [a_ (.str x)]):=by
    simp [eP,I,gtD,a,h,hsz,J,-El,-HD]
   have j:(h_ "0")=⟨#[48]⟩:=by decide +kernel
   have e1:=one_eq c (h_ "0") 48 j;have e2:neM (.str x) (.str "0")=.ok (.bl (!decide (x="0"))):=by
    by_cases hw:x=(h_ "0")
    ·subst hw;simp [neM,okE,eqD]
    ·simp [neM,okE,eqD,hw]
   have hd:GS x=a_ ((FO x.cps.toList:Nat):Int):=Ky (fun c Y=>by have:=FL.mp b c Y;unfold yj at this;exact GL this) (by rw [e];simp) (by omega);have f:x.length<=640:=by omega
   by_cases Y:c=48/\¬x=(h_ "0")
   ·have:qu x c=b_:=by unfold qu;rw [q_ Y.1,j_ Y.2];simp
    rw [this];have e3:eqM (.str ⟨#[c]⟩) (.str "0")=.ok (.bl d_):=by rw [e1];simp [Y.1]
    have e4:neM (.str x) (.str "0")=.ok (.bl d_):=by rw [e2];simp [Y.2]
    have g:dh CR CP CS CW CD n [a_ (.str x)]=.ok (.rt .non):=by
     simp [dh,d,e3,e4]
    simp [bh,gW,i,g]
   ·have:qu x c=d_:=by
     unfold qu;rw [q_ (show x.length<=10 by omega),b];by_cases h1:c=48
     ·have h2:x=(h_ "0"):=EF fun z=>Y ⟨h1,z⟩;simp [h2]
     ·simp [h1]
    rw [this];have g:dh CR CP CS CW CD n [a_ (.str x)]=.ok (.nx [a_ (.str x)]):=by
     by_cases h1:c=48
     ·have h2:x=(h_ "0"):=EF fun z=>Y ⟨h1,z⟩;have e3:eqM (.str ⟨#[c]⟩) (.str "0")=.ok (.bl d_):=by rw [e1];simp [h1]
      have e4:neM (.str x) (.str "0")=.ok (.bl b_):=by rw [e2];simp [h2]
      simp [dh,d,e3,e4]
     ·have e3:eqM (.str ⟨#[c]⟩) (.str "0")=.ok (.bl b_):=by rw [e1];simp [h1]
      simp [dh,d,e3]
    simp [bh,gW,i,g,f,hd]
end
theorem ue {α:Type} {p:Pat} {ft:ah->M Bool} {fe:ah->M Dat} {ρ0:ah} (g f:α->Dat) (P:α->Bool):∀(L:List α),(∀x∈L,∃ρ,iM p (g x) ρ0=.ok ρ/\ft ρ=.ok (P x)/\fe ρ=.ok (f x))->ba p ft fe ρ0 (L.map g)=.ok ((L.filter P).map f)
 |[],_=>rfl
 |x::L,h=>by
  obtain ⟨ρ,e1,e2,e3⟩:=h x (by simp);have I:=ue g f P L fun y Y=>h y (by simp [Y]);rw [Eh,ba,e1,aj,e2,aj];cases J:P x with
  |true=>rw [f_ rfl,e3,aj,I,Ki J];rfl
  |false=>rw [m_ (by decide),I,Kj (by rw [J];decide)]
noncomputable def pcs (c:Nat):List Nat->List (List Nat)
 |[]=>[[]]
 |x::r=>if x=c then []::pcs c r else match pcs c r with
  |p::ps=>(x::p)::ps
  |[]=>[[x]]
theorem pcs_ok (c:Nat):∀l:List Nat,pcs c l≠[]/\jn c (pcs c l)=l/\(∀p∈pcs c l,c∉p/\p.length<=l.length)/\(pcs c l).length<=l.length+1
 |[]=>⟨by simp [pcs],rfl,by simp [pcs],by simp [pcs]⟩
 |x::r=>by
  obtain ⟨h1,h2,Y,d⟩:=pcs_ok c r;unfold pcs;cases f:pcs c r with
  |nil=>exact Ek f h1
  |cons p ps=>
   rw [f] at h2 Y d;by_cases J:x=c
   ·rw [f_ J];refine ⟨by simp,?_,fun q I=>?_,by simpa using d⟩
    ·show []++c::jn c (p::ps)=_;rw [h2,J];rfl
    ·rcases v_.mp I with rfl|I
     ·simp
     ·obtain ⟨a,b⟩:=Y q I;exact ⟨a,by simp;omega⟩
   ·rw [m_ J];refine ⟨by simp,?_,fun q I=>?_,by simp at d ⊢;omega⟩
    ·rw [<- h2];cases ps with
     |nil=>rfl
     |cons y ys=>rfl
    ·rcases v_.mp I with rfl|I
     ·obtain ⟨a,b⟩:=Y p (by simp);refine ⟨fun m=>?_,by simp;omega⟩
      rcases v_.mp m with e|m
      ·exact J e.symm
      ·exact a m
     ·obtain ⟨a,b⟩:=Y q (by simp [I]);exact ⟨a,by simp;omega⟩
theorem oP (c:Nat) (x:p_):∃ps:List p_,ps≠[]/\(∀p∈ps,p.length<=x.length)/\ps.length<=x.length+1/\Gq x ⟨#[c]⟩=ps:=by
 obtain ⟨h1,h2,Y,b⟩:=pcs_ok c x.cps.toList;have a:x=FE ⟨#[c]⟩ ((pcs c x.cps.toList).map fun l=>(⟨l.toArray⟩:p_)):=by
  refine wV ?_;rw [tG,El];have:(pcs c x.cps.toList).map ((fun x:p_=>x.cps.toList)∘fun l=>(⟨l.toArray⟩:p_))=pcs c x.cps.toList:=by
   conv=>rhs;rw [<- Nh (pcs c x.cps.toList)]
   exact FU fun l _=>by simp
  rw [this,h2]
 refine ⟨(pcs c x.cps.toList).map fun l=>(⟨l.toArray⟩:p_),by simpa using h1,fun p I=>?_,by rw [t_];exact b,?_⟩
 ·obtain ⟨l,J,rfl⟩:=EX.mp I;have:=(Y l J).2;show l.toArray.size<=x.cps.size;simpa using this
 ·conv=>lhs;rw [a]
  refine split_of c _ (by simpa using h1) fun p I=>?_;obtain ⟨l,J,rfl⟩:=EX.mp I;show c∉l.toArray.toList;simpa using (Y l J).1
noncomputable def cx (x:p_):List p_:=Gq x "\n"
noncomputable def j3 (r:p_):List p_:=(Gq r " ").filter fun w=> !decide (w="")
theorem nl_is:(h_ "\n")=(⟨#[10]⟩:p_):=by decide +kernel
theorem sp_is:(h_ " ")=(⟨#[32]⟩:p_):=by decide +kernel
theorem zc (x:p_):cx x≠[]/\(∀p∈cx x,p.length<=x.length)/\(cx x).length<=x.length+1:=by
 obtain ⟨ps,h1,h2,J,I⟩:=oP 10 x;have:cx x=ps:=by unfold cx;rw [nl_is];exact I
 rw [this];exact ⟨h1,h2,J⟩
def WOk (w:p_):Prop:=w.cps.toList≠[]/\w.length<=1000000
theorem uv {r:p_} (J:r.length<=1000000):∀w∈j3 r,WOk w:=by
 obtain ⟨ps,h1,h2,Y,I⟩:=oP 32 r;intro w hw;unfold j3 at hw;rw [sp_is,I,Fn] at hw;refine ⟨fun e=>?_,?_⟩
 ·have:w=h_ "":=wV (by rw [e];decide +kernel);rw [this] at hw;exact Ek hw.2 (by decide +kernel)
 ·have:=h2 w hw.1;omega
theorem uw {r:p_} (J:r.length<=1000000):(Gq r (h_ " ")).length<=16777216:=by
 obtain ⟨ps,h1,h2,Y,I⟩:=oP 32 r;rw [sp_is,I];omega
section
variable (CR CP CS CW CD:e_)
theorem yJ {r:p_}:ba (.nm 0) (fB (f2 neM (ai 0) (fC (.str "")))) (ai 0) [c_] ((Gq r " ").map .str)=.ok ((j3 r).map .str):=by
 refine ue Dat.str Dat.str (fun w=> !decide (w="")) _ fun w _=>⟨[a_ (.str w)],by simp,?_,by simp⟩
 have e:neM (.str w) (.str "")=.ok (.bl (!decide (w=""))):=by
  by_cases hw:w=(h_ "")
  ·subst hw;simp [neM,okE,eqD]
  ·simp [neM,okE,eqD,hw]
 simp [e]
theorem Bt (n:Nat) {r:p_} (a:r.length<=1000000):eY CR CP CS CW CD n [.str r]=.ok (.lst ((j3 r).map .str)):=by
 have Y:(h_ " ").length=1:=by decide +kernel
 have J:r.length+2<=16777216:=by omega
 have I:=uw a;have b:=yJ (r:=r);simp [eY,rF,Y,J,I,b,iF]
theorem AL (n:Nat) {r:p_} (a:r.length<=1000000):ig CR CP CS CW CD n [.str r]=.ok (.lst ((j3 r).map .str)):=by
 have Y:(h_ " ").length=1:=by decide +kernel
 have J:r.length+2<=16777216:=by omega
 have I:=uw a;have b:=yJ (r:=r);simp [ig,nC,Y,J,I,b,iF]
end
def jb (x:p_):Bool:=match x.cps.toList with
 |[]=>b_
 |c::_=>kK x c
def cN (x:p_):Option Int:=match x.cps.toList with
 |[]=>c_
 |c::_=>if qu x c=d_ then a_ ((FO x.cps.toList:Nat):Int) else c_
noncomputable def ll:Option Int->Dat
 |none=>.non
 |some i=>.int i
def lr (x:p_) (m:Int):Int:=match cN x with
 |none=> -1
 |some k=>if m<k then -1 else k
section
variable (CR CP CS CW CD:e_)
theorem zA (n:Nat) (h:WOk x):fV CR CP CS CW CD n [.str x]=.ok (.bl (jb x)):=by
 obtain ⟨h1,h2⟩:=h;unfold jb;cases e:x.cps.toList with
 |nil=>exact Ek e h1
 |cons c r=>exact xZ CR CP CS CW CD n e h2
theorem kJ (n:Nat) (h:WOk x):bh CR CP CS CW CD n [.str x]=.ok (ll (cN x)):=by
 obtain ⟨h1,h2⟩:=h;have e2:∀c r,x.cps.toList=c::r->cN x=if qu x c=d_ then a_ ((FO x.cps.toList:Nat):Int) else c_:=fun c r e=>by unfold cN;rw [e]
 cases e:x.cps.toList with
 |nil=>exact Ek e h1
 |cons c r=>
  rw [AB CR CP CS CW CD n e h2,e2 c r e];cases qu x c<;>rfl
theorem ld_mem (c:Nat):c∈(h_ "abcdefghijklmnopqrstuvwxyz0123456789").cps.toList↔AN c=d_:=by
 have:(h_ "abcdefghijklmnopqrstuvwxyz0123456789").cps.toList=(h_ "abcdefghijklmnopqrstuvwxyz").cps.toList++(h_ "0123456789").cps.toList:=by decide +kernel
 rw [this,Fw,kL,mO];unfold AN;simp
theorem eq_chars (l:List Nat):eqM (.lst (l.map fun c=>Dat.str ⟨#[c]⟩)) (.lst [])=.ok (.bl l.isEmpty):=by
 have e:l.map (fun c=>Dat.str ⟨#[c]⟩)=(l.map fun c=>(⟨#[c]⟩:p_)).map Dat.str:=by rw [El];rfl
 rw [e];have h1:okE (.lst ((l.map fun c=>(⟨#[c]⟩:p_)).map Dat.str)) 40=d_:=kE _ 39;show (if (okE (.lst ((l.map fun c=>(⟨#[c]⟩:p_)).map Dat.str)) 40&&okE (.lst []) 40)=d_ then _ else _)=_;rw [f_ (by rw [h1];rfl)];cases l<;>rfl
theorem ne_chars (l:List Nat):neM (.lst (l.map fun c=>Dat.str ⟨#[c]⟩)) (.lst [])=.ok (.bl (!l.isEmpty)):=by
 have e:l.map (fun c=>Dat.str ⟨#[c]⟩)=(l.map fun c=>(⟨#[c]⟩:p_)).map Dat.str:=by rw [El];rfl
 rw [e];have h1:okE (.lst ((l.map fun c=>(⟨#[c]⟩:p_)).map Dat.str)) 40=d_:=kE _ 39;show (if (okE (.lst ((l.map fun c=>(⟨#[c]⟩:p_)).map Dat.str)) 40&&okE (.lst []) 40)=d_ then _ else _)=_;rw [f_ (by rw [h1];rfl)];cases l<;>rfl
theorem zP (P:Nat->Bool) (l:List Nat):(l.filter fun c=> !P c).isEmpty=l.all P:=by
 induction l with
 |nil=>rfl
 |cons c l J=>
  cases I:P c with
  |true=>rw [Kj (by rw [I];decide),J,IP,I,Bool.true_and]
  |false=>rw [Ki (by rw [I];decide),IP,I];rfl
theorem AD (P:Nat->Bool) (s:p_) (h:∀c,c∈s.cps.toList↔P c=d_) (c:Nat):jq (.str ⟨#[c]⟩) (.str s)=.ok (.bl (!P c)):=by
 cases I:P c with
 |true=>simp [(h c).mpr I]
 |false=>
  have:c∉s.cps.toList:=fun m=>by have:=(h c).mp m;rw [I] at this;cases this
  simp [this]
theorem Dd (P:Nat->Bool) (s:p_) (h:∀c,c∈s.cps.toList↔P c=d_) (x:p_):ba (.nm 0) (fB (f2 jq (ai 0) (fC (.str s)))) (ai 0) [c_] (x.cps.toList.map fun c=>.str ⟨#[c]⟩)=.ok ((x.cps.toList.filter fun c=> !P c).map fun c=>.str ⟨#[c]⟩):=by
 refine ue (fun c:Nat=>Dat.str ⟨#[c]⟩) (fun c:Nat=>Dat.str ⟨#[c]⟩) (fun c=> !P c) _ fun c _=>⟨[a_ (.str ⟨#[c]⟩)],by simp,?_,by simp⟩
 have e:=AD P s h c;simp [e]
theorem vB (n:Nat) (h:WOk x):bN CR CP CS CW CD n [.str x]=.ok (.bl (jb x)):=by
 obtain ⟨h1,h2⟩:=h;have I:x.length<=16777216:=by omega
 have hsz:x.cps.size<=16777216:=I;unfold jb;cases e:x.cps.toList with
 |nil=>exact Ek e h1
 |cons c r=>
  dsimp only;have b:=ix0' e I;have i:=Dd AN _ ld_mem x;have d:=eq_chars (x.cps.toList.filter fun c=> !AN c);rw [zP] at d;have Y:¬((x.length:Int)<1):=by
   have:x.length=x.cps.toList.length:=rfl;rw [this,e];simp;omega
  by_cases a:(8:Int)<(x.length:Int)
  ·have:kK x c=b_:=by unfold kK;rw [j_ (by omega)];rfl
   rw [this];simp [bN,fO,cz,I,gtD,ltD,a,Y]
  ·by_cases J:97<=c/\c<=122
   ·have j:cz CR CP CS CW CD n [a_ (.str x)]=.ok (.nx [a_ (.str x)]):=by
     simp [cz,I,gtD,ltD,a,Y,b,(kL c).mpr J]
    have f:kK x c=x.cps.toList.all AN:=by
     unfold kK;rw [q_ (show x.length<=8 by omega),q_ J];rfl
    rw [f];simp [bN,fO,j,i,hsz,d,-El]
   ·have g:c∉(h_ "abcdefghijklmnopqrstuvwxyz").cps.toList:=fun m=>J ((kL c).mp m);have:kK x c=b_:=by unfold kK;rw [j_ J,Gm];rfl
    rw [this];simp [bN,fO,cz,I,gtD,ltD,a,Y,b,g]
theorem dg_mem (c:Nat):c∈(h_ "0123456789").cps.toList↔yj c=d_:=by
 rw [mO];unfold yj;simp
theorem iV (n:Nat) (h:WOk x) (m:Int):b7 CR CP CS CW CD n [.str x,.int m]=.ok (.int (lr x m)):=by
 obtain ⟨h1,h2⟩:=h;have I:x.length<=16777216:=by omega
 have hsz:x.cps.size<=16777216:=I;cases e:x.cps.toList with
 |nil=>exact Ek e h1
 |cons c r=>
  have j:=ix0' e I;have hw:lr x m=if qu x c=d_ then (if m<((FO x.cps.toList:Nat):Int) then -1 else ((FO x.cps.toList:Nat):Int)) else -1:=by
   unfold lr cN;rw [e];dsimp only;cases qu x c<;>rfl
  have o:=Dd yj _ dg_mem x;have d:=ne_chars (x.cps.toList.filter fun c=> !yj c);rw [zP] at d;have i:¬((x.length:Int)<1):=by
   have:x.length=x.cps.toList.length:=rfl;rw [this,e];simp;omega
  by_cases a:(10:Int)<(x.length:Int)
  ·have:qu x c=b_:=by unfold qu;rw [j_ (by omega)];rfl
   rw [hw,this];simp [b7,dW,dG,I,gtD,ltD,a,i]
  ·cases b:x.cps.toList.all yj with
   |false=>
    have:qu x c=b_:=by unfold qu;rw [b,Gm];rfl
    rw [hw,this];rw [b] at d;simp [b7,dW,dG,I,gtD,ltD,a,i,o,hsz,d,-El]
   |true=>
    rw [b] at d;have k:dG CR CP CS CW CD n [a_ (.str x),a_ (.int m)]=.ok (.nx [a_ (.str x),a_ (.int m)]):=by
     simp [dG,I,gtD,ltD,a,i,o,hsz,d,-El]
    have p:(h_ "0")=⟨#[48]⟩:=by decide +kernel
    have e1:=one_eq c (h_ "0") 48 p;have e2:neM (.str x) (.str "0")=.ok (.bl (!decide (x="0"))):=by
     by_cases hw:x=(h_ "0")
     ·subst hw;simp [neM,okE,eqD]
     ·simp [neM,okE,eqD,hw]
    have hd:GS x=a_ ((FO x.cps.toList:Nat):Int):=Ky (fun c Y=>by have:=FL.mp b c Y;unfold yj at this;exact GL this) (by rw [e];simp) (by omega);have J:x.length<=640:=by omega
    have l:(qu x c=d_)↔¬(c=48/\¬x=(h_ "0")):=by
     unfold qu;rw [q_ (show x.length<=10 by omega),b];by_cases h1:c=48<;>by_cases h2:x=h_ "0"<;>simp [h1,h2]
    by_cases Y:c=48/\¬x=(h_ "0")
    ·have:qu x c=b_:=by
      cases q:qu x c with
      |false=>rfl
      |true=>exact Ek Y (l.mp q)
     rw [hw,this];have e3:eqM (.str ⟨#[c]⟩) (.str "0")=.ok (.bl d_):=by rw [e1];simp [Y.1]
     have e4:neM (.str x) (.str "0")=.ok (.bl d_):=by rw [e2];simp [Y.2]
     have f:bQ CR CP CS CW CD n [a_ (.str x),a_ (.int m)]=.ok (.rt (.int (-1))):=by
      simp [bQ,j,e3,e4]
     simp [b7,dW,k,f]
    ·rw [hw,l.mpr Y];have ft:(uk (fB (f2 eqM (f2 AR (ai 0) (fC (.int 0))) (fC (.str "0")))) (fB (f2 neM (ai 0) (fC (.str "0"))))) [a_ (.str x),a_ (.int m)]=.ok b_:=by
      by_cases h1:c=48
      ·have h2:x=(h_ "0"):=EF fun z=>Y ⟨h1,z⟩;have e3:eqM (.str ⟨#[c]⟩) (.str "0")=.ok (.bl d_):=by rw [e1];simp [h1]
       have e4:neM (.str x) (.str "0")=.ok (.bl b_):=by rw [e2];simp [h2]
       simp [j,e3,e4]
      ·have e3:eqM (.str ⟨#[c]⟩) (.str "0")=.ok (.bl b_):=by rw [e1];simp [h1]
       simp [j,e3]
     by_cases g:m<((FO x.cps.toList:Nat):Int)
     ·have f:bQ CR CP CS CW CD n [a_ (.str x),a_ (.int m)]=.ok (.rt (.int (-1))):=by
       unfold bQ;rw [e_if,e_or,ft];simp [J,hd,gtD,g]
      rw [f_ rfl,f_ g];simp [b7,dW,k,f]
     ·have f:bQ CR CP CS CW CD n [a_ (.str x),a_ (.int m)]=.ok (.nx [a_ (.str x),a_ (.int m)]):=by
       unfold bQ;rw [e_if,e_or,ft];simp [J,hd,gtD,g]
      rw [f_ rfl,m_ g];simp [b7,dW,k,f,J,hd]
end
theorem run_rt {nN:Nat} {g:ah->M Flo} {ds:List Dat} {x:Dat} (I:ds.length=n) (h:g (ds.map a_++Fv (nN-ds.length) c_)=.ok (.rt x)):bL nN n g ds=.ok x:=by
 rw [e_run,f_ I,h];rfl
theorem neI (a b:Int):neM (.int a) (.int b)=.ok (.bl (!decide (a=b))):=by
 by_cases h:a=b
 ·subst h;rw [ku rfl];simp
 ·simp [neM,okE,eqD,h]
theorem eqI (a b:Int):eqM (.int a) (.int b)=.ok (.bl (r_ (a=b))):=by
 by_cases h:a=b
 ·subst h;simp [eqM,okE,eqD]
 ·simp [eqM,okE,eqD,h]
theorem eqS (a b:p_):eqM (.str a) (.str b)=.ok (.bl (r_ (a=b))):=by
 by_cases h:a=b
 ·subst h;simp [eqM,okE,eqD]
 ·simp [eqM,okE,eqD,h]
theorem neS (a b:p_):neM (.str a) (.str b)=.ok (.bl (!decide (a=b))):=by
 by_cases h:a=b
 ·subst h;simp [neM,okE,eqD]
 ·simp [neM,okE,eqD,h]
theorem iU (h:cN x=a_ i):0<=i:=by
 unfold cN at h;split at h
 ·cases h
 ·split at h
  ·cases h;omega
  ·cases h
theorem zB (h:jb x=d_):Nm x:=by
 unfold jb at h;split at h
 ·cases h
 ·rename_i c r e;unfold kK at h;simp only [n_,Et] at h;obtain ⟨⟨h1,h2⟩,I⟩:=h;refine ⟨⟨by rw [e];simp,fun d hd=>?_⟩,h1,c,r,e,h2.1,h2.2⟩
  have:=FL.mp I d hd;unfold AN at this;simpa [lowD] using this
def kI (ks:List p_) (x:p_):Nat:=(zI ks x).getD 0
theorem vG (h:x∈ks):zI ks x=a_ (kI ks x)/\kI ks x<ks.length/\ks[kI ks x]? =a_ x:=by
 have I:(zI ks x).isSome=d_:=by
  unfold zI;rw [List.findIdx?_isSome];exact Jo.mpr ⟨x,h,by simp⟩
 cases e:zI ks x with
 |none=>rw [e] at I;cases I
 |some i=>
  have J:kI ks x=i:=by unfold kI;rw [e];rfl
  unfold zI at e;obtain ⟨hi,h1,_⟩:=G_.mp e;rw [J];exact ⟨rfl,hi,by rw [Ez hi];simpa using h1⟩
section
variable (CR CP CS CW CD:e_)
theorem se (n:Nat) {W:List Dat} (h:W.length≠2):bg CR CP CS CW CD n [.lst (ks.map .str),.lst W]=.ok .non:=by
 have e:=neI W.length 2;rw [j_ (by omega)] at e;simp [bg,eZ,de,e]
theorem si (n:Nat) (h:WOk x):bg CR CP CS CW CD n [.lst (ks.map .str),.lst [.str w,.str x]]=.ok (if (r_ (ks.length<6)&&jb x&& !decide (x∈ks))=d_ then .str x else .non):=by
 have e1:=zA CR CP CS CW CD n h;have e2:=pA x ks;have e3:=tu 2 2 rfl;have J:eU [.str w,.str x] 1=.ok (.str x):=rfl;by_cases a:ks.length<6
 ·have e4:¬(6:Int)<=(ks.length:Int):=by omega
  rw [q_ a];cases Y:jb x with
  |false=>rw [Y] at e1;simp [bg,eZ,de,e1,e3,e4,J]
  |true=>
   rw [Y] at e1;by_cases I:x∈ks
   ·rw [q_ I] at e2;simp [bg,eZ,de,e1,e2,e3,e4,J,I]
   ·rw [j_ I] at e2;simp [bg,eZ,de,e1,e2,e3,e4,J,I]
 ·have e4:(6:Int)<=(ks.length:Int):=by omega
  rw [j_ a];simp [bg,eZ,de,e3,e4]
theorem uD (n:Nat) {W:List Dat} (h:W.length≠4):b6 CR CP CS CW CD n [.lst (ks.map .str),.lst W]=.ok .non:=by
 have e:=neI W.length 4;rw [j_ (by omega)] at e;simp [b6,fj,cV,e]
theorem AU (n:Nat):eD CR CP CS CW CD n [.non]=.ok (.bl b_):=by
 simp [eD,oq,jV]
theorem AV (n:Nat) (h:1000000<i):eD CR CP CS CW CD n [.int i]=.ok (.bl b_):=by
 have h2:¬i<=1000000:=by omega
 have I:0<=i:=by omega
 simp [eD,oq,jV,iH,h2,I]
theorem uE (n:Nat) (h:WOk v):b6 CR CP CS CW CD n [.lst (ks.map .str),.lst [.str w,.str x,.str y,.str v]]=.ok (if x∈ks/\y∈ks then (match cN v with
  |some i=>if i<=1000000 then .tup [.int (kI ks x),.int (kI ks y),.int i] else .non
  |none=>.non) else .non):=by
 have e1:=kJ CR CP CS CW CD n h;have e3:=tu 4 4 rfl;have m1:=pA x ks;have I:=pA y ks;have b:eU [.str w,.str x,.str y,.str v] 1=.ok (.str x):=rfl;have g2:eU [.str w,.str x,.str y,.str v] 2=.ok (.str y):=rfl;have a:eU [.str w,.str x,.str y,.str v] 3=.ok (.str v):=rfl;by_cases J:x∈ks
 ·by_cases Y:y∈ks
  ·rw [q_ J] at m1;rw [q_ Y] at I;rw [f_ ⟨J,Y⟩];cases hv:cN v with
   |none=>
    rw [hv] at e1;have e2:=AU CR CP CS CW CD n;simp [b6,fj,cV,e1,e2,e3,m1,I,b,g2,a,ll]
   |some i=>
    rw [hv] at e1;have e:=iU hv;dsimp only;by_cases hi:i<=1000000
    ·have e2:=vI CR CP CS CW CD n i e hi;have d:=(vG J).1;have c:=(vG Y).1;simp [b6,fj,cV,e1,e2,e3,m1,I,d,c,b,g2,a,gN,isL,ll,hi]
    ·have e2:=AV CR CP CS CW CD n (i:=i) (by omega);simp [b6,fj,cV,e1,e2,e3,m1,I,b,g2,a,ll,hi]
  ·rw [q_ J] at m1;rw [j_ Y] at I;rw [m_ (fun z=>Y z.2)];simp [b6,fj,cV,e3,m1,I,b,g2,a]
 ·rw [j_ J] at m1;rw [m_ (fun z=>J z.1)];simp [b6,fj,cV,e3,m1,b,g2,a]
theorem nK (n:Nat) {W:List Dat} (h:W.length≠3):aQ CR CP CS CW CD n [.lst (cs.map stD),.lst W]=.ok .non:=by
 have e:=neI W.length 3;rw [j_ (by omega)] at e;simp [aQ,bO,bw,e]
noncomputable def stB (p:um):Bool:=r_ (0<=p.1)&&(r_ (p.1<p.2)&&r_ (p.2<=1000000000))
theorem yU:stB p=d_↔St1 p:=by unfold stB St1;simp
theorem qM (n:Nat) (p:um):fU CR CP CS CW CD n [stD p]=.ok (.bl (stB p)):=by
 have Y:eU [.int p.1,.int p.2] 0=.ok (.int p.1):=rfl;have J:eU [.int p.1,.int p.2] 1=.ok (.int p.2):=rfl;unfold stB;by_cases I:0<=p.1<;>by_cases h1:p.1<p.2<;>by_cases h2:p.2<=1000000000<;>simp [fU,nA,jF,stD,Y,J,I,h1,h2]
theorem tI (n:Nat) (h:∀p∈cs,St1 p) (f:cs.length<=20) (p:um):gS CR CP CS CW CD n [.lst ((cs++[p]).map stD)]=.ok (.bl (r_ (cs.length<20)&&stB p)):=by
 have J:ba (.nm 0) ia (fL (fU CR CP CS CW CD n) (aa (ai 0) aH)) [c_] ((cs++[p]).map stD)=.ok (((cs++[p]).map stB).map Dat.bl):=by
  rw [El];exact eO _ _ _ fun p e=>⟨[a_ (stD p)],by simp,by simp [qM CR CP CS CW CD n p]⟩
 have al:((cs++[p]).map stB).all id=stB p:=by
  rw [Fo,List.all_append,List.map_singleton,IP,List.all_nil,My];have:(cs.map stB).all id=d_:=FL.mpr fun b c=>by
   obtain ⟨q,Y,rfl⟩:=EX.mp c;exact yU.mpr (h q Y)
  rw [this];rfl
 have h2:cs.length+1<=16777216:=by omega
 by_cases h1:cs.length<20
 ·have I:(cs.length:Int)+1<=20:=by omega
  rw [q_ h1];generalize d:(cs++[p]).map stB=L at J al;have a:L.length=cs.length+1:=by rw [<- d];simp
  simp [gS,kU,I,h2,J,iF,al,iI,-Fo]
 ·have I:¬(cs.length:Int)+1<=20:=by omega
  rw [j_ h1];simp [gS,kU,I,iI]
theorem nL (n:Nat) (f:WOk x) (e:WOk y) (h:∀p∈cs,St1 p) (g:cs.length<=20):aQ CR CP CS CW CD n [.lst (cs.map stD),.lst [.str w,.str x,.str y]]=.ok (match cN x,cN y with
  |some i,a_ j=>if (r_ (cs.length<20)&&stB (i,j))=d_ then stD (i,j) else .non
  |_,_=>.non):=by
 have e1:=kJ CR CP CS CW CD n f;have e2:=kJ CR CP CS CW CD n e;have e3:=tu 3 3 rfl;have J:eU [.str w,.str x,.str y] 1=.ok (.str x):=rfl;have g2:eU [.str w,.str x,.str y] 2=.ok (.str y):=rfl;cases ex:cN x with
 |none=>
  rw [ex] at e1;have I:∀d:Dat,(d=.non\/∃i,d=.int i)->gR .non (.tup [.non,d])=.ok (.bl b_):=fun d hd=>by
   rcases hd with rfl|⟨i,rfl⟩<;>rfl
  cases Y:cN y with
  |none=>rw [Y] at e2;simp [aQ,bO,bw,e1,e2,e3,J,g2,ll,I .non (.inl rfl)]
  |some j=>rw [Y] at e2;simp [aQ,bO,bw,e1,e2,e3,J,g2,ll,I (.int j) (.inr ⟨j,rfl⟩)]
 |some i=>
  rw [ex] at e1;cases Y:cN y with
  |none=>
   rw [Y] at e2;have I:gR .non (.tup [.int i,.non])=.ok (.bl b_):=rfl;simp [aQ,bO,bw,e1,e2,e3,J,g2,ll,I]
  |some j=>
   rw [Y] at e2;have I:gR .non (.tup [.int i,.int j])=.ok (.bl d_):=rfl;have a:=tI CR CP CS CW CD n h g (i,j);have c:gL (.lst (cs.map stD)) (.lst [.tup [.int i,.int j]])=.ok (.lst ((cs++[(i,j)]).map stD)):=by
    have:cs.length+1<=16777216:=by omega
    simp [gL,stD,this]
   dsimp only;cases b:(r_ (cs.length<20)&&stB (i,j)) with
   |true=>
    rw [b] at a;simp [aQ,bO,bw,e1,e2,e3,J,g2,ll,I,c,a,-Fo];rfl
   |false=>
    rw [b] at a;simp [aQ,bO,bw,e1,e2,e3,J,g2,ll,I,c,a,-Fo]
end
noncomputable def rgB (x:Int):Bool:=r_ (0<=x)&&r_ (x<=1000000000)
def flB (f:Fli):Bool:=r_ (f.first<=f.last)&&(rgB f.first&&(rgB f.last&&(rgB f.due&&rgB f.price)))
theorem in_non (p q r s:Option Int):inM .non (.lst [ll p,ll q,ll r,ll s])=.ok (.bl (p.isNone||(q.isNone||(r.isNone||s.isNone)))):=by
 cases p<;>cases q<;>cases r<;>cases s<;>rfl
theorem flB_ok {k:Nat} {f:Fli} (h:flB f=d_) (d:0<=f.kind) (h1:f.kind<k):Fl1 k f:=by
 unfold flB rgB at h;simp only [n_,Et] at h;obtain ⟨h2,⟨c,g⟩,⟨e,b⟩,⟨a,Y⟩,J,I⟩:=h;exact ⟨d,h1,c,h2,b,⟨a,Y⟩,⟨J,I⟩⟩
def num4 (a b c d:p_):Option (Int×Int×Int×Int):=match cN a,cN b,cN c,cN d with
 |some a,a_ b,a_ c,a_ d=>a_ (a,b,c,d)
 |_,_,_,_=>c_
section
variable (CR CP CS CW CD:e_)
theorem ik (n:Nat) (x:Int):eC CR CP CS CW CD n [.int x]=.ok (.bl (rgB x)):=by
 unfold rgB;by_cases h1:0<=x<;>by_cases h2:x<=1000000000<;>simp [eC,lV,iH,h1,h2]
theorem C9 (n:Nat) (f:Fli):bj CR CP CS CW CD n [flD f]=.ok (.bl (flB f)):=by
 have J:eU [.int f.kind,.int f.first,.int f.last,.int f.due,.int f.price] 1=.ok (.int f.first):=rfl;have g2:eU [.int f.kind,.int f.first,.int f.last,.int f.due,.int f.price] 2=.ok (.int f.last):=rfl;have es:dS (.tup [.int f.kind,.int f.first,.int f.last,.int f.due,.int f.price]) (a_ 1) c_=.ok (.tup [.int f.first,.int f.last,.int f.due,.int f.price]):=by simp [dS,Bp,cX]
 have c:=ik CR CP CS CW CD n f.first;have r2:=ik CR CP CS CW CD n f.last;have b:=ik CR CP CS CW CD n f.due;have a:=ik CR CP CS CW CD n f.price;have Y:ba (.nm 0) ia (fL (eC CR CP CS CW CD n) (aa (ai 0) aH)) [c_] [.int f.first,.int f.last,.int f.due,.int f.price]=.ok ([rgB f.first,rgB f.last,rgB f.due,rgB f.price].map Dat.bl):=by simp [ba,c,r2,b,a]
 unfold flB;generalize d:[rgB f.first,rgB f.last,rgB f.due,rgB f.price]=L at Y;have al:L.all id=(rgB f.first&&(rgB f.last&&(rgB f.due&&rgB f.price))):=by rw [<- d];simp
 by_cases I:f.first<=f.last
 ·rw [q_ I];simp [bj,dO,flD,J,g2,es,Y,al,I,iI,iF]
 ·rw [j_ I];simp [bj,dO,flD,J,g2,I,iI]
theorem oH (n:Nat) {W:List Dat} (h:W.length≠7):aT CR CP CS CW CD n [.lst (ks.map .str),.lst (ns.map .str),.lst W]=.ok .non:=by
 have e:=neI W.length 7;rw [j_ (by omega)] at e;simp [aT,cv,cf,e]
theorem oJ (n:Nat) {k c d:p_} (h1:WOk nm) (R:WOk a) (Q:WOk b) (P:WOk c) (hd:WOk d) :
  aT CR CP CS CW CD n [.lst (ks.map .str),.lst (ns.map .str),.lst [.str w,.str nm,.str k,.str a,.str b,.str c,.str d]]=.ok (if (r_ (ns.length<40)&&(r_ (k∈ks)&&(jb nm&& !decide (nm∈ns))))=d_ then (match num4 a b c d with
   |some (a,b,c,d)=>if flB ⟨kI ks k,a,b,c,d⟩=d_ then flD ⟨kI ks k,a,b,c,d⟩ else .non
   |none=>.non) else .non):=by
 have e3:=tu 7 7 rfl;have m1:=pA k ks;have p:=inS nm ns;have e5:=zA CR CP CS CW CD n h1;have O:=kJ CR CP CS CW CD n R;have n2:=kJ CR CP CS CW CD n Q;have N:=kJ CR CP CS CW CD n P;have L:=kJ CR CP CS CW CD n hd;generalize s:([.str w,.str nm,.str k,.str a,.str b,.str c,.str d]:List Dat)=W;have y:W.length=7:=by rw [<- s];rfl
 have A:eU W 1=.ok (.str nm):=by rw [<- s];rfl
 have g2:eU W 2=.ok (.str k):=by rw [<- s];rfl
 have u:∀x,cv CR CP CS CW CD n [a_ (.lst (ks.map .str)),a_ (.lst (ns.map .str)),a_ (.lst W),c_,c_]=.ok (.rt x)->aT CR CP CS CW CD n [.lst (ks.map .str),.lst (ns.map .str),.lst W]=.ok x:=fun x h=>run_rt rfl h;have g:cf CR CP CS CW CD n [a_ (.lst (ks.map .str)),a_ (.lst (ns.map .str)),a_ (.lst W),c_,c_]=.ok (if ns.length<40/\k∈ks then .nx [a_ (.lst (ks.map .str)),a_ (.lst (ns.map .str)),a_ (.lst W),c_,c_] else .rt .non):=by
  by_cases E:ns.length<40
  ·have e4:¬(40:Int)<=(ns.length:Int):=by omega
   by_cases r:k∈ks
   ·rw [q_ r] at m1;simp [cf,y,e3,e4,g2,m1,E,r]
   ·rw [j_ r] at m1;simp [cf,y,e3,e4,g2,m1,r]
  ·have e4:(40:Int)<=(ns.length:Int):=by omega
   simp [cf,y,e3,e4,E]
 have j:cW CR CP CS CW CD n [a_ (.lst (ks.map .str)),a_ (.lst (ns.map .str)),a_ (.lst W),c_,c_]=.ok (if jb nm=d_/\nm∉ns then .nx [a_ (.lst (ks.map .str)),a_ (.lst (ns.map .str)),a_ (.lst W),c_,c_] else .rt .non):=by
  cases D:jb nm with
  |false=>rw [D] at e5;simp [cW,A,e5]
  |true=>
   rw [D] at e5;by_cases q:nm∈ns
   ·rw [q_ q] at p;simp [cW,A,e5,p,q]
   ·rw [j_ q] at p;simp [cW,A,e5,p,q]
 by_cases i:ns.length<40/\k∈ks
 rotate_left
 ·rw [m_ i] at g;rw [m_ (fun z=>i (by simp at z;exact ⟨z.1,z.2.1⟩))];exact u _ (by unfold cv;rw [m5,g,aj])
 rw [f_ i] at g;by_cases l:jb nm=d_/\nm∉ns
 rotate_left
 ·rw [m_ l] at j;rw [m_ (fun z=>l (by simp at z;exact z.2.2))];exact u _ (by unfold cv;rw [m5,g,aj];dsimp only;rw [m5,j,aj])
 rw [f_ l] at j;rw [f_ (by simp [i.1,i.2,l.1,l.2])];have es:dS (.lst W) (a_ 3) c_=.ok (.lst [.str a,.str b,.str c,.str d]):=by rw [<- s];simp [dS,Bp,cX]
 have S:ba (.nm 0) ia (fL (bh CR CP CS CW CD n) (aa (ai 0) aH)) [c_] [.str a,.str b,.str c,.str d]=.ok [ll (cN a),ll (cN b),ll (cN c),ll (cN d)]:=by simp [ba,O,n2,N,L]
 have o:bH [] 3 (dP (fIt (fSl dS (ai 2) (kC (fC (.int 3))) sU)) [c_] (.nm 0) ia (fL (bh CR CP CS CW CD n) (aa (ai 0) aH))) [a_ (.lst (ks.map .str)),a_ (.lst (ns.map .str)),a_ (.lst W),c_,c_]=.ok (.nx [a_ (.lst (ks.map .str)),a_ (.lst (ns.map .str)),a_ (.lst W),a_ (.lst [ll (cN a),ll (cN b),ll (cN c),ll (cN d)]),c_]):=by
  simp [es,S,iF]
 have C:=in_non (cN a) (cN b) (cN c) (cN d);have G:=(vG i.2).1;have f:i0 CR CP CS CW CD n [a_ (.lst (ks.map .str)),a_ (.lst (ns.map .str)),a_ (.lst W),a_ (.lst [ll (cN a),ll (cN b),ll (cN c),ll (cN d)]),c_]=.ok (if ((cN a).isNone||((cN b).isNone||((cN c).isNone||(cN d).isNone)))=d_ then .rt .non else .nx [a_ (.lst (ks.map .str)),a_ (.lst (ns.map .str)),a_ (.lst W),a_ (.lst [ll (cN a),ll (cN b),ll (cN c),ll (cN d)]),c_]):=by
  generalize ((cN a).isNone||((cN b).isNone||((cN c).isNone||(cN d).isNone)))=t at C;cases t<;>simp [i0,C]
 have e:((cN a).isNone||((cN b).isNone||((cN c).isNone||(cN d).isNone)))=d_->aT CR CP CS CW CD n [.lst (ks.map .str),.lst (ns.map .str),.lst W]=.ok .non:=fun h=>by
  rw [f_ h] at f;exact u _ (by unfold cv;rw [m5,g,aj];dsimp only;rw [m5,j,aj];dsimp only;rw [m5,o,aj];dsimp only;rw [m5,f,aj])
 unfold num4;cases m:cN a with
 |none=>exact e (by rw [m];rfl)
 |some Y=>
 cases v:cN b with
 |none=>exact e (by rw [m,v];rfl)
 |some J=>
 cases B:cN c with
 |none=>exact e (by rw [m,v,B];rfl)
 |some I=>
 cases F:cN d with
 |none=>exact e (by rw [m,v,B,F];rfl)
 |some d'=>
 rw [m,v,B,F] at o f;rw [m_ (show ¬((a_ Y).isNone||((a_ J).isNone||((a_ I).isNone||(a_ d').isNone)))=d_ from fun z=>(nomatch (show b_=d_ from z)))] at f;dsimp only [ll] at o f;have K:=C9 CR CP CS CW CD n ⟨kI ks k,Y,J,I,d'⟩;have ix:(gu (ai 0) (f2 ixD (ai 2) (fC (.int 2)))) [a_ (.lst (ks.map .str)),a_ (.lst (ns.map .str)),a_ (.lst W),a_ (.lst [.int Y,.int J,.int I,.int d']),c_]=.ok (.int (kI ks k)):=by
  simp [g2,G,gN,isL]
 have H:bH [] 4 (fL jc (aa (gu (ai 0) (f2 ixD (ai 2) (fC (.int 2)))) (aa (f2 ixD (ai 3) (fC (.int 0))) (aa (f2 ixD (ai 3) (fC (.int 1))) (aa (f2 ixD (ai 3) (fC (.int 2))) (aa (f2 ixD (ai 3) (fC (.int 3))) aH)))))) [a_ (.lst (ks.map .str)),a_ (.lst (ns.map .str)),a_ (.lst W),a_ (.lst [.int Y,.int J,.int I,.int d']),c_]=.ok (.nx [a_ (.lst (ks.map .str)),a_ (.lst (ns.map .str)),a_ (.lst W),a_ (.lst [.int Y,.int J,.int I,.int d']),a_ (flD ⟨kI ks k,Y,J,I,d'⟩)]):=by
  show ((((gu (ai 0) (f2 ixD (ai 2) (fC (.int 2)))) [a_ (.lst (ks.map .str)),a_ (.lst (ns.map .str)),a_ (.lst W),a_ (.lst [.int Y,.int J,.int I,.int d']),c_]).bind fun x=>Eo [x,.int Y,.int J,.int I,.int d']).bind jc).bind _=_;rw [ix,aj,aj];unfold jc;rw [f_ (by show 5<=g_;rw [Er];decide)];rfl
 dsimp only;refine u _ ?_;unfold cv;rw [m5,g,aj];dsimp only;rw [m5,j,aj];dsimp only;rw [m5,o,aj];dsimp only;rw [m5,f,aj];dsimp only;rw [m5,H,aj];dsimp only;show ((((bj CR CP CS CW CD n [flD ⟨kI ks k,Y,J,I,d'⟩]).bind truD).bind fun t=>if t=d_ then Eo (flD ⟨kI ks k,Y,J,I,d'⟩) else Eo Dat.non).bind _)=_;rw [K];cases flB ⟨kI ks k,Y,J,I,d'⟩<;>rfl
end
structure WS where
 ks:List p_
 g:PKs
 b:PKs
 nf:List (p_×Fli)
 cs:List um
variable {s s':WS}
def enc (ks:List p_) (g:PKs):List (List Int×Dat):=g.map fun p=>([((kI ks p.1.1:Nat):Int),((kI ks p.1.2:Nat):Int)],Dat.int p.2)
def WS.d (s:WS):DSt:=⟨s.ks,enc s.ks s.g,enc s.ks s.b,s.nf,s.cs⟩
def WS.j (s:WS):Jst:=⟨s.ks.map .str,(s.nf.map (·.1)).map .str,(s.nf.map (·.2)).map flD,s.cs.map stD,s.g,s.b⟩
def A4 (ks:List p_) (g:PKs):Prop:=∀p∈g,p.1.1∈ks/\p.1.2∈ks/\0<=p.2/\p.2<=1000000
theorem Dh (ks:List p_) (g:PKs):(enc ks g).length=g.length:=t_ ..
theorem kI_app (h:y∈ks):kI (ks++[x]) y=kI ks y:=by
 have e:=(vG h).1;unfold kI zI at *;rw [List.findIdx?_append,e];rfl
theorem kI_inj (J:x∈ks) (I:y∈ks) (e:kI ks x=kI ks y):x=y:=by
 have h1:=(vG J).2.2;have h2:=(vG I).2.2;rw [e,h2] at h1;exact (Ew h1).symm
theorem Dj (h:A4 ks g) (x:p_):enc (ks++[x]) g=enc ks g:=
 FU fun p I=>by rw [kI_app (h p I).1,kI_app (h p I).2.1]
theorem A4.app (h:A4 ks g) (x:p_):A4 (ks++[x]) g:=fun p I=>by
 obtain ⟨a,b,c⟩:=h p I;exact ⟨by simp [a],by simp [b],c⟩
theorem Di (J:x∈ks) (I:y∈ks) (c:a∈ks) (Y:b∈ks):([((kI ks a:Nat):Int),((kI ks b:Nat):Int)]=[((kI ks x:Nat):Int),((kI ks y:Nat):Int)])↔(a,b)=(x,y):=by
 constructor
 ·intro h;simp only [HX,and_true] at h;rw [kI_inj c J (by omega),kI_inj Y I (by omega)]
 ·intro h;cases h;rfl
theorem yi {ks:List p_} {x y:p_} (a:x∈ks) (Y:y∈ks):∀{g:PKs},A4 ks g->Bl (enc ks g) [((kI ks x:Nat):Int),((kI ks y:Nat):Int)]=(wI g (x,y)).map Dat.int
 |[],_=>rfl
 |p::g,h=>by
  obtain ⟨h1,h2,_⟩:=h p (by simp);have J:=yi a Y (g:=g) fun q c=>h q (by simp [c]);have b:=Di a Y h1 h2;unfold enc Bl wI at J ⊢;by_cases e:p.1=(x,y)
  ·have I:=b.mpr e;simp only [Eh,Ff,I,e,decide_true,Ih]
  ·have I:¬[((kI ks p.1.1:Nat):Int),((kI ks p.1.2:Nat):Int)]=[((kI ks x:Nat):Int),((kI ks y:Nat):Int)]:=fun z=>e (b.mp z);simp only [Eh,Ff,I,e,K4];exact J
theorem Df (Y:x∈ks) (J:y∈ks) (h:A4 ks g) (v:Int):As (enc ks g) [((kI ks x:Nat):Int),((kI ks y:Nat):Int)] (.int v)=enc ks (oZ g (x,y) v):=by
 unfold As oZ;rw [yi Y J h,G9];by_cases I:(wI g (x,y)).isSome=d_
 ·rw [f_ I,f_ I];unfold enc;rw [El,El];refine FU fun p b=>?_;obtain ⟨h1,h2,_⟩:=h p b;have a:=Di Y J h1 h2;simp only [Kk];by_cases e:p.1=(x,y)
  ·rw [f_ (a.mpr e),f_ e]
  ·rw [m_ (fun z=>e (a.mp z)),m_ e]
 ·rw [m_ I,m_ I];unfold enc;rw [Fo];rfl
theorem A4.put (h:A4 ks g) (d:x∈ks) (Y:y∈ks) {v:Int} (J:0<=v) (h1:v<=1000000):A4 ks (oZ g (x,y) v):=fun p I=>by
 unfold oZ at I;split at I
 ·obtain ⟨q,f,rfl⟩:=EX.mp I;obtain ⟨a,b,c⟩:=h q f;split
  ·rename_i e;exact ⟨a,b,J,h1⟩
  ·exact ⟨a,b,c⟩
 ·rcases Fw.mp I with I|I
  ·exact h p I
  ·rw [Fy.mp I];exact ⟨d,Y,J,h1⟩
theorem zg (g:PKs) (k:p_×p_) (v:Int):(oZ g k v).length<=g.length+1/\oZ g k v≠[]:=by
 unfold oZ;split
 ·rename_i h;refine ⟨by simp,fun e=>?_⟩
  rw [IH] at e;subst e;cases h
 ·simp
structure WI (s:WS):Prop where
 kd:s.ks.Nodup
 k6:s.ks.length<=6
 kn:∀k∈s.ks,Nm k
 gi:A4 s.ks s.g
 bi:A4 s.ks s.b
 nm:s.nf.length<=40
 nn:∀p∈s.nf,Nm p.1/\Fl1 s.ks.length p.2
 nd:(s.nf.map (·.1)).Nodup
 cm:s.cs.length<=20
 cl:∀p∈s.cs,St1 p
noncomputable def jB:Bool->Nat
 |true=>2
 |false=>1
def putB:Bool->WS->Int->p_->p_->WS
 |true,s,i,x,y=>{s with b:=oZ s.b (x,y) i}
 |false,s,i,x,y=>{s with g:=oZ s.g (x,y) i}
def gapW (s:WS) (f:Int->p_->p_->WS):List p_->Option WS
 |[x,y,v]=>if x∈s.ks/\y∈s.ks then (match cN v with
  |some i=>if i<=1000000 then a_ (f i x y) else c_
  |none=>c_) else c_
 |_=>c_
def vF (s:WS):List p_->Option WS
 |[x]=>if (r_ (s.ks.length<6)&&jb x&& !decide (x∈s.ks))=d_ then a_ {s with ks:=s.ks++[x]} else c_
 |_=>c_
def hZ (s:WS):List p_->Option WS
 |[x,y]=>match cN x,cN y with
  |some i,a_ j=>if (r_ (s.cs.length<20)&&stB (i,j))=d_ then a_ {s with cs:=s.cs++[(i,j)]} else c_
  |_,_=>c_
 |_=>c_
def jE (s:WS):List p_->Option WS
 |[nm,k,a,b,c,d]=>if (r_ ((s.nf.map (·.1)).length<40)&&(r_ (k∈s.ks)&&(jb nm&& !decide (nm∈s.nf.map (·.1)))))=d_ then (match num4 a b c d with
  |some (a,b,c,d)=>if flB ⟨kI s.ks k,a,b,c,d⟩=d_ then a_ {s with nf:=s.nf++[(nm,⟨kI s.ks k,a,b,c,d⟩)]} else c_
  |none=>c_) else c_
 |_=>c_
def mq (s:WS) (w:p_) (r:List p_):Option WS:=
 if w=wK then vF s r else
 if w=wG then gapW s (putB b_ s) r else
 if w=wB then gapW s (putB d_ s) r else
 if w=wC then hZ s r else
 if w=wF then jE s r else c_
def mV (x:M (Bool×List Dat)) (o:Option WS):Prop:=match o with
 |some s'=>x=.ok (d_,s'.d.D)
 |none=>∃ds,x=.ok (b_,ds)
section
variable (CR CP CS CW CD:e_)
theorem jU {j:Nat} {ds:List Dat}:∃es,(Eo Dat.non:M Dat).bind (qV j ds)=.ok (b_,es):=⟨ds,rfl⟩
theorem m4 {j:Nat} {ds:List Dat}:∃es,(Eo Dat.non:M Dat).bind (Bh j ds)=.ok (b_,es):=⟨ds,rfl⟩
theorem Bz (n:Nat) (s:WS) (I:WI s) (w:p_) (r:List p_) (Y:∀x∈r,WOk x):mV ((bg CR CP CS CW CD n [.lst (s.ks.map .str),.lst ((w::r).map .str)]).bind (qV 0 s.d.D)) (vF s r):=by
 have J:r.length≠1->∃ds,(bg CR CP CS CW CD n [.lst (s.ks.map .str),.lst ((w::r).map .str)]).bind (qV 0 s.d.D)=.ok (b_,ds):=fun h=>by
  rw [se CR CP CS CW CD n (by simp;omega)];exact jU
 unfold vF;split
 ·rename_i x;have e:=si CR CP CS CW CD n (ks:=s.ks) (w:=w) (Y x (by simp));show mV ((bg CR CP CS CW CD n [.lst (s.ks.map .str),.lst [.str w,.str x]]).bind _) _;rw [e];split
  ·have a:s.ks.length<16777216:=by have:=I.k6;omega
   rw [aj];simp [mV,qV,DSt.D,WS.d,gZ,a,Dj I.gi,Dj I.bi]
  ·exact jU
 ·rename_i h;exact J fun z=>by
   match r,z with
   |[x],_=>exact h x rfl
theorem yP (n:Nat) (s:WS) (I:WI s) (b:Bool) (f:s.g.length<10000000/\s.b.length<10000000) (w:p_) (r:List p_) (d:∀x∈r,WOk x):mV ((b6 CR CP CS CW CD n [.lst (s.ks.map .str),.lst ((w::r).map .str)]).bind (Bh (jB b) s.d.D)) (gapW s (putB b s) r):=by
 have Y:r.length≠3->∃ds,(b6 CR CP CS CW CD n [.lst (s.ks.map .str),.lst ((w::r).map .str)]).bind (Bh (jB b) s.d.D)=.ok (b_,ds):=fun h=>by
  rw [uD CR CP CS CW CD n (by simp;omega)];exact m4
 unfold gapW;split
 ·rename_i x y v;have e:=uE CR CP CS CW CD n (ks:=s.ks) (w:=w) (x:=x) (y:=y) (d v (by simp));show mV ((b6 CR CP CS CW CD n [.lst (s.ks.map .str),.lst [.str w,.str x,.str y,.str v]]).bind _) _;rw [e];split
  ·rename_i J;cases hv:cN v with
   |none=>exact m4
   |some i=>
    dsimp only;split
    ·have c:(enc s.ks s.g).length<16777216:=by rw [Dh];omega
     have a:(enc s.ks s.b).length<16777216:=by rw [Dh];omega
     rw [aj];cases b with
     |true=>simp [mV,Bh,jB,putB,DSt.D,WS.d,a,Df J.1 J.2 I.bi]
     |false=>simp [mV,Bh,jB,putB,DSt.D,WS.d,c,Df J.1 J.2 I.gi]
    ·exact m4
  ·exact m4
 ·rename_i h;exact Y fun z=>by
   match r,z with
   |[x,y,v],_=>exact h x y v rfl
theorem wR (n:Nat) (s:WS) (I:WI s) (w:p_) (r:List p_) (Y:∀x∈r,WOk x):mV ((aQ CR CP CS CW CD n [.lst (s.cs.map stD),.lst ((w::r).map .str)]).bind (qV 5 s.d.D)) (hZ s r):=by
 have J:r.length≠2->∃ds,(aQ CR CP CS CW CD n [.lst (s.cs.map stD),.lst ((w::r).map .str)]).bind (qV 5 s.d.D)=.ok (b_,ds):=fun h=>by
  rw [nK CR CP CS CW CD n (by simp;omega)];exact jU
 unfold hZ;split
 ·rename_i x y;have e:=nL CR CP CS CW CD n (cs:=s.cs) (w:=w) (Y x (by simp)) (Y y (by simp)) I.cl I.cm;show mV ((aQ CR CP CS CW CD n [.lst (s.cs.map stD),.lst [.str w,.str x,.str y]]).bind _) _;rw [e];cases ex:cN x with
  |none=>exact jU
  |some i=>
  cases b:cN y with
  |none=>exact jU
  |some j=>
  dsimp only;split
  ·have a:s.cs.length<16777216:=by have:=I.cm;omega
   rw [aj];simp [mV,qV,DSt.D,WS.d,gZ,rK,stD,a]
  ·exact jU
 ·rename_i h;exact J fun z=>by
   match r,z with
   |[x,y],_=>exact h x y rfl
theorem wQ (n:Nat) (s:WS) (I:WI s) (w:p_) (r:List p_) (Y:∀x∈r,WOk x):mV (lB (aT CR CP CS CW CD n) s.d.D ((w::r).map .str)) (jE s r):=by
 have J:aT CR CP CS CW CD n [.lst (s.ks.map .str),.lst ((s.nf.map (·.1)).map .str),.lst ((w::r).map .str)]=.ok .non->∃ds,lB (aT CR CP CS CW CD n) s.d.D ((w::r).map .str)=.ok (b_,ds):=fun h=>by
  refine ⟨s.d.D,?_⟩
  show (aT CR CP CS CW CD n [.lst (s.ks.map .str),.lst ((s.nf.map (·.1)).map .str),.lst ((w::r).map .str)]).bind _=_;rw [h];rfl
 unfold jE;split
 ·rename_i nm k a b c d;have e:=oJ CR CP CS CW CD n (ks:=s.ks) (ns:=s.nf.map (·.1)) (w:=w) (nm:=nm) (k:=k) (Y nm (by simp)) (Y a (by simp)) (Y b (by simp)) (Y c (by simp)) (Y d (by simp));split
  ·rename_i g;rw [f_ g] at e;cases o:num4 a b c d with
   |none=>rw [o] at e;exact J e
   |some p=>
    obtain ⟨l,j,i,d'⟩:=p;rw [o] at e;dsimp only at e ⊢;split
    ·rename_i f;rw [f_ f] at e;have m:s.nf.length<16777216:=by have:=I.nm;omega
     show lB (aT CR CP CS CW CD n) s.d.D ([w,nm,k,a,b,c,d].map .str)=_;show (aT CR CP CS CW CD n [.lst (s.ks.map .str),.lst ((s.nf.map (·.1)).map .str),.lst [.str w,.str nm,.str k,.str a,.str b,.str c,.str d]]).bind _=_;rw [e,aj];have a1:qV 4 s.d.D (flD ⟨kI s.ks k,l,j,i,d'⟩)=.ok (d_,[.lst (s.ks.map .str),.dic (enc s.ks s.g),.dic (enc s.ks s.b),.lst ((s.nf.map (·.1)).map .str),.lst ((s.nf.map (·.2)).map flD++[flD ⟨kI s.ks k,l,j,i,d'⟩]),.lst (s.cs.map stD)]):=by
      simp [qV,DSt.D,WS.d,gZ,rK,flD,m]
     show (qV 4 s.d.D (flD ⟨kI s.ks k,l,j,i,d'⟩)).bind _=_;rw [a1,aj];simp only [J0];rw [show ixD (.lst ([w,nm,k,a,b,c,d].map Dat.str)) (.int 1)=.ok (.str nm) from rfl,aj];simp [qV,DSt.D,WS.d,gZ,m]
    ·rename_i f;rw [m_ f] at e;exact J e
  ·rename_i g;rw [m_ g] at e;exact J e
 ·rename_i h;refine J (oH CR CP CS CW CD n fun z=>?_);have z:r.length=6:=by simpa using z
  match r,z,h with
  |[nm,k,a,b,c,d],_,h=>exact h nm k a b c d rfl
theorem take_any (n:Nat) (s:WS) (I:WI s) (c:s.g.length<10000000/\s.b.length<10000000) (w:p_) (r:List p_) (hw:FD w "#"=b_) (J:∀x∈r,WOk x):mV (bq CR CP CS CW CD n s.d.D ((w::r).map .str)) (mq s w r):=by
 rw [row_way CR CP CS CW CD n s.d w r hw];unfold mq;by_cases h1:w=wK
 ·rw [f_ h1,f_ h1];exact Bz CR CP CS CW CD n s I w r J
 rw [m_ h1,m_ h1];by_cases h2:w=wG
 ·rw [f_ h2,f_ h2];exact yP CR CP CS CW CD n s I b_ c w r J
 rw [m_ h2,m_ h2];by_cases b:w=wB
 ·rw [f_ b,f_ b];exact yP CR CP CS CW CD n s I d_ c w r J
 rw [m_ b,m_ b];by_cases a:w=wC
 ·rw [f_ a,f_ a];exact wR CR CP CS CW CD n s I w r J
 rw [m_ a,m_ a];by_cases Y:w=wF
 ·rw [f_ Y,f_ Y];exact wQ CR CP CS CW CD n s I w r J
 rw [m_ Y,m_ Y];exact ⟨_,rfl⟩
end
theorem CQ (h:r.length≠1):vF s r=c_:=by
 unfold vF;split
 ·exact Ek rfl h
 ·rfl
theorem zL {f:Int->p_->p_->WS} (h:r.length≠3):gapW s f r=c_:=by
 unfold gapW;split
 ·exact Ek rfl h
 ·rfl
theorem yz (h:r.length≠2):hZ s r=c_:=by
 unfold hZ;split
 ·exact Ek rfl h
 ·rfl
theorem yg (h:r.length≠6):jE s r=c_:=by
 unfold jE;split
 ·exact Ek rfl h
 ·rfl
theorem Fl1.up {k:Nat} {f:Fli} (h:Fl1 k f):Fl1 (k+1) f:=⟨h.k0,by have:=h.k1;omega,h.a,h.b,h.c,h.d,h.e⟩
theorem zM (I:WI s) (b:Bool) (h:gapW s (putB b s) r=a_ s'):WI s'/\s'.g.length<=s.g.length+1/\s'.b.length<=s.b.length+1:=by
 unfold gapW at h;split at h
 ·split at h
  ·rename_i J;split at h
   ·rename_i i hv;split at h
    ·rename_i hi;cases h;have Y:=iU hv;cases b with
     |true=>exact ⟨⟨I.kd,I.k6,I.kn,I.gi,I.bi.put J.1 J.2 Y hi,I.nm,I.nn,I.nd,I.cm,I.cl⟩,EK _,(zg _ _ _).1⟩
     |false=>exact ⟨⟨I.kd,I.k6,I.kn,I.gi.put J.1 J.2 Y hi,I.bi,I.nm,I.nn,I.nd,I.cm,I.cl⟩,(zg _ _ _).1,EK _⟩
    ·cases h
   ·cases h
  ·cases h
 ·cases h
theorem uy (I:WI s) (h:mq s w r=a_ s'):WI s'/\s'.g.length<=s.g.length+1/\s'.b.length<=s.b.length+1:=by
 unfold mq at h;split at h
 ·unfold vF at h;split at h
  ·rename_i x;split at h
   ·rename_i Y;cases h;simp only [n_,Et,Jh,decide_eq_false_iff_not] at Y;obtain ⟨⟨h1,h2⟩,l⟩:=Y;refine ⟨⟨?_,by simp;omega,fun k e=>?_,I.gi.app x,I.bi.app x,I.nm,fun p J=>⟨(I.nn p J).1,?_⟩,I.nd,I.cm,I.cl⟩,EK _,EK _⟩
    ·rw [LO];exact ⟨I.kd,by simp,fun a g b f=>by rw [Fy.mp f];exact fun z=>l (z▸g)⟩
    ·rcases Fw.mp e with e|e
     ·exact I.kn k e
     ·rw [Fy.mp e];exact zB h2
    ·have:=(I.nn p J).2.up;simpa using this
   ·cases h
  ·cases h
 split at h
 ·exact zM I b_ h
 split at h
 ·exact zM I d_ h
 split at h
 ·unfold hZ at h;split at h
  ·split at h
   ·rename_i i j _ _;split at h
    ·rename_i Y;cases h;simp only [n_,Et] at Y;refine ⟨⟨I.kd,I.k6,I.kn,I.gi,I.bi,I.nm,I.nn,I.nd,by simp;omega,fun p J=>?_⟩,EK _,EK _⟩
     rcases Fw.mp J with J|J
     ·exact I.cl p J
     ·rw [Fy.mp J];exact yU.mp Y.2
    ·cases h
   ·cases h
  ·cases h
 split at h
 ·unfold jE at h;split at h
  ·rename_i nm k a b c d;split at h
   ·rename_i Y;simp only [n_,Et,Jh,decide_eq_false_iff_not] at Y;obtain ⟨h1,h2,l,n⟩:=Y;split at h
    ·split at h
     ·rename_i m;cases h;refine ⟨⟨I.kd,I.k6,I.kn,I.gi,I.bi,by simp at h1 ⊢;omega,fun p J=>?_,?_,I.cm,I.cl⟩,EK _,EK _⟩
      ·rcases Fw.mp J with J|J
       ·exact I.nn p J
       ·rw [Fy.mp J];exact ⟨zB l,flB_ok m (by simp) (by have:=(vG h2).2.1;simp;omega)⟩
      ·rw [Fo,LO];exact ⟨I.nd,by simp,fun a g b f=>by
        have f:b=nm:=by simpa using f
        rw [f];exact fun z=>n (z▸g)⟩
     ·cases h
    ·cases h
   ·cases h
  ·cases h
 ·cases h
def sV (s:WS):Option WS->Bool×Jst
 |some s'=>(d_,s'.j)
 |none=>(b_,s.j)
theorem iP {m:Int} (J:0<=m):lr x m<0↔¬∃i,cN x=a_ i/\i<=m:=by
 unfold lr;cases h:cN x with
 |none=>simp
 |some k=>
  have:=iU h;dsimp only;by_cases I:m<k
  ·rw [f_ I];simp;omega
  ·rw [m_ I];simp;omega
theorem ee {m:Int} (h:cN x=a_ i) (hi:i<=m):lr x m=i:=by
 unfold lr;rw [h];dsimp only;rw [m_ (by omega)]
section
variable (CR CP CS CW CD:e_)
theorem ix0_t (I:ai 1 ρ=.ok (.lst ((w::r).map .str))):(f2 ixD (ai 1) (fC (.int 0))) ρ=.ok (.str w):=by
 show ((ai 1 ρ).bind fun a=>ixD a (.int 0))=_;rw [I,aj];show eU ((w::r).map Dat.str) 0=_;exact get0
theorem len_t (I:ai 1 ρ=.ok (.lst ((w::r).map .str))):(fL jv (aa (ai 1) aH)) ρ=.ok (.int ((r.length+1:Nat):Int)):=by
 show (((ai 1 ρ).bind fun a=>.ok [a]):M (List Dat)).bind jv=_;rw [I,aj,aj];show Eo (Dat.int (((w::r).map Dat.str).length:Nat))=_;rw [t_];rfl
theorem and_t (I:ai 1 ρ=.ok (.lst ((w::r).map .str))) (x:p_) (m:Nat) (k:Int) (J:k=((m+1:Nat):Int)):(uk (fB (f2 eqM (f2 ixD (ai 1) (fC (.int 0))) (fC (.str x)))) (fB (f2 eqM (fL jv (aa (ai 1) aH)) (fC (.int k))))) ρ=.ok (r_ (w=x/\r.length=m)):=by
 show (((((f2 ixD (ai 1) (fC (.int 0))) ρ).bind fun a=>eqM a (.str x)).bind asB).bind fun b=>if b=d_ then ((((fL jv (aa (ai 1) aH)) ρ).bind fun a=>eqM a (.int k)).bind asB) else .ok b_)=_;rw [ix0_t I,aj,eqS,aj,len_t I,aj,eqI,aj];show (if r_ (w=x)=d_ then Eo (r_ (((r.length+1:Nat):Int)=k)) else Eo b_)=_;by_cases h:w=x<;>by_cases h2:r.length=m
 ·rw [f_ (q_ h),q_ (by omega),q_ ⟨h,h2⟩]
 ·rw [f_ (q_ h),j_ (by omega),j_ (fun z=>h2 z.2)]
 ·rw [m_ (by simpa using h),j_ (fun z=>h z.1)]
 ·rw [m_ (by simpa using h),j_ (fun z=>h z.1)]
theorem and_g (I:ai 1 ρ=.ok (.lst ((w::r).map .str))):(uk (fB (f2 inM (f2 ixD (ai 1) (fC (.int 0))) (fL cy (aa (fC (.str "gap")) (aa (fC (.str "beside")) aH))))) (fB (f2 eqM (fL jv (aa (ai 1) aH)) (fC (.int 4))))) ρ=.ok (r_ ((w=wG\/w=wB)/\r.length=3)):=by
 have Y:(fL cy (aa (fC (.str "gap")) (aa (fC (.str "beside")) aH))) ρ=.ok (.lst ([wG,wB].map .str)):=by
  show cy [.str "gap",.str "beside"]=_;unfold cy;rw [f_ (by show 2<=g_;rw [Er];decide)];rfl
 show (((((f2 ixD (ai 1) (fC (.int 0))) ρ).bind fun a=>((fL cy (aa (fC (.str "gap")) (aa (fC (.str "beside")) aH))) ρ).bind fun b=>inM a b).bind asB).bind fun b=>if b=d_ then ((((fL jv (aa (ai 1) aH)) ρ).bind fun a=>eqM a (.int 4)).bind asB) else .ok b_)=_;rw [ix0_t I,aj,Y,aj,inS,aj,len_t I,aj,eqI,aj];show (if r_ (w∈[wG,wB])=d_ then Eo (r_ (((r.length+1:Nat):Int)=4)) else Eo b_)=_;have J:w∈[wG,wB]↔(w=wG\/w=wB):=by simp
 by_cases h:w=wG\/w=wB<;>by_cases h2:r.length=3
 ·rw [f_ (q_ (J.mpr h)),q_ (by omega),q_ ⟨h,h2⟩]
 ·rw [f_ (q_ (J.mpr h)),j_ (by omega),j_ (fun z=>h2 z.2)]
 ·rw [m_ (fun z=>h (J.mp (GL z))),j_ (fun z=>h z.1)]
 ·rw [m_ (fun z=>h (J.mp (GL z))),j_ (fun z=>h z.1)]
theorem or_f (I:ai 1 ρ=.ok (.lst ((w::r).map .str))):(fOr (fB (f2 neM (f2 ixD (ai 1) (fC (.int 0))) (fC (.str "flight")))) (fB (f2 neM (fL jv (aa (ai 1) aH)) (fC (.int 7))))) ρ=.ok (!decide (w=wF/\r.length=6)):=by
 show (((((f2 ixD (ai 1) (fC (.int 0))) ρ).bind fun a=>neM a (.str wF)).bind asB).bind fun b=>if b=d_ then .ok d_ else ((((fL jv (aa (ai 1) aH)) ρ).bind fun a=>neM a (.int 7)).bind asB))=_;rw [ix0_t I,aj,neS,aj,len_t I,aj,neI,aj];show (if (!decide (w=wF))=d_ then Eo d_ else Eo (!decide (((r.length+1:Nat):Int)=7)))=_;by_cases h:w=wF<;>by_cases h2:r.length=6
 ·rw [q_ h,m_ (by decide),q_ (show ((r.length+1:Nat):Int)=7 by omega),q_ ⟨h,h2⟩]
 ·rw [q_ h,m_ (by decide),j_ (show ¬((r.length+1:Nat):Int)=7 by omega),j_ (fun z=>h2 z.2)]
 ·rw [j_ h,f_ (show (!false)=d_ from rfl),j_ (fun z=>h z.1)];rfl
 ·rw [j_ h,f_ (show (!false)=d_ from rfl),j_ (fun z=>h z.1)];rfl
end
theorem p6:zr (.int 10) (.int 6)=.ok (.int 1000000):=id rfl
theorem p9:zr (.int 10) (.int 9)=.ok (.int 1000000000):=id rfl
theorem min4 (a b c d:Int):minD [.lst [.int a,.int b,.int c,.int d]]=.ok (.int (kj (kj (kj a b) c) d)):=rfl
theorem min4_neg (a b c d:Int):kj (kj (kj a b) c) d<0↔(a<0\/b<0\/c<0\/d<0):=by
 unfold kj;split<;>split<;>split<;>omega
theorem vx {x:Bool×Jst} (h:n<16777216):okJ n x=.ok x:=by
 unfold okJ;rw [f_ (by rw [Er];exact h)]
section
variable (CR CP CS CW CD:e_)
theorem one_kind (n:Nat) (s:WS) (I:WI s) (f:WOk x) :
  ((dR CR CP CS CW CD n (eJ s.j ([w,x].map .str) [c_,c_,c_,c_])).bind fun b=>if b=d_ then Eo (b_,s.j) else (jG CR CP CS CW CD n (eW ([w,x].map .str) [c_,c_,c_,c_])).bind fun d=>okJ s.j.dk.length (d_,{s.j with dk:=s.j.dk++[d]}))=.ok (sV s (vF s [x])):=by
 have e1:=vB CR CP CS CW CD n f;have e2:=inS x s.ks;have a:eU [.str w,.str x] 1=.ok (.str x):=rfl;have g:s.ks.length<16777216:=by have:=I.k6;omega
 unfold vF;cases Y:jb x with
 |false=>
  rw [Y] at e1;simp [dR,eJ,WS.j,a,e1,sV,Y]
 |true=>
  rw [Y] at e1;by_cases J:x∈s.ks
  ·rw [q_ J] at e2;simp [dR,eJ,WS.j,a,e1,e2,sV,J]
  ·rw [j_ J] at e2;by_cases e:s.ks.length<6
   ·have c:¬(5:Int)<(s.ks.length:Int):=by omega
    simp [dR,jG,eJ,eW,WS.j,a,e1,e2,sV,J,e,gtD,c,Y,vx g]
   ·have c:(5:Int)<(s.ks.length:Int):=by omega
    simp [dR,eJ,WS.j,a,e1,e2,sV,J,e,gtD,c]
theorem Cp (n:Nat) (s:WS) (b:Bool) (C:s.g.length<10000000/\s.b.length<10000000) (hw:w=(match b with|true=>wB|false=>wG)) (hv:WOk v) :
  ((iz CR CP CS CW CD n (eW ([w,x,y,v].map .str) [c_,c_,c_,c_])).bind fun c=>(bK CR CP CS CW CD n (eJ s.j ([w,x,y,v].map .str) [a_ c,c_,c_,c_])).bind fun b=>if b=d_ then Eo (b_,s.j) else
   (iy CR CP CS CW CD n (eW ([w,x,y,v].map .str) [a_ c,c_,c_,c_])).bind fun p=>(iw CR CP CS CW CD n (eW ([w,x,y,v].map .str) [a_ c,c_,c_,c_])).bind fun q=>(iu CR CP CS CW CD n (eW ([w,x,y,v].map .str) [a_ c,c_,c_,c_])).bind fun u=>putJ s.j c p q u)=.ok (sV s (gapW s (putB b s) [x,y,v])):=by
 have e1:=iV CR CP CS CW CD n hv 1000000;have m1:=pA x s.ks;have Y:=pA y s.ks;have r:eU [.str w,.str x,.str y,.str v] 0=.ok (.str w):=rfl;have d:eU [.str w,.str x,.str y,.str v] 1=.ok (.str x):=rfl;have g2:eU [.str w,.str x,.str y,.str v] 2=.ok (.str y):=rfl;have o:eU [.str w,.str x,.str y,.str v] 3=.ok (.str v):=rfl;have a1:iz CR CP CS CW CD n (eW ([w,x,y,v].map .str) [c_,c_,c_,c_])=.ok (.int (lr v 1000000)):=by
  simp [iz,eW,o,p6,e1]
 rw [a1,aj];unfold gapW;dsimp only;by_cases I:x∈s.ks/\y∈s.ks
 ·rw [q_ I.1] at m1;rw [q_ I.2] at Y;rw [f_ I];have J:=iP (x:=v) (m:=1000000) (by decide);by_cases e:lr v 1000000<0
  ·have l:=J.mp e;have t4:bK CR CP CS CW CD n (eJ s.j ([w,x,y,v].map .str) [a_ (.int (lr v 1000000)),c_,c_,c_])=.ok d_:=by
    simp [bK,eJ,WS.j,d,g2,m1,Y,ltD,e]
   rw [t4,aj,f_ rfl];cases h:cN v with
   |none=>rfl
   |some i=>
    dsimp only;rw [m_ fun z=>l ⟨i,h,z⟩];rfl
  ·have t4:bK CR CP CS CW CD n (eJ s.j ([w,x,y,v].map .str) [a_ (.int (lr v 1000000)),c_,c_,c_])=.ok b_:=by
    simp [bK,eJ,WS.j,d,g2,m1,Y,ltD,e]
   rw [t4,aj,m_ (by decide)];have j:∃i,cN v=a_ i/\i<=1000000:=EF fun z=>e (J.mpr z);obtain ⟨i,hi,a⟩:=j;have t:=ee hi a;rw [hi];dsimp only;rw [f_ a,t];have B:iy CR CP CS CW CD n (eW ([w,x,y,v].map .str) [a_ (.int i),c_,c_,c_])=.ok (.str w):=by simp [iy,eW,r]
   have A:iw CR CP CS CW CD n (eW ([w,x,y,v].map .str) [a_ (.int i),c_,c_,c_])=.ok (.str x):=by simp [iw,eW,d]
   have a9:iu CR CP CS CW CD n (eW ([w,x,y,v].map .str) [a_ (.int i),c_,c_,c_])=.ok (.str y):=by simp [iu,eW,g2]
   rw [B,aj,A,aj,a9,aj];cases b with
   |false=>
    show (if w=wG then okJ s.g.length (d_,{s.j with g:=oZ s.g (x,y) i}) else _)=_;rw [f_ hw,vx (by omega)];rfl
   |true=>
    show (if w=wG then _ else if w=wB then okJ s.b.length (d_,{s.j with b:=oZ s.b (x,y) i}) else _)=_;have hw:w=wB:=hw;rw [m_ (fun z=>qz.2.2.1 (hw.symm.trans z)),f_ hw,vx (by omega)];rfl
 ·rw [m_ I];have t4:bK CR CP CS CW CD n (eJ s.j ([w,x,y,v].map .str) [a_ (.int (lr v 1000000)),c_,c_,c_])=.ok d_:=by
   by_cases f:x∈s.ks
   ·have k:y∉s.ks:=fun z=>I ⟨f,z⟩;rw [q_ f] at m1;rw [j_ k] at Y;simp [bK,eJ,WS.j,d,g2,m1,Y]
   ·rw [j_ f] at m1;simp [bK,eJ,WS.j,d,m1]
  rw [t4,aj,f_ rfl];rfl
theorem Ax (n:Nat) (s:WS) (I:WI s) (t:WOk x) (r:WOk y) :
  ((gJ CR CP CS CW CD n (eW ([w,x,y].map .str) [c_,c_,c_,c_])).bind fun J=>(gI CR CP CS CW CD n (eW ([w,x,y].map .str) [c_,a_ J,c_,c_])).bind fun o=>(cj CR CP CS CW CD n (eJ s.j ([w,x,y].map .str) [c_,a_ J,a_ o,c_])).bind fun b=>if b=d_ then Eo (b_,s.j) else
   (gH CR CP CS CW CD n (eW ([w,x,y].map .str) [c_,a_ J,a_ o,c_])).bind fun d=>okJ s.j.dc.length (d_,{s.j with dc:=s.j.dc++[d]}))=.ok (sV s (hZ s [x,y])):=by
 have e1:=iV CR CP CS CW CD n t 1000000000;have e2:=iV CR CP CS CW CD n r 1000000000;have v:eU [.str w,.str x,.str y] 1=.ok (.str x):=rfl;have g2:eU [.str w,.str x,.str y] 2=.ok (.str y):=rfl;have a1:gJ CR CP CS CW CD n (eW ([w,x,y].map .str) [c_,c_,c_,c_])=.ok (.int (lr x 1000000000)):=by
  simp [gJ,eW,v,p9,e1]
 have D:∀J,gI CR CP CS CW CD n (eW ([w,x,y].map .str) [c_,a_ J,c_,c_])=.ok (.int (lr y 1000000000)):=fun J=>by
  simp [gI,eW,g2,p9,e2]
 rw [a1,aj,D,aj];have u:s.cs.length<16777216:=by have:=I.cm;omega
 have q:=iP (x:=x) (m:=1000000000) (by decide);have p:=iP (x:=y) (m:=1000000000) (by decide);have t6:cj CR CP CS CW CD n (eJ s.j ([w,x,y].map .str) [c_,a_ (.int (lr x 1000000000)),a_ (.int (lr y 1000000000)),c_])=.ok (r_ (lr x 1000000000<0\/lr y 1000000000<=lr x 1000000000\/19<s.cs.length)):=by
  by_cases h1:lr x 1000000000<0
  ·simp [cj,eJ,WS.j,ltD,h1]
  ·by_cases h2:lr y 1000000000<=lr x 1000000000
   ·simp [cj,eJ,WS.j,ltD,leD,h1,h2]
   ·by_cases l:19<s.cs.length
    ·have g:(19:Int)<(s.cs.length:Int):=by omega
     simp [cj,eJ,WS.j,ltD,leD,gtD,h1,h2,l,g]
    ·have g:¬(19:Int)<(s.cs.length:Int):=by omega
     simp [cj,eJ,WS.j,ltD,leD,gtD,h1,h2,l,g]
 rw [t6,aj];by_cases a:lr x 1000000000<0\/lr y 1000000000<=lr x 1000000000\/19<s.cs.length
 ·rw [q_ a,f_ rfl];have:hZ s [x,y]=c_:=by
   unfold hZ;dsimp only;cases ex:cN x with
   |none=>rfl
   |some i=>
   cases A:cN y with
   |none=>rfl
   |some j=>
   dsimp only;refine m_ fun f=>?_;simp only [n_,Et] at f;obtain ⟨G,F,E,B⟩:=(⟨f.1,yU.mp f.2⟩:s.cs.length<20/\0<=i/\i<j/\j<=1000000000)
   rw [ee ex (by omega),ee A B] at a;omega
  rw [this];rfl
 ·rw [j_ a,m_ (by decide)];simp only [Ku] at a;obtain ⟨b1,b2,b3⟩:=a;obtain ⟨i,hi,e⟩:∃i,cN x=a_ i/\i<=1000000000:=EF fun z=>b1 (q.mpr z);have c:=ee hi e;obtain ⟨j,k,Y⟩:∃j,cN y=a_ j/\j<=1000000000:=EF fun z=>by
   have h1:=p.mpr z;omega
  have h:=ee k Y;rw [c,h] at b2 ⊢;rw [c] at b1;have:hZ s [x,y]=a_ {s with cs:=s.cs++[(i,j)]}:=by
   unfold hZ;dsimp only;rw [hi,k];dsimp only;refine f_ ?_;rw [n_,Et];exact ⟨by omega,yU.mpr ⟨by omega,by omega,Y⟩⟩
  rw [this];have C:gH CR CP CS CW CD n (eW ([w,x,y].map .str) [c_,a_ (.int i),a_ (.int j),c_])=.ok (stD (i,j)):=by
   simp [gH,eW,stD]
  rw [C,aj,vx (by show (s.cs.map stD).length<_;rw [t_];exact u)];simp [sV,WS.j]
theorem Aw (n:Nat) (s:WS) (I:WI s) {k c d:p_} (h1:WOk nm) (ha:WOk a) (hb:WOk b) (hc:WOk c) (hd:WOk d) :
  ((gG CR CP CS CW CD n (eW ([w,nm,k,a,b,c,d].map .str) [c_,c_,c_,c_])).bind fun dn=>
   (eh CR CP CS CW CD n (eJ s.j ([w,nm,k,a,b,c,d].map .str) [c_,c_,c_,a_ dn])).bind fun z=>if z=d_ then Eo (b_,s.j) else
   (gw CR CP CS CW CD n (eJ s.j ([w,nm,k,a,b,c,d].map .str) [c_,c_,c_,a_ dn])).bind fun z=>if z=d_ then Eo (b_,s.j) else
   (cZ CR CP CS CW CD n (eJ s.j ([w,nm,k,a,b,c,d].map .str) [c_,c_,c_,a_ dn])).bind fun z=>if z=d_ then Eo (b_,s.j) else
   (gF CR CP CS CW CD n (eW ([w,nm,k,a,b,c,d].map .str) [c_,c_,c_,a_ dn])).bind fun A=>(gE CR CP CS CW CD n (eJ {s.j with dn:=s.j.dn++[A]} ([w,nm,k,a,b,c,d].map .str) [c_,c_,c_,a_ dn])).bind fun f=>if (gZ f&&r_ (s.j.dn.length<g_))=d_ then okJ s.j.df.length (d_,{s.j with dn:=s.j.dn++[A],df:=s.j.df++[f]}) else stk)=.ok (sV s (jE s [nm,k,a,b,c,d])):=by
 have e5:=vB CR CP CS CW CD n h1;have v1:=iV CR CP CS CW CD n ha 1000000000;have v2:=iV CR CP CS CW CD n hb 1000000000;have v3:=iV CR CP CS CW CD n hc 1000000000;have v4:=iV CR CP CS CW CD n hd 1000000000;have n1:=iP (x:=a) (m:=1000000000) (by decide);have n2:=iP (x:=b) (m:=1000000000) (by decide);have n3:=iP (x:=c) (m:=1000000000) (by decide);have n4:=iP (x:=d) (m:=1000000000) (by decide);have m1:=pA k s.ks;have m2:=inS nm (s.nf.map (·.1));generalize G:lr a 1000000000=e at *;generalize E:lr b 1000000000=Y at *;generalize D:lr c 1000000000=j at *;generalize C:lr d 1000000000=g at *;have a16:gG CR CP CS CW CD n (eW ([w,nm,k,a,b,c,d].map .str) [c_,c_,c_,c_])=.ok (.lst [.int e,.int Y,.int j,.int g]):=by
  have es:dS (.lst [.str w,.str nm,.str k,.str a,.str b,.str c,.str d]) (a_ 3) c_=.ok (.lst [.str a,.str b,.str c,.str d]):=by simp [dS,Bp,cX]
  have cm:ba (.nm 0) ia (fL (b7 CR CP CS CW CD n) (aa (ai 0) (aa (f2 zr (fC (.int 10)) (fC (.int 9))) aH))) [c_] [.str a,.str b,.str c,.str d]=.ok [.int e,.int Y,.int j,.int g]:=by simp [ba,p9,v1,v2,v3,v4]
  simp [gG,eW,es,cm,iF]
 rw [a16,aj];generalize hW:([w,nm,k,a,b,c,d].map Dat.str)=W;have Z:eU W 1=.ok (.str nm):=by rw [<- hW];rfl
 have g2:eU W 2=.ok (.str k):=by rw [<- hW];rfl
 have N:eU [.int e,.int Y,.int j,.int g] 0=.ok (.int e):=rfl;have L:eU [.int e,.int Y,.int j,.int g] 1=.ok (.int Y):=rfl;have q2:eU [.int e,.int Y,.int j,.int g] 2=.ok (.int j):=rfl;have q3:eU [.int e,.int Y,.int j,.int g] 3=.ok (.int g):=rfl;have t8:eh CR CP CS CW CD n (eJ s.j W [c_,c_,c_,a_ (.lst [.int e,.int Y,.int j,.int g])])=.ok (!jb nm||r_ (nm∈s.nf.map (·.1))):=by
  cases S:jb nm with
  |false=>rw [S] at e5;simp [eh,eJ,Z,e5]
  |true=>rw [S] at e5;simp [eh,eJ,WS.j,Z,e5,m2,-El]
 have mn:=min4 e Y j g;have B:=min4_neg e Y j g;have t9:gw CR CP CS CW CD n (eJ s.j W [c_,c_,c_,a_ (.lst [.int e,.int Y,.int j,.int g])])=.ok (!decide (k∈s.ks)||r_ (e<0\/Y<0\/j<0\/g<0)):=by
  by_cases r:k∈s.ks
  ·rw [q_ r] at m1;rw [q_ r];have:r_ (kj (kj (kj e Y) j) g<0)=r_ (e<0\/Y<0\/j<0\/g<0):=by rw [decide_eq_decide];exact B
   show (((f2 gR (f2 ixD (ai 1) (fC (.int 2))) (ai 2)) _).bind asB).bind (fun b=>if b=d_ then .ok d_ else (((fL minD (aa (ai 10) aH)) (eJ s.j W [c_,c_,c_,a_ (.lst [.int e,.int Y,.int j,.int g])])).bind fun x=>ltD x (.int 0)).bind asB)=_;have z1:(f2 gR (f2 ixD (ai 1) (fC (.int 2))) (ai 2)) (eJ s.j W [c_,c_,c_,a_ (.lst [.int e,.int Y,.int j,.int g])])=.ok (.bl b_):=by simp [eJ,WS.j,g2,m1]
   rw [z1];show ((minD [.lst [.int e,.int Y,.int j,.int g]]).bind fun x=>ltD x (.int 0)).bind asB=_;rw [mn,aj];show Eo (r_ (kj (kj (kj e Y) j) g<0))=_;rw [this];rfl
  ·rw [j_ r] at m1;rw [j_ r];simp [gw,eJ,WS.j,g2,m1]
 have t10:cZ CR CP CS CW CD n (eJ s.j W [c_,c_,c_,a_ (.lst [.int e,.int Y,.int j,.int g])])=.ok (r_ (Y<e)||r_ (39<s.nf.length)):=by
  by_cases h:Y<e
  ·simp [cZ,eJ,N,L,gtD,h]
  ·by_cases h2:39<s.nf.length
   ·have X:(39:Int)<(s.nf.length:Int):=by omega
    simp [cZ,eJ,WS.j,N,L,gtD,h,h2,X]
   ·have X:¬(39:Int)<(s.nf.length:Int):=by omega
    simp [cZ,eJ,WS.j,N,L,gtD,h,h2,X]
 rw [t8,aj,t9,aj,t10,aj];unfold jE;dsimp only;cases S:jb nm with
 |false=>simp [sV]
 |true=>
 by_cases hm:nm∈s.nf.map (·.1)
 ·rw [q_ hm];simp [sV]
 rw [j_ hm];by_cases r:k∈s.ks
 rotate_left
 ·rw [j_ r];simp [sV]
 rw [q_ r];by_cases h4:s.nf.length<40
 rotate_left
 ·have:r_ ((s.nf.map (·.1)).length<40)=b_:=j_ (by simpa using h4);rw [this,q_ (show 39<s.nf.length by omega)];by_cases J:e<0\/Y<0\/j<0\/g<0
  ·rw [q_ J];simp [sV]
  ·rw [j_ J];simp [sV]
 have U:r_ ((s.nf.map (·.1)).length<40)=d_:=q_ (by simpa using h4);rw [U,j_ (show ¬39<s.nf.length by omega)];by_cases J:e<0\/Y<0\/j<0\/g<0
 ·rw [q_ J];have R:∀p,num4 a b c d=a_ p->flB ⟨kI s.ks k,p.1,p.2.1,p.2.2.1,p.2.2.2⟩=b_:=fun p O=>by
   unfold num4 at O;split at O
   ·rename_i o l q d' y v u t;cases O;cases H:flB ⟨kI s.ks k,o,l,q,d'⟩ with
    |false=>rfl
    |true=>
     have F:=flB_ok (k:=kI s.ks k+1) H (by simp) (by simp;omega);have f1:=F.a;have f2:=F.b;have f3:=F.c;have f4:=F.d;have f5:=F.e;dsimp only at f1 f2 f3 f4 f5;exfalso;rcases J with h|h|h|h
     ·exact n1.mp h ⟨o,y,by omega⟩
     ·exact n2.mp h ⟨l,v,by omega⟩
     ·exact n3.mp h ⟨q,u,by omega⟩
     ·exact n4.mp h ⟨d',t,by omega⟩
   ·cases O
  cases hq:num4 a b c d with
  |none=>simp [sV]
  |some p=>
   obtain ⟨o,l,q,d'⟩:=p;have:=R _ hq;dsimp only at this;simp [sV,this]
 rw [j_ J];simp only [Ku] at J;obtain ⟨i1,i2,i3,i4⟩:=J;obtain ⟨o,y,ya⟩:∃i,cN a=a_ i/\i<=1000000000:=EF fun z=>i1 (n1.mpr z);obtain ⟨l,v,yb⟩:∃i,cN b=a_ i/\i<=1000000000:=EF fun z=>i2 (n2.mpr z);obtain ⟨q,u,yc⟩:∃i,cN c=a_ i/\i<=1000000000:=EF fun z=>i3 (n3.mpr z);obtain ⟨d',t,yd⟩:∃i,cN d=a_ i/\i<=1000000000:=EF fun z=>i4 (n4.mpr z);rw [ee y ya] at G;rw [ee v yb] at E;rw [ee u yc] at D;rw [ee t yd] at C;subst G E D C;have T:num4 a b c d=a_ (o,l,q,d'):=by unfold num4;rw [y,v,u,t]
 rw [T];dsimp only;have f1:=iU y;have f2:=iU v;have f3:=iU u;have f4:=iU t;by_cases K:l<o
 ·have H:flB ⟨kI s.ks k,o,l,q,d'⟩=b_:=by
   unfold flB;rw [j_ (show ¬o<=l by omega)];rfl
  rw [q_ K];simp [sV,H]
 ·have H:flB ⟨kI s.ks k,o,l,q,d'⟩=d_:=by
   unfold flB rgB;simp only [n_,Et];omega
  rw [j_ K];have hl:s.nf.length<16777216:=by omega
  have x1:=(vG r).1;have a20:gF CR CP CS CW CD n (eW W [c_,c_,c_,a_ (.lst [.int o,.int l,.int q,.int d'])])=.ok (.str nm):=by simp [gF,eW,Z]
  have a21:gE CR CP CS CW CD n (eJ {s.j with dn:=s.j.dn++[.str nm]} W [c_,c_,c_,a_ (.lst [.int o,.int l,.int q,.int d'])])=.ok (flD ⟨kI s.ks k,o,l,q,d'⟩):=by
   simp [gE,eJ,WS.j,g2,N,L,q2,q3,x1,gN,isL,flD]
  simp only [Kb,Mx,IU,K3];rw [a20,aj,a21,aj];have P:s.j.dn.length<g_:=by rw [Er];show ((s.nf.map (·.1)).map Dat.str).length<_;simpa using hl
  have Q:s.j.df.length<16777216:=by show ((s.nf.map (·.2)).map flD).length<_;simpa using hl
  have ff:gZ (flD ⟨kI s.ks k,o,l,q,d'⟩)=d_:=rfl;rw [f_ (by rw [ff,q_ P];rfl),vx Q];simp [sV,H,WS.j]
end
section
variable (CR CP CS CW CD:e_)
theorem len0 {r:List α} (h:r.length=0):r=[]:=G7.mp h
theorem Bj {r:List α} (h:r.length=n+1):∃x t,r=x::t/\t.length=n:=by
 cases r with
 |nil=>cases h
 |cons x t=>exact ⟨x,t,rfl,by simpa using h⟩
theorem one_any (n:Nat) (s:WS) (I:WI s) (p:s.g.length<10000000/\s.b.length<10000000) (w:p_) (r:List p_) (J:∀x∈r,WOk x):eX CR CP CS CW CD n s.j ((w::r).map .str)=.ok (sV s (mq s w r)):=by
 have Y:∀ρ,ai 1 (eJ s.j ((w::r).map .str) ρ)=.ok (.lst ((w::r).map .str)):=fun ρ=>rfl;unfold eX oneD;dsimp only;have H:mY CR CP CS CW CD n (eJ s.j ((w::r).map .str) [c_,c_,c_,c_])=.ok (r_ (w=wK/\r.length=1)):=and_t (Y _) wK 1 2 rfl;have G:mX CR CP CS CW CD n (eJ s.j ((w::r).map .str) [c_,c_,c_,c_])=.ok (r_ ((w=wG\/w=wB)/\r.length=3)):=and_g (Y _);have F:lD CR CP CS CW CD n (eJ s.j ((w::r).map .str) [c_,c_,c_,c_])=.ok (r_ (w=wC/\r.length=2)):=and_t (Y _) wC 2 3 rfl;have E:lC CR CP CS CW CD n (eJ s.j ((w::r).map .str) [c_,c_,c_,c_])=.ok (!decide (w=wF/\r.length=6)):=or_f (Y _);rw [H,aj];by_cases h1:w=wK/\r.length=1
 ·rw [q_ h1,f_ rfl];obtain ⟨x,r',rfl,e⟩:=Bj h1.2;cases len0 e;have:=one_kind CR CP CS CW CD n s I (w:=w) (J x (by simp));unfold mq;rw [f_ h1.1];exact this
 rw [j_ h1,m_ (by decide),G,aj];by_cases f:(w=wG\/w=wB)/\r.length=3
 ·rw [q_ f,f_ rfl];obtain ⟨x,o,rfl,e⟩:=Bj f.2;obtain ⟨y,r2,rfl,g⟩:=Bj e;obtain ⟨v,t,rfl,m⟩:=Bj g;cases len0 m;have D:w≠wK:=fun z=>f.1.elim (fun u=>qz.1 (u.symm.trans z)) fun u=>qz.2.1 (u.symm.trans z);unfold mq;rw [m_ D];by_cases l:w=wG
  ·rw [f_ l];exact Cp CR CP CS CW CD n s b_ p (x:=x) (y:=y) l (J v (by simp))
  ·have q:w=wB:=f.1.elim (fun u=>Ek u l) id;rw [m_ l,f_ q];exact Cp CR CP CS CW CD n s d_ p (x:=x) (y:=y) q (J v (by simp))
 rw [j_ f,m_ (by decide),F,aj];by_cases j:w=wC/\r.length=2
 ·rw [q_ j,f_ rfl];obtain ⟨x,o,rfl,e⟩:=Bj j.2;obtain ⟨y,r2,rfl,g⟩:=Bj e;cases len0 g;have z:=j.1;unfold mq;rw [m_ (fun u=>qz.2.2.2.1 (z.symm.trans u)),m_ (fun u=>qz.2.2.2.2.1 (z.symm.trans u)),m_ (fun u=>qz.2.2.2.2.2.1 (z.symm.trans u)),f_ z];exact Ax CR CP CS CW CD n s I (J x (by simp)) (J y (by simp))
 rw [j_ j,m_ (by decide),E,aj];by_cases i:w=wF/\r.length=6
 ·rw [q_ i,m_ (by decide)];obtain ⟨nm,o,rfl,e⟩:=Bj i.2;obtain ⟨k,r2,rfl,g⟩:=Bj e;obtain ⟨a,t,rfl,m⟩:=Bj g;obtain ⟨b,N,rfl,C⟩:=Bj m;obtain ⟨c,L,rfl,B⟩:=Bj C;obtain ⟨d,K,rfl,A⟩:=Bj B;cases len0 A;have z:=i.1;unfold mq;rw [m_ (fun u=>qz.2.2.2.2.2.2.1 (z.symm.trans u)),m_ (fun u=>qz.2.2.2.2.2.2.2.1 (z.symm.trans u)),m_ (fun u=>qz.2.2.2.2.2.2.2.2.1 (z.symm.trans u)),m_ (fun u=>qz.2.2.2.2.2.2.2.2.2 (z.symm.trans u)),f_ z];exact Aw CR CP CS CW CD n s I (J nm (by simp)) (J a (by simp)) (J b (by simp)) (J c (by simp)) (J d (by simp))
 rw [j_ i,f_ (show (!false)=d_ from rfl)];have:mq s w r=c_:=by
  unfold mq;split
  ·rename_i h;exact CQ fun z=>h1 ⟨h,z⟩
  split
  ·rename_i h;exact zL fun z=>f ⟨.inl h,z⟩
  split
  ·rename_i h;exact zL fun z=>f ⟨.inr h,z⟩
  split
  ·rename_i h;exact yz fun z=>j ⟨h,z⟩
  split
  ·rename_i h;exact yg fun z=>i ⟨h,z⟩
  ·rfl
 rw [this];rfl
end
def rowW (s:WS) (x:p_):Option WS:=match j3 x with
 |[]=>a_ s
 |w::r=>if FD w "#"=d_ then a_ s else mq s w r
def wH:Nat->List p_->WS->Sum Nat WS
 |_,[],s=>.inr s
 |k,x::xs,s=>match rowW s x with
  |some s'=>wH (k+1) xs s'
  |none=>.inl k
theorem zd (I:WI s) (h:rowW s x=a_ s'):WI s'/\s'.g.length<=s.g.length+1/\s'.b.length<=s.b.length+1:=by
 unfold rowW at h;split at h
 ·cases h;exact ⟨I,EK _,EK _⟩
 ·split at h
  ·cases h;exact ⟨I,EK _,EK _⟩
  ·exact uy I h
theorem wX {c:Nat} {r:List Nat} (e:w.cps.toList=c::r):FD w "#"=r_ (c=35):=by
 have h1:(h_ "#")=⟨#[35]⟩:=by decide +kernel
 rw [h1];obtain ⟨⟨l⟩⟩:=w;cases (show l=c::r from e);unfold FD;simp [Builtin.Str.subAt,Str.length];rfl
section
variable (CR CP CS CW CD:e_)
theorem BA (n:Nat) (s:WS) (hw:FD w "#"=d_):bq CR CP CS CW CD n s.d.D ((w::r).map .str)=.ok (d_,s.d.D):=by
 have t:(fOr (fB (f2 eqM (ai 1) (fL cy aH))) (k7 (fSM my (f2 ixD (ai 1) (fC (.int 0))) (fC (.str "#"))))) [c_,a_ (.lst ((w::r).map .str))]=.ok d_:=by
  have I:eU ((w::r).map Dat.str) 0=.ok (.str w):=get0;have e:eqM (.lst ((w::r).map Dat.str)) (.lst [])=.ok (.bl b_):=by
   have h1:okE (.lst ((w::r).map Dat.str)) 40=d_:=kE (w::r) 39;show (if (okE (.lst ((w::r).map Dat.str)) 40&&okE (.lst []) 40)=d_ then _ else _)=_;rw [f_ (by rw [h1];rfl)];rfl
  simp [e,I,hw,-Eh]
 unfold bq mv;show ((fOr _ _ _).bind _)=_;rw [t];rfl
theorem row_prog (n:Nat) (s:WS) (I:WI s) (c:s.g.length<10000000/\s.b.length<10000000) (b:x.length<=1000000):mV (bq CR CP CS CW CD n s.d.D ((j3 x).map .str)) (rowW s x):=by
 have J:=uv b;unfold rowW;cases hw:j3 x with
 |nil=>exact row_none CR CP CS CW CD n s.d
 |cons w r=>
  rw [hw] at J;dsimp only;cases Y:FD w "#" with
  |true=>rw [f_ rfl];exact BA CR CP CS CW CD n s Y
  |false=>rw [m_ (by decide)];exact take_any CR CP CS CW CD n s I c w r Y fun y a=>J y (by simp [a])
theorem uW (n:Nat):∀(xs:List p_) (k:Nat) (s:WS),WI s->(∀x∈xs,x.length<=1000000)->s.g.length+xs.length<10000000->s.b.length+xs.length<10000000 ->
  mB CW "row" (bq CR CP CS CW CD n) (eY CR CP CS CW CD n) k (xs.map .str) s.d.D=(match wH k xs s with
   |.inl m=>.error (.exc CW [("row",.int (m:Nat))])
   |.inr s'=>.ok s'.d.D)
 |[],k,s,_,_,_,_=>rfl
 |x::xs,k,s,I,Y,h1,h2=>by
  simp only [Ex] at h1 h2;have hw:=Bt CR CP CS CW CD n (Y x (by simp));have J:=row_prog CR CP CS CW CD n s I ⟨by omega,by omega⟩ (Y x (by simp));show ((noX (eY CR CP CS CW CD n [.str x])).bind _)=_;rw [hw];show ((noX (bq CR CP CS CW CD n s.d.D ((j3 x).map .str))).bind _)=_;unfold wH;cases a:rowW s x with
  |none=>
   rw [a] at J;obtain ⟨ds,e⟩:=J;rw [e];rfl
  |some s'=>
   rw [a] at J;have e:bq CR CP CS CW CD n s.d.D ((j3 x).map .str)=.ok (d_,s'.d.D):=J;rw [e];obtain ⟨c,d,g2⟩:=zd I a;exact uW n xs (k+1) s' c (fun y b=>Y y (by simp [b])) (by omega) (by omega)
theorem zb (n:Nat) (J:List p_) (a:∀x∈J,x.length<=1000000) (B:J.length<=1000001):∀(m k:Nat) (s:WS),WI s->k+m=J.length->s.g.length+m<10000000->s.b.length+m<10000000 ->
  nY (eX CR CP CS CW CD n) (bZ CR CP CS CW CD n) (bY CR CP CS CW CD n) (aZ CR CP CS CW CD n) (bU CR CP CS CW CD n) (J.map .str) m k s.j=.ok (match wH (k+1) (J.drop k) s with
   |.inl q=>.inl (.int (q:Nat))
   |.inr s'=>.inr s'.j)
 |0,k,s,_,A,_,_=>by
  rw [Ks (by omega)];rfl
 |m+1,k,s,I,A,h1,h2=>by
  have b:k<J.length:=by omega
  rw [Gd b];have d:J[k].length<=1000000:=a _ (FY b);have hw:=AL CR CP CS CW CD n d;have f:=uv d;have C:eU (J.map Dat.str) (k:Int)=.ok (.str J[k]):=by
   have:=lS (ds:=J.map Dat.str) (k:=k) (by simpa using b);rw [this];simp
  have fw:bZ CR CP CS CW CD n (eK (J.map .str) k c_)=.ok (.lst ((j3 J[k]).map .str)):=by
   simp [bZ,eK,C,hw]
  have Y:∀s',WI s'->s'.g.length<=s.g.length+1->s'.b.length<=s.b.length+1->_:=fun s' j o g2=>zb n J a B m (k+1) s' j (by omega) (by omega) (by omega)
  unfold nY wH;rw [fw,aj];dsimp only;unfold rowW;cases g:j3 J[k] with
  |nil=>
   have t3:aZ CR CP CS CW CD n (eK (J.map .str) k (a_ (.lst [])))=.ok b_:=by
    have e:neM (.lst []) (.lst [])=.ok (.bl b_):=rfl;simp [aZ,eK,e]
   show ((aZ CR CP CS CW CD n (eK (J.map .str) k (a_ (.lst [])))).bind _)=_;rw [t3,aj,m_ (by decide)];exact Y s I (EK _) (EK _)
  |cons w r=>
   rw [g] at f;have t3:aZ CR CP CS CW CD n (eK (J.map .str) k (a_ (.lst ((w::r).map .str))))=.ok d_:=by
    have e:neM (.lst ((w::r).map Dat.str)) (.lst [])=.ok (.bl d_):=by
     have h1:okE (.lst ((w::r).map Dat.str)) 40=d_:=kE (w::r) 39;show (if (okE (.lst ((w::r).map Dat.str)) 40&&okE (.lst []) 40)=d_ then _ else _)=_;rw [f_ (by rw [h1];rfl)];rfl
    simp [aZ,eK,e,-Eh]
   rw [t3,aj,f_ rfl];obtain ⟨t,E⟩:=f w (by simp);cases i:w.cps.toList with
   |nil=>exact Ek i t
   |cons c q=>
   have v:=ix0' i (show w.length<=16777216 by omega);have p:(h_ "#")=⟨#[35]⟩:=by decide +kernel
   have D:eU ((w::r).map Dat.str) 0=.ok (.str w):=get0;have e1:neM (.str ⟨#[c]⟩) (.str "#")=.ok (.bl (!decide (c=35))):=by
    rw [p,neS]
    congr 3
    rw [decide_eq_decide];constructor
    ·intro h;have:=GN Str.cps h;simpa using this
    ·intro h;rw [h]
   have t4:bU CR CP CS CW CD n (eK (J.map .str) k (a_ (.lst ((w::r).map .str))))=.ok (!decide (c=35)):=by
    simp [bU,eK,D,v,e1,-Eh]
   rw [t4,aj];dsimp only;rw [wX i];by_cases l:c=35
   ·rw [q_ l,m_ (by decide),f_ rfl];exact Y s I (EK _) (EK _)
   ·rw [j_ l,f_ (show (!false)=d_ from rfl),m_ (by decide),one_any CR CP CS CW CD n s I ⟨by omega,by omega⟩ w r fun y u=>f y (by simp [u]),aj];cases z:mq s w r with
    |some s'=>
     obtain ⟨j,o,g2⟩:=uy I z;exact (f_ rfl).trans (Y s' j o g2)
    |none=>
     have fr:bY CR CP CS CW CD n (eK (J.map .str) k (a_ (.lst ((w::r).map .str))))=.ok (.int ((k+1:Nat):Int)):=by
      simp [bY,eK]
     refine (m_ (show ¬(b_=d_) by decide)).trans ?_;rw [fr,aj]
end
noncomputable def w0:WS:=⟨[],[],[],[],[]⟩
theorem Bu:WI w0:=⟨.nil,by decide,by simp [w0],fun _ h=>(nomatch h),fun _ h=>(nomatch h),by decide,by simp [w0],.nil,by decide,by simp [w0]⟩
def tbW (ks:List p_) (g:PKs):List (List Int):=ks.map fun x=>ks.map fun y=>(wI g (x,y)).getD 0
def WS.sh (s:WS):Sht:=⟨s.ks,tbW s.ks s.g,if s.b.isEmpty=d_ then c_ else a_ (tbW s.ks s.b),s.nf,s.cs⟩
theorem getP_in (h:A4 ks g) (k:p_×p_):0<=(wI g k).getD 0/\(wI g k).getD 0<=1000000:=by
 unfold wI;cases e:g.find? fun p=>r_ (p.1=k) with
 |none=>simp
 |some p=>exact (h p (List.mem_of_find?_eq_some e)).2.2
theorem yO (h:A4 ks g):dJ ks.length (tbW ks g):=by
 refine ⟨by unfold tbW;simp,fun r I=>?_⟩
 obtain ⟨x,_,rfl⟩:=EX.mp I;refine ⟨by simp,fun v hv=>?_⟩
 obtain ⟨y,_,rfl⟩:=EX.mp hv;exact getP_in h _
theorem tbW_tb (Y:ks.Nodup) (h:A4 ks g):Tb ks.length (enc ks g) (tR (tbW ks g)):=fun a c J I=>by
 have d:kI ks ks[a]=a:=by unfold kI;rw [idx_at Y J];rfl
 have b:kI ks ks[c]=c:=by unfold kI;rw [idx_at Y I];rfl
 have e:=yi (FY J) (FY I) h;rw [d,b] at e;rw [e];have:tR (tbW ks g) a c=(wI g (ks[a],ks[c])).getD 0:=by
  show uX ((tbW ks g).getD a []) c=_;unfold uX tbW;simp [List.getD_eq_getElem?_getD,J,I]
 rw [this];cases wI g (ks[a],ks[c])<;>rfl
theorem WS.sg (I:WI s) (J:s.ks≠[]):s.sh.SG where
 k1:=List.length_pos_iff.mpr J
 k6:=I.k6
 kn:=I.kn
 kd:=I.kd
 rows:=yO I.gi
 o:=fun r2 h=>by
  have h:(if s.b.isEmpty=d_ then c_ else a_ (tbW s.ks s.b))=a_ r2:=h;split at h
  ·cases h
  ·cases h;exact yO I.bi
 nm:=I.nm
 nn:=I.nn
 nd:=I.nd
 cm:=I.cm
 cl:=I.cl
theorem WS.desc (I:WI s):Desc s.d s.sh where
 ks:=rfl
 nf:=rfl
 cs:=rfl
 g:=tbW_tb I.kd I.gi
 b0:=fun h=>by
  have h:(if s.b.isEmpty=d_ then c_ else a_ (tbW s.ks s.b))=c_:=h;split at h
  ·rename_i J;have:s.b=[]:=by simpa using J
   show enc s.ks s.b=[]
   rw [this];rfl
  ·cases h
 b1:=fun r2 h=>by
  have h:(if s.b.isEmpty=d_ then c_ else a_ (tbW s.ks s.b))=a_ r2:=h;split at h
  ·cases h
  ·rename_i J;cases h;refine ⟨fun e=>J ?_,tbW_tb I.kd I.bi⟩
   have e:enc s.ks s.b=[]:=e;unfold enc at e;rw [IH] at e;rw [e];rfl
theorem o8:∀(xs:List p_) (k:Nat) (s:WS),WI s->∀s',wH k xs s=.inr s'->WI s'
 |[],_,s,I,s',h=>by cases h;exact I
 |x::xs,k,s,I,s',h=>by
  unfold wH at h;cases J:rowW s x with
  |none=>rw [J] at h;cases h
  |some Y=>rw [J] at h;exact o8 xs (k+1) Y (zd I J).1 s' h
theorem BB (ks:List p_) (g:PKs):tabJ g ks=aW (tbW ks g):=by
 unfold tabJ aW tbW;rw [El]
 congr 1
 refine FU fun x _=>?_;show rowJ g ks x=oW _;unfold rowJ oW;rw [El];rfl
section
variable (CR CP CS CW CD:e_)
def dueW (x:p_):Dat:=match wH 1 (cx x) w0 with
 |.inl q=>.int (q:Nat)
 |.inr s=>if s.ks=[] then .int 0 else s.sh.D
theorem AQ (n:Nat) (k:x.length<=1000000):gD CR CP CS CW CD n [.str x]=.ok (dueW x):=by
 obtain ⟨h1,h2,l⟩:=zc x;have c:(h_ "\n").length=1:=by decide +kernel
 have b:x.length+2<=16777216:=by omega
 have f0:eG CR CP CS CW CD n (eT x)=.ok (.lst ((cx x).map .str)):=by
  simp [eG,eT,c,b,cx]
 have J:=zb CR CP CS CW CD n (cx x) (fun y f=>by have:=h2 y f;omega) (by omega) (cx x).length 0 w0 Bu (by omega) (by show 0+_<_;omega) (by show 0+_<_;omega);rw [IB] at J;have a:rB (eX CR CP CS CW CD n) (eG CR CP CS CW CD n) (bZ CR CP CS CW CD n) (bY CR CP CS CW CD n) (hG CR CP CS CW CD n) (aZ CR CP CS CW CD n) (bU CR CP CS CW CD n) (eo CR CP CS CW CD n) x=.ok (dueW x):=by
  unfold rB;rw [f0,aj];dsimp only;rw [f_ (by rw [Er,t_];omega),t_];have J:nY (eX CR CP CS CW CD n) (bZ CR CP CS CW CD n) (bY CR CP CS CW CD n) (aZ CR CP CS CW CD n) (bU CR CP CS CW CD n) ((cx x).map .str) (cx x).length 0 s0J=_:=J;rw [J,aj];unfold dueW;cases g:wH 1 (cx x) w0 with
  |inl q=>rfl
  |inr s=>
   dsimp only;have I:=o8 _ _ _ Bu s g;have e4:eo CR CP CS CW CD n (eM s.j c_)=.ok (r_ (s.ks=[])):=by
    have e:eqM (.lst (s.ks.map Dat.str)) (.lst [])=.ok (.bl (r_ (s.ks=[]))):=by
     have h1:okE (.lst (s.ks.map Dat.str)) 40=d_:=kE s.ks 39;show (if (okE (.lst (s.ks.map Dat.str)) 40&&okE (.lst []) 40)=d_ then _ else _)=_;rw [f_ (by rw [h1];rfl)];cases s.ks<;>rfl
    simp [eo,eM,WS.j,e]
   rw [e4,aj];by_cases Y:s.ks=[]
   ·rw [q_ Y,f_ rfl,f_ Y]
   ·rw [j_ Y,m_ (by decide),m_ Y];rw [show gr s.j.dk=.ok s.ks from gN s.ks,aj,f_ (by rw [Er];have:=I.k6;omega)];have j:xV s.j s.ks=[aW (tbW s.ks s.g),s.sh.bD]:=by
     unfold xV;rw [BB,BB];show [aW (tbW s.ks s.g),if s.b.isEmpty=d_ then Dat.non else aW (tbW s.ks s.b)]=_;unfold Sht.bD WS.sh;cases s.b.isEmpty<;>rfl
    rw [j];have i:eU [aW (tbW s.ks s.g),s.sh.bD] 0=.ok (aW (tbW s.ks s.g)):=rfl;have h:eU [aW (tbW s.ks s.g),s.sh.bD] 1=.ok s.sh.bD:=rfl;simp [hG,eM,WS.j,i,h,Sht.D,Sht.kD,Sht.nD,Sht.fD,Sht.cD,-El];exact ⟨rfl,rfl,rfl,rfl,rfl⟩
 show (((rB _ _ _ _ _ _ _ _ x).bind fun d=>Eo (Flo.rt d)).bind _)=_;rw [a];rfl
theorem read_any (Y:CR≠CP) (n:Nat) (u:x.length<=1000000):cR CR CP CS CW CD n [.str x]=(match wH 1 (cx x) w0 with
  |.inl q=>.error (.exc CW [("row",.int (q:Nat))])
  |.inr s=>if s.ks=[] then .error (.exc CW [("row",.int 0)]) else .ok (s.sh.obj CR CP CS)):=by
 obtain ⟨h1,h2,v⟩:=zc x;have l:(h_ "\n").length=1:=by decide +kernel
 have k:x.length+2<=16777216:=by omega
 have o:(fSM mZ (ai 0) (fC (.str "\n"))) [a_ (.str x),c_,c_,c_]=.ok (.lst ((cx x).map .str)):=by
  simp [l,k,cx]
 have g:=uW CR CP CS CW CD n (cx x) 1 w0 Bu (fun y m=>by have:=h2 y m;omega) (by show 0+_<_;omega) (by show 0+_<_;omega);have b:il CR CP CS CW CD n [a_ (.str x),c_,c_,c_]=(match wH 1 (cx x) w0 with
  |.inl q=>.error (.exc CW [("row",.int (q:Nat))])
  |.inr s=>if s.ks=[] then .error (.exc CW [("row",.int 0)]) else .ok (.rt (s.sh.obj CR CP CS))):=by
  unfold il oV;refine (f_ (show (r_ (1<4)&&r_ (2<4)&&r_ (3<4))=d_ from rfl)).trans ?_;show (noX ((fSM mZ (ai 0) (fC (.str "\n"))) [a_ (.str x),c_,c_,c_])).bind _=_;rw [o];show (mB CW "row" _ _ 1 ((cx x).map .str) ds0).bind _=_;have g:mB CW "row" (bq CR CP CS CW CD n) (eY CR CP CS CW CD n) 1 ((cx x).map .str) ds0=_:=g;rw [g];cases i:wH 1 (cx x) w0 with
  |inl q=>rfl
  |inr s=>
   have I:=o8 _ _ _ Bu s i;dsimp only;rw [aj];obtain ⟨a1,z,w,f,d,c⟩:=dr_at (CD:=CD) s.d;have a1:bA [CD] "kinds" (drD CD s.d.D)=.ok (.lst (s.ks.map .str)):=a1;have e:eqM (.lst (s.ks.map Dat.str)) (.lst [])=.ok (.bl (r_ (s.ks=[]))):=by
    have h1:okE (.lst (s.ks.map Dat.str)) 40=d_:=kE s.ks 39;show (if (okE (.lst (s.ks.map Dat.str)) 40&&okE (.lst []) 40)=d_ then _ else _)=_;rw [f_ (by rw [h1];rfl)];cases s.ks<;>rfl
   by_cases J:s.ks=[]
   ·rw [q_ J] at e;rw [f_ J];have a:bP CR CP CS CW CD n [a_ (.str x),a_ (drD CD s.d.D),c_,c_]=.error (.exc CW [("row",.int 0)]):=by
     simp [bP,a1,e]
    rw [m5];show ((bP CR CP CS CW CD n [a_ (.str x),a_ (drD CD s.d.D),c_,c_]).bind _)=_;rw [a];rfl
   ·rw [j_ J] at e;rw [m_ J];have a:bP CR CP CS CW CD n [a_ (.str x),a_ (drD CD s.d.D),c_,c_]=.ok (.nx [a_ (.str x),a_ (drD CD s.d.D),c_,c_]):=by
     simp [bP,a1,e]
    have h:=WS.sg I J;have r:=B2 (CR:=CR) (CP:=CP) (CS:=CS) (CW:=CW) (CD:=CD) n h (WS.desc I);have p:=text_ok CR CP CS CW CD Y n h.good;have t:newS CS (dD CR CP CS CW CD n) [.lst (s.ks.map .str),s.sh.ru CR CP,.lst ((s.nf.map (·.1)).map .str),.lst ((s.nf.map (·.2)).map flD),.lst (s.cs.map stD)]=.ok (s.sh.obj CR CP CS):=by
     show (dD CR CP CS CW CD n [s.sh.kD,s.sh.ru CR CP,s.sh.nD,s.sh.fD,s.sh.cD]).bind _=_;rw [p];rfl
    have f:bA [CD] "names" (drD CD s.d.D)=.ok (.lst ((s.nf.map (·.1)).map .str)):=f;have d:bA [CD] "flights" (drD CD s.d.D)=.ok (.lst ((s.nf.map (·.2)).map flD)):=d;have c:bA [CD] "closed" (drD CD s.d.D)=.ok (.lst (s.cs.map stD)):=c;rw [m5];show ((bP CR CP CS CW CD n [a_ (.str x),a_ (drD CD s.d.D),c_,c_]).bind _)=_;rw [a,aj];have j:(cK (fL (newS CS (dD CR CP CS CW CD n)) (aa (f1 (bA [CD] "kinds") (ai 1)) (aa (fL (bV CR CP CS CW CD n) (aa (ai 1) aH)) (aa (f1 (bA [CD] "names") (ai 1)) (aa (f1 (bA [CD] "flights") (ai 1)) (aa (f1 (bA [CD] "closed") (ai 1)) aH))))))) [a_ (.str x),a_ (drD CD s.d.D),c_,c_]=.ok (.rt (s.sh.obj CR CP CS)):=by
     simp [a1,f,d,c,r,t,-El]
    show noX (cK _ [a_ (.str x),a_ (drD CD s.d.D),c_,c_])=_;rw [j];rfl
 unfold cR;rw [e_run];rw [f_ (show [Dat.str x].length=1 from rfl)];show ((il CR CP CS CW CD n [a_ (.str x),c_,c_,c_]).bind _)=_;rw [b];cases i:wH 1 (cx x) w0 with
 |inl q=>rfl
 |inr s=>
  dsimp only;by_cases J:s.ks=[]
  ·rw [f_ J,f_ J];rfl
  ·rw [m_ J,m_ J];rfl
end
section
variable (CR CP CS CW CD:e_)
theorem told_any (Y:CR≠CP) (n:Nat) (e:x.length<=1000000):dN CR CP CS CW CD n [.str x]=.ok (match wH 1 (cx x) w0 with
  |.inl q=>.lst [.non,.int (q:Nat),.bl d_,.bl d_,.bl b_]
  |.inr s=>if s.ks=[] then .lst [.non,.int 0,.bl d_,.bl d_,.bl b_] else .lst [s.sh.obj CR CP CS]):=by
 have I:=read_any CR CP CS CW CD Y n e;have J:∀q:Int,cR CR CP CS CW CD n [.str x]=.error (.exc CW [("row",.int q)])->dN CR CP CS CW CD n [.str x]=.ok (.lst [.non,.int q,.bl d_,.bl d_,.bl b_]):=fun q h=>by
  have b:eQ CR CP CS CW CD n [a_ (.str x),a_ (.lst []),c_]=.ok (.nx [a_ (.str x),a_ (.lst [.non,.int q,.bl d_,.bl d_,.bl b_]),c_]):=by
   unfold eQ;rw [rL (f:=("row",.int q)) (fs:=[]) (by
    show (((cR CR CP CS CW CD n [.str x]).bind fun a=>Eo [a]).bind cy).bind _=_;rw [h];rfl)]
   rw [e_xToldN];rfl
  simp [dN,kW,b]
 cases c:wH 1 (cx x) w0 with
 |inl q=>rw [c] at I;exact J _ I
 |inr s=>
  rw [c] at I;dsimp only at I ⊢;by_cases d:s.ks=[]
  ·rw [f_ d] at I ⊢;exact J _ I
  ·rw [m_ d] at I ⊢;have b:eQ CR CP CS CW CD n [a_ (.str x),a_ (.lst []),c_]=.ok (.nx [a_ (.str x),a_ (.lst [s.sh.obj CR CP CS]),c_]):=by
    unfold eQ;exact vS (by
     show (((cR CR CP CS CW CD n [.str x]).bind fun a=>Eo [a]).bind cy).bind _=_;rw [I,aj,aj];unfold cy;rw [f_ (by show 1<=g_;rw [Er];decide)];rfl)
   simp [dN,kW,b]
theorem uY (a:CR≠CP) (n:Nat) (g:x.length<=1000000):bM CR CP CS CW CD n [.str x]=.ok (.bl d_):=by
 have J:=AQ CR CP CS CW CD n g;have Y:=told_any CR CP CS CW CD a n g;unfold dueW at J;have b:∀q:Int,gD CR CP CS CW CD n [.str x]=.ok (.int q)->dN CR CP CS CW CD n [.str x]=.ok (.lst [.non,.int q,.bl d_,.bl d_,.bl b_])->bM CR CP CS CW CD n [.str x]=.ok (.bl d_):=fun q h1 h2=>by
  have e:eqM (.lst [.non,.int q,.bl d_,.bl d_,.bl b_]) (.lst [.non,.int q,.bl d_,.bl d_,.bl b_])=.ok (.bl d_):=x3 rfl;have j:eU [.non,.int q,.bl d_,.bl d_,.bl b_] 1=.ok (.int q):=rfl;have w1:cS CR CP CS CW CD n [.int q]=.ok (.bl d_):=by simp [cS,jA,iI]
  have f:dH CR CP CS CW CD n [a_ (.str x),a_ (.int q),a_ (.lst [.non,.int q,.bl d_,.bl d_,.bl b_])]=.ok (.rt (.bl d_)):=by
   simp [dH,e,j,w1,iI]
  simp [bM,jC,h1,h2,f]
 cases c:wH 1 (cx x) w0 with
 |inl q=>rw [c] at J Y;exact b _ J Y
 |inr s=>
  rw [c] at J Y;dsimp only at J Y;by_cases d:s.ks=[]
  ·rw [f_ d] at J Y;exact b _ J Y
  ·rw [m_ d] at J Y;have I:=o8 _ _ _ Bu s c;have h:=WS.sg I d;have l:=is_ok CR CP CS CW CD a n h.good;have i:ij s.sh.D=.ok (.bl b_):=rfl;have e1:eqM (.int 1) (.int 1)=.ok (.bl d_):=x3 rfl;have k:eU [s.sh.obj CR CP CS] 0=.ok (s.sh.obj CR CP CS):=rfl;have f:dH CR CP CS CW CD n [a_ (.str x),a_ s.sh.D,a_ (.lst [s.sh.obj CR CP CS])]=.ok (.nx [a_ (.str x),a_ s.sh.D,a_ (.lst [s.sh.obj CR CP CS])]):=by
    simp [dH,i]
   simp [bM,jC,J,Y,f,e1,k,l,iI]
end
theorem ixS_at (Y:0<=i) {c:Nat} (h:z.cps.toList[i.toNat]? =a_ c) (I:z.length<=100):AR (.str z) (.int i)=.ok (.str ⟨#[c]⟩):=by
 have J:z.length<=g_:=EJ I (by decide);have b:=(A1.mp h).1;have a:atI z.cps.toList i=a_ c:=by
  unfold atI ixN;rw [f_ (show 0<=i from Y),f_ (by omega)];exact h
 show (if z.length<=g_ then (match atI z.cps.toList i with
  |some c=>Eo (Dat.str ⟨#[c]⟩)
  |none=>stk) else stk)=_
 rw [f_ J,a]
theorem addS (h:a.length+b.length<=16777216):gL (.str a) (.str b)=.ok (.str (a++b)):=by
 show (if a.length+b.length<=g_ then _ else _)=_;rw [f_ (by rw [Er];exact h)]
theorem xY (Y:0<=i) (h1:i<z.length) (I:z.length<=100):∃c,AR (.str z) (.int i)=.ok (.str ⟨#[c]⟩):=by
 have J:i.toNat<z.cps.toList.length:=by
  have:z.length=z.cps.toList.length:=rfl;omega
 exact ⟨z.cps.toList[i.toNat],ixS_at Y (Ez J) I⟩
theorem BM (h:i.natAbs<10^13):(gV i).length<=14:=by
 unfold gV;rw [Kn];exact L_ (k:=13) (by decide) h
theorem BL (h:i.natAbs<10^13):i.natAbs.log2<1920:=by
 by_cases I:i.natAbs=0
 ·rw [I];decide
 ·exact (Lg I).mpr (Em h (EJ (show 10^13<=2^44 by decide) (Lf (by decide) (by decide))))
section
variable (CR CP CS CW CD:e_)
theorem anm_body (n:Nat) {j x:Int} {T:p_} (q:0<=x) (h1:x<2305843009213693951) (p:T.length<=90):∃(y:Int) (c:Nat),(0<=y/\y<2305843009213693951)/\bo CR CP CS CW CD n [a_ (.int x),a_ (.str LD),a_ (.str T),a_ (.int j)]=.ok (.nx [a_ (.int y),a_ (.str LD),a_ (.str (T++(⟨#[c]⟩:p_))),a_ (.int j)]):=by
 have J: -18446744073709551616<x:=by omega
 have I:x<18446744073709551616:=by omega
 obtain ⟨y,f,d,b⟩:∃y,(x*x+69621*x+j)%2305843009213693951=y/\0<=y/\y<2305843009213693951:=⟨_,rfl,Iu _ (by decide),HP _ (by decide)⟩
 have m:=LD_len;have o:(h_ "AZ_-.").length=5:=by decide +kernel
 have Y:∀c:Nat,gL (.str T) (.str ⟨#[c]⟩)=.ok (.str (T++(⟨#[c]⟩:p_))):=fun c=>addS (by show T.length+1<=_;omega);by_cases l:y%16=3
 ·obtain ⟨c,a⟩:=xY (z:=h_ "AZ_-.") (i:=y/64%5) (by omega) (by omega) (by omega);have e:=eqI (y%16) 3;rw [q_ l] at e;exact ⟨y,c,⟨d,b⟩,by simp [bo,cg,J,I,f,e,a,Y]⟩
 ·have e:=eqI (y%16) 3;rw [j_ l] at e;by_cases k:j=0/\0<y%8
  ·obtain ⟨c,a⟩:=xY (z:=LD) (i:=y/64%26) (by omega) (by omega) (by omega);have e2:=eqI j 0;rw [q_ k.1] at e2;have h:=k.2;exact ⟨y,c,⟨d,b⟩,by simp [bo,cg,dj,J,I,f,e,e2,gtD,h,a,Y]⟩
  ·obtain ⟨c,a⟩:=xY (z:=LD) (i:=y/64%36) (by omega) (by omega) (by omega);have e2:=eqI j 0;by_cases g:j=0
   ·rw [q_ g] at e2;have h:¬0<y%8:=fun z=>k ⟨g,z⟩;exact ⟨y,c,⟨d,b⟩,by simp [bo,cg,dj,J,I,f,e,e2,gtD,h,a,Y]⟩
   ·rw [j_ g] at e2;exact ⟨y,c,⟨d,b⟩,by simp [bo,cg,dj,J,I,f,e,e2,a,Y]⟩
theorem A3 (n:Nat):∀(r:Nat) (j x:Int) (T:p_) (I:Option Dat),0<=x->x<2305843009213693951->T.length+r<=90->∃(a:Int) (J:p_) (Y:Option Dat),J.length=T.length+r/\mi (.nm 3) (bo CR CP CS CW CD n) (cP j r) [a_ (.int x),a_ (.str LD),a_ (.str T),I]=.ok (.nx [a_ (.int a),a_ (.str LD),a_ (.str J),Y])
 |0,j,x,T,I,_,_,h=>⟨x,T,I,rfl,rfl⟩
 |r+1,j,x,T,I,g,h1,k=>by
  obtain ⟨y,c,⟨d,b⟩,f⟩:=anm_body CR CP CS CW CD n (j:=j) g h1 (T:=T) (by omega);have i:(T++(⟨#[c]⟩:p_)).length=T.length+1:=su _ _;obtain ⟨a,J,Y,q,e⟩:=A3 n r (j+1) y (T++(⟨#[c]⟩:p_)) (a_ (.int j)) d b (by omega);refine ⟨a,J,Y,by omega,?_⟩
  rw [xp,mi,e_bnm,aj];simp only [Ly,Lx];rw [f,aj];exact e
theorem yG (n:Nat) (x:Int) (J:0<=x) (h1:x<2305843009213693951):∃s:p_,s.length<=20/\bW CR CP CS CW CD n [.int x]=.ok (.str s):=by
 obtain ⟨r,g,Y⟩:∃r:Nat,r<=10/\(x/8%11:Int)=r:=⟨(x/8%11).toNat,by omega,by omega⟩
 have I: -4611686018427387904<=(r:Int):=by omega
 have r2:(r:Int)<4611686018427387904:=by omega
 have c:(h_ "").length=0:=by decide +kernel
 obtain ⟨f,b,d,q,e⟩:=A3 CR CP CS CW CD n r 0 x (h_ "") c_ J h1 (by omega);have a:(h_ "abcdefghijklmnopqrstuvwxyz0123456789")=LD:=rfl;exact ⟨b,by omega,by simp [bW,jD,a,Y,I,r2,e]⟩
theorem ui (n:Nat) (x:Int) (y:0<=x) (h1:x<2305843009213693951):∃s:p_,s.length<=30/\aP CR CP CS CW CD n [.int x]=.ok (.str s):=by
 have I:zr (.int 10) (.int 12)=.ok (.int 1000000000000):=rfl;have d:∀(m v:Int),0<=v->v<10^13->∃s:p_,s.length<=30/\((bG CR CP CS CW CD n [a_ (.int x),a_ (.int m),a_ (.int v)]=.ok (.rt (.str s)))\/(bG CR CP CS CW CD n [a_ (.int x),a_ (.int m),a_ (.int v)]=.ok (.nx [a_ (.int x),a_ (.int m),a_ (.int v)])/\strD [.int v]=.ok (.str s))):=fun m v f v1=>by
  have w:=BM (i:=v) (by omega);have l:=BL (i:=v) (by omega);have es:strD [.int v]=.ok (.str (gV v)):=by rw [e_strD,f_ l]
  have e:=eqI (x%5) 0;by_cases o:x%5=0
  ·rw [q_ o] at e;obtain ⟨k,k1,k2,ek⟩:∃k:Int,1<=k/\k<=3/\1+x/1024%3=k:=⟨_,by omega,by omega,rfl⟩
   have r:(h_ "0").length=1:=by decide +kernel
   have c:∃t:p_,t.length<=3/\mulSD (.str "0") (.int k)=.ok (.str t):=by
    refine ⟨KI "0" k,?_,by rw [e_mulSD,f_ ⟨by omega,by omega,by omega⟩]⟩
    have:k=1\/k=2\/k=3:=by omega
    rcases this with rfl|rfl|rfl<;>decide +kernel
   obtain ⟨t,u,p⟩:=c;have q:=addS (a:=t) (b:=gV v) (by omega);refine ⟨t++gV v,by rw [su];omega,.inl ?_⟩
   simp [bG,e,ek,p,l,q]
  ·rw [j_ o] at e;exact ⟨gV v,by omega,.inr ⟨by simp [bG,e],es⟩⟩
 obtain ⟨m,c,e1⟩:∃m:Int,(m=1000000\/m=1000000000)/\eU [.int 1000000,.int 1000000000] (x/8%2)=.ok (.int m):=by
  have:x/8%2=0\/x/8%2=1:=by omega
  rcases this with h|h<;>rw [h]
  ·exact ⟨_,.inl rfl,rfl⟩
  ·exact ⟨_,.inr rfl,rfl⟩
 have Y:m≠0:=by omega
 obtain ⟨v,f,v1,e2⟩:∃v:Int,0<=v/\v<10^13/\eU [.int m,.int (m-1),.int (m+1),.int (x/64%m),.int (x/64%1000000000000),.int 0] (x/16%6)=.ok (.int v):=by
  have j:=Iu (x/64) Y;have J:=HP (x/64) (show 0<m by omega);have:x/16%6=0\/x/16%6=1\/x/16%6=2\/x/16%6=3\/x/16%6=4\/x/16%6=5:=by omega
  rcases this with h|h|h|h|h|h<;>rw [h]
  ·exact ⟨_,by omega,by omega,rfl⟩
  ·exact ⟨_,by omega,by omega,rfl⟩
  ·exact ⟨_,by omega,by omega,rfl⟩
  ·exact ⟨_,by omega,by omega,rfl⟩
  ·exact ⟨_,by omega,by omega,rfl⟩
  ·exact ⟨_,by omega,by omega,rfl⟩
 have fd:qx (.int (x/64)) (.int m)=.ok (.int (x/64%m)):=by
  rcases c with rfl|rfl<;>simp
 obtain ⟨s,g,h|⟨h,h'⟩⟩:=d m v f v1
 ·exact ⟨s,g,by simp [aP,fq,p6,p9,I,e1,e2,fd,h]⟩
 ·exact ⟨s,g,by simp [aP,fq,p6,p9,I,e1,e2,fd,h,h',-e_strD]⟩
end
theorem zF (I:p_):∀xs:List p_,(FE I xs).length<=(xs.map (·.length)).sum+xs.length*I.length
 |[]=>FX _
 |[a]=>by rw [join_one];simp
 |a::b::r=>by
  have J:=zF I (b::r);rw [zE,su,su];simp only [Eh,List.sum_cons,Ex,Nat.add_mul] at J ⊢;omega
section
variable (CR CP CS CW CD:e_)
theorem Aj (I:CR≠CP) (n:Nat) {rs:List p_} (h:∀r∈rs,r.length<=1000) (Y:rs.length<=100):nX (.str "\n") (.lst (rs.map .str))=.ok (.str (FE "\n" rs))/\bM CR CP CS CW CD n [.str (FE "\n" rs)]=.ok (.bl d_):=by
 have h1:=lenLe rs 1000 h;have J:(h_ "\n").length=1:=by decide +kernel
 have h2:=zF (h_ "\n") rs;rw [J] at h2;refine ⟨?_,uY CR CP CS CW CD I n (by omega)⟩
 rw [Dk,gN,aj,f_ (by rw [Er,J];omega)]
def TxE (f:ah->M Dat) (ρ:ah) (l:Nat):Prop:=∃s:p_,s.length<=l/\f ρ=.ok (.str s)
theorem TxE.c (h:r_ (x.length<=l)=d_:=by decide +kernel):TxE (fC (.str x)) ρ l:=⟨x,GL h,rfl⟩
theorem TxE.add {g:ah->M Dat} {a b:Nat} (h1:TxE f ρ a) (h2:TxE g ρ b) (Y:(a+b<=1000)⁻¹):TxE (f2 gL f g) ρ (a+b):=by
 obtain ⟨s,J,es⟩:=h1;obtain ⟨t,lt,I⟩:=h2;refine ⟨s++t,by rw [su];omega,?_⟩
 show ((f ρ).bind fun a=>(g ρ).bind fun b=>gL a b)=_;rw [es,I];exact addS (by omega)
theorem TxE.call {m:List Dat->M Dat} {ys:List Int} (i:Nat) (I:ρ[2]? =a_ (a_ (.lst (ys.map .int)))) (hi:i<ys.length) (P:Int->Prop) (Y:∀y∈ys,P y) (b:∀y,P y->∃s:p_,s.length<=l/\m [.int y]=.ok (.str s)):TxE (fL m (aa (f2 ixD (ai 2) (fC (.int i))) aH)) ρ l:=by
 obtain ⟨s,J,es⟩:=b _ (Y _ (FY hi));refine ⟨s,J,?_⟩
 have c:i<(ys.map Dat.int).length:=by rw [t_];exact hi
 have e:=lS c;rw [LY] at e;show (((match ρ[2]? with|some (a_ d)=>.ok d|_=>.error .stuck:M Dat).bind fun a=>ixD a (.int i)).bind fun a=>.ok [a]).bind m=_;rw [I];show ((eU (ys.map .int) i).bind fun a=>.ok [a]).bind m=_;rw [e];exact es
theorem sv {i:Nat} {d:Dat} (e:f (erase O ρ)=.ok d):cF (bH O i f) h ρ=h (ρ.set i (a_ d)):=by
 show (((f (erase O ρ)).bind _).bind _)=_;rw [e];rfl
theorem wZ {i:Nat} {rs:List p_} (I:ρ[i]? =a_ (a_ (.lst (rs.map .str)))) (e:f (erase O ρ)=.ok (.str x)) (J:rs.length<1000):cF (nO O i f) h ρ=h (ρ.set i (a_ (.lst ((rs++[x]).map .str)))):=by
 show (((match ρ[i]? with|some (a_ (.lst ds))=>.ok ds|_=>.error .stuck:M (List Dat)).bind _).bind _)=_;rw [I,Fo];show ((f (erase O ρ)).bind _).bind _=_;rw [e];show ((if (rs.map Dat.str).length<g_ then _ else _:M Flo).bind _)=_;rw [f_ (by rw [Er,t_];omega)];rfl
theorem three {g h:ah->M Dat} {a b c:Dat} (e1:f ρ=.ok a) (e2:g ρ=.ok b) (e3:h ρ=.ok c):fL cy (aa f (aa g (aa h aH))) ρ=.ok (.lst [a,b,c]):=by
 show (((f ρ).bind fun a=>(((g ρ).bind fun b=>(((h ρ).bind fun c=>.ok [c])).bind fun r=>.ok (b::r))).bind fun r=>.ok (a::r)).bind cy)=_;rw [e1,e2,e3];rfl
theorem seq_nx {g:ah->M Flo} (e:g ρ=.ok (.nx ρ)):cF g h ρ=h ρ:=by
 show (g ρ).bind _=_;rw [e];rfl
theorem zH {g:ah->M Flo} (e:f ρ=.ok (.bl d_)):sIf (pN (k7 f)) g cO ρ=.ok (.nx ρ):=by
 show ((((f ρ).bind truD).bind fun b=>.ok (!b)).bind _)=_;rw [e];rfl
theorem wx (I:CR≠CP) (n:Nat) {rs:List p_} (h:∀r∈rs,r.length<=1000) (J:rs.length<=100) (e:f ρ=.ok (.lst (rs.map .str))):fL (bM CR CP CS CW CD n) (aa (fSM nX (fC (.str "\n")) f) aH) ρ=.ok (.bl d_):=by
 obtain ⟨j,t⟩:=Aj CR CP CS CW CD I n h J;show ((((f ρ).bind fun b=>nX (.str "\n") b)).bind fun a=>.ok [a]).bind _=_;rw [e];show ((nX (.str "\n") (.lst (rs.map .str))).bind fun a=>.ok [a]).bind _=_;rw [j];exact t
theorem cut_one {rs:List p_} {a:Nat} (h:a<rs.length):dS (.lst (rs.map .str)) (a_ (a:Int)) (a_ ((a:Int)+1))=.ok (.lst ([rs[a]].map .str)):=by
 have h1:cX (rs.map Dat.str).length 0 (a_ (a:Int))=a:=by
  show (if (a:Int)<0 then ((a:Int)+((rs.map Dat.str).length:Nat)).toNat else min (a:Int).toNat (rs.map Dat.str).length)=_;rw [m_ (by omega),t_];omega
 have h2:cX (rs.map Dat.str).length (rs.map Dat.str).length (a_ ((a:Int)+1))=a+1:=by
  show (if (a:Int)+1<0 then ((a:Int)+1+((rs.map Dat.str).length:Nat)).toNat else min ((a:Int)+1).toNat (rs.map Dat.str).length)=_;rw [m_ (by omega),t_];omega
 show (.ok (.lst (Bp (rs.map Dat.str) (a_ (a:Int)) (a_ ((a:Int)+1)))):M Dat)=_;rw [Bp,h1,h2,<- List.map_drop,<- List.map_take,Nat.add_sub_cancel_left,Gd h];rfl
theorem law_body (q:CR≠CP) (n:Nat) (ns:List Int) (w:ns.length<=63) (k:Nat) (hk:k<12) (T E A t:Option Dat):∃b2 b3 S R:Option Dat,yD CR CP CS CW CD n [a_ (.lst (ns.map .int)),a_ (.int k),T,E,A,t]=.ok (.nx [a_ (.lst (ns.map .int)),a_ (.int k),b2,b3,S,R]):=by
 obtain ⟨ys,I,c,P⟩:=zY (p:=.nm 0) (fe:=fL (d7 CR CP CS CW CD n) (aa (ai 1) (aa (f2 gL (f2 gL (fC (.int 500)) (f2 Bi (fC (.int 10)) (ai 2))) (ai 0)) aH))) (ρ0:=[c_,a_ (.lst (ns.map .int)),a_ (.int k)]) (fun y=>0<=y/\y<2305843009213693921) (cP 0 10) fun d hd=>by
  obtain ⟨i,hi,hd⟩:=II hd;have z:(cP 0 10)[i]? =a_ d:=by rw [Ez hi,hd]
  obtain ⟨hi,rfl⟩:=mC z;obtain ⟨y,e,p⟩:=Cy CR CP CS CW CD n ns w (500+10*k+i) (by omega) (by omega);exact ⟨[a_ (.int i),a_ (.lst (ns.map .int)),a_ (.int k)],y,rfl,e,p⟩
 rw [Ak] at I;have I:ys.length=10:=I;have o:∀y,(0<=y/\y<2305843009213693921)->∃s:p_,s.length<=30/\aP CR CP CS CW CD n [.int y]=.ok (.str s):=fun y p=>ui CR CP CS CW CD n y p.1 (by omega);have F:∀y,(0<=y/\y<2305843009213693921)->∃s:p_,s.length<=20/\bW CR CP CS CW CD n [.int y]=.ok (.str s):=fun y p=>yG CR CP CS CW CD n y p.1 (by omega)
 let ρ:ah:=[a_ (.lst (ns.map .int)),a_ (.int k),a_ (.lst (ys.map .int)),E,A,t]
 obtain ⟨J,l1,e1⟩:=TxE.add (ρ:=ρ) (TxE.c (x:="kind ") (l:=5)) (TxE.call 0 rfl (by rw [I];decide) _ c F);obtain ⟨r2,l2,e2⟩:=TxE.add (ρ:=ρ) (TxE.c (x:="gap a a ") (l:=8)) (TxE.call 1 rfl (by rw [I];decide) _ c o)
 let ρ:ah:=[a_ (.lst (ns.map .int)),a_ (.int k),a_ (.lst (ys.map .int)),c_,A,t]
 obtain ⟨Y,Z,e3⟩:=TxE.add (ρ:=ρ) (((TxE.c (x:="closed ") (l:=7)).add (TxE.call 2 rfl (by rw [I];decide) _ c o)).add (TxE.c (x:=" ") (l:=1))) (TxE.call 3 rfl (by rw [I];decide) _ c o);obtain ⟨v,K,e4⟩:=TxE.call (ρ:=ρ) (ys:=ys) 4 rfl (by rw [I];decide) _ c F
 let ρ:ah:=[a_ (.lst (ns.map .int)),a_ (.int k),a_ (.lst (ys.map .int)),c_,a_ (.str v),t]
 obtain ⟨f,X,e5⟩:=TxE.add (ρ:=ρ) (((TxE.c (x:="flight ") (l:=7)).add (g:=ai 4) ⟨v,K,rfl⟩).add (TxE.c (x:=" a 0 ") (l:=5)) |>.add (TxE.call 5 rfl (by rw [I];decide) _ c o)) (TxE.c (x:=" 0 0") (l:=4));obtain ⟨m,W,Q⟩:=TxE.add (ρ:=ρ) (((TxE.c (x:="flight b a 0 5 ") (l:=15)).add (TxE.call 6 rfl (by rw [I];decide) _ c o)).add (TxE.c (x:=" ") (l:=1))) (TxE.call 7 rfl (by rw [I];decide) _ c o);have H:(h_ "kind a").length<=1000:=by decide +kernel
 have C:∀r∈[h_ "kind a",J,r2,Y,f,m],r.length<=1000:=by
  intro r h;simp only [v_,EO,G1] at h;rcases h with rfl|rfl|rfl|rfl|rfl|rfl<;>omega
 have D:8<ys.length:=by rw [I];decide
 obtain ⟨u,G,U⟩:∃y:Int,eU (ys.map .int) 8=.ok (.int y)/\0<=y:=by
  have e:=lS (ds:=ys.map .int) (k:=8) (by rw [t_];exact D);rw [LY] at e;exact ⟨_,e,(c _ (FY D)).1⟩
 obtain ⟨j,N,B⟩:∃j:Nat,u/8%6=j/\j<6:=⟨(u/8%6).toNat,by omega,by omega⟩
 have L:=C _ (FY (l:=[h_ "kind a",J,r2,Y,f,m]) (n:=j) B);have O:=cut_one (rs:=[h_ "kind a",J,r2,Y,f,m]) (a:=j) B;refine ⟨a_ (.lst (ys.map .int)),a_ (.lst ([h_ "kind a",J,r2,Y,f,m].map .str)),a_ (.str v),a_ (.int j),?_⟩
 refine (sv (d:=.lst (ys.map .int)) ?_).trans ?_
 ·show (ba (.nm 0) ia _ [c_,a_ (.lst (ns.map .int)),a_ (.int k)] (cP 0 10)).bind _=_;rw [P];rfl
 refine (sv (d:=.lst ([h_ "kind a",J,r2].map .str)) ?_).trans ?_
 ·exact three (a:=.str "kind a") rfl e1 e2
 refine (wZ (rs:=[h_ "kind a",J,r2]) rfl e3 (by decide:3<1000)).trans ?_;refine (sv e4).trans ?_;refine (wZ (rs:=[h_ "kind a",J,r2,Y]) rfl e5 (by decide:4<1000)).trans ?_;refine (wZ (rs:=[h_ "kind a",J,r2,Y,f]) rfl Q (by decide:5<1000)).trans ?_;refine (seq_nx (zH (wx CR CP CS CW CD q n (rs:=[h_ "kind a",J,r2,Y,f,m]) C (by decide:6<=100) rfl))).trans ?_;refine (sv (d:=.int j) ?_).trans ?_
 ·show ((((eU (ys.map .int) 8).bind _)).bind _)=_;rw [G];show (.ok (.int (u/8%6)):M Dat)=_;rw [N]
 refine zH (wx CR CP CS CW CD q n (rs:=[h_ "kind a",[h_ "kind a",J,r2,Y,f,m][j]]) ?_ (by decide:2<=100) ?_)
 ·intro r h;simp only [v_,EO,G1] at h;rcases h with rfl|rfl
  ·exact H
  ·exact L
 ·show ((dS (.lst ([h_ "kind a",J,r2,Y,f,m].map .str)) c_ (a_ 1)).bind fun a=>(dS (.lst ([h_ "kind a",J,r2,Y,f,m].map .str)) (a_ (j:Int)) (a_ ((j:Int)+1))).bind fun b=>gL a b)=_;rw [O];rfl
theorem law_true (a:CR≠CP):∀ns:List Int,ns.length<=63->∃n,m_law CR CP CS CW CD n [.lst (ns.map .int)]=.ok (.bl d_):=by
 intro ns Y;refine ⟨64,?_⟩
 obtain ⟨m,l,c⟩:∃m:Nat,m<=12/\tE 1 (kj 12 (ns.length:Int))=m:=by
  unfold tE kj;split<;>split<;>first|exact ⟨12,by decide,rfl⟩|exact ⟨1,by decide,rfl⟩|exact ⟨ns.length,by omega,rfl⟩|(exfalso;omega)
 have b: -4611686018427387904<=(m:Int):=by omega
 have r2:(m:Int)<4611686018427387904:=by omega
 obtain ⟨ρ',e,b1,b2,b3,J,I,rfl⟩:=zO (p:=.nm 1) (g:=yD CR CP CS CW CD 64)
  (fun _ ρ=>∃b1 b2 b3 J I:Option Dat,ρ=[a_ (.lst (ns.map .int)),b1,b2,b3,J,I]) (cP 0 m) 0 [a_ (.lst (ns.map .int)),c_,c_,c_,c_,c_] ⟨c_,c_,c_,c_,c_,rfl⟩ (by
  rintro i d ρ hd ⟨b1,b2,b3,J,I,rfl⟩;obtain ⟨hi,rfl⟩:=mC hd;obtain ⟨k,j,h,f,e⟩:=law_body CR CP CS CW CD a 64 ns Y i (by omega) b2 b3 J I;exact ⟨_,by simp,_,.inl e,a_ (.int i),k,j,h,f,rfl⟩)
 simp [m_law,g_law,c,b,r2,e]
end
theorem fin_mk {w:Fu} {K:Fg} {h:EY} {fa CR:e_} (_:K.In h) (_:h.Ns EG mg) (I:mg "law"=a_ (.ref fa)) (Z:Zs K mg CR CP CS CW CD AStripError ANoRow ANoRules ANoTime ANoPlace ANotFree ATooMany ANoPlan) :
  ∃fd:Gf,(∀(s:z_) (v:l_),Jf s fd ⟨[v],[]⟩ [("_law_script",v)])/\∀base:EY,K.In base->base.Ns EG mg->i9 P w K mg base CX0 11 fa fd ["_law_script"] (spLaw K):=by
 obtain ⟨f,fd,D,J⟩:=Z.d_law;have e:=I.symm.trans D.mg;cases e;refine ⟨fd,J,fun base _ _=>law_ok (ro:=b_) (mlaw:=m_law CR CP CS CW CD) (fun n=>?_) (law_true CR CP CS CW CD Z.ne)⟩
 obtain ⟨a,fd',Y⟩:=ok_law (n:=n) (P:=P) (w:=w) (base:=base) Z;have e:=D.mg.symm.trans Y.d.mg;cases e;rw [D.fn.uniq Y.d.fn];exact Y.o
theorem walk {l:IY} {q:Fp} {I:List p_} {i:(Mq)->EY->Prop} {Y:Fu->EY->Prop} {d:DefRec} {K:Params->Fg} (b:l.most=a_ 63) (J:d.params.defaults=[])
  (e:∀(w:Fu) (h:EY),Y w h->(K w.params).In h)
  (F:∀(w:Fu) (mg:Mq) (fa:e_) (h:EY),(K w.params).In h->h.Ns EG mg->mg d.name=a_ (.ref fa) ->
   ∃fd:Gf,(∀(s:z_) (u:l_),Jf s fd ⟨[u],[]⟩ [("_law_script",u)])/\∀base:EY,(K w.params).In base->base.Ns EG mg->i9 l.prog w (K w.params) mg base CX0 11 fa fd ["_law_script"] (spLaw (K w.params))) :
  Lb q I i Y l.row.toRowW d [] (fun f vs=>Hw f vs):=
 L2.walk_of (n:=63) (k:=11) (x:="_law_script") (CX:=fun _=>CX0) (sp:=fun w=>spLaw (K w.params)) b (by decide) J ⟨rfl,by decide,by decide⟩ e F (fun _ _ a ns c _ g=>⟨a,ns,rfl,g,c,fun _=>rfl⟩) fun _ _ _ _ _ z=>z
end Ru
end
open PySem PySem.W PyProof.Rows
structure PySem.W.Fast:Prop where (tw17038559297959940470
tw18293124505186012020
tw3415024287552059163
tw1204807106488932631
tw97728619455799183
tw15661521170662312988
tw15234641381900858949
tw16933667199000769005
tw4819991103185195849
tw4985123258874724217
tw913962749133625472
tw4305801676515320525
tw17970983498505540541
tw18086827981682984293
tw9522030401329465062
tw3405061887729930547
tw1548374843967866833
tw3395357542954452856
tw11369341565069195495
tw6963323477516761568
tw12727279624214217338
tw8845992036665332267
tw4298985854840593889
tw11016544797628435179
tw17184631060017026342
tw3130362458704432907
tw7678696454682655382
tw11752500059890423928
tw2270440873656921058
tw8054360762852464731
tw6439401570630384339
tw2353331524203757508
tw2920257897234958572
tw3908172963224649629
tw2805886506816078798
tw9639183600289995289
tw1314704531571592421
tw7254203907704157863
tw12883579929069110782
tw15838155333910714587
tw12604592485059627985
tw17107666094221407040
tw15162405595880891121
tw7807397449331189009
tw7109668231955920190
tw895369968029124499
tw6571360091932009167
tw282439771064109627
tw1193953711629709038
tw6218013904112338294
tw14016236732445099161
tw7809704280937959588
tw8209858143860365432
tw3699335158136062015
tw16839302722124608052
tw9400745355225352336
tw4311627099558701609
tw9813758523513748381
tw1968042459253549480
tw464436637105611501
tw13818654306557530036
tw8388100917894651415
tw17427518100043500871
tw18116216377836951494
tw5857329272838881656
tw14932402009306590472
tw8031324442624263282
tw11947590055495207540
tw292788705756805573
tw8996255092985101827
tw10432258006397311498
tw7074029303538470610
tw9000127032607481192
tw6591501675472785329
tw954566297925270487
tw8802741387334004258
tw12042930793095829346
tw15518920599272186999
tw16865367882662145451
tw16321062124811917383
tw13394236342032395797
tw14948515971520227764
tw18182399401292261162
tw14757993745971059421
tw18257357902193317495
tw16461672442074640208
tw5660935114261345666
tw5009383561116777053
tw10591960022192665126
tw12653054929895551220
tw12553917160113888360
tw7535440829172576590
tw9166572475902110126
tw10055556447050896069
tw1670052648489230627
tw9167945680088598935
tw1691881323609947160
tw3363285951288920683
tw12100610355255143042
tw12505153303737534633
tw2045738419271402116
tw11667210244782639436
tw3560201928976689724
tw10930211562343294767
tw4387167577893083950
tw1953551536270139204
tw5974183385043203686
tw5186917324809409095
tw17111096675737861054
tw13364536711083100707
tw11938717291349706272
tw11170960628768042756
tw9207558288843298070
tw7886206197956709494
tw1990118524709699387
tw16177489224315929901
tw7569249728740942299
tw3280433006376918358
tw4699335715401876503
tw5620544025813238741
tw960196114695076051
tw16553253988242133667
tw4791160765384790820
tw712640190910682702
tw13009517693534280048
tw622722280204074360
tw13312974658677717710
tw6729577205680836578
tw11332314780948782587
tw8884099336448235463
tw3015255091840681619
tw5534353949027998466
tw7418003259305514389
tw15309791037251179822
tw2590299118629496436
tw9592319461353577731
tw8026428439718355252
tw6177141879931943704
tw5755685518120050226
tw498967069436678486
tw5048714335415111168
tw9192202265908527108
tw12329460057407704752
tw5119660516159515383
tw10461412541119149174
tw1323646473848557453
tw14403192105758575112
tw5215779148356551926
tw424410575491369302
tw7910524907675808820
tw877807163861049805
tw14089845312456072616
tw14881162446719579907
tw16819062852078702133
tw9741985121433079894
tw5661388013535289227
tw2049961588906237265
tw14986242717212749992
tw11261467066801600910
tw15771152596101995787
tw1533875550891322548
tw16779086919195379759
tw14570661637594644118
tw16691976798238034097
tw12774343499656246462
tw10062502728628101675
tw4456622562806228815
tw17420840507329348536
tw3796111353251254014
tw13005693296837622112
tw13955646248732120957
tw1550115800768082833
tw16639228034970848808
tw16301524767235049431
tw7144903955233479991
tw5946316871902002905
tw15255721380175193533
tw5445127413558878830
tw9537359453715651307
tw14602120904723057236
tw10598735864575226175
tw12158992229475911678
tw13278449400836657407
tw17184262338488416013
tw7257504497612216915
tw9582691440924072765
tw17783814197482685358
tw11428606078931660732
tw982578547776654291
tw13964924768990932157
tw12886891592241472924
tw4069583361248638489
tw13533717609604409928
tw15870385509813660623
tw9480283240963808455
tw16252170246335819047
tw14653321621329578552
tw12296917371186323250
tw16781361799448279899
tw16489072458884125282
tw16532431024567761177
tw12046160084518633368
tw237855902567344017
tw5287900384315105879
tw6473706954320181972
tw17462648595421182370
tw8396028186461723199
tw16990470455543445409
tw2969184299954583185
tw11188603081412876154
tw2840440739810677056
tw2168262205739416843
tw10607183616587931621
tw12961258630032131672
tw12330743490910645524
tw8907352425932353841
tw6051967454755509066
tw4640674207577999881
tw10485171835595330914
tw3030033409028934006:True)
namespace PySem.W.Fast
theorem tw17619724191428890265:True:=⟨⟩
theorem tw16817235168266265063:True:=⟨⟩
theorem tw4907193036998193375:True:=⟨⟩
theorem tw15374628512039650897:True:=⟨⟩
theorem tw9956720423546980417:True:=⟨⟩
theorem tw10405783423086354038:True:=⟨⟩
theorem tw2269456891945830139:True:=⟨⟩
theorem tw13804179652960511665:True:=⟨⟩
theorem tw908844396196743931:True:=⟨⟩
theorem tw12849321365455604453:True:=⟨⟩
theorem tw8860358851099901835:True:=⟨⟩
theorem tw15109185618368436578:True:=⟨⟩
theorem tw16785863642694689643:True:=⟨⟩
theorem tw4995928973272411608:True:=⟨⟩
theorem tw1368508178941375671:True:=⟨⟩
theorem tw2099882634762718601:True:=⟨⟩
theorem tw9547751238785848226:True:=⟨⟩
theorem tw3164054384764753517:True:=⟨⟩
theorem tw5017135674849962165:True:=⟨⟩
theorem tw4572104557491344781:True:=⟨⟩
theorem tw18326144329385804629:True:=⟨⟩
theorem tw13360922327652843081:True:=⟨⟩
theorem tw782740167692502994:True:=⟨⟩
theorem tw9669732451335220010:True:=⟨⟩
theorem tw4278264994934221205:True:=⟨⟩
theorem tw10593602945517030963:True:=⟨⟩
theorem tw4385180812808599608:True:=⟨⟩
theorem tw6226375921763320728:True:=⟨⟩
theorem tw7153507327593465873:True:=⟨⟩
theorem tw15117835096970858739:True:=⟨⟩
theorem tw13412997656054839995:True:=⟨⟩
theorem tw9707269054686310803:True:=⟨⟩
theorem tw8015017692701872096:True:=⟨⟩
theorem tw18317390128434556028:True:=⟨⟩
theorem tw12325889293089486507:True:=⟨⟩
theorem tw13772871870220031030:True:=⟨⟩
theorem tw1159184168334356162:True:=⟨⟩
theorem tw11803502028604519601:True:=⟨⟩
theorem tw9887383055131183751:True:=⟨⟩
theorem tw7980780900287993703:True:=⟨⟩
theorem tw7922819781932190339:True:=⟨⟩
theorem tw15565663148365969484:True:=⟨⟩
theorem tw9349374116512024630:True:=⟨⟩
theorem tw11171468732719035757:True:=⟨⟩
theorem tw4339603238066045522:True:=⟨⟩
theorem tw11455513167366261003:True:=⟨⟩
theorem tw11817902058244298855:True:=⟨⟩
theorem tw2460298813420343449:True:=⟨⟩
theorem tw15733771432267446260:True:=⟨⟩
theorem tw8936074358285952426:True:=⟨⟩
theorem tw9486554792048923028:True:=⟨⟩
theorem tw11619746230341516669:True:=⟨⟩
theorem tw375786683591534031:True:=⟨⟩
theorem tw13652436403233518357:True:=⟨⟩
theorem tw6042326581504248463:True:=⟨⟩
theorem tw16569578996220484394:True:=⟨⟩
theorem tw17452358131497260524:True:=⟨⟩
theorem tw13430159143164400713:True:=⟨⟩
theorem tw8431591285755993563:True:=⟨⟩
theorem tw17958886663192271055:True:=⟨⟩
theorem tw5263153371772083182:True:=⟨⟩
theorem tw12860022689112684052:True:=⟨⟩
theorem tw93438655178421336:True:=⟨⟩
theorem tw5156574035479539651:True:=⟨⟩
theorem tw10469496391984442536:True:=⟨⟩
theorem tw16240570185091229204:True:=⟨⟩
theorem tw17085835129730378027:True:=⟨⟩
theorem tw14240119144814307382:True:=⟨⟩
theorem tw1699609442810384138:True:=⟨⟩
theorem tw1460834608712332834:True:=⟨⟩
theorem tw10804755047655256565:True:=⟨⟩
theorem tw11297339554835813083:True:=⟨⟩
theorem tw15973605006638991452:True:=⟨⟩
theorem tw10729225613890949462:True:=⟨⟩
theorem tw16361076175590831304:True:=⟨⟩
theorem tw15098522419147218934:True:=⟨⟩
theorem tw8269529727970006406:True:=⟨⟩
theorem tw18382976749780390288:True:=⟨⟩
theorem tw13197493821516841651:True:=⟨⟩
theorem tw14856771118282044848:True:=⟨⟩
theorem tw11443715153831888762:True:=⟨⟩
theorem tw7884329903093213171:True:=⟨⟩
theorem tw11887411679156841605:True:=⟨⟩
theorem tw14146485275979520177:True:=⟨⟩
theorem tw412039346595395109:True:=⟨⟩
theorem tw16095078008791088899:True:=⟨⟩
theorem tw14660328385899637008:True:=⟨⟩
theorem tw17890538471020501785:True:=⟨⟩
theorem tw4946162530152056852:True:=⟨⟩
theorem tw7921774127789400838:True:=⟨⟩
theorem tw4863267142757947320:True:=⟨⟩
theorem tw6988166377779914678:True:=⟨⟩
theorem tw16749815360745934996:True:=⟨⟩
theorem tw5054066736684751181:True:=⟨⟩
theorem tw3013529888227070373:True:=⟨⟩
theorem tw16270707881387694670:True:=⟨⟩
theorem tw6349582262759117707:True:=⟨⟩
theorem tw6567210001900856640:True:=⟨⟩
theorem tw2819606601010649869:True:=⟨⟩
theorem tw5267141793523096740:True:=⟨⟩
theorem tw8922913987005683688:True:=⟨⟩
theorem tw5533603530946898470:True:=⟨⟩
theorem tw6332728642971205335:True:=⟨⟩
theorem tw9827711729479760027:True:=⟨⟩
theorem tw10306617499069721363:True:=⟨⟩
theorem tw17942791505722918910:True:=⟨⟩
theorem tw3069670681814888031:True:=⟨⟩
theorem tw4551767596640244753:True:=⟨⟩
theorem tw15076862329267132987:True:=⟨⟩
theorem tw16601646066185299265:True:=⟨⟩
theorem tw13004644471933372462:True:=⟨⟩
theorem tw14456652542450084989:True:=⟨⟩
theorem tw3582688438783174574:True:=⟨⟩
theorem tw331905286849603814:True:=⟨⟩
theorem tw15432514449912716099:True:=⟨⟩
theorem tw3766415521040265834:True:=⟨⟩
theorem tw9451989937667390219:True:=⟨⟩
theorem tw6406698101772152878:True:=⟨⟩
theorem tw18178266885683372814:True:=⟨⟩
theorem tw13389625781785203443:True:=⟨⟩
theorem tw6672542712945190832:True:=⟨⟩
theorem tw16171895895994174197:True:=⟨⟩
theorem tw6420045997211844478:True:=⟨⟩
theorem tw5776566894349498377:True:=⟨⟩
theorem tw141466404119332388:True:=⟨⟩
theorem tw9209509738100678111:True:=⟨⟩
theorem tw727705872805532380:True:=⟨⟩
theorem tw7761568301037061355:True:=⟨⟩
theorem tw7351897255485688115:True:=⟨⟩
theorem tw8083394924652118147:True:=⟨⟩
theorem tw12719192319609010794:True:=⟨⟩
theorem tw9866823761067360811:True:=⟨⟩
theorem tw6606395110597763089:True:=⟨⟩
theorem tw6699217001198338742:True:=⟨⟩
theorem tw5914018304900044748:True:=⟨⟩
theorem tw3748289709289535071:True:=⟨⟩
theorem tw13519660451333420248:True:=⟨⟩
theorem tw9951138258283129967:True:=⟨⟩
theorem tw13760043563890884769:True:=⟨⟩
theorem tw13889290993785094537:True:=⟨⟩
theorem tw16590543055253819520:True:=⟨⟩
theorem tw8608011581452466036:True:=⟨⟩
theorem tw9155021772427178679:True:=⟨⟩
theorem tw2742848103471673692:True:=⟨⟩
theorem tw10611228091270318790:True:=⟨⟩
theorem tw13915002448794801654:True:=⟨⟩
theorem tw15472424591854162399:True:=⟨⟩
theorem tw373313107531992704:True:=⟨⟩
end PySem.W.Fast
set_option maxRecDepth 100000 in
set_option maxHeartbeats 0 in
theorem PySem.Challenge.cw_wakeorder_k74_names_and_numbers_holds : PySem.Challenge.rw_wakeorder_k74_names_and_numbers.Holds := by
 w_on;o_law;k_head;(case hw=>w_witness2)
 k_fill
 refine Ru.walk (l:=PySem.Challenge.rw_wakeorder_k74_names_and_numbers) rfl rfl (fun w h Y=>PySem.W.kIn_of Y) ?F
 case F=>
  intro w mg fa h KX G hmg;refine' Ru.fin_mk KX G hmg ?z
  case z=>
   constructor
   all_goals first|exact L2.dF KX G|exact PySem.W.mg_none_of KX G (by k_is)|exact ⟨_,mg_of KX G (by k_is)⟩|exact mg_of KX G (by k_is)|exact L2.mF|exact L2.kF KX G|exact L2.xF KX G|exact L2.xM KX G L2.mF|exact L2.lF KX G|exact L2.rS L2.mF|k_is|kernel_rfl|decide +kernel|(constructor<;>first|k_is|kernel_rfl|rfl|decide +kernel)|(simp only [List.mem_cons,List.not_mem_nil,or_false,forall_eq_or_imp,forall_eq];repeat' constructor)<;>first|k_is|kernel_rfl
